import PyProof.Rows.All
import Wide.All
import OpenK.AllK
import Wide.FinOn
import Lean
import PyProof.EqAt
import PyProof.EqKinds
import PyProof.TupleCall
import KE.KDictList
import PyProof.SetKind
import PyProof.IsRules
import KE.KSortTup
import PyProof.ZipIter
import PyProof.Draws
import PyProof.EnumMake
import PyProof.WalksEnum
import PySem.Challenge.RW_layworld_k30_whole_always_by_all_bases
noncomputable section
open Option renaming some→gV,none→td
open _root_ renaming List→Jy,Option→JE,Nat→JF,Int→JL,Bool→Kc,if_pos→Kd,decide_eq_true_eq→Kh,decide_eq_false→Kl,if_neg→Ku,Array→KD,beq_self_eq_true→KY,False→KZ,of_decide_eq_true→K4,String→K8,decide_eq_true→LL,if_true→L1,if_false→L9,or_false→Mc,DecidableEq→Mz,of_decide_eq_false→MX,beq_eq_false_iff_ne→Nt,forall_congr'→O8,bne_self_eq_false→PQ,True→Qv,not_or→Rp,dif_pos→R3
open List renaming length_map→Jz,length_append→JG,getElem?_map→JJ,range→JN,set→JQ,zipWith→JR,mem_of_getElem?→JT,getElem?_eq_some_iff→JU,size_toArray→JV,getElem?_eq_getElem→JX,mem_range→JY,mem_singleton→J0,all_eq_true→J3,mem_map→J4,length_range→J6,getD_eq_getElem?_getD→J7,map_append→Kb,mem_cons→Ke,length_take→Kf,length_cons→Kk,mem_append_right→Km,getElem?_append_left→Kn,mem_append→Ko,take_add_one→Kt,take_length→Kw,all_cons→Kx,replicate→Kz,mem_flatMap→KA,length_filter_le→KC,getElem?_append_right→KF,map_congr_left→KJ,not_mem_nil→KM,range_succ→KO,length_singleton→KT,mem_filter→KW,mem_cons_of_mem→K1,append_nil→K6,getElem_mem→K7,map_cons→Lb,length_zipWith→Ld,filter_append→Lj,nodup_cons→Lo,length_nil→Lp,mem_cons_self→Ls,mem_append_left→Lv,lookup_cons→Ly,getElem?_set→Lz,replicate_succ→LA,flatMap_append→LB,getElem?_eq_none_iff→LF,any_cons→LH,map_map→LI,getElem?_range→LQ,getElem_inj→LV,findIdx?_eq_some_iff_getElem→L4,flatten_cons→Ma,flatMap_cons→Mf,length_eq_zero_iff→Mn,filter_cons→Mo,zip_cons_cons→Mq,find?_eq_none→Mr,find?_cons→Mt,append_assoc→My,mem_of_mem_take→MG,filterMap_cons→MM,getElem?_take_of_lt→MP,map_take→MT,length_pos_of_mem→M4,getElem_take→M5,take_append_drop→M8,length_drop→Na,ext_getElem→Nf,any_eq_true→Nh,mem_iff_getElem→Nm,eq_nil_of_length_eq_zero→No,length_dropLast→Np,dropLast_concat_getLast→Nr,mem_eraseDups→NF,nodup_append→NR,pairwise_map→NS,not_any_eq_all_not→N6,cons_append→N7,getElem?_set_self→N9,map_nil→Od,range_succ_eq_map→Oe,all_map→Of,take_of_length_le→Ol,of_mem_zip→On,forIn_cons→Oq,find?_some→Ow,filter_nil→Ox,length_replicate→Oy,getElem?_eq_none→OD,getElem?_set_ne→OG,nodup_nil→ON,take_zero→OO,eraseDups_cons→OY,filter_eq_self→OZ,getElem_of_mem→O1,mem_filterMap→Pf,getElem?_take→Pp,filter_filter→Pq,take_sublist→PB,zip_nil_left→PK,all_eq_false→PM,ext_getElem?→PR,filter_congr→PX,range'_succ→P8,any_toArray→P9,isEmpty_iff→Qd,flatMap_nil→Qe,perm_middle→Qf,nil_append→Qp,foldr_cons→Qr,foldl→QA,forIn_nil→QN,any_nil→Rq,all_nil→Rr,length→Rx,range'→RC,Nodup→RX,map→Sf
open PySem renaming wpAny_bind→JA,Value→JB,Shared→JD,Addr→JK,wpAny_pure→JM,Str→JZ,Expr→J9,Program→Ki,Around→Ks,World→Kv,Heap→KH,wpAny_newObj_type→KI,sizeLine_eq→KL,wpAny_callSpecial?_slot→KU,wpAny_call_entry→La,wpAny_holding→Lk,Obj→Ll,codeAny_builtin→Lr,wpAny_mono→Lu,NameKind→Lx,wpAny_field→LK,wpAny_typeNameOfWhole_keyiter→LM,wpAny_truthy_bool→LN,DictEntry→LO,Spec→LW,FuncData→LX,Pos→L0,wpAny_passesOwn→L6,Stmt→Mg,wpAny_typeNameOf_keyiter→Mj,mem_of_lookup→Ml,plainId_quiet→Mv,Scope→Mx,wpAny_seqItems→MF,wpAny_loadPart'→MU,wpAny_Call_Name_kw→MV,wpAny_dictEntries→M3,call_meets→Nd,wpAny_standAt→Ni,wpAny_letGo→Nl,wpAny_typeOf→Nv,IsPart→NA,wpAny_setField→NC,wpAny_tryCatch→ND,wpAny_pyIter_list→NP,wpAny_attempt→NX,wpAny_comprehension_free→NZ,noFill_tuple_add→N2,wpAny_forIn_list→N3,wpAny_isInstance→N4,Paired→N8,codeAny_mono→Oa,Builtin→Og,ItemsOf→Oi,wpAny_execs_nil→Om,wpAny_dictEpoch→Os,wpAny_updateSeq→Ot,wpAny_isOneOf_keyiter→OB,GenState→OF,wpAny_of_eq→OI,wpAny_pyIter_keyiter→OJ,wpAny_runValue→OM,PassesOwn→OT,rangeSize_one→O3,seq_tuple_add→O4,wpAny_newList→O7,wpAny_rule→Pd,wpAny_load→Pe,wpAny_pyIter_tuple→Pl,Env→Pu,wpAny_assign_Name→Pw,Operator→Py,BindsTo→Pz,concat_meets→PC,wpAny_sequenceKey→PD,seqIndex_neg→PF,list_append→PH,wpAny_pyIter_enum→PU,wpAny_pyHash_int→P0,wpAny_pyHash_str→P1,Result→P3,seqIndex_of→Qk,wpAny_mkInt→Ql,Keyword→Qt,wpAny_Name→Qw,wpAny_bindName→Qx,typeIs_int→Qz,fitsIndex_both→QC,Params→QE,call→QF,SetTable→QG,wpAny_fieldsOf→QJ,isSubtype_stop→QK,wpAny_newTuple→QM,intBits_le_64→QU,evalPart_none→QX,call_list_seq→QY,wpAny_handled→Q9,small_one→Ri,CmpOp→Rj,call_range_1→Rm,Sem→Rv,IsRangeIter→Rw,wpAny_throw→RD,BoolOp→RV,IsEnum→RW,Model→R0,IsRange→R4,Drawn→Sc,Walks→Se,Tok→Si
open Option renaming map_eq_some_iff→JC,map_some→Kq,isSome_iff_exists→KR,getD_none→P5,getD_some→Qc,toList→Rb
open Bool renaming and_eq_true→JH,false_ne_true→J5,false_eq_true→K9,not_eq_true'→Le,eq_iff_iff→LC,or_eq_true→LP,true_and→Mk,and_eq_false_iff→M7,and_true→NV,false_or→NW,and_eq_true_iff→OQ,or_false→O5,not_true→O6,eq_false_iff→PV,not_not→PY,and_assoc→QH
open PySem.Heap renaming get?_push_of_some→JI,get?_push_size→J1,lt_size→J2,get?_update_other→KP,get?_update_self→L3,SameBut→L8,get?_update_ne→MO,ExtBut→OH,size_update→Qb,size_push→QP
open Nat renaming le_refl→JO,le_trans→J8,lt_of_lt_of_le→Kg,ne_of_lt→Kj,lt_irrefl→KQ,zero_le→LJ,lt_trans→Mb,lt_succ_self→Mm,ne_of_gt→Mp,lt_or_gt_of_ne→Ms,le_of_ble_eq_true→Mw,le_succ→ME,pow_le_pow_right→MH,min_self→MJ,le_of_lt→M0,sub_self→M6,succ_le_succ→Nc,mul_le_mul_right→Nn,mul_le_mul→NG,add_mul_mod_self_left→NM,succ_mul→Oc,lt_of_succ_lt_succ→Oh,div_lt_iff_lt_mul→OE,add_mul_div_left→OP,pow_le_pow_left→O0,mul_le_mul_left→O2,add_sub_cancel→Pi,lt_of_le_of_lt→Po,lt_or_ge→PL,div_eq_of_lt→Qg,mod_eq_of_lt→Qh,not_lt_zero→Qq,not_lt→QL,add_assoc→Q7,mul_assoc→Rf,mul_comm→Rn,sub_zero→Ro,pow_succ→Rs,zero_add→Rt,mul_add→RE,mul_one→RF,mod_lt→RZ,ble→Sk
open PySem.W renaming Frag→JP,mg_none_of→KS,nsIn→Lf,keepIn→Lg,fnOf→LG,kia_one→L7,codeIn→MC,methodObj→NN,cellsFrom_some→Ob,OpenLaw→Oo,kat_nil→Ov,KdlSrc→OL,kas_sort→Qa,WalkO→QZ,Looks→Ra,mg_of→Rg,recOk→Rh,xlAt→Ru
open Int renaming natCast_nonneg→JS,toNat_natCast→JW,toNat_of_nonneg→Lc,emod_lt_of_pos→LZ,emod_nonneg→Mu,zero_add→Nx,natCast_mul→Op,natCast_emod→Qi,natCast_ediv→Qj,ediv_nonneg→Qs
open Array renaming length_toList→Kr,getElem?_toList→Lm,getElem?_eq_some_iff→LY,getElem?_eq_getElem→ML,perm_iff_toList_perm→NE,append_assoc→Pb,forIn_toList→Pj,toList→Rl,getD→RT
open PySem.Value renaming ref→Ky,none→KN,bool→MA,type→MB,str→M9,int→N1
open Option.some renaming injEq→KG,inj→K5
open PySem.Obj renaming mapSeq→Lh,data_mapFields→MW,isFreed_of_fields→OC,cls_mapFields→PN,mapFields→Q8
open PySem.Around renaming under_plainId→Li
open PySem.Builtin.Tuple renaming tupleExact→Ln,tupleItemsOf→MD,tupleHashOf→NH,tupleCompareSizes→PZ,tupleIsExact→QI
open ForInStep renaming yield→Lq
open PySem.Builtin.Range renaming rangeSize→Lw,small→Nu
open PyProof.Rows renaming slot_tuple_getitem→LD,callWith_type1→LR,subscriptTail_builtinR→M2,assignInOrder_cons→Nz,AllBare→NO,listUpdate_at→NY,SortKind→N5,get?_update_seq→Ou,entry_tuple_getitem→OV,lt_int→OW,args_tuple_getitem→Pg,IsTup→Ps,assignInOrder_nil→Px,listItems_at→PP,callWith_builtin1→P4,seqEpoch_at→Qm,IntsAre→Qu,slicePart_none→Qy,tupleItemsOf_→QV
open PySem.Str renaming ofString→LS
open PySem.Builtin.List renaming listExtendWith→LU,listTooLong→Mh,listFitsIndex→QD
open PySem.Builtin.Slice renaming slicePlaces→L5,sliceAdjust→MK,sliceApplied→NB,slicePartIndex→Qn,sliceFields→QQ
open PySem.Heap.SameBut renaming update→MN,refl→R5
open PySem.F renaming args_tuple_add_2→MQ,entry_tuple_add→MY,plainAttrs_list→MZ,slot_tuple_add→M1,slot_tuple_index→NU,slot_dict_get→Oz
open PySem.Builtin.SmallTypes renaming ownedTupleIsFree→MR,nextOf→NL,ownedTupleHandOut→OX
open PySem.NameKind renaming free→MS,cell→Sh
open PySem.SeqAt renaming EqAt→Nb,notIn_listAt→Ph,in_tupleAt→P6,in_listAt→Qo
open True renaming intro→Ng
open PySem.Challenge renaming pw_layworld_k30_whole_always_by_all_bases→Nj,rw_layworld_k30_whole_always_by_all_bases→Nk
open PySem.Builtin.Dict_items renaming ownsTuple→Nq
open PySem.Builtin.Builtins renaming bindParams→Nw
open PySem.Calls renaming Name_function_global→Ny,call_function_entry→NK,Constant_str→Pc
open Classical renaming byContradiction→NJ,propDecidable→Rk
open Function renaming comp_def→NQ,comp→Rc
open PySem.Paired renaming length→NT
open PySem.Env renaming kindOf→Oj
open PySem.Builtin.Dict renaming showsAll→OA,dictSlotNone→QS,pendingCount→QT
open Sum renaming inl→OR,inr→OS
open PySem.Expr renaming Name→OU
open PySem.SeqAt.EqAt renaming int_str→O9,str_int→Pa,none_bool→Ry,bool_none→Rz,bool_bool→RA,none_int→RG,none_str→RH,bool_int→RI,bool_str→RJ,int_none→RK,int_bool→RL,str_none→RM,str_bool→RN,int_int→RP,str_str→RQ,same→R9
open PUnit renaming unit→Pk
open PySem.ScopeKind renaming function→Pn
open PySem.AutoListH renaming list___mul___list_int_3→Pr
open PySem.AutoSeq1 renaming list_extend_list_list_0→PJ,sub_tuple_tuple→Q1
open PyProof.Rows.IsTup renaming new→P2
open PySem.IsL renaming update→P7
open PySem.Builtin.Str renaming tooLong→QR
open Prod.mk renaming injEq→Re
open PySem.MeetsSeq renaming list_pop_at→RB
open PySem.Heap.IsSliceOf renaming new→RO
open PySem.Walks renaming list→RS
open List.Nodup renaming sublist→RY
open List.Pairwise renaming nil→R1
open PySem.Flow renaming next→R6
open PySem.W.Looks renaming ld→R7
open PySem.W.XL renaming keeps→R8
open PySem.PassesOwn renaming never→Sb
open Prod renaming ext→Sd
open List.Perm renaming map→Sg
open PySem.Txt renaming mul→Sj
set_option genSizeOf false
namespace ZZ.Lean
set_option Elab.async false
set_option linter.all false
set_option maxRecDepth 100000
namespace L2
open PySem PySem.Spec PyProof.Rows
noncomputable abbrev oJ:=Sum JL JZ
noncomputable def CT:oJ->JB->Kc
 | .inl k,v=>Value.isInt k v
 | .inr x,v=>Value.isStrOf x v
noncomputable def HC (w:Kv):oJ->JL
 | .inl k=>hashInt k
 | .inr x=>hashStr w x
theorem cg:∀ {k:oJ} {v:JB},CT k v=true->(∃i t,k=OR i/\v=N1 i t)\/(∃x t,k=OS x/\v=M9 x t)
 | .inl i,v,h=>by
  obtain⟨t,e⟩:=Value.isInt_shape (k:=i) (v:=v) h;exact .inl ⟨i,t,rfl,e⟩
 | .inr x,v,h=>by
  obtain⟨t,e⟩:=Value.isStrOf_shape (x:=x) (v:=v) h;exact .inr ⟨x,t,rfl,e⟩
theorem Du (a b:JL):decide ((OR a:oJ)=OR b)=(a==b):=by
 by_cases e:a=b
 ·subst e; simp
 ·have h:¬ (OR a:oJ)=OR b:=λq=>e (Sum.inl.inj q)
  rw[Kl h];exact(Nt.mpr e).symm
theorem Dv (a b:JZ):decide ((OS a:oJ)=OS b)=decide (a=b):=by
 by_cases e:a=b
 ·subst e; simp
 ·have h:¬ (OS a:oJ)=OS b:=λq=>e (Sum.inr.inj q)
  rw[Kl h,Kl e]
theorem Dw (a:JL)(b:JZ):decide ((OR a:oJ)=OS b)=false:=Kl (λq=>nomatch q)
theorem Dx (a:JZ)(b:JL):decide ((OS a:oJ)=OR b)=false:=Kl (λq=>nomatch q)
noncomputable def oK (prog:Ki)(w:Kv):PySem.KeyKind prog w oJ where
 is:=CT
 hash:=HC w
 inj:=λv a b ha hb=>by
  rcases cg ha with⟨i,t,rfl,rfl⟩|⟨x,t,rfl,rfl⟩
  ·rcases cg hb with⟨j,u,rfl,e⟩|⟨y,u,rfl,e⟩
   ·injection e with e1 _; rw[e1]
   ·exact nomatch e
  ·rcases cg hb with⟨j,u,rfl,e⟩|⟨y,u,rfl,e⟩
   ·exact nomatch e
   ·injection e with e1 _; rw[e1]
 byValue:=λk v h=>by
  rcases cg h with⟨i,t,rfl,rfl⟩|⟨x,t,rfl,rfl⟩ <;> rfl
 pyHash:=λhv h=>by
  rcases cg hv with⟨i,t,rfl,rfl⟩|⟨x,t,rfl,rfl⟩
  ·exact P0 h
  ·exact P1 h
 eqBool:=λhu hv h=>by
  rcases cg hu with⟨i,t,rfl,rfl⟩|⟨x,t,rfl,rfl⟩
  ·rcases cg hv with⟨j,u,rfl,rfl⟩|⟨y,u,rfl,rfl⟩
   ·rw[Du]at h; exact wpAny_eqBool_int h
   ·rw[Dw]at h; exact O9 i t y u _ _ _ _ h
  ·rcases cg hv with⟨j,u,rfl,rfl⟩|⟨y,u,rfl,rfl⟩
   ·rw[Dx]at h; exact Pa x t j u _ _ _ _ h
   ·rw[Dv]at h; exact wpAny_eqBool_str h
 «strs»:=λk x t v h=>by
  rcases cg h with⟨i,u,rfl,e⟩|⟨y,u,rfl,e⟩
  ·exact nomatch e
  ·injection e with e1 _
   subst e1;cases v <;> rfl
inductive V where
 | non|bl (b:Kc)|int (i:JL)|str (x:JZ)|byt (b:KD UInt8)|flt (b:UInt64)|ref (a:JK)|ty (n:K8)
 deriving Mz
noncomputable def RelV:V->JB->Prop
 | .non,u=>u=KN
 | .bl b,u=>u=MA b
 | .int i,u=>∃t,u=N1 i t
 | .str x,u=>∃t,u=M9 x t
 | .byt b,u=>∃t,u=Value.bytes b t
 | .flt b,u=>∃t,u=Value.float b t
 | .ref a,u=>u=Ky a
 | .ty n,u=>u=MB n
noncomputable abbrev Vals:Jy V->Jy JB->Prop:=N8 RelV
theorem Vals.length {xs:Jy V}{us:Jy JB}(r:Vals xs us):xs.length=us.length:=NT r
theorem Vals.get:∀ {xs:Jy V} {us:Jy JB} {i:JF} {x:V},Vals xs us->xs[i]?=gV x->∃u,us[i]?=gV u/\RelV x u
 | _,_,_,_,.nil,e=>by simp at e
 | _,_,0,_,.cons r _,e=>by simp at e; subst e; exact⟨_,rfl,r⟩
 | _,_,i+1,x,.cons _ t,e=>by
  obtain⟨u,h1,h2⟩:=Vals.get (i:=i) (x:=x) t (by simpa using e)
  exact⟨u,by simpa using h1,h2⟩
theorem Vals.set {x:V}{u:JB}(r:RelV x u):∀ {xs:Jy V} {us:Jy JB} (i:JF),Vals xs us->Vals (xs.set i x) (us.set i u)
 | _,_,_,.nil=>.nil
 | _,_,0,.cons _ t=>.cons r t
 | _,_,i+1,.cons q t=>.cons q (Vals.set r i t)
theorem Vals.append:∀ {xs ys:Jy V} {us ws:Jy JB},Vals xs us->Vals ys ws->Vals (xs++ys) (us++ws)
 | _,_,_,_,.nil,s=>s
 | _,_,_,_,.cons r t,s=>.cons r (Vals.append t s)
theorem Vals.take:∀ {xs:Jy V} {us:Jy JB} (n:JF),Vals xs us->Vals (xs.take n) (us.take n)
 | _,_,0,_=>.nil
 | _,_,_+1,.nil=>.nil
 | _,_,n+1,.cons r t=>.cons r (Vals.take n t)
theorem Vals.drop:∀ {xs:Jy V} {us:Jy JB} (n:JF),Vals xs us->Vals (xs.drop n) (us.drop n)
 | _,_,0,r=>r
 | _,_,_+1,.nil=>.nil
 | _,_,n+1,.cons _ t=>Vals.drop n t
noncomputable def Fy:JE V->JE JB->Prop
 | some v,gV u=>RelV v u
 | none,td=>Qv
 | _,_=>KZ
noncomputable def KV {κ:Type}:Jy (κ×V)->Jy (κ×JB)->Prop:=N8 λ(p:κ×V) (q:κ×JB)=>p.1=q.1/\RelV p.2 q.2
noncomputable def kV:oJ->V
 | .inl i=>.int i
 | .inr x=>.str x
inductive HO where
 | lst (xs:Jy V)
 | tup (xs:Jy V)
 | dK (kvs:Jy (oJ×V))|dT (kvs:Jy (Jy oJ×V))
 | set (S:JL->Kc) (n:JF)
 | ins (C dx:JK) (fs:Jy (JZ×V))
 | own (x:JK)
 | xd (fs:Jy (JZ×V))
 | met (f x:JK)
 | rng (lo hi:JL)
 | frz (o:Ll) (u:HO)
 | tbl (ps:KD JB)
 | ext (φ:KH->Prop)
noncomputable abbrev Hp:=JK->JE HO
noncomputable def cH (H:Hp)(a:JK)(o:HO):Hp:=λb=>if b=a then gV o else H b
theorem bM {H:Hp}{a:JK}{o:HO}:cH H a o a=gV o:=by unfold cH; rw[Kd rfl]
theorem bc {H:Hp}{a b:JK}{o:HO}(h:b≠a):cH H a o b=H b:=by unfold cH; rw[Ku h]
theorem eN {H:Hp}{a b:JK}{o:HO}(h:H a=gV o)(h':H b=td):a≠b:=by
 intro e; subst e; rw[h]at h'; cases h'
section
variable (P:Ki) (w:Kv)
noncomputable def NoD (h:KH)(a:JK):Prop:=∃o,h.get? a=gV o/\o.dict=td
theorem NoD.new (h:KH)(its:KD JB)(n:JF):NoD (h.push { cls:=.type "tuple",data:=.seq its n }) h.objs.size:=⟨_,J1 _ rfl,rfl⟩
noncomputable def ObjOk (H:Hp)(h:KH)(a:JK):HO->Prop
 | .lst xs=>xs.length<=sizeLine/\∃(its:Jy JB) (n:JF),Vals xs its/\h.get? a=gV { cls:=.type "list",data:=.seq its.toArray n }
 | .tup xs=>(xs.length<=sizeLine/\NoD h a)/\∃its:Jy JB,Vals xs its/\Ps h a its.toArray
 | .dK kvs=>kvs.length<=sizeLine/\(a==sysModules)=false/\∃vs,KV kvs vs/\h.DictOf (oK P w) a vs
 | .dT kvs=>kvs.length<=sizeLine/\(a==sysModules)=false/\∃xs:Jy (Jy oJ×JK×JB),
   N8 (λ(p:Jy oJ×V) (q:Jy oJ×JK×JB)=>p.1=q.1/\H q.2.1=gV (.tup (p.1.map kV))/\RelV p.2 q.2.2) kvs xs/\
   ∃o es ep,h.get? a=gV o/\o.ExactDict/\o.data=.dict es ep/\es.toList=xs.map (entryOfKey (tupleKind (oK P w)))/\(xs.map (·.1)).Nodup
 | .set S n=>h.SetOf (intKind P w) a S n
 | .ins C dx fs=>H dx=gV (.own a)/\fs.length<=1000/\dx≠a/\h.get? a=gV (PySem.W.instObj C dx)/\
   ∃mA,h.Ns1 dx mA/\(∀f,Fy (fs.lookup f) (mA f))/\PySem.Within mA (fs.map (·.1))
 | .own _=>∃o,h.get? a=gV o
 | .xd fs=>∃mA,h.Ns1 a mA/\∀f,Fy (fs.lookup f) (mA f)
 | .rng lo hi=>∃t u v,h.get? a=gV { cls:=.type "range",data:=.fields [.int lo t,.int hi u,.int 1 v].toArray }
 | .frz o u=>h.get? a=gV o/\ObjOk H h a u
 | .tbl ps=>h.get? a=gV { cls:=.none,data:=.fields ps }
 | .met f x=>h.get? a=gV (NN (.ref f) (.ref x))
 | .ext φ=>φ h/\(∃o,h.get? a=gV o)/\∀h1 h2:KH,φ h1->(∀o,h1.get? a=gV o->h2.get? a=gV o)->φ h2
noncomputable def HOk (H:Hp)(h:KH):Prop:=∀a o,H a=gV o->ObjOk P w H h a o
end
section
variable{P:Ki}{w:Kv}{H H':Hp}{h h':KH}{a:JK}{o:HO}
theorem ObjOk.lt (x:ObjOk P w H h a o):a < h.objs.size:=by
 cases o with
 | lst xs=>obtain⟨_,_,_,_,e⟩:=x; exact J2 e
 | tup xs=>obtain⟨_,_,_,p⟩:=x; exact p.lt
 | dK kvs=>obtain⟨_,_,_,_,o,_,_,e,_⟩:=x; exact J2 e
 | dT kvs=>obtain⟨_,_,_,_,o,_,_,e,_⟩:=x; exact J2 e
 | set S n=>obtain⟨o,_,_,_,e,_⟩:=x; exact J2 e
 | ins C dx fs=>obtain⟨_,_,_,e,_⟩:=x; exact J2 e
 | own y=>obtain⟨_,e⟩:=x; exact J2 e
 | xd fs=>obtain⟨_,⟨_,_,_,e,_⟩,_⟩:=x; exact J2 e
 | rng lo hi=>obtain⟨_,_,_,e⟩:=x; exact J2 e
 | frz ob u=>obtain⟨e,_⟩:=x; exact J2 e
 | tbl ps=>exact J2 (show h.get? a=gV _ from x)
 | met f y=>exact J2 (show h.get? a=gV _ from x)
 | ext φ=>obtain⟨_,⟨_,e⟩,_⟩:=x; exact J2 e
theorem Paired.mapP {α β:Type}{F G:α->β->Prop}:∀ {l₁:Jy α} {l₂:Jy β},N8 F l₁ l₂->(∀a b,F a b->G a b)->N8 G l₁ l₂
 | _,_,.nil,_=>.nil
 | _,_,.cons r t,f=>.cons (f _ _ r) (Paired.mapP t f)
theorem ObjOk.stay (x:ObjOk P w H h a o)(k:∀b u,(b=a\/H b=gV (.own a))->h.get? b=gV u->h'.get? b=gV u)
  (ho:∀b,H b=gV (.own a)->H' b=gV (.own a)) (ht:∀b xs,H b=gV (.tup xs)->H' b=gV (.tup xs)):ObjOk P w H' h' a o:=by
 induction o with
 | lst xs=>obtain⟨z,its,n,r,e⟩:=x; exact⟨z,its,n,r,k _ _ (.inl rfl) e⟩
 | tup xs=>obtain⟨⟨z,ob',e',d⟩,its,r,ob,e,c⟩:=x; exact⟨⟨z,ob',k _ _ (.inl rfl) e',d⟩,its,r,ob,k _ _ (.inl rfl) e,c⟩
 | dK kvs=>obtain⟨z,y,vs,r,ob,es,ep,e,c⟩:=x; exact⟨z,y,vs,r,ob,es,ep,k _ _ (.inl rfl) e,c⟩
 | dT kvs=>
  obtain⟨z,y,xs,r,ob,es,ep,e,c⟩:=x;exact⟨z,y,xs,Paired.mapP r λp q z=>⟨z.1,ht _ _ z.2.1,z.2.2⟩,ob,es,ep,k _ _ (.inl rfl) e,c⟩
 | set S n=>obtain⟨ob,es,ep,t,e,c⟩:=x; exact⟨ob,es,ep,t,k _ _ (.inl rfl) e,c⟩
 | ins C dx fs=>
  obtain⟨d,z,ne,e,mA,⟨od,es,ep,e2,c⟩,r⟩:=x;exact⟨ho _ d,z,ne,k _ _ (.inl rfl) e,mA,⟨od,es,ep,k _ _ (.inr d) e2,c⟩,r⟩
 | own y=>obtain⟨ob,e⟩:=x; exact⟨ob,k _ _ (.inl rfl) e⟩
 | xd fs=>obtain⟨mA,⟨od,es,ep,e,c⟩,r⟩:=x; exact⟨mA,⟨od,es,ep,k _ _ (.inl rfl) e,c⟩,r⟩
 | rng lo hi=>obtain⟨t,u,v,e⟩:=x; exact⟨t,u,v,k _ _ (.inl rfl) e⟩
 | frz ob u ih=>obtain⟨e,q⟩:=x; exact⟨k _ _ (.inl rfl) e,ih q⟩
 | tbl ps=>
  have e:h.get? a=gV { cls:=.none,data:=.fields ps }:=x;show h'.get? a=gV { cls:=.none,data:=.fields ps };exact k a _ (.inl rfl) e
 | met f y=>
  have e:h.get? a=gV (NN (.ref f) (.ref y)):=x;show h'.get? a=gV (NN (.ref f) (.ref y));exact k a _ (.inl rfl) e
 | ext φ=>obtain⟨p,⟨o,e⟩,st⟩:=x; exact⟨st _ _ p λo q=>k _ _ (.inl rfl) q,⟨o,k _ _ (.inl rfl) e⟩,st⟩
theorem HOk.lt (x:HOk P w H h)(e:H a=gV o):a < h.objs.size:=(x a o e).lt
theorem HOk.fresh (x:HOk P w H h)(e:h.objs.size<=a):H a=td:=by
 cases q:H a with
 | none=>rfl
 | some u=>exact absurd (Kg (x.lt q) e) (KQ _)
theorem HOk.kept (x:HOk P w H h)(k:∀b u,h.get? b=gV u->h'.get? b=gV u):HOk P w H h':=λa o e=>
 (x a o e).stay (λb u _ q=>k b u q) (λ_ q=>q) λ_ _ q=>q
theorem HOk.laid (x:HOk P w H h)(k:∀b u,h.get? b=gV u->h'.get? b=gV u)(hp:h.objs.size<=a)(new:ObjOk P w (cH H a o) h' a o):HOk P w (cH H a o) h':=λb u e=>by
 have hn:=x.fresh hp
 by_cases hb:b=a
 ·subst hb; rw[bM]at e; cases e; exact new
 ·rw[bc hb]at e;exact(x b u e).stay (λc v _ q=>k c v q) (λc q=>by rw[bc (eN q hn)]; exact q) λc xs q=>by rw[bc (eN q hn)]; exact q
end
noncomputable def Rd (H:Hp)(a:JK)(u:HO):Prop:=H a=gV u\/∃o,H a=gV (.frz o u)
theorem Rd.ok {P:Ki}{w:Kv}{H:Hp}{h:KH}{a:JK}{u:HO}(r:Rd H a u)(x:HOk P w H h):ObjOk P w H h a u:=by
 rcases r with r|⟨o,r⟩
 ·exact x a u r
 ·obtain⟨_,q⟩:=x a _ r;exact q
noncomputable def Fz:JE HO->Prop
 | some (.lst _)=>Qv
 | some (.dK _)=>Qv
 | some (.dT _)=>Qv
 | some (.set _ _)=>Qv
 | some (.ins _ _ _)=>Qv
 | some (.ext _)=>Qv
 | _=>KZ
section
variable{P:Ki}{w:Kv}{H:Hp}{h h':KH}{x e:JK}{o':HO}
theorem HOk.write (ok:HOk P w H h)(mu:Fz (H x))(he:e=x\/H e=gV (.own x))(k:∀b u,b≠e->h.get? b=gV u->h'.get? b=gV u)(heo:∃u,h'.get? e=gV u)
  (new:ObjOk P w (cH H x o') h' x o'):HOk P w (cH H x o') h':=λb u q=>by
 have nown:∀c y,H c=gV (.own y)->c≠x:=λc y r z=>by subst z; rw[r]at mu; exact mu
 have ntup:∀c xs,H c=gV (.tup xs)->c≠x:=λc xs r z=>by subst z; rw[r]at mu; exact mu
 by_cases hb:b=x
 ·subst hb; rw[bM]at q; cases q; exact new
 ·rw[bc hb]at q
  by_cases hbe:b=e
  ·have q':H b=gV (.own x):=by
    rcases he with z|z
    ·exact absurd (hbe.trans z) hb
    ·rw[hbe]; exact z
   rw[q]at q'; cases q'
   obtain⟨v,hv⟩:=heo;exact⟨v,by rw[hbe]; exact hv⟩
  ·refine(ok b u q).stay (λc v hc r=>k c v ?_ r) (λc r=>by rw[bc (nown c b r)]; exact r) λc xs r=>by rw[bc (ntup c xs r)]; exact r
   rcases hc with rfl|hc
   ·exact hbe
   ·rintro rfl;rcases he with z|z
    ·exact nown c b hc z
    ·rw[hc]at z; cases z; exact hb rfl
end
structure Un (fs ex:Jy JK)(H H':Hp)(h h':KH):Prop where
 keep:∀b o,h.get? b=gV o->H b=td->b∉fs->b∉ex->h'.get? b=gV o
 slot:∀b o,h.get? b=gV o->H b=td->b∈fs->b∉ex->∃sl,h'.get? b=gV { o with slots:=sl }
 free:∀b o,h.get? b=gV o->H b=td->b∉ex->H' b=td
 there:∀b o,h.get? b=gV o->b∉ex->∃o',h'.get? b=gV o'
 tups:∀b xs,H b=gV (.tup xs)->H' b=gV (.tup xs)
 frzs:∀b o u,H b=gV (.frz o u)->H' b=gV (.frz o u)
 tbls:∀b ps,H b=gV (.tbl ps)->∃more,H' b=gV (.tbl (ps++more))
section
variable{fs fs' ex ex':Jy JK}{H H1 H2:Hp}{h h1 h2 h':KH}{a x e:JK}{o:HO}
theorem Un.any (u:Un fs ex H H1 h h1){b:JK}{ob:Ll}(q:h.get? b=gV ob)(n:H b=td)(hx:b∉ex):∃sl,h1.get? b=gV { ob with slots:=sl }:=by
 by_cases hb:b∈fs
 ·exact u.slot b ob q n hb hx
 ·exact⟨ob.slots,u.keep b ob q n hb hx⟩
theorem Un.trans (a:Un fs ex H H1 h h1)(b:Un fs ex H1 H2 h1 h2):Un fs ex H H2 h h2 where
 keep:=λc ob q n hc hx=>b.keep c ob (a.keep c ob q n hc hx) (a.free c ob q n hx) hc hx
 slot:=λc ob q n hc hx=>by
  obtain⟨sl,e1⟩:=a.slot c ob q n hc hx;obtain⟨sl',e2⟩:=b.slot c _ e1 (a.free c ob q n hx) hc hx;exact⟨sl',e2⟩
 free:=λc ob q n hx=>by
  obtain⟨o',e1⟩:=a.there c ob q hx;exact b.free c o' e1 (a.free c ob q n hx) hx
 there:=λc ob q hx=>by
  obtain⟨o',e1⟩:=a.there c ob q hx;exact b.there c o' e1 hx
 tups:=λc xs q=>b.tups c xs (a.tups c xs q)
 frzs:=λc ob xs q=>b.frzs c ob xs (a.frzs c ob xs q)
 tbls:=λc ps q=>by
  obtain⟨m1,e1⟩:=a.tbls c ps q;obtain⟨m2,e2⟩:=b.tbls c _ e1;exact⟨m1++m2,by rw[e2,Pb]⟩
theorem Un.kept (k:∀b u,h.get? b=gV u->h'.get? b=gV u):Un fs ex H H h h':=
 ⟨λb ob q _ _ _=>k b ob q,λb ob q _ _ _=>⟨ob.slots,k b ob q⟩,λ_ _ _ n _=>n,λb ob q _=>⟨ob,k b ob q⟩,λ_ _ q=>q,λ_ _ _ q=>q,λ_ ps q=>⟨#[],by rw[q]; simp⟩⟩
theorem Un.refl:Un fs ex H H h h:=Un.kept λ_ _ q=>q
theorem Un.laid (k:∀b u,h.get? b=gV u->h'.get? b=gV u)(hp:h.objs.size<=a)(hn:H a=td):Un fs ex H (cH H a o) h h' where
 keep:=λb u q _ _ _=>k b u q
 slot:=λb u q _ _ _=>⟨u.slots,k b u q⟩
 free:=λb u q n _=>by rw[bc (Kj (Kg (J2 q) hp))]; exact n
 there:=λb u q _=>⟨u,k b u q⟩
 tups:=λb xs q=>by rw[bc (eN q hn)]; exact q
 frzs:=λb u xs q=>by rw[bc (eN q hn)]; exact q
 tbls:=λb ps q=>⟨#[],by rw[bc (eN q hn),q]; simp⟩
theorem Un.write (mu:Fz (H x))(he:e=x\/H e=gV (.own x))(k:∀b u,b≠e->h.get? b=gV u->h'.get? b=gV u)(heo:∃u,h'.get? e=gV u):Un fs ex H (cH H x o) h h':=by
 have hx:∀b,H b=td->b≠x:=λb n z=>by subst z; rw[n]at mu; exact mu
 have hb:∀b,H b=td->b≠e:=λb n z=>by
  subst z;rcases he with r|r
  ·exact hx b n r
  ·rw[n]at r; cases r
 have hm:∀b u,H b=gV u->¬ Fz (gV u)->b≠x:=λb u q nm z=>by subst z; rw[q]at mu; exact nm mu
 refine⟨λb u q n _ _=>k b u (hb b n) q,λb u q n _ _=>⟨u.slots,k b u (hb b n) q⟩,λb u q n _=>by rw[bc (hx b n)]; exact n,λb u q _=>?_,
  λb xs q=>by rw[bc (hm b _ q λz=>z)]; exact q,λb u xs q=>by rw[bc (hm b _ q λz=>z)]; exact q,λb ps q=>⟨#[],by rw[bc (hm b _ q λz=>z),q]; simp⟩⟩
 by_cases hbe:b=e
 ·subst hbe; exact heo
 ·exact⟨u,k b u hbe q⟩
end
noncomputable def Ht (h:KH)(H:Hp):Jy JK:=(JN h.objs.size).filter λa=>(H a).isSome
noncomputable def oM (h:KH)(H:Hp):KH:=PySem.W.hideAll h (Ht h H)
theorem vk (h:KH)(H:Hp):(oM h H).objs.size=h.objs.size:=PySem.W.hideAll_size _ _
theorem w9 {h:KH}{H:Hp}{b:JK}{o:Ll}(e:h.get? b=gV o)(n:H b=td):(oM h H).get? b=gV o:=
 PySem.W.hideAll_get _ e λhm=>by
  have q:(H b).isSome=true:=(KW.mp hm).2;rw[n]at q; simp at q
theorem Au {h:KH}{H:Hp}{b:JK}{o:Ll}(e:(oM h H).get? b=gV o):h.get? b=gV o/\H b=td:=by
 have e':h.get? b=gV o:=PySem.W.of_hideAll (Ht h H) e;refine⟨e',?_⟩;cases q:H b with
 | none=>rfl
 | some x=>
  have hm:b∈Ht h H:=KW.mpr ⟨JY.mpr (J2 e'),by simp[q]⟩
  have z:(oM h H).get? b=td:=PySem.W.hideAll_none (Ht h H) hm;rw[z]at e; cases e
noncomputable def Av (g h:KH)(L:JK):Jy (JK×Ll):=(JN h.objs.size).filterMap λa=>if a=L\/(g.get? a).isSome=true then td else(h.get? a).map λo=>(a,o)
noncomputable def dc (g h:KH)(L d:JK):Jy (JK×Ll):=(Av g h L).filter λp=>decide (p.1≠d)
structure Mod (K:JP)(mg:JZ->JE JB)(base:KH):Prop where
 kin:K.In base
 glob:base.Ns mainGlobals mg
 blt:∃mb,base.Ns builtinsNs mb/\∀x:JZ,x≠"__name__"->mb x=bootBuiltins x
 nolimit:base.NoLimit
structure Cx where
 prog:Ki
 w:Kv
 K:JP
 mg:JZ->JE JB
 base:KH
 A:Ks
 N:Jy JZ
 s₀:JD
 H₀:Hp
 env:Pu
 outer:Jy Pu
 stack:Jy Pu
 ex:Jy JK
 fn:JZ->Kc
 calm:Kc
 pn:Jy (JK×Ll)
 xe:JB->JD->Prop
noncomputable def sf (l:Jy Pu):Jy JK:=l.filterMap (·.frame)
noncomputable abbrev Cx.fs (X:Cx):Jy JK:=sf X.outer
noncomputable def HD (sc:Mx)(x:JZ):Prop:=sc.names.lookup x=gV .local\/sc.names.lookup x=gV .cell\/sc.names.lookup x=gV .free
noncomputable def Aw (sc:Mx)(x:JZ):Prop:=sc.names.lookup x=gV .local\/sc.names.lookup x=gV .cell
noncomputable def HE (env:Pu)(h:KH)(m:JZ->JE JB)(x:JZ)(u:JB):Prop:=
 (env.kindOf x=gV .local/\m x=gV u)\/((env.kindOf x=gV .cell\/env.kindOf x=gV .free)/\∃c,env.cells.lookup x=gV c/\h.IsCell c (gV u))
structure Cx.Ok (X:Cx):Prop where
 mod:Mod X.K X.mg X.base
 kind:X.env.scope.kind=.function
 glob:X.env.globals=mainGlobals
 blt:X.env.builtins=builtinsNs
 above:X.s₀.heap.objs.size<=X.env.locals
 inj:∀x y c,X.env.cells.lookup x=gV c->X.env.cells.lookup y=gV c->x=y
 has:∀x,(X.env.kindOf x=gV .cell\/X.env.kindOf x=gV .free)->∃c,X.env.cells.lookup x=gV c
 cab:∀x c,X.fn x=true->X.env.cells.lookup x=gV c->X.s₀.heap.objs.size<=c
 hd:X.calm=true->X.A.handled=td
 frames:X.A.frames=gV X.stack
 stk:X.stack=X.outer\/(X.stack=X.env::X.outer/\X.env.frame=gV X.env.locals)
 exf:∀b∈X.ex,b≠X.env.locals/\∀x c,X.env.cells.lookup x=gV c->c≠b
 bs:∀b o,X.base.get? b=gV o->X.s₀.heap.get? b=gV o/\X.H₀ b=td
 bsz:X.base.objs.size<=X.s₀.heap.objs.size
 noex:∀b o,X.base.get? b=gV o->b∉X.ex
 exfs:∀b∈X.ex,b∉X.fs
 funs:X.s₀.heap.FunFrames X.base X.outer
 frf:∀b∈X.fs,X.H₀ b=td
structure Inv (X:Cx)(pins:Jy (JK×Ll))(σ:Jy (JE V))(H:Hp)(s:JD):Prop where
 ok:X.Ok
 os:s.os=X.s₀.os
 bare:NO s.gens
 base:Un X.fs X.ex X.H₀ H X.s₀.heap s.heap
 loc:∃m,s.heap.Ns X.env.locals m/\∀(i:JF) (x:JZ) (v:V),X.N[i]?=gV x->σ[i]?=gV (gV v)->HD X.env.scope x->∃u,RelV v u/\HE X.env s.heap m x u
 cell:∀x c,X.env.cells.lookup x=gV c->∃v,s.heap.IsCell c v
 free:H X.env.locals=td
 freeC:∀x c,X.env.cells.lookup x=gV c->H c=td
 pin:∀p∈X.pn++pins,s.heap.get? p.1=gV p.2/\H p.1=td/\p.1≠X.env.locals/\p.1∉X.fs/\∀v,p.2.data≠.cell v
 hok:HOk X.prog X.w H s.heap
 len:σ.length=X.N.length
section
variable{X:Cx}{pins:Jy (JK×Ll)}{σ:Jy (JE V)}{H H':Hp}{s:JD}{h':KH}
theorem Cx.Ok.nofr (ok:X.Ok){b:JK}{o:Ll}(e:X.base.get? b=gV o):b∉X.fs:=λhb=>by
 have:=(ok.funs.mem hb).1;rw[e]at this; cases this
theorem Inv.bs (I:Inv X pins σ H s):∀b o,X.base.get? b=gV o->s.heap.get? b=gV o/\H b=td:=λb o e=>
 ⟨I.base.keep b o (I.ok.bs b o e).1 (I.ok.bs b o e).2 (I.ok.nofr e) (I.ok.noex b o e),I.base.free b o (I.ok.bs b o e).1 (I.ok.bs b o e).2 (I.ok.noex b o e)⟩
theorem Inv.bk (I:Inv X pins σ H s):∀b o,X.base.get? b=gV o->s.heap.get? b=gV o:=λb o e=>(I.bs b o e).1
theorem Inv.mod (I:Inv X pins σ H s):Mod X.K X.mg X.base:=I.ok.mod
theorem Inv.kIn (I:Inv X pins σ H s):X.K.In s.heap:=I.ok.mod.kin.keeps I.bk
theorem Inv.lt (I:Inv X pins σ H s):X.env.locals < s.heap.objs.size:=let ⟨_,hn,_⟩:=I.loc; hn.lt
theorem Inv.sz (I:Inv X pins σ H s):X.s₀.heap.objs.size<=s.heap.objs.size:=J8 I.ok.above (M0 I.lt)
theorem Inv.nofs (I:Inv X pins σ H s){a:JK}(h:s.heap.objs.size<=a):a∉X.fs:=λhb=>by
 obtain⟨_,o,ho,_⟩:=I.ok.funs.mem hb;exact absurd (Kg (J2 ho) (J8 I.sz h)) (KQ _)
theorem Inv.cne (I:Inv X pins σ H s):∀x c,X.env.cells.lookup x=gV c->c≠X.env.locals:=λx c e z=>by
 obtain⟨v,o,ho,hd⟩:=I.cell x c e;obtain⟨m,⟨o',es,ep,ho',hd',_⟩,_⟩:=I.loc;rw[z,ho']at ho; cases ho; rw[hd']at hd; cases hd
theorem Inv.funs (I:Inv X pins σ H s):s.heap.FunFrames X.base X.outer:=by
 have all:∀(l:Jy Pu),(∀b∈sf l,b∈X.fs)->X.s₀.heap.FunFrames X.base l->s.heap.FunFrames X.base l:=by
  intro l
  induction l with
  | nil=>intro _ _; trivial
  | cons env r ih=>
   intro hs hl;obtain⟨hk,⟨L,o,hf,hn,ho,hd⟩,hr⟩:=hl;have hL:L∈X.fs:=hs L (by unfold sf; rw[MM,hf]; exact Ls)
   obtain⟨sl,e⟩:=I.base.slot L o ho (I.ok.frf L hL) hL λz=>I.ok.exfs L z hL
   exact⟨hk,⟨L,_,hf,hn,e,hd⟩,ih (λb hb=>hs b (by unfold sf; rw[MM,hf]; exact K1 _ hb)) hr⟩
 exact all X.outer (λ_ hb=>hb) I.ok.funs
theorem Inv.stack (I:Inv X pins σ H s):s.heap.FunFrames X.base X.stack:=by
 rcases I.ok.stk with e|⟨e,hf⟩
 ·rw[e]; exact I.funs
 ·rw[e];obtain⟨m,hn,_⟩:=I.loc;refine .cons (by rw[I.ok.kind]; decide) hf hn ?_ I.funs
  exact Heap.get?_none_of_le (J8 I.ok.bsz I.ok.above)
theorem Inv.stkSub (I:Inv X pins σ H s):∀b∈sf X.stack,b∈X.env.locals::X.fs:=λb hb=>by
 rcases I.ok.stk with e|⟨e,hf⟩
 ·rw[e]at hb; exact K1 _ hb
 ·rw[e]at hb;unfold sf at hb;rw[MM,hf]at hb;exact hb
theorem Inv.stkFree (I:Inv X pins σ H s):∀b∈sf X.stack,H b=td:=λb hb=>by
 rcases Ke.mp (I.stkSub b hb)with e|hb
 ·rw[e]; exact I.free
 ·obtain⟨_,o,ho,_⟩:=I.ok.funs.mem hb;exact I.base.free b o ho (I.ok.frf b hb) λz=>I.ok.exfs b z hb
theorem Inv.step {g':KD OF}{t':JF}{d':Sc}{ch:Jy JK}(I:Inv X pins σ H s)
  (hch:∀b∈ch,(b∈X.ex\/X.s₀.heap.objs.size<=b)/\b≠X.env.locals/\(∀x c,X.env.cells.lookup x=gV c->c≠b)/\∀p∈X.pn++pins,p.1≠b)
  (keep:∀b o,b≠X.env.locals->b∉X.fs->b∉ch->s.heap.get? b=gV o->H b=td->h'.get? b=gV o)
  (slot:∀b o,b≠X.env.locals->b∈X.fs->b∉ch->s.heap.get? b=gV o->H b=td->∃sl,h'.get? b=gV { o with slots:=sl }) (free:∀b o,b∉ch->s.heap.get? b=gV o->H b=td->H' b=td)
  (there:∀b o,b∉ch->s.heap.get? b=gV o->∃o',h'.get? b=gV o')
  (tups:∀b xs,H b=gV (.tup xs)->H' b=gV (.tup xs)) (frzs:∀b o u,H b=gV (.frz o u)->H' b=gV (.frz o u)) (tbls:∀b ps,H b=gV (.tbl ps)->∃more,H' b=gV (.tbl (ps++more)))
  (ns:∀m,s.heap.Ns X.env.locals m->h'.Ns X.env.locals m) (hok:HOk X.prog X.w H' h') (hg:NO g') :
  Inv X pins σ H' { s with heap:=h',gens:=g',drawn:=d',toks:=t' }:=by
 have neL:∀b o,X.s₀.heap.get? b=gV o->b≠X.env.locals:=λb o e=>Kj (Kg (J2 e) I.ok.above)
 have neC:∀b o,X.s₀.heap.get? b=gV o->b∉X.ex->b∉ch:=λb o e hx hb=>by
  rcases(hch b hb).1 with z|z
  ·exact hx z
  ·exact absurd (Kg (J2 e) z) (KQ _)
 have cellK:∀x c,X.env.cells.lookup x=gV c->∀v,s.heap.IsCell c v->h'.IsCell c v:=λx c e v ⟨o,ho,hd⟩=>by
  have nch:c∉ch:=λz=>(hch c z).2.2.1 x c e rfl
  by_cases hc:c∈X.fs
  ·obtain⟨sl,q⟩:=slot c o (I.cne x c e) hc nch ho (I.freeC x c e);exact⟨_,q,hd⟩
  ·exact⟨o,keep c o (I.cne x c e) hc nch ho (I.freeC x c e),hd⟩
 refine⟨I.ok,I.os,hg,⟨λb o e n hb hx=>?_,λb o e n hb hx=>?_,λb o e n hx=>?_,λb o e hx=>?_,λb xs e=>tups b xs (I.base.tups b xs e),λb o xs e=>frzs b o xs (I.base.frzs b o xs e),λb ps e=>?_⟩,?_,λx c e=>?_,?_,λx c e=>?_,λp hp=>?_,hok,I.len⟩
 ·exact keep b o (neL b o e) hb (neC b o e hx) (I.base.keep b o e n hb hx) (I.base.free b o e n hx)
 ·obtain⟨sl,e1⟩:=I.base.slot b o e n hb hx;obtain⟨sl',e2⟩:=slot b _ (neL b o e) hb (neC b o e hx) e1 (I.base.free b o e n hx);exact⟨sl',e2⟩
 ·obtain⟨o',e1⟩:=I.base.there b o e hx;exact free b o' (neC b o e hx) e1 (I.base.free b o e n hx)
 ·obtain⟨o',e1⟩:=I.base.there b o e hx;exact there b o' (neC b o e hx) e1
 ·obtain⟨m1,e1⟩:=I.base.tbls b ps e;obtain⟨m2,e2⟩:=tbls b _ e1;exact⟨m1++m2,by rw[e2,Pb]⟩
 ·obtain⟨m,hn,hl⟩:=I.loc;refine⟨m,ns m hn,λi x v e1 e2 e3=>?_⟩
  obtain⟨u,r,l⟩:=hl i x v e1 e2 e3;refine⟨u,r,?_⟩;rcases l with l|⟨k,c,e,z⟩
  ·exact .inl l
  ·exact .inr ⟨k,c,e,cellK x c e _ z⟩
 ·obtain⟨v,z⟩:=I.cell x c e;exact⟨v,cellK x c e v z⟩
 ·obtain⟨m,⟨o,_,_,ho,_⟩,_⟩:=I.loc;exact free _ o (λz=>(hch _ z).2.1 rfl) ho I.free
 ·obtain⟨v,o,ho,hd⟩:=I.cell x c e;exact free c o (λz=>(hch c z).2.2.1 x c e rfl) ho (I.freeC x c e)
 ·obtain⟨e,n,ne,nf,d⟩:=I.pin p hp;have nch:p.1∉ch:=λz=>(hch p.1 z).2.2.2 p hp rfl
  exact⟨keep p.1 p.2 ne nf nch e n,free p.1 p.2 nch e n,ne,nf,d⟩
theorem Inv.un {t':JF}(I:Inv X pins σ H s)(u:Un X.fs [] H H' s.heap h')(hok:HOk X.prog X.w H' h'):Inv X pins σ H' { s with heap:=h',toks:=t' }:=by
 obtain⟨m,⟨o,es,ep,ho,r⟩,_⟩:=id I.loc;obtain⟨sl,hL⟩:=u.any ho I.free (by simp)
 exact I.step (g':=s.gens) (d':=s.drawn) (ch:=[]) (λ_ z=>nomatch z) (λb o _ hb _ e n=>u.keep b o e n hb (by simp)) (λb o _ hb _ e n=>u.slot b o e n hb (by simp)) (λb o _ e n=>u.free b o e n (by simp)) (λb o _ e=>u.there b o e (by simp)) u.tups u.frzs u.tbls (λm' hm=>by
  obtain⟨o',es',ep',ho',r'⟩:=hm;rw[ho]at ho'; cases ho'
  exact⟨_,es',ep',hL,r'⟩) hok I.bare
theorem Inv.call {g':KD OF}{t':JF}{d':Sc}{ch:Jy JK}(I:Inv X pins σ H s)(u:Un (sf X.stack) ch H H' s.heap h')(hok:HOk X.prog X.w H' h')(hg:NO g')
  (hch:∀b∈ch,(b∈X.ex\/X.s₀.heap.objs.size<=b)/\b≠X.env.locals/\(∀x c,X.env.cells.lookup x=gV c->c≠b)/\∀p∈X.pn++pins,p.1≠b) :
  Inv X pins σ H' { s with heap:=h',gens:=g',drawn:=d',toks:=t' }:=by
 obtain⟨m,⟨o,es,ep,ho,r⟩,_⟩:=id I.loc;obtain⟨sl,hL⟩:=u.any ho I.free λz=>(hch _ z).2.1 rfl
 exact I.step (ch:=ch) hch (λb o hL hb hc e n=>u.keep b o e n (λz=>(Ke.mp (I.stkSub b z)).elim hL hb) hc) (λb o _ _ hc e n=>u.any e n hc) (λb o hc e n=>u.free b o e n hc) (λb o hc e=>u.there b o e hc) u.tups u.frzs u.tbls (λm' hm=>by
  obtain⟨o',es',ep',ho',r'⟩:=hm;rw[ho]at ho'; cases ho'
  exact⟨_,es',ep',hL,r'⟩) hok hg
theorem Inv.turned {t':JF}{it:JK}(I:Inv X pins σ H s)(k:∀b o,b≠it->s.heap.get? b=gV o->h'.get? b=gV o)(hn:H it=td)(hL:it≠X.env.locals)
  (h1:it∈X.ex\/X.s₀.heap.objs.size<=it) (h2:∀x c,X.env.cells.lookup x=gV c->c≠it) (h3:∀p∈X.pn++pins,p.1≠it):Inv X pins σ H { s with heap:=h',toks:=t' }:=by
 have nit:∀b u,H b=gV u->b≠it:=λb u e z=>by rw[z,hn]at e; cases e
 refine I.step (g':=s.gens) (d':=s.drawn) (ch:=[it]) (λb hb=>?_) (λb o _ _ hc e _=>k b o (λz=>hc (by simp[z])) e) (λb o _ _ hc e _=>⟨o.slots,k b o (λz=>hc (by simp[z])) e⟩) (λ_ _ _ _ n=>n)
  (λb o hc e=>⟨o,k b o (λz=>hc (by simp[z])) e⟩) (λ_ _ e=>e) (λ_ _ _ e=>e) (λb ps e=>⟨#[],by rw[e]; simp⟩) (λm hm=>?_) (λb u e=>?_) I.bare
 ·have e:b=it:=by simpa using hb
  subst e;exact⟨h1,hL,h2,h3⟩
 ·obtain⟨o,es,ep,ho,r⟩:=hm;exact⟨o,es,ep,k _ o (Ne.symm hL) ho,r⟩
 ·refine(I.hok b u e).stay (λc v hc q=>k c v ?_ q) (λ_ q=>q) λ_ _ q=>q
  rcases hc with z|z
  ·rw[z]; exact nit b u e
  ·exact nit c _ z
theorem Inv.tok (I:Inv X pins σ H s)(t:JF):Inv X pins σ H { s with toks:=t }:=I.un (h':=s.heap) (t':=t) Un.refl I.hok
theorem Inv.kept {t':JF}(I:Inv X pins σ H s)(k:∀b u,s.heap.get? b=gV u->h'.get? b=gV u):Inv X pins σ H { s with heap:=h',toks:=t' }:=I.un (Un.kept k) (I.hok.kept k)
theorem Inv.laid {a:JK}{o:HO}{t':JF}(I:Inv X pins σ H s)(k:∀b u,s.heap.get? b=gV u->h'.get? b=gV u)(hp:s.heap.objs.size<=a)(new:ObjOk X.prog X.w (cH H a o) h' a o) :
  Inv X pins σ (cH H a o) { s with heap:=h',toks:=t' }:=I.un (Un.laid k hp (I.hok.fresh hp)) (I.hok.laid k hp new)
theorem Inv.write {x e:JK}{o:HO}{t':JF}(I:Inv X pins σ H s)(mu:Fz (H x))(he:e=x\/H e=gV (.own x))(k:∀b u,b≠e->s.heap.get? b=gV u->h'.get? b=gV u)(heo:∃u,h'.get? e=gV u)
  (new:ObjOk X.prog X.w (cH H x o) h' x o):Inv X pins σ (cH H x o) { s with heap:=h',toks:=t' }:=I.un (Un.write mu he k heo) (I.hok.write mu he k heo new)
theorem Inv.pins_of {pins':Jy (JK×Ll)}(I:Inv X pins σ H s)(h:∀p∈pins',s.heap.get? p.1=gV p.2/\H p.1=td/\p.1≠X.env.locals/\p.1∉X.fs/\∀v,p.2.data≠.cell v):Inv X pins' σ H s:=
 ⟨I.ok,I.os,I.bare,I.base,I.loc,I.cell,I.free,I.freeC,λp hp=>(Ko.mp hp).elim (λz=>I.pin p (Lv _ z)) (h p),I.hok,I.len⟩
theorem qg {N:Jy JZ}(hN:N.Nodup){i j:JF}{x:JZ}(a:N[i]?=gV x)(b:N[j]?=gV x):i=j:=by
 obtain⟨h1,e1⟩:=JU.mp a;obtain⟨h2,e2⟩:=JU.mp b;exact(LV hN).mp (e1.trans e2.symm)
theorem vm {M:R0}{A:Ks}{E:JB->JD->Prop}{i:JF}{x:JZ}{v:V}{u:JB}{Q:Unit->JD->Prop}(I:Inv X pins σ H s)(hN:X.N.Nodup)(hi:X.N[i]?=gV x)(hx:Aw X.env.scope x)(r:RelV v u)
  (h:∀s',Inv X pins (σ.set i (gV v)) H s'->(∃a,L8 a s.heap s'.heap/\(a=X.env.locals\/X.env.cells.lookup x=gV a))->Q () s') (hf:X.fn x=true\/X.env.scope.names.lookup x=gV .local):wpAny M A (storeName X.env x u) Q E s:=by
 obtain⟨m,hn,hl⟩:=id I.loc;have hcls:(X.env.scope.kind==.class||(X.env.scope.kind==.module&&X.env.locals != X.env.globals))=false:=by rw[I.ok.kind]; rfl
 have hiσ:i < σ.length:=by rw[I.len]; exact(JU.mp hi).1
 have cne:=I.cne;have tracked:∀ {a:JK} {h':KH},(∃o,s.heap.get? a=gV o/\H a=td)->L8 a s.heap h'->HOk X.prog X.w H h':=λ{a h'} ha hs b ob e=>by
  obtain⟨_,_,hfree⟩:=ha;refine(I.hok b ob e).stay (λc w' hc q=>(hs.2 c ?_).trans q) (λ_ q=>q) λ_ _ q=>q
  rintro rfl;rcases hc with rfl|hc
  ·rw[hfree]at e; cases e
  ·rw[hfree]at hc; cases hc
 rcases hx with hk|hk
 ·refine wpAny_storeName_local hk hn (λh' hn' hs=>?_) hcls
  obtain⟨oL,_,_,hoL,_⟩:=id hn;refine h _ ⟨I.ok,I.os,I.bare,⟨λb o e n hb hx=>?_,λb o e n hb hx=>?_,I.base.free,λb o e hx=>?_,I.base.tups,I.base.frzs,I.base.tbls⟩,⟨_,hn',λj y v' e1 e2 e3=>?_⟩,λy c e=>?_,I.free,I.freeC,λp hp=>?_,tracked ⟨oL,hoL,I.free⟩ hs,by simpa using I.len⟩ ⟨_,hs,.inl rfl⟩
  ·exact(hs.2 b (Kj (Kg (J2 e) I.ok.above))).trans (I.base.keep b o e n hb hx)
  ·obtain⟨sl,e1⟩:=I.base.slot b o e n hb hx;exact⟨sl,(hs.2 b (Kj (Kg (J2 e) I.ok.above))).trans e1⟩
  ·obtain⟨o',e1⟩:=I.base.there b o e hx;exact⟨o',(hs.2 b (Kj (Kg (J2 e) I.ok.above))).trans e1⟩
  ·by_cases hj:j=i
   ·subst hj;rw[hi]at e1; cases e1
    rw[N9 hiσ]at e2;cases e2;exact⟨u,r,.inl ⟨hk,by simp⟩⟩
   ·rw[OG (Ne.symm hj)]at e2;obtain⟨u',r',q⟩:=hl j y v' e1 e2 e3;refine⟨u',r',?_⟩;rcases q with⟨k,e⟩|⟨k,c,e,z⟩
    ·refine .inl ⟨k,?_⟩;have:y≠x:=λe=>hj (qg hN e1 (e ▸ hi))
     simp[this,e]
    ·exact .inr ⟨k,c,e,z.sameBut hs (cne y c e)⟩
  ·obtain⟨w',z⟩:=I.cell y c e;exact⟨w',z.sameBut hs (cne y c e)⟩
  ·obtain⟨e,n,ne,nf,d⟩:=I.pin p hp;exact⟨(hs.2 p.1 ne).trans e,n,ne,nf,d⟩
 ·have hfn:X.fn x=true:=by
   rcases hf with z|z
   ·exact z
   ·rw[z]at hk; cases hk
  obtain⟨c,hc⟩:=I.ok.has x (.inl hk);obtain⟨w',z⟩:=I.cell x c hc;refine wpAny_storeName_cell I.ok.kind hk hc z (λh' hc' hs=>?_)
  obtain⟨oc,hoc,hocd⟩:=id z;refine h { s with heap:=h' } ⟨I.ok,I.os,I.bare,⟨λb o e n hb hx=>?_,λb o e n hb hx=>?_,I.base.free,λb o e hx=>?_,I.base.tups,I.base.frzs,I.base.tbls⟩,⟨m,hn.sameBut hs (Ne.symm (cne x c hc)),λj y v' e1 e2 e3=>?_⟩,λy c' e=>?_,I.free,I.freeC,λp hp=>?_,tracked ⟨oc,hoc,I.freeC x c hc⟩ hs,by simpa using I.len⟩ ⟨c,hs,.inr hc⟩
  ·exact(hs.2 b (Kj (Kg (J2 e) (I.ok.cab x c hfn hc)))).trans (I.base.keep b o e n hb hx)
  ·obtain⟨sl,e1⟩:=I.base.slot b o e n hb hx;exact⟨sl,(hs.2 b (Kj (Kg (J2 e) (I.ok.cab x c hfn hc)))).trans e1⟩
  ·obtain⟨o',e1⟩:=I.base.there b o e hx;exact⟨o',(hs.2 b (Kj (Kg (J2 e) (I.ok.cab x c hfn hc)))).trans e1⟩
  ·by_cases hj:j=i
   ·subst hj;rw[hi]at e1; cases e1
    rw[N9 hiσ]at e2;cases e2;exact⟨u,r,.inr ⟨.inl hk,c,hc,hc'⟩⟩
   ·rw[OG (Ne.symm hj)]at e2;obtain⟨u',r',q⟩:=hl j y v' e1 e2 e3;refine⟨u',r',?_⟩;rcases q with q|⟨k,c',e,z'⟩
    ·exact .inl q
    ·refine .inr ⟨k,c',e,z'.sameBut hs ?_⟩;rintro rfl;exact hj (qg hN e1 (I.ok.inj _ _ _ e hc ▸ hi))
  ·by_cases hcc:c'=c
   ·subst hcc; exact⟨_,hc'⟩
   ·obtain⟨w2,z2⟩:=I.cell y c' e;exact⟨w2,z2.sameBut hs hcc⟩
  ·obtain⟨e,n,ne,nf,d⟩:=I.pin p hp;refine⟨(hs.2 p.1 ?_).trans e,n,ne,nf,d⟩;intro q;rw[q,hoc]at e;have q':oc=p.2:=K5 e;exact d w' (by rw[<- q']; exact hocd)
theorem i4 {M:R0}{A:Ks}{E:JB->JD->Prop}{i:JF}{x:JZ}{v:V}{u:JB}{Q:Unit->JD->Prop}(I:Inv X pins σ H s)(hN:X.N.Nodup)(hi:X.N[i]?=gV x)(hx:Aw X.env.scope x)(r:RelV v u)
  (h:∀s',Inv X pins (σ.set i (gV v)) H s'->Q () s') (hf:X.fn x=true\/X.env.scope.names.lookup x=gV .local):wpAny M A (storeName X.env x u) Q E s:=
 vm I hN hi hx r (λs' I' _=>h s' I') hf
theorem Inv.call' {s':JD}{ch:Jy JK}(I:Inv X pins σ H s)(ho:s'.os=s.os)(u:Un (sf X.stack) ch H H' s.heap s'.heap)(hok:HOk X.prog X.w H' s'.heap)(hg:NO s'.gens)
  (hch:∀b∈ch,(b∈X.ex\/X.s₀.heap.objs.size<=b)/\b≠X.env.locals/\(∀x c,X.env.cells.lookup x=gV c->c≠b)/\∀p∈X.pn++pins,p.1≠b):Inv X pins σ H' s':=by
 obtain⟨h',g',d',t',o'⟩:=s';have e:o'=s.os:=ho;subst e;exact I.call (g':=g') (t':=t') (d':=d') u hok hg hch
end
noncomputable abbrev XK:=JB->JE JK->Hp->Prop
noncomputable abbrev St:=Jy (JE V)
noncomputable abbrev VK:=V->Hp->Prop
noncomputable abbrev TE:=St->Hp->VK->Prop
noncomputable abbrev TT:=St->Hp->(Kc->Hp->Prop)->Prop
noncomputable abbrev TA:=St->Hp->(Jy V->Hp->Prop)->Prop
structure Ends where
 nx:St->Hp->Prop
 rt:VK
 bk:St->Hp->Prop:=λ_ _=>KZ
 ct:St->Hp->Prop:=λ_ _=>KZ
noncomputable abbrev TS:=Ends->St->Hp->Prop
noncomputable def EP (X:Cx)(pins:Jy (JK×Ll))(σ:St)(Q:VK)(u:JB)(s':JD):Prop:=∃v H',Inv X pins σ H' s'/\RelV v u/\Q v H'
noncomputable def TP (X:Cx)(pins:Jy (JK×Ll))(σ:St)(Q:Kc->Hp->Prop)(b:Kc)(s':JD):Prop:=∃H',Inv X pins σ H' s'/\Q b H'
noncomputable def AP (X:Cx)(pins:Jy (JK×Ll))(σ:St)(Q:Jy V->Hp->Prop)(us:Jy JB)(s':JD):Prop:=∃vs H',Inv X pins σ H' s'/\Vals vs us/\Q vs H'
noncomputable def SP (X:Cx)(pins:Jy (JK×Ll))(D:Ends)(f:Flow)(s':JD):Prop:=
 match f with
 | .next=>∃σ' H',Inv X pins σ' H' s'/\D.nx σ' H'
 | .brk=>∃σ' H',Inv X pins σ' H' s'/\D.bk σ' H'
 | .cont=>∃σ' H',Inv X pins σ' H' s'/\D.ct σ' H'
 | .ret u=>∃v σ' H',Inv X pins σ' H' s'/\RelV v u/\D.rt v H'
noncomputable def PE (X:Cx)(e:J9)(t:TE):Prop:=
 ∀(pins:Jy (JK×Ll)) (s:JD) (σ:St) (H:Hp) (Q:VK),Inv X pins σ H s->t σ H Q->wpAny (model X.prog X.w) X.A (eval e X.env) (EP X pins σ Q) X.xe s
noncomputable def PT (X:Cx)(e:J9)(t:TT):Prop:=
 ∀(pins:Jy (JK×Ll)) (s:JD) (σ:St) (H:Hp) (Q:Kc->Hp->Prop),Inv X pins σ H s->t σ H Q->wpAny (model X.prog X.w) X.A (isTrue e X.env (eval e X.env)) (TP X pins σ Q) X.xe s
noncomputable def PW (X:Cx)(e:J9)(t:TT):Prop:=
 ∀(whole:Rv JB) (pins:Jy (JK×Ll)) (s:JD) (σ:St) (H:Hp) (Q:Kc->Hp->Prop),Inv X pins σ H s->t σ H Q->wpAny (model X.prog X.w) X.A (isTrue e X.env whole) (TP X pins σ Q) X.xe s
theorem PW.pt {X:Cx}{e:J9}{t:TT}(h:PW X e t):PT X e t:=h _
noncomputable def PA (X:Cx)(es:Jy J9)(t:TA):Prop:=
 ∀(pos:L0) (pins:Jy (JK×Ll)) (s:JD) (σ:St) (H:Hp) (Q:Jy V->Hp->Prop),Inv X pins σ H s->t σ H Q->wpAny (model X.prog X.w) X.A (spliced (backTo pos (starEach es X.env))) (AP X pins σ Q) X.xe s
noncomputable def PS (X:Cx)(st:Mg)(t:TS):Prop:=
 ∀(pins:Jy (JK×Ll)) (s:JD) (σ:St) (H:Hp) (D:Ends),Inv X pins σ H s->t D σ H->wpAny (model X.prog X.w) X.A (exec st X.env) (SP X pins D) X.xe s
noncomputable def PSs (X:Cx)(st:Jy Mg)(t:TS):Prop:=
 ∀(pins:Jy (JK×Ll)) (s:JD) (σ:St) (H:Hp) (D:Ends),Inv X pins σ H s->t D σ H->wpAny (model X.prog X.w) X.A (execs st X.env) (SP X pins D) X.xe s
theorem cu {α:Type}{t:Rv α}{Q Q':α->JD->Prop}{M:R0}{A:Ks}{E:JB->JD->Prop}{s:JD}(h:wpAny M A t Q E s)(hQ:∀a s,Q a s->Q' a s):wpAny M A t Q' E s:=Lu h hQ λ_ _ x=>x
section
variable{X:Cx}
theorem Jx {a b:J9}{ta tb:TE}(ha:PE X a ta)(hb:PE X b tb){pins:Jy (JK×Ll)}{s:JD}{σ:St}{H:Hp}{R:V->V->Hp->Prop}(I:Inv X pins σ H s)(h:ta σ H λx H1=>tb σ H1 λy H2=>R x y H2)
  {α:Type} {Q:α->JD->Prop} {f:JB->JB->Rv α}
  (hf:∀v u s2 x y H2,Inv X pins σ H2 s2->RelV x v->RelV y u->R x y H2->wpAny (model X.prog X.w) X.A (f v u) Q X.xe s2) :
  wpAny (model X.prog X.w) X.A (eval a X.env) (λv s₁=>wpAny (model X.prog X.w) X.A (eval b X.env) (λu s₂=>wpAny (model X.prog X.w) X.A (f v u) Q X.xe s₂) X.xe s₁) X.xe s:=by
 refine cu (ha pins s σ H _ I h) λv s1 ⟨x,H1,I1,r1,q1⟩=>?_
 refine cu (hb pins s1 σ H1 _ I1 q1) λu s2 ⟨y,H2,I2,r2,q2⟩=>?_
 exact hf v u s2 x y H2 I2 r1 r2 q2
noncomputable def FB (i:JF):TE:=λσ H Q=>∃v,σ[i]?=gV (gV v)/\Q v H
noncomputable def tC (v:V):TE:=λ_ H Q=>Q v H
theorem Dy {i:JF}{x:JZ}{pos:L0}(hN:X.N[i]?=gV x)(hv:HD X.env.scope x)(hd:(x==("__debug__" : JZ))=false:=by decide)(hcd:(x==("__classdict__" : JZ))=false:=by decide):PE X (.Name x pos) (FB i):=by
 intro pins s σ H Q I h;obtain⟨v,e,h⟩:=h;obtain⟨m,hn,hl⟩:=I.loc;obtain⟨u,r,l⟩:=hl i x v hN e hv;have fin:EP X pins σ Q u s:=⟨v,H,I,r,h⟩;rcases l with⟨hk,hm⟩|⟨hk,c,hc,hcell⟩
 ·exact Qw (wpAny_loadName_local I.ok.kind hk hn hm fin) hd
 ·rcases hk with hk|hk
  ·exact Qw (wpAny_loadName_cell I.ok.kind hk hc hcell fin) hd
  ·exact Qw (wpAny_loadName_free I.ok.kind hk hc hcell fin hcd) hd
theorem xf {i j pos}:PE X (.Constant (.int i) j pos) (tC (.int i)):=λ_ _ _ H _ I h=>wpAny_Constant_int ⟨.int i,H,I.tok _,⟨_,rfl⟩,h⟩
theorem CU {b j pos}:PE X (.Constant (.bool b) j pos) (tC (.bl b)):=λ_ _ _ H _ I h=>Constant_bool ⟨.bl b,H,I,rfl,h⟩
theorem xg {j pos}:PE X (.Constant .none j pos) (tC .non):=λ_ _ _ H _ I h=>Constant_none ⟨.non,H,I,rfl,h⟩
theorem xi {x j pos}:PE X (.Constant (.str x) j pos) (tC (.str x)):=λ_ _ _ H _ I h=>Pc ⟨.str x,H,I.tok _,⟨_,rfl⟩,h⟩
noncomputable def Gl (X:Cx)(x:JZ):Prop:=X.env.kindOf x=gV .globalImplicit
theorem tM {E:JB->JD->Prop}{pins:Jy (JK×Ll)}{s:JD}{σ:St}{H:Hp}{x:JZ}{u:JB}{pos:L0}{Q:JB->JD->Prop}(I:Inv X pins σ H s)(hg:Gl X x)(hm:X.mg x=gV u)(h:Q u s)
  (hd:(x==("__debug__" : JZ))=false:=by decide):wpAny (model X.prog X.w) X.A (eval (.Name x pos) X.env) Q E s:=
 Ny I.ok.kind hg (Calls.loadGlobal_global (by rw[I.ok.glob]; exact I.mod.glob.keeps I.bk) hm h) hd
theorem jH {E:JB->JD->Prop}{pins:Jy (JK×Ll)}{s:JD}{σ:St}{H:Hp}{x:JZ}{u:JB}{pos:L0}{Q:JB->JD->Prop}(I:Inv X pins σ H s)(hg:Gl X x)(hm:X.mg x=td)(hv:bootBuiltins x=gV u)(h:Q u s)
  (hn:x≠"__name__":=by decide) (hd:(x==("__debug__" : JZ))=false:=by decide):wpAny (model X.prog X.w) X.A (eval (.Name x pos) X.env) Q E s:=by
 obtain⟨mb,h1,h2⟩:=I.mod.blt;exact Ny I.ok.kind hg (Calls.loadGlobal_builtin (by rw[I.ok.glob]; exact I.mod.glob.keeps I.bk) hm (by rw[I.ok.blt]; exact h1.keeps I.bk) ((h2 x hn).trans hv) h) hd
theorem Ax {x:JZ}{v:V}{u:JB}{pos:L0}(hg:Gl X x)(hm:X.mg x=td)(hv:bootBuiltins x=gV u)(r:RelV v u)(hn:x≠"__name__":=by decide)(hd:(x==("__debug__" : JZ))=false:=by decide):PE X (.Name x pos) (tC v):=
 λ_ _ _ H _ I h=>jH I hg hm hv ⟨v,H,I,r,h⟩ hn hd
variable{a b:J9}{ta tb:TE}{pos:L0}
variable{tA tB':TT}{dc:Jy J9}
noncomputable def FC (t u:TT):TT:=λσ H Q=>t σ H λc H1=>if c=true then u σ H1 Q else Q false H1
noncomputable def Jd (t u:TT):TT:=λσ H Q=>t σ H λc H1=>if c=true then Q true H1 else u σ H1 Q
noncomputable def HF (t:TT):TT:=λσ H Q=>t σ H λc H1=>Q (!c) H1
theorem Ay (ha:PT X a tA):PW X (.BoolOp .And [a] pos) tA:=by
 intro wh pins s σ H Q I h;refine isTrue_and (cu (ha pins s σ H Q I h) λc s1 e=>?_)
 cases c with
 | true=>exact isTrue_and_nil e
 | false=>exact e
theorem Dz (ha:PT X a tA):PW X (.BoolOp .Or [a] pos) tA:=by
 intro wh pins s σ H Q I h;refine isTrue_or (cu (ha pins s σ H Q I h) λc s1 e=>?_)
 cases c with
 | false=>exact isTrue_or_nil e
 | true=>exact e
theorem DA (ha:PT X a tA)(hb:PW X (.BoolOp .And (b::dc) pos) tB'):PW X (.BoolOp .And (a::b::dc) pos) (FC tA tB'):=by
 intro wh pins s σ H Q I h;refine isTrue_and (cu (ha pins s σ H _ I h) λc s1 ⟨H1,I1,q1⟩=>?_)
 cases c with
 | true=>exact hb wh pins s1 σ H1 Q I1 q1
 | false=>exact⟨H1,I1,q1⟩
theorem FD (ha:PT X a tA)(hb:PW X (.BoolOp .Or (b::dc) pos) tB'):PW X (.BoolOp .Or (a::b::dc) pos) (Jd tA tB'):=by
 intro wh pins s σ H Q I h;refine isTrue_or (cu (ha pins s σ H _ I h) λc s1 ⟨H1,I1,q1⟩=>?_)
 cases c with
 | true=>exact⟨H1,I1,q1⟩
 | false=>exact hb wh pins s1 σ H1 Q I1 q1
theorem DB (ha:PT X a tA):PT X (.UnaryOp .Not a pos) (HF tA):=by
 intro pins s σ H Q I h;exact isTrue_not (ha pins s σ H (λc H1=>Q (!c) H1) I h)
noncomputable def FH (ta tb:TE):TE:=λσ H Q=>ta σ H λx H1=>∃c,x=.bl c/\if c=true then tb σ H1 Q else Q (.bl false) H1
noncomputable def HG (ta tb:TE):TE:=λσ H Q=>ta σ H λx H1=>∃c,x=.bl c/\if c=true then Q (.bl true) H1 else tb σ H1 Q
noncomputable def FJ (ta:TE):TE:=λσ H Q=>ta σ H λx H1=>∃c,x=.bl c/\Q (.bl (!c)) H1
theorem DC {op}{t:TE}(h:PE X a t):PE X (.BoolOp op [a] pos) t:=λpins s σ H Q I hw=>BoolOp_one (h pins s σ H Q I hw)
theorem DD (ha:PE X a ta)(hb:PE X (.BoolOp .And (b::dc) pos) tb):PE X (.BoolOp .And (a::b::dc) pos) (FH ta tb):=by
 intro pins s σ H Q I h;refine BoolOp_and (cu (ha pins s σ H _ I h) λv s1 ⟨x,H1,I1,r1,q1⟩=>?_)
 obtain⟨c,rfl,q1⟩:=q1;cases r1;refine LN ?_;cases c with
 | true=>exact hb pins s1 σ H1 Q I1 q1
 | false=>exact⟨.bl false,H1,I1,rfl,q1⟩
theorem FK (ha:PE X a ta)(hb:PE X (.BoolOp .Or (b::dc) pos) tb):PE X (.BoolOp .Or (a::b::dc) pos) (HG ta tb):=by
 intro pins s σ H Q I h;refine BoolOp_or (cu (ha pins s σ H _ I h) λv s1 ⟨x,H1,I1,r1,q1⟩=>?_)
 obtain⟨c,rfl,q1⟩:=q1;cases r1;refine LN ?_;cases c with
 | false=>exact hb pins s1 σ H1 Q I1 q1
 | true=>exact⟨.bl true,H1,I1,rfl,q1⟩
theorem DE (ha:PE X a ta):PE X (.UnaryOp .Not a pos) (FJ ta):=by
 intro pins s σ H Q I h;refine UnaryOp_ (cu (ha pins s σ H _ I h) λv s1 ⟨x,H1,I1,r1,q1⟩=>?_)
 obtain⟨c,rfl,q1⟩:=q1;cases r1;exact not_of (LN ⟨.bl (!c),H1,I1,rfl,q1⟩)
noncomputable def Jn (t:TT)(ta tb:TE):TE:=λσ H Q=>t σ H λc H1=>if c=true then ta σ H1 Q else tb σ H1 Q
theorem xj {c:J9}(hc:PT X c tA)(ha:PE X a ta)(hb:PE X b tb):PE X (.IfExp c a b pos) (Jn tA ta tb):=by
 intro pins s σ H Q I h;refine wpAny_IfExp (cu (hc pins s σ H _ I h) λd s1 ⟨H1,I1,q1⟩=>?_)
 cases d with
 | true=>exact ha pins s1 σ H1 Q I1 q1
 | false=>exact hb pins s1 σ H1 Q I1 q1
end
noncomputable def SqL (K:JP)(H:Hp)(a:JK)(xs:Jy V):Prop:=
 Rd H a (.lst xs)\/
  ∃(o:Ll) (its:KD JB) (n:JF),K.lookup a=gV o/\o.cls=.type "list"/\o.dict=td/\o.data=.seq its n/\its.size<=sizeLine/\Vals xs its.toList
noncomputable def SqT (K:JP)(H:Hp)(a:JK)(xs:Jy V):Prop:=
 Rd H a (.tup xs)\/
  ∃(o:Ll) (its:KD JB) (n:JF),K.lookup a=gV o/\o.cls=.type "tuple"/\o.dict=td/\o.data=.seq its n/\its.size<=sizeLine/\Vals xs its.toList
noncomputable def HH:JB->JE V
 | .none=>gV .non
 | .bool b=>gV (.bl b)
 | .int i _=>gV (.int i)
 | .str x _=>gV (.str x)
 | .bytes b _=>gV (.byt b)
 | .float b _=>gV (.flt b)
 | .ref a=>gV (.ref a)
 | .type n=>gV (.ty n)
 | _=>td
theorem RelV.abs {x:V}{u:JB}(r:RelV x u):HH u=gV x:=by
 cases x with
 | non=>cases r; rfl
 | bl _=>cases r; rfl
 | int _=>obtain⟨t,rfl⟩:=r; rfl
 | str _=>obtain⟨t,rfl⟩:=r; rfl
 | byt _=>obtain⟨t,rfl⟩:=r; rfl
 | flt _=>obtain⟨t,rfl⟩:=r; rfl
 | ref _=>cases r; rfl
 | ty _=>cases r; rfl
theorem RelV.inj {x y:V}{u:JB}(r:RelV x u)(q:RelV y u):x=y:=K5 (r.abs.symm.trans q.abs)
theorem Vals.inj:∀ {xs ys:Jy V} {us:Jy JB},Vals xs us->Vals ys us->xs=ys
 | _,_,_,.nil,.nil=>rfl
 | _,_,_,.cons r t,.cons r' t'=>by rw[r.inj r',Vals.inj t t']
section
variable{X:Cx}{pins:Jy (JK×Ll)}{σ:St}{H:Hp}{s:JD}{a:JK}{xs ys:Jy V}
theorem SqL.of {K:JP}(h:H a=gV (.lst xs)):SqL K H a xs:=.inl (.inl h)
theorem SqT.of {K:JP}(h:H a=gV (.tup xs)):SqT K H a xs:=.inl (.inl h)
theorem Inv.list (I:Inv X pins σ H s)(h:SqL X.K H a xs):∃its:Jy JB,Vals xs its/\PlainL s.heap a its.toArray/\xs.length<=sizeLine:=by
 rcases h with h|⟨o,its,n,hk,hc,hd,hs,hz,r⟩
 ·obtain⟨z,its,n,r,e⟩:=h.ok I.hok;exact⟨its,r,⟨_,n,e,rfl,rfl,rfl⟩,z⟩
 ·refine⟨its.toList,r,⟨o,n,I.kIn a o hk,hc,hd,by simpa using hs⟩,?_⟩
  have e:=r.length;simp only[Kr]at e;omega
theorem Inv.tuple (I:Inv X pins σ H s)(h:SqT X.K H a xs):∃its:Jy JB,Vals xs its/\Ps s.heap a its.toArray/\xs.length<=sizeLine:=by
 rcases h with h|⟨o,its,n,hk,hc,hd,hs,hz,r⟩
 ·obtain⟨z,its,r,p⟩:=h.ok I.hok;exact⟨its,r,p,z.1⟩
 ·refine⟨its.toList,r,⟨o,I.kIn a o hk,hc,n,by simpa using hs⟩,?_⟩
  have e:=r.length;simp only[Kr]at e;omega
theorem Inv.list_inj (I:Inv X pins σ H s)(h:SqL X.K H a xs)(h':SqL X.K H a ys):xs=ys:=by
 obtain⟨its,r,⟨o,n,e,_,_,d⟩,_⟩:=I.list h;obtain⟨its',r',⟨o',n',e',_,_,d'⟩,_⟩:=I.list h';rw[e]at e'; cases e'
 rw[d]at d';injection d' with d1 _
 have:its=its':=by simpa using congrArg Rl d1
 subst this;exact r.inj r'
theorem Inv.tuple_inj (I:Inv X pins σ H s)(h:SqT X.K H a xs)(h':SqT X.K H a ys):xs=ys:=by
 obtain⟨its,r,⟨o,e,_,n,d⟩,_⟩:=I.tuple h;obtain⟨its',r',⟨o',e',_,n',d'⟩,_⟩:=I.tuple h';rw[e]at e'; cases e'
 rw[d]at d';injection d' with d1 _
 have:its=its':=by simpa using congrArg Rl d1
 subst this;exact r.inj r'
end
noncomputable abbrev Cx.wish (X:Cx)(E:JB->JD->Prop):Cx:={ X with xe:=E }
noncomputable abbrev Cx.nox (X:Cx):Cx:=X.wish λ_ _=>KZ
theorem Cx.Ok.wish {X:Cx}(ok:X.Ok)(E:JB->JD->Prop):(X.wish E).Ok:=
 ⟨ok.mod,ok.kind,ok.glob,ok.blt,ok.above,ok.inj,ok.has,ok.cab,ok.hd,ok.frames,ok.stk,ok.exf,ok.bs,ok.bsz,ok.noex,ok.exfs,ok.funs,ok.frf⟩
theorem Cx.Ok.unwish {X:Cx}{E:JB->JD->Prop}(ok:(X.wish E).Ok):X.Ok:=
 ⟨ok.mod,ok.kind,ok.glob,ok.blt,ok.above,ok.inj,ok.has,ok.cab,ok.hd,ok.frames,ok.stk,ok.exf,ok.bs,ok.bsz,ok.noex,ok.exfs,ok.funs,ok.frf⟩
section
variable{X:Cx}{pins:Jy (JK×Ll)}{σ:St}{H:Hp}{s:JD}{E:JB->JD->Prop}
theorem Inv.wish (I:Inv X pins σ H s)(E:JB->JD->Prop):Inv (X.wish E) pins σ H s:=⟨I.ok.wish E,I.os,I.bare,I.base,I.loc,I.cell,I.free,I.freeC,I.pin,I.hok,I.len⟩
theorem Inv.unwish (I:Inv (X.wish E) pins σ H s):Inv X pins σ H s:=⟨I.ok.unwish,I.os,I.bare,I.base,I.loc,I.cell,I.free,I.freeC,I.pin,I.hok,I.len⟩
theorem SP.unwish {D:Ends}{f:Flow}{s':JD}(h:SP (X.wish E) pins D f s'):SP X pins D f s':=by
 cases f with
 | next=>obtain⟨σ',H',I,q⟩:=h; exact⟨σ',H',I.unwish,q⟩
 | brk=>obtain⟨σ',H',I,q⟩:=h; exact⟨σ',H',I.unwish,q⟩
 | cont=>obtain⟨σ',H',I,q⟩:=h; exact⟨σ',H',I.unwish,q⟩
 | ret u=>obtain⟨v,σ',H',I,r,q⟩:=h; exact⟨v,σ',H',I.unwish,r,q⟩
theorem PSs.nox {st:Jy Mg}{t:TS}(h:PSs X.nox st t):PSs X st t:=λpins s σ H D I hw=>
 Lu (h pins s σ H D (I.wish _) hw) (λ_ _ q=>q.unwish) λ_ _ z=>KZ.elim z
end
section
variable{X:Cx}{st:Mg}{dc:Jy Mg}{t u:TS}{e:J9}{te:TE}{pos:L0}
noncomputable def xk:TS:=λD σ H=>D.nx σ H
noncomputable def HI (t u:TS):TS:=λD σ H=>t { D with nx:=u D } σ H
theorem Az:PSs X [] xk:=λ_ _ σ H _ I h=>Om ⟨σ,H,I,h⟩
theorem xm (h1:PS X st t)(h2:PSs X dc u):PSs X (st::dc) (HI t u):=by
 intro pins s σ H D I h;refine wpAny_execs_cons (cu (h1 pins s σ H { D with nx:=u D } I h) λf s1 q=>?_)
 cases f with
 | next=>
  obtain⟨σ',H',I',q⟩:=q;exact h2 pins s1 σ' H' D I' q
 | ret v=>exact q
 | brk=>exact q
 | cont=>exact q
noncomputable def DF:TS:=λD σ H=>D.bk σ H
noncomputable def FL:TS:=λD σ H=>D.ct σ H
theorem AA:PS X (.Pass pos) xk:=λ_ _ σ H _ I h=>wpAny_Pass ⟨σ,H,I,h⟩
theorem xn:PS X (.Break pos) DF:=λ_ _ σ H _ I h=>wpAny_Break ⟨σ,H,I,h⟩
theorem qh:PS X (.Continue pos) FL:=λ_ _ σ H _ I h=>wpAny_Continue ⟨σ,H,I,h⟩
theorem Inv.quiet {pins:Jy (JK×Ll)}{σ:St}{H:Hp}{s:JD}(I:Inv X pins σ H s):interactive X.env=false:=by simp[interactive,I.ok.kind]
theorem DG {x j pos pos'}:PS X (.Expr (.Constant (.str x) j pos) pos') xk:=λ_ s σ H _ I h=>wpAny_Expr (Pc (show SP X _ _ .next { s with toks:=s.toks+1 } from⟨σ,H,I.tok _,h⟩)) I.quiet
noncomputable def FM (te:TE):TS:=λD σ H=>te σ H λ_ H1=>D.nx σ H1
theorem AB (he:PE X e te)(hs:swapsWith e td pos.line X.env=pure false:=by rfl):PS X (.Expr e pos) (FM te):=by
 intro pins s σ H D I h;exact wpAny_Expr_any (cu (he pins s σ H _ I h) λv s1 ⟨x,H1,I1,r1,q1⟩=>⟨σ,H1,I1,q1⟩) I.quiet hs
noncomputable def HJ (te:TE):TS:=λD σ H=>te σ H D.rt
theorem DH (he:PE X e te):PS X (.Return (gV e) pos) (HJ te):=by
 intro pins s σ H D I h;exact wpAny_Return_some (cu (he pins s σ H _ I h) λv s1 ⟨x,H1,I1,r1,q1⟩=>⟨x,σ,H1,I1,r1,q1⟩)
noncomputable def FN:TS:=λD _ H=>D.rt .non H
theorem AC:PS X (.Return td pos) FN:=λ_ _ σ H _ I h=>wpAny_Return_none ⟨.non,σ,H,I,rfl,h⟩
noncomputable def HK (c:TT)(t u:TS):TS:=λD σ H=>c σ H λb H1=>if b=true then t D σ H1 else u D σ H1
theorem FP {c:J9}{a b:Jy Mg}{tc:TT}(hc:PT X c tc)(ha:PSs X a t)(hb:PSs X b u):PS X (.If c a b pos) (HK tc t u):=by
 intro pins s σ H D I h;refine wpAny_If (cu (hc pins s σ H _ I h) λd s1 ⟨H1,I1,q1⟩=>?_)
 cases d with
 | true=>exact ha pins s1 σ H1 D I1 q1
 | false=>exact hb pins s1 σ H1 D I1 q1
end
noncomputable abbrev TG:=V->St->Hp->(St->Hp->Prop)->Prop
noncomputable abbrev DI:=Jy V->St->Hp->(St->Hp->Prop)->Prop
noncomputable def PG (X:Cx)(target:J9)(t:TG):Prop:=
 ∀(pins:Jy (JK×Ll)) (s:JD) (σ:St) (H:Hp) (v:V) (u:JB) (Q:St->Hp->Prop),Inv X pins σ H s->RelV v u->t v σ H Q->
  wpAny (model X.prog X.w) X.A (assign target X.env u) (λ_ s'=>∃σ' H',Inv X pins σ' H' s'/\Q σ' H') X.xe s
noncomputable def FQ (X:Cx)(ts:Jy J9)(t:DI):Prop:=
 ∀(pins:Jy (JK×Ll)) (s:JD) (σ:St) (H:Hp) (vs:Jy V) (us:Jy JB) (Q:St->Hp->Prop),Inv X pins σ H s->Vals vs us->t vs σ H Q->
  wpAny (model X.prog X.w) X.A (assignInOrder ((assignEach ts X.env).map (·.2)) us) (λ_ s'=>∃σ' H',Inv X pins σ' H' s'/\Q σ' H') X.xe s
noncomputable abbrev DJ:=V->V->V->Hp->(Hp->Prop)->Prop
noncomputable def DK (X:Cx)(t:DJ):Prop:=
 ∀(pins:Jy (JK×Ll)) (s:JD) (σ:St) (H:Hp) (o i v:V) (ov iv u:JB) (Q:Hp->Prop),Inv X pins σ H s->RelV o ov->RelV i iv->RelV v u->t o i v H Q->
  wpAny (model X.prog X.w) X.A (setItem ov iv u) (λ_ s'=>∃H',Inv X pins σ H' s'/\Q H') X.xe s
section
variable{X:Cx}{pos:L0}
noncomputable def FR (i:JF):TG:=λv σ H Q=>Q (σ.set i (gV v)) H
theorem tN {i:JF}{x:JZ}(hN:X.N.Nodup)(hi:X.N[i]?=gV x)(hx:Aw X.env.scope x)(hf:X.fn x=true\/X.env.scope.names.lookup x=gV .local):PG X (.Name x pos) (FR i):=by
 intro pins s σ H v u Q I r h;exact Pw (i4 I hN hi hx r (λs' I'=>⟨_,H,I',h⟩) hf)
noncomputable def HL:DI:=λvs σ H Q=>vs=[]/\Q σ H
noncomputable def FU (t:TG)(u:DI):DI:=λvs σ H Q=>∃v r,vs=v::r/\t v σ H λσ' H'=>u r σ' H' Q
theorem AD:FQ X [] HL:=by
 intro pins s σ H vs us Q I r h;obtain⟨e,h⟩:=h;subst e;cases r;exact Px ⟨σ,H,I,h⟩
theorem xo {e:J9}{es:Jy J9}{t:TG}{u:DI}(h1:PG X e t)(h2:FQ X es u)
  (hs:(assignEach (e::es) X.env).map (·.2)=assign e X.env::(assignEach es X.env).map (·.2):=by rfl):FQ X (e::es) (FU t u):=by
 intro pins s σ H vs us Q I r h;obtain⟨v,vr,e1,h⟩:=h;subst e1;cases r with
 | cons r rr=>
  rw[hs];refine Nz (cu (h1 pins s σ H _ _ _ I r h) λ_ s1 ⟨σ1,H1,I1,q1⟩=>?_)
  exact h2 pins s1 σ1 H1 _ _ Q I1 rr q1
noncomputable def HM (K:JP)(n:JF)(t:DI):TG:=λv σ H Q=>∃a xs,v=.ref a/\SqT K H a xs/\xs.length=n/\t xs σ H Q
theorem DL {es:Jy J9}{k:JF}{t:DI}{n:JF}(hc:X.calm=true)(h:FQ X es t)
  (hn:(assignEach es X.env).length=n:=by rfl) (hst:(assignEach es X.env).findIdx? (·.1)=td:=by rfl):PG X (.Tuple es k pos) (HM X.K n t):=by
 intro pins s σ H v u Q I r hw;obtain⟨a,xs,e1,hq,hl,hw⟩:=hw;subst e1;cases r;obtain⟨its,rv,ht,hz⟩:=I.tuple hq;refine assign_Tuple_tuple (I.ok.hd hc) ht (by simp[hn,<- hl,rv.length]) hst λh' hx=>?_
 have I1:Inv X pins σ H { s with heap:=h' }:=I.kept (t':=s.toks) λb o e=>hx b o (Kj (J2 e)) e
 exact h pins _ σ H xs _ Q I1 (by simpa using rv) hw
noncomputable def HN (to ti:TE)(t:DJ):TG:=λv σ H Q=>to σ H λo H1=>ti σ H1 λi H2=>t o i v H2 λH3=>Q σ H3
theorem DM {o i:J9}{to ti:TE}{t:DJ}(ho:PE X o to)(hi:PE X i ti)(hs:DK X t)
  (ha:∀v,assign (.Subscript o i pos) X.env v=(do
   let ov <- holding [v] (eval o X.env)
   let iv <- holding [v,ov] (eval i X.env)
   standAt pos
   holding [v,ov,iv] (setItem ov iv v)
   release [v,ov,iv] []):=by intro _; rfl):PG X (.Subscript o i pos) (HN to ti t):=by
 intro pins s σ H v u Q I r h;rw[ha];refine JA (Lk (cu (ho pins s σ H _ I h) λov s1 ⟨x,H1,I1,r1,q1⟩=>?_))
 refine JA (Lk (cu (hi pins s1 σ H1 _ I1 q1) λiv s2 ⟨y,H2,I2,r2,q2⟩=>?_))
 refine JA (Ni (JA (Lk (cu (hs pins s2 σ H2 x y v ov iv u _ I2 r1 r2 r q2) λ_ s3 ⟨H3,I3,q3⟩=>?_))))
 exact wpAny_release ⟨σ,H3,I3,q3⟩
noncomputable def HP (te:TE)(g:TG):TS:=λD σ H=>te σ H λx H1=>g x σ H1 D.nx
theorem DN {tg e:J9}{te:TE}{g:TG}(he:PE X e te)(hg:PG X tg g)(hs:swapsWithSole [tg] e pos.line X.env=pure false:=by rfl)(hw:swappedStores [tg] e X.env=pure td:=by rfl)
  (h1:(assignEach [tg] X.env).map (·.2)=[assign tg X.env]:=by rfl):PS X (.Assign [tg] e pos) (HP te g):=by
 intro pins s σ H D I h;refine wpAny_Assign_stores (cu (he pins s σ H _ I h) λv s1 ⟨x,H1,I1,r1,q1⟩=>?_) hs hw
 rw[h1];exact cu (hg pins s1 σ H1 x v _ I1 r1 q1) λ_ s2 q=>q
noncomputable def HQ (i j:JF)(ta:TA):TS:=λD σ H=>ta σ H λvs H1=>∃v w,vs=[v,w]/\D.nx ((σ.set i (gV v)).set j (gV w)) H1
theorem DO {i j:JF}{x y:JZ}{a b:J9}{ta:TA}{px py pt:L0}{kt k2 pt2}(hc:X.calm=true)(hN:X.N.Nodup)(hi:X.N[i]?=gV x)(hj:X.N[j]?=gV y)(hij:i≠j)
  (hx:X.env.scope.names.lookup x=gV .local) (hy:X.env.scope.names.lookup y=gV .local) (ha:PA X [a,b] ta)
  (hw:swappedStores [.Tuple [.Name x px,.Name y py] kt pt] (.Tuple [a,b] k2 pt2) X.env=pure (gV [x,y]))
  (hs:swapsWithSole [.Tuple [.Name x px,.Name y py] kt pt] (.Tuple [a,b] k2 pt2) pos.line X.env=pure false:=by rfl) :
  PS X (.Assign [.Tuple [.Name x px,.Name y py] kt pt] (.Tuple [a,b] k2 pt2) pos) (HQ i j ta):=by
 intro pins s σ H D I h;rw[exec_Assign_arm];refine JA (Ni ?_);rw[hs];refine JA (JM ?_);rw[Ku (by decide)]
 refine JA (Tuple_ (cu (ha _ pins s σ H _ I h) λus s1 ⟨vs,H1,I1,r1,q1⟩=>?_))
 obtain⟨v,w,e1,q1⟩:=q1;subst e1;obtain⟨u1,u2,rfl,rv,rw'⟩ : ∃u1 u2,us=[u1,u2]/\RelV v u1/\RelV w u2:=by
  cases r1 with
  | cons p q=>
   cases q with
   | cons p' q'=>
    cases q';exact⟨_,_,rfl,p,p'⟩
 refine KI ?_ (by show 2<=sizeLine; decide)
 have I2:Inv X pins σ H1 { s1 with heap:=s1.heap.push { cls:=.type "tuple",data:=.seq [u1,u2].toArray } }:=I1.kept (t':=s1.toks) λb o e=>JI _ e
 rw[hw];refine JA (JM ?_);show wpAny (model X.prog X.w) X.A (do rule "assign.swapped-stores"; let items <- unpackItems (.ref s1.heap.objs.size) 2 td; assignInOrder [λv=>bindName X.env y v,λv=>bindName X.env x v] items.reverse; pure R6) _ _ _
 refine JA (Pd (JA (unpackItems_tuple (items:=[u1,u2].toArray) (I.ok.hd hc) (P2 s1.heap _) λh' hx'=>?_)))
 have I3:=I2.kept (h':=h') (t':=s1.toks) λb o e=>hx' b o (Kj (J2 e)) e
 show wpAny _ _ (assignInOrder [λv=>bindName X.env y v,λv=>bindName X.env x v] [u2,u1] >>= λ_=>pure R6) _ _ _
 refine JA (Nz (Qx (i4 I3 hN hj (.inl hy) rw' (λs2 I4=>?_) (.inr hy))))
 refine Nz (Qx (i4 I4 hN hi (.inl hx) rv (λs3 I5=>Px (JM ?_)) (.inr hx)))
 rw[List.set_comm _ _ (Ne.symm hij)]at I5;exact⟨_,H1,I5,q1⟩
end
section
variable{X:Cx}{pos:L0}
noncomputable def DP (c:TT)(tb:TS):TS:=λD σ H=>∃W:JF->St->Hp->Prop,(∃m,W m σ H)/\∀m σ H,W m σ H->
 c σ H λb H1=>if b=true then ∃N:St->Hp->Prop,(∀σ' H',N σ' H'->∃m',m' < m/\W m' σ' H')/\tb { D with nx:=N,ct:=N,bk:=D.nx } σ H1 else D.nx σ H1
theorem xp {c:J9}{body:Jy Mg}{tc:TT}{tb:TS}(hp:OT (model X.prog X.w) X.A X.env X.xe)(hc:PT X c tc)(hb:PSs X body tb):PS X (.While c body [] pos) (DP tc tb):=by
 intro pins s σ H D I h;obtain⟨W,⟨m0,w0⟩,turn⟩:=h;refine wpAny_While (codeAny_whileLoop (λn s'=>∃σ' H',Inv X pins σ' H' s'/\W n σ' H') ?_ m0 ⟨σ,H,I,w0⟩)
 rintro n s1 ⟨σ1,H1,I1,w1⟩;refine L6 hp (cu (hc pins s1 σ1 H1 _ I1 (turn n σ1 H1 w1)) λb s2 ⟨H2,I2,q2⟩=>?_)
 cases b with
 | true=>
  obtain⟨N,hN,q2⟩:=q2;rw[Kd rfl];refine L6 hp (cu (hb pins s2 σ1 H2 _ I2 q2) λf s3 q3=>?_)
  cases f with
  | next=>
   obtain⟨σ3,H3,I3,n3⟩:=q3;obtain⟨m',hm,w3⟩:=hN σ3 H3 n3;exact⟨m',hm,σ3,H3,I3,w3⟩
  | cont=>
   obtain⟨σ3,H3,I3,n3⟩:=q3;obtain⟨m',hm,w3⟩:=hN σ3 H3 n3;exact⟨m',hm,σ3,H3,I3,w3⟩
  | brk=>exact q3
  | ret v=>exact q3
 | false=>
  rw[Ku J5];exact Om ⟨σ1,H2,I2,q2⟩
end
structure It where
 go:JF->Hp->Prop
 yld:JF->Hp->V->Hp->Prop
 stop:JF->Hp->Prop
noncomputable def jI (X:Cx)(pins:Jy (JK×Ll))(H:Hp)(b:JK):Prop:=
 H b=td/\b≠X.env.locals/\b∉X.fs/\(b∈X.ex\/X.s₀.heap.objs.size<=b)/\(∀x c,X.env.cells.lookup x=gV c->c≠b)/\∀p∈X.pn++pins,p.1≠b
theorem Inv.fpOk {X:Cx}{pins:Jy (JK×Ll)}{σ:St}{H H':Hp}{s:JD}{b:JK}(I:Inv X pins σ H s)(hb:s.heap.objs.size<=b)(hn:H' b=td):jI X pins H' b:=by
 refine⟨hn,Mp (Kg I.lt hb),I.nofs hb,.inr (J8 I.sz hb),λx c e z=>?_,λp hp z=>?_⟩
 ·obtain⟨v,q⟩:=I.cell x c e;exact absurd (Kg q.lt (by rw[z]; exact hb)) (KQ _)
 ·exact absurd (Kg (J2 (I.pin p hp).1) (by rw[z]; exact hb)) (KQ _)
structure Turn (P:Ki)(w:Kv)(K:JP)(tg:J9)(J:It)(fp:Jy JK)(it:JK)(tn:JF->KH->Prop):Prop where
 mem:it∈fp
 obj:∀i h,tn i h->∀b∈fp,∃o,h.get? b=gV o/\∀v,o.data≠.cell v
 keep:∀i h h',tn i h->(∀b∈fp,∀o,h.get? b=gV o->h'.get? b=gV o)->tn i h'
 item:∀(X:Cx),X.prog=P->X.w=w->X.K=K->X.calm=true->∀(i:JF) (pins:Jy (JK×Ll)) (s:JD) (σ:St) (H:Hp) (E:JB->JD->Prop),Inv X pins σ H s->(∀b∈fp,jI X pins H b)->tn i s.heap->J.go i H->
  wpAny (model P w) X.A (pyNext (.ref it)) (λr s1=>∃u,r=gV u/\
   wpAny (model P w) X.A (letOwnedTupleGo tg (.ref it) u) (λ_ s2=>∃x H',Inv X pins σ H' s2/\RelV x u/\J.yld i H x H'/\tn (i+1) s2.heap/\∀b∈fp,H' b=td) E s1) E s
 done:∀(X:Cx),X.prog=P->X.w=w->X.K=K->X.calm=true->∀(i:JF) (pins:Jy (JK×Ll)) (s:JD) (σ:St) (H:Hp) (E:JB->JD->Prop),Inv X pins σ H s->(∀b∈fp,jI X pins H b)->tn i s.heap->J.stop i H->
  wpAny (model P w) X.A (pyNext (.ref it)) (λr s1=>r=td/\Inv X pins σ H s1) E s
 self:∀(A:Ks) (i:JF) (s:JD) (Q:JB->JD->Prop) (E:JB->JD->Prop),tn i s.heap->Q (.ref it) s->wpAny (model P w) A (pyIter (.ref it)) Q E s
noncomputable abbrev TI:=St->Hp->(It->Hp->Prop)->Prop
noncomputable def Hu (X:Cx)(pins:Jy (JK×Ll))(σ:St)(tg:J9)(R:It->Hp->Prop)(itv:JB)(s2:JD):Prop:=
 ∃(it:JK) (fp:Jy JK) (tn:JF->KH->Prop) (J:It) (H':Hp),itv=.ref it/\Inv X pins σ H' s2/\Turn X.prog X.w X.K tg J fp it tn/\tn 0 s2.heap/\(∀b∈fp,jI X pins H' b)/\R J H'
noncomputable def PI (X:Cx)(tg iter:J9)(wi:TI):Prop:=
 ∀(pins:Jy (JK×Ll)) (s:JD) (σ:St) (H:Hp) (R:It->Hp->Prop),Inv X pins σ H s->wi σ H R->
  wpAny (model X.prog X.w) X.A (eval iter X.env) (λv s1=>wpAny (model X.prog X.w) X.A (pyIter v) (Hu X pins σ tg R) X.xe s1) X.xe s
theorem tP {M:R0}{A:Ks}{E:JB->JD->Prop}{s:JD}{tg:J9}{it:JK}{u:JB}{o:Ll}{n:K8}{vs:KD JB}{Q:Unit->JD->Prop}(ho:s.heap.get? it=gV o)(hc:o.cls=.type n)(hd:o.data=.fields vs)
    (hn:["enumerate","zip","dict_itemiterator","dict_reverseitemiterator","odict_iterator","itertools.zip_longest","itertools.pairwise"].contains n=false) (hQ:Q () s):wpAny M A (letOwnedTupleGo tg (.ref it) u) Q E s:=by
  unfold letOwnedTupleGo;cases tg <;> first
    | exact JM hQ
    | (cases u <;> first
        | exact JM hQ
        | (refine JA (Pe ho ?_)
           rw[hc,hd];show wpAny M A (if (["enumerate","zip","dict_itemiterator","dict_reverseitemiterator","odict_iterator","itertools.zip_longest","itertools.pairwise"].contains n&&vs[0]?==gV (rawInt _))=true then _ else _) Q E s
           rw[Ku (by intro h; rw[hn,Bool.false_and]at h; cases h)]
           exact JM hQ))
noncomputable def HR (K:JP)(a:JK):It:=
 ⟨λi H=>∃xs x,SqL K H a xs/\xs[i]?=gV x,λi H x H'=>H'=H/\∀xs,SqL K H a xs->xs[i]?=gV x,λi H=>∃xs,SqL K H a xs/\xs.length<=i⟩
noncomputable def Fo (K:JP)(a:JK):It:=
 ⟨λi H=>∃xs x,SqT K H a xs/\xs[i]?=gV x,λi H x H'=>H'=H/\∀xs,SqT K H a xs->xs[i]?=gV x,λi H=>∃xs,SqT K H a xs/\xs.length<=i⟩
noncomputable def FV (lo:JL)(n:JF):It:=⟨λi _=>i < n,λi H x H'=>H'=H/\x=.int (lo+i),λi _=>n<=i⟩
theorem vn {P:Ki}{w:Kv}{K:JP}{tg:J9}(a it:JK):Turn P w K tg (HR K a) [it] it (λi h=>h.IsListIter it a i) where
 mem:=by simp
 obj:=λi h st b hb=>by
  have e:b=it:=by simpa using hb
  subst e;obtain⟨o,e,c,d⟩:=st;exact⟨o,e,λv z=>by rw[d]at z; cases z⟩
 keep:=λi h h' st k=>st.at λo e=>k it (by simp) o e
 item:=by
  intro X hP hw hK hc i pins s σ H E I hf st hg;subst hP hw hK;obtain⟨xs,x,hq,hx⟩:=hg;obtain⟨its,rv,p,hz⟩:=I.list hq;obtain⟨u,hu,ru⟩:=rv.get hx;obtain⟨f0,f1,f2,f3,f4,f5⟩:=hf it (by simp)
  refine wpAny_pyNext_list_item st p.isList (x:=u) (by simpa using hu) λh' st' sb=>?_
  have I1:Inv X pins σ H { s with heap:=h' }:=I.turned (t':=s.toks) (λb o hb e=>(sb.2 b hb).trans e) f0 f1 f3 f4 f5
  obtain⟨o,e,c,d⟩:=id st';exact⟨u,rfl,tP (s:={ s with heap:=h' }) e c d (by decide) ⟨x,H,I1,ru,⟨rfl,λys hy=>by rw[I.list_inj hy hq]; exact hx⟩,st',λb hb=>(hf b hb).1⟩⟩
 done:=by
  intro X hP hw hK hc i pins s σ H E I hf st hg;subst hP hw hK;obtain⟨xs,hq,hx⟩:=hg;obtain⟨its,rv,p,hz⟩:=I.list hq;obtain⟨f0,f1,f2,f3,f4,f5⟩:=hf it (by simp)
  have hl:=rv.length;exact wpAny_pyNext_list_end (I.ok.hd hc) st p.isList (by simp; omega) λh' eb=>⟨rfl,I.turned (t':=s.toks) (λb o hb e=>eb b o hb e) f0 f1 f3 f4 f5⟩
 self:=λ_ _ _ _ _ st h=>wpAny_pyIter_listiter st h
theorem sg {P:Ki}{w:Kv}{K:JP}{tg:J9}(a it:JK):Turn P w K tg (Fo K a) [it] it (λi h=>h.IsTupleIter it a i) where
 mem:=by simp
 obj:=λi h st b hb=>by
  have e:b=it:=by simpa using hb
  subst e;obtain⟨o,e,c,d⟩:=st;exact⟨o,e,λv z=>by rw[d]at z; cases z⟩
 keep:=λi h h' st k=>st.at λo e=>k it (by simp) o e
 item:=by
  intro X hP hw hK hc i pins s σ H E I hf st hg;subst hP hw hK;obtain⟨xs,x,hq,hx⟩:=hg;obtain⟨its,rv,p,hz⟩:=I.tuple hq;obtain⟨u,hu,ru⟩:=rv.get hx;obtain⟨f0,f1,f2,f3,f4,f5⟩:=hf it (by simp)
  refine wpAny_pyNext_tuple_item st (show s.heap.IsTuple a its.toArray from p) (x:=u) (by simpa using hu) λh' st' sb=>?_
  have I1:Inv X pins σ H { s with heap:=h' }:=I.turned (t':=s.toks) (λb o hb e=>(sb.2 b hb).trans e) f0 f1 f3 f4 f5
  obtain⟨o,e,c,d⟩:=id st';exact⟨u,rfl,tP (s:={ s with heap:=h' }) e c d (by decide) ⟨x,H,I1,ru,⟨rfl,λys hy=>by rw[I.tuple_inj hy hq]; exact hx⟩,st',λb hb=>(hf b hb).1⟩⟩
 done:=by
  intro X hP hw hK hc i pins s σ H E I hf st hg;subst hP hw hK;obtain⟨xs,hq,hx⟩:=hg;obtain⟨its,rv,p,hz⟩:=I.tuple hq;obtain⟨f0,f1,f2,f3,f4,f5⟩:=hf it (by simp)
  have hl:=rv.length;exact wpAny_pyNext_tuple_end (I.ok.hd hc) st (show s.heap.IsTuple a its.toArray from p) (by simp; omega) λh' eb=>⟨rfl,I.turned (t':=s.toks) (λb o hb e=>eb b o hb e) f0 f1 f3 f4 f5⟩
 self:=λ_ _ _ _ _ st h=>wpAny_pyIter_tupleiter st h
theorem sh {P:Ki}{w:Kv}{K:JP}{tg:J9}(it:JK)(lo:JL)(n:JF):Turn P w K tg (FV lo n) [it] it (λi h=>Rw h it (lo+(i:JF)*1) ((n:JL) - (i:JF)) 1) where
 mem:=by simp
 obj:=λi h st b hb=>by
  have e:b=it:=by simpa using hb
  subst e;exact⟨_,st,λv z=>by
   have z':Data.fields _=Data.cell v:=z;cases z'⟩
 keep:=λi h h' st k=>k it (by simp) _ st
 item:=by
  intro X hP hw hK hc i pins s σ H E I hf st hg;subst hP hw hK;obtain⟨f0,f1,f2,f3,f4,f5⟩:=hf it (by simp)
  have W:=Walks.range (prog:=X.prog) (w:=X.w) (I.ok.hd hc) it lo 1 n;refine W.item i s _ _ hg st λv h' tk hv st' kk=>?_
  obtain⟨t,rfl⟩:=hv;have I1:Inv X pins σ H { s with heap:=h',toks:=tk }:=I.turned (λb o hb e=>kk b o (by simpa using hb) e) f0 f1 f3 f4 f5
  refine⟨_,rfl,tP (s:={ s with heap:=h',toks:=tk }) (n:="range_iterator") st' rfl rfl (by decide) ⟨.int (lo+i),H,I1,⟨t,?_⟩,⟨rfl,rfl⟩,st',λb hb=>(hf b hb).1⟩⟩
  rw[Int.mul_one]
 done:=by
  intro X hP hw hK hc i pins s σ H E I hf st hg;subst hP hw hK;obtain⟨f0,f1,f2,f3,f4,f5⟩:=hf it (by simp)
  exact wpAny_pyNext_range_end (I.ok.hd hc) st (by have:n<=i:=hg; omega) λh' eb=>⟨rfl,I.turned (t':=s.toks) (λb o hb e=>eb b o hb e) f0 f1 f3 f4 f5⟩
 self:=λ_ _ _ _ _ st h=>wpAny_pyIter_rangeiter st h
section
variable{X:Cx}{tg:J9}
theorem qi {pins:Jy (JK×Ll)}{σ:St}{H:Hp}{s:JD}{R:It->Hp->Prop}{E:JB->JD->Prop}{lo hi:JL}{t u v:Si}{tk:JF}(I:Inv X pins σ H s)(h1 : -(2 ^ 62)<=lo)(h2:lo < 2 ^ 62)(h3 : -(2 ^ 62)<=hi)(h4:hi < 2 ^ 62)
  (q:R (FV lo (hi - lo).toNat) H):wpAny (model X.prog X.w) X.A (pyIter (.ref s.heap.objs.size)) (Hu X pins σ tg R) E { s with heap:=s.heap.push { cls:=.type "range",data:=.fields [.int lo t,.int hi u,.int 1 v].toArray },toks:=tk }:=by
 refine wpAny_pyIter_range (IsRange.new ..) (Ri h1 h2 h3 h4) ?_;have I1:Inv X pins σ H { s with heap:=s.heap.push { cls:=.type "range",data:=.fields [.int lo t,.int hi u,.int 1 v].toArray },toks:=tk }:=I.kept λb o e=>JI _ e
 refine⟨(s.heap.push { cls:=.type "range",data:=.fields [.int lo t,.int hi u,.int 1 v].toArray }).objs.size,[(s.heap.push { cls:=.type "range",data:=.fields [.int lo t,.int hi u,.int 1 v].toArray }).objs.size],_,_,H,rfl,
  I1.kept (t':=tk) λb o e=>JI _ e,sh _ lo (hi - lo).toNat,?_,λb hb=>?_,q⟩
 ·have e1:lo+((0:JF):JL)*1=lo:=by simp
  have e2:(((hi - lo).toNat:JF):JL) - ((0:JF):JL)=Lw lo hi 1:=by rw[O3]; split <;> omega
  show Rw _ _ (lo+((0:JF):JL)*1) ((((hi - lo).toNat:JF):JL) - ((0:JF):JL)) 1;rw[e1,e2];exact J1 _ rfl
 ·have e:b=(s.heap.push { cls:=.type "range",data:=.fields [.int lo t,.int hi u,.int 1 v].toArray }).objs.size:=by simpa using hb
  subst e;exact I1.fpOk (JO _) (I1.hok.fresh (JO _))
noncomputable def FW (ta:TA):TI:=λσ H R=>ta σ H λvs H1=>∃j:JL,vs=[.int j]/\-(2 ^ 62)<=j/\j < 2 ^ 62/\R (FV 0 j.toNat) H1
noncomputable def iRng2 (ta:TA):TI:=λσ H R=>ta σ H λvs H1=>∃i j:JL,vs=[.int i,.int j]/\(-(2 ^ 62)<=i/\i < 2 ^ 62/\-(2 ^ 62)<=j/\j < 2 ^ 62)/\R (FV i (j - i).toNat) H1
theorem vo {a:J9}{ta:TA}{p pos:L0}(hg:Gl X "range")(hm:X.mg "range" = td)(ha:PA X [a] ta)(hs:starEach [a] X.env=[(false,eval a X.env)]:=by rfl):PI X tg (.Call (.Name "range" p) [a] [] pos) (FW ta):=by
 intro pins s σ H R I h;refine Call_ (jH I hg hm boot_range (LR (cu (ha pos pins s σ H _ I h) λus s1 ⟨vs,H1,I1,r1,q1⟩=>?_) hs rfl))
 obtain⟨j,e,q1,q2,q⟩:=q1;subst e;cases r1 with
 | cons r rr=>
  cases rr;obtain⟨t,rfl⟩:=r;exact Rm (qi I1 (by omega) (by omega) q1 q2 (by simpa using q))
theorem vp {a b:J9}{ta:TA}{p pos:L0}(hg:Gl X "range")(hm:X.mg "range" = td)(ha:PA X [a,b] ta)(hs:starEach [a,b] X.env=[(false,eval a X.env),(false,eval b X.env)]:=by rfl)(hs2:starEach [b] X.env=[(false,eval b X.env)]:=by rfl) :
  PI X tg (.Call (.Name "range" p) [a,b] [] pos) (iRng2 ta):=by
 intro pins s σ H R I h;refine Call_ (jH I hg hm boot_range (LR (cu (ha pos pins s σ H _ I h) λus s1 ⟨vs,H1,I1,r1,q1⟩=>?_) (by rw[hs,hs2]) (by rw[hs2]; rfl)))
 obtain⟨i,j,e,⟨q1,q2,q3,q4⟩,q⟩:=q1;subst e;cases r1 with
 | cons r rr=>
  cases rr with
  | cons r' rr=>
   cases rr;obtain⟨t,rfl⟩:=r;obtain⟨t',rfl⟩:=r';exact call_range_2 (qi I1 q1 q2 q3 q4 q)
noncomputable def HS (wi:TI)(g:TG)(tb:TS):TS:=λD σ H=>wi σ H λJ H1=>∃W:JF->JF->St->Hp->Prop,(∃m,W 0 m σ H1)/\∀i m σ H,W i m σ H->
 (J.stop i H/\D.nx σ H)\/(J.go i H/\∃N:St->Hp->Prop,(∀σ' H',N σ' H'->∃m',m' < m/\W (i+1) m' σ' H')/\∀x H',J.yld i H x H'->g x σ H' λσ2 H2=>tb { D with nx:=N,ct:=N,bk:=D.nx } σ2 H2)
noncomputable def jJ (fp:Jy JK)(h:KH):Jy (JK×Ll):=fp.filterMap λb=>(h.get? b).map λo=>(b,o)
theorem gb {fp:Jy JK}{h:KH}{b:JK}{o:Ll}(hb:b∈fp)(e:h.get? b=gV o):(b,o)∈jJ fp h:=Pf.mpr ⟨b,hb,by rw[e]; rfl⟩
theorem vt {fp:Jy JK}{h:KH}{p:JK×Ll}(hp:p∈jJ fp h):p.1∈fp/\h.get? p.1=gV p.2:=by
 obtain⟨b,hb,e⟩:=Pf.mp hp;cases q:h.get? b with
 | none=>rw[q]at e; cases e
 | some o=>
  rw[q]at e;have e':(b,o)=p:=K5 e;subst e';exact⟨hb,q⟩
theorem Inv.pinned {pins:Jy (JK×Ll)}{σ:St}{H:Hp}{s:JD}{fp:Jy JK}(I:Inv X pins σ H s)(hf:∀b∈fp,jI X pins H b)(ho:∀b∈fp,∃o,s.heap.get? b=gV o/\∀v,o.data≠.cell v):Inv X (pins++jJ fp s.heap) σ H s:=
 I.pins_of λp hp=>(Ko.mp hp).elim (λz=>I.pin p (Km _ z)) λz=>by
  obtain⟨hb,e⟩:=vt z;obtain⟨f0,f1,f2,_⟩:=hf p.1 hb;obtain⟨o,e',d⟩:=ho p.1 hb;rw[e]at e'; cases e'
  exact⟨e,f0,f1,f2,d⟩
theorem Inv.unpinned {pins pl:Jy (JK×Ll)}{σ:St}{H:Hp}{s:JD}(I:Inv X (pins++pl) σ H s):Inv X pins σ H s:=I.pins_of λp hp=>I.pin p (Km _ (Lv _ hp))
theorem DQ {iter:J9}{body:Jy Mg}{wi:TI}{g:TG}{tb:TS}{pos:L0}(hp:OT (model X.prog X.w) X.A X.env X.xe)(hc:X.calm=true)(hi:PI X tg iter wi)(hg:PG X tg g)(hb:PSs X body tb)
  (hs:∀x,foldedSetIterable iter X.env x=pure x:=by intro _; rfl):PS X (.For tg iter body [] pos) (HS wi g tb):=by
 intro pins s σ H D I h;refine wpAny_For (cu (hi pins s σ H _ I h) λv s1 h1=>cu h1 λitv s2 h2=>?_) hs
 obtain⟨it,fp,tn,J,H2,e,I2,T,bj,f2,W,⟨m0,w0⟩,turn⟩:=h2;subst e;have stat:∀ {H':Hp},(∀b∈fp,H' b=td)->∀b∈fp,jI X pins H' b:=λhn b hb=>⟨hn b hb,(f2 b hb).2⟩
 refine codeAny_forLoop_any (λn s'=>∃i σ' H',Inv X pins σ' H' s'/\tn i s'.heap/\(∀b∈fp,H' b=td)/\W i n σ' H') ?_ m0 ⟨0,σ,H2,I2,bj,λb hb=>(f2 b hb).1,w0⟩
 rintro n s3 ⟨i,σ3,H3,I3,st3,fr3,w3⟩;rcases turn i n σ3 H3 w3 with⟨stop,qn⟩|⟨go,N,hN,step⟩
 ·refine L6 hp (cu (T.done X rfl rfl rfl hc i pins s3 σ3 H3 X.xe I3 (stat fr3) st3 stop) λr s4 ⟨hr,I4⟩=>?_)
  subst hr;exact Om ⟨σ3,H3,I4,qn⟩
 ·refine L6 hp (cu (T.item X rfl rfl rfl hc i pins s3 σ3 H3 X.xe I3 (stat fr3) st3 go) λr s4 ⟨u,hr,h4⟩=>?_)
  subst hr;refine L6 hp (cu h4 λ_ s5 ⟨x,H5,I5,r5,y5,st5,fr5⟩=>?_)
  have I5':=I5.pinned (stat fr5) (T.obj _ _ st5);refine L6 hp (cu (hg _ s5 σ3 H5 x u _ I5' r5 (step x H5 y5)) λ_ s6 ⟨σ6,H6,I6,q6⟩=>?_)
  refine L6 hp (cu (hb _ s6 σ6 H6 _ I6 q6) λf s7 q7=>?_)
  have again:∀ {σ7:St} {H7:Hp},Inv X (pins++jJ fp s5.heap) σ7 H7 s7->N σ7 H7->∃m,m < n/\∃i σ' H',Inv X pins σ' H' s7/\tn i s7.heap/\(∀b∈fp,H' b=td)/\W i m σ' H':=λ{σ7 H7} I7 n7=>by
   obtain⟨m',hm,w7⟩:=hN σ7 H7 n7;refine⟨m',hm,i+1,σ7,H7,I7.unpinned,T.keep _ _ _ st5 λb hb o e=>(I7.pin (b,o) (Km _ (Km _ (gb hb e)))).1,λb hb=>?_,w7⟩
   obtain⟨o,e,d⟩:=T.obj _ _ st5 b hb;exact(I7.pin (b,o) (Km _ (Km _ (gb hb e)))).2.1
  cases f with
  | next=>obtain⟨σ7,H7,I7,n7⟩:=q7; exact again I7 n7
  | cont=>obtain⟨σ7,H7,I7,n7⟩:=q7; exact again I7 n7
  | brk=>obtain⟨σ7,H7,I7,q7⟩:=q7; exact⟨σ7,H7,I7.unpinned,q7⟩
  | ret v=>obtain⟨x7,σ7,H7,I7,r7,q7⟩:=q7; exact⟨x7,σ7,H7,I7.unpinned,r7,q7⟩
end
theorem for_tup {K:JP}{a:JK}{xs:Jy V}{g:TG}{tb:TS}{D:Ends}{σ:St}{H:Hp}(Pv:JF->St->Hp->Prop)(h0:Pv 0 σ H)(hl:∀i σ H,i<=xs.length->Pv i σ H->SqT K H a xs)
  (hs:∀i x σ H,xs[i]?=gV x->Pv i σ H->g x σ H λσ2 H2=>tb { D with nx:=Pv (i+1),ct:=Pv (i+1),bk:=D.nx } σ2 H2) (hd:∀σ H,Pv xs.length σ H->D.nx σ H) :
  ∃W:JF->JF->St->Hp->Prop,(∃m,W 0 m σ H)/\∀i m σ H,W i m σ H->
   ((Fo K a).stop i H/\D.nx σ H)\/((Fo K a).go i H/\∃N:St->Hp->Prop,(∀σ' H',N σ' H'->∃m',m' < m/\W (i+1) m' σ' H')/\∀x H',(Fo K a).yld i H x H'->g x σ H' λσ2 H2=>tb { D with nx:=N,ct:=N,bk:=D.nx } σ2 H2):=by
 refine⟨λi m σ H=>m=xs.length - i/\i<=xs.length/\Pv i σ H,⟨xs.length,by simp,LJ _,h0⟩,?_⟩
 rintro i m σ H ⟨rfl,hi,p⟩;have q:=hl i σ H hi p
 by_cases hlt:i < xs.length
 ·refine .inr ⟨⟨xs,xs[i],q,by simp[hlt]⟩,Pv (i+1),λσ' H' p'=>⟨xs.length - (i+1),by omega,rfl,hlt,p'⟩,λx H' y=>?_⟩
  obtain⟨e,y⟩:=y;subst e;exact hs i x σ _ (y xs q) p
 ·have e:i=xs.length:=by omega
  subst e;exact .inl ⟨⟨xs,q,JO _⟩,hd σ H p⟩
noncomputable abbrev R2:=V->V->Hp->VK->Prop
noncomputable def OpR (X:Cx)(f:JB->JB->Rv JB)(r:R2):Prop:=
 ∀(pins:Jy (JK×Ll)) (s:JD) (σ:St) (H:Hp) (x y:V) (v u:JB) (Q:VK),Inv X pins σ H s->RelV x v->RelV y u->r x y H Q->
  wpAny (model X.prog X.w) X.A (f v u) (EP X pins σ Q) X.xe s
noncomputable def HU (X:Cx)(f:JB->Rv JB)(r:V->Hp->VK->Prop):Prop:=
 ∀(pins:Jy (JK×Ll)) (s:JD) (σ:St) (H:Hp) (x:V) (v:JB) (Q:VK),Inv X pins σ H s->RelV x v->r x H Q->
  wpAny (model X.prog X.w) X.A (f v) (EP X pins σ Q) X.xe s
noncomputable def CallR (X:Cx)(f:JB)(r:Jy V->Hp->VK->Prop):Prop:=
 ∀(pins:Jy (JK×Ll)) (s:JD) (σ:St) (H:Hp) (xs:Jy V) (us:Jy JB) (Q:VK),Inv X pins σ H s->Vals xs us->r xs H Q->
  wpAny (model X.prog X.w) X.A (call f us) (EP X pins σ Q) X.xe s
noncomputable def HV (X:Cx)(r:V->Hp->(Kc->Hp->Prop)->Prop):Prop:=
 ∀(pins:Jy (JK×Ll)) (s:JD) (σ:St) (H:Hp) (x:V) (v:JB) (Q:Kc->Hp->Prop),Inv X pins σ H s->RelV x v->r x H Q->
  wpAny (model X.prog X.w) X.A (truthy v) (TP X pins σ Q) X.xe s
noncomputable def Hv (r:R2)(ta tb:TE):TE:=λσ H Q=>ta σ H λx H1=>tb σ H1 λy H2=>r x y H2 Q
noncomputable def Jo (r:V->Hp->VK->Prop)(ta:TE):TE:=λσ H Q=>ta σ H λx H1=>r x H1 Q
noncomputable def rI (C:JL->JL->Prop)(g:JL->JL->V):R2:=λx y H Q=>∃i j,x=.int i/\y=.int j/\C i j/\Q (g i j) H
noncomputable def CV (g:JL->JL->V):R2:=λx y H Q=>∃i j,x=.int i/\y=.int j/\Q (g i j) H
noncomputable def rU (g:JL->V):V->Hp->VK->Prop:=λx H Q=>∃i,x=.int i/\Q (g i) H
section
variable{X:Cx}{a b c:J9}{ta tb tc:TE}{pos:L0}
theorem DR (ha:PE X a ta)(hb:PE X b tb){pins:Jy (JK×Ll)}{s:JD}{σ:St}{H:Hp}{R:V->V->Hp->Prop}(I:Inv X pins σ H s)
  (h:ta σ H λx H1=>tb σ H1 λy H2=>R x y H2) {Q:JB->JD->Prop} {f:JB->JB->Rv JB}
  (hf:∀v u s2 x y H2,Inv X pins σ H2 s2->RelV x v->RelV y u->R x y H2->wpAny (model X.prog X.w) X.A (f v u) Q X.xe s2) :
  wpAny (model X.prog X.w) X.A (eval a X.env) (λv s₁=>wpAny (model X.prog X.w) X.A (eval b X.env) (λu s₂=>wpAny (model X.prog X.w) X.A (f v u) Q X.xe s₂) X.xe s₁) X.xe s:=by
 refine cu (ha pins s σ H _ I h) λv s1 ⟨x,H1,I1,r1,q1⟩=>?_
 refine cu (hb pins s1 σ H1 _ I1 q1) λu s2 ⟨y,H2,I2,r2,q2⟩=>?_
 exact hf v u s2 x y H2 I2 r1 r2 q2
theorem FX {op:Py}{r:R2}(ho:OpR X (binaryOp op) r)(ha:PE X a ta)(hb:PE X b tb):PE X (.BinOp a op b pos) (Hv r ta tb):=by
 intro pins s σ H Q I h;exact wpAny_BinOp (DR ha hb I h λv u s2 x y H2 I2 rx ry q=>ho pins s2 σ H2 x y v u Q I2 rx ry q)
theorem FY {op:UnaryOp}{r:V->Hp->VK->Prop}(ho:HU X (unaryOp op) r)(ha:PE X a ta):PE X (.UnaryOp op a pos) (Jo r ta):=by
 intro pins s σ H Q I h;exact UnaryOp_ (cu (ha pins s σ H _ I h) λv s1 ⟨x,H1,I1,r1,q1⟩=>ho pins s1 σ H1 x v Q I1 r1 q1)
theorem Hw {f:JB->JB->Rv JB}{C:JL->JL->Prop}{g:JL->JL->JL}
  (rule:∀(i j:JL) (t u:Si) (s:JD) (Q:JB->JD->Prop) (E:JB->JD->Prop),C i j->Q (.int (g i j) s.toks) { s with toks:=s.toks+1 }->wpAny (model X.prog X.w) X.A (f (.int i t) (.int j u)) Q E s) :
  OpR X f (rI C λi j=>.int (g i j)):=by
 intro pins s σ H x y v u Q I rx ry h;obtain⟨i,j,rfl,rfl,hc,q⟩:=h;obtain⟨t,rfl⟩:=rx;obtain⟨t',rfl⟩:=ry;exact rule i j t t' s _ _ hc ⟨.int (g i j),H,I.tok _,⟨_,rfl⟩,q⟩
theorem FZ {f:JB->JB->Rv JB}{g:JL->JL->JL}
  (rule:∀(i j:JL) (t u:Si) (s:JD) (Q:JB->JD->Prop) (E:JB->JD->Prop),Q (.int (g i j) s.toks) { s with toks:=s.toks+1 }->wpAny (model X.prog X.w) X.A (f (.int i t) (.int j u)) Q E s) :
  OpR X f (CV λi j=>.int (g i j)):=by
 intro pins s σ H x y v u Q I rx ry h;obtain⟨i,j,rfl,rfl,q⟩:=h;obtain⟨t,rfl⟩:=rx;obtain⟨t',rfl⟩:=ry;exact rule i j t t' s _ _ ⟨.int (g i j),H,I.tok _,⟨_,rfl⟩,q⟩
theorem AE {f:JB->JB->Rv JB}{g:JL->JL->Kc}
  (rule:∀(i j:JL) (t u:Si) (s:JD) (Q:JB->JD->Prop) (E:JB->JD->Prop),Q (.bool (g i j)) s->wpAny (model X.prog X.w) X.A (f (.int i t) (.int j u)) Q E s) :
  OpR X f (CV λi j=>.bl (g i j)):=by
 intro pins s σ H x y v u Q I rx ry h;obtain⟨i,j,rfl,rfl,q⟩:=h;obtain⟨t,rfl⟩:=rx;obtain⟨t',rfl⟩:=ry;exact rule i j t t' s _ _ ⟨.bl (g i j),H,I,rfl,q⟩
noncomputable def HW (i j:JL):Prop:=0 < j/\j < 1073741824
noncomputable def HX (i j:JL):Prop:=0<=j/\j<=1000000/\i.natAbs < 2 ^ 64
noncomputable def CMul (i j:JL):Prop:=(-(2 ^ 64) < i/\i < 2 ^ 64)\/(-(2 ^ 64) < j/\j < 2 ^ 64)
theorem CMul.ok {i j:JL}(h:CMul i j):IntMulOk i j:=by
 rcases h with⟨h1,h2⟩|⟨h1,h2⟩
 ·exact .of_left (QU h1 h2)
 ·exact .of_right (QU h1 h2)
theorem DS:OpR X (binaryOp .Add) (CV λi j=>.int (i+j)):=FZ λ_ _ _ _ _ _ _ q=>add_int q
theorem DT:OpR X (binaryOp .Sub) (CV λi j=>.int (i - j)):=FZ λ_ _ _ _ _ _ _ q=>sub_int q
theorem DU:OpR X (binaryOp .Mult) (rI CMul λi j=>.int (i*j)):=Hw λ_ _ _ _ _ _ _ hc q=>mul_int q hc.ok
theorem AF:OpR X (binaryOp .FloorDiv) (rI HW λi j=>.int (i / j)):=Hw λi j _ _ _ _ _ hc q=>by
 have h1:(0:JL) < j:=hc.1;have h2:j < 1073741824:=hc.2;exact floordiv_int (by omega) (by rw[Int.fdiv_eq_ediv_of_nonneg i (by omega)]; exact q) (.inl (PyProof.noPylong_small (by omega)))
theorem DV:OpR X (binaryOp .Mod) (rI (λ_ j=>0 < j) λi j=>.int (i % j)):=Hw λi j _ _ _ _ _ hc q=>by
 have h1:(0:JL) < j:=hc;exact mod_int' (by omega) (by rw[Int.fmod_eq_emod_of_nonneg i (by omega)]; exact q)
theorem DW:OpR X (binaryOp .Pow) (rI HX λi j=>.int (i ^ j.toNat)):=Hw λ_ _ _ _ _ _ _ hc q=>pow_int_small hc.1 hc.2.1 hc.2.2 q
theorem Jp {f:JB->Rv JB}{g:JL->JL}
  (rule:∀(i:JL) (t:Si) (s:JD) (Q:JB->JD->Prop) (E:JB->JD->Prop),Q (.int (g i) s.toks) { s with toks:=s.toks+1 }->wpAny (model X.prog X.w) X.A (f (.int i t)) Q E s) :
  HU X f (rU λi=>.int (g i)):=by
 intro pins s σ H x v Q I rx h;obtain⟨i,rfl,q⟩:=h;obtain⟨t,rfl⟩:=rx;exact rule i t s _ _ ⟨.int (g i),H,I.tok _,⟨_,rfl⟩,q⟩
theorem DX:HU X (unaryOp .USub) (rU λi=>.int (-i)):=Jp λ_ _ _ _ _ q=>neg_int q
end
section
variable{X:Cx}{a b c:J9}{ta tb tc:TE}{pos:L0}
theorem xq {pins:Jy (JK×Ll)}{σ:St}{H:Hp}{s:JD}{Q:VK}{k k':Kc}(I:Inv X pins σ H s)(q:Q (.bl k) H)(e:k=k'):EP X pins σ Q (.bool k') s:=by
 subst e;exact⟨.bl k,H,I,rfl,q⟩
theorem F0:OpR X (compareOp .Lt) (CV λi j=>.bl (decide (i < j))):=AE λ_ _ _ _ _ _ _ q=>lt_int q
theorem F1:OpR X (compareOp .LtE) (CV λi j=>.bl (decide (i<=j))):=AE λ_ _ _ _ _ _ _ q=>le_int q
theorem F2:OpR X (compareOp .Gt) (CV λi j=>.bl (decide (j < i))):=AE λ_ _ _ _ _ _ _ q=>gt_int q
theorem F3:OpR X (compareOp .GtE) (CV λi j=>.bl (decide (j<=i))):=AE λ_ _ _ _ _ _ _ q=>ge_int q
theorem DY:OpR X (compareOp .Is) (λx y H Q=>y=.non/\Q (.bl (decide (x=.non))) H):=by
 intro pins s σ H x y v u Q I rx ry h;obtain⟨rfl,q⟩:=h;cases ry;refine is_none_gen (xq I q ?_);cases x <;> first
  | (cases rx; rfl)
  | (obtain⟨t,rfl⟩:=rx; rfl)
theorem AG:OpR X (compareOp .IsNot) (λx y H Q=>y=.non/\Q (.bl (!decide (x=.non))) H):=by
 intro pins s σ H x y v u Q I rx ry h;obtain⟨rfl,q⟩:=h;cases ry;refine isnot_none_gen (xq I q ?_);cases x <;> first
  | (cases rx; rfl)
  | (obtain⟨t,rfl⟩:=rx; rfl)
theorem AH {op:Rj}{r:R2}(ho:OpR X (compareOp op) r)(ha:PE X a ta)(hb:PE X b tb)(hm:behindInMarks op b=false):PE X (.Compare a [op] [b] pos) (Hv r ta tb):=by
 intro pins s σ H Q I h;exact wpAny_Compare1 (DR ha hb I h λv u s2 x y H2 I2 rx ry q=>ho pins s2 σ H2 x y v u Q I2 rx ry q) hm
noncomputable def F4 (t:TE):TT:=λσ H Q=>t σ H λx H'=>∃k,x=.bl k/\Q k H'
theorem AI {op:Rj}{r:R2}(ho:OpR X (compareOp op) r)(ha:PE X a ta)(hb:PE X b tb)(hm:behindInMarks op b=false):PT X (.Compare a [op] [b] pos) (F4 (Hv r ta tb)):=by
 intro pins s σ H Q I h;refine wpAny_isTrue_Compare1 (cu (ha pins s σ H _ I h) λv s1 ⟨x,H1,I1,r1,q1⟩=>cu (hb pins s1 σ H1 _ I1 q1) λu s2 ⟨y,H2,I2,r2,q2⟩=>
  cu (ho pins s2 σ H2 x y v u _ I2 r1 r2 q2) λc s3 ⟨z,H3,I3,r3,k,e,q3⟩=>?_) hm
 subst e;cases r3;exact LN ⟨H3,I3,q3⟩
noncomputable def HY (K:JP)(x:V)(H:Hp)(k:Kc):Prop:=
 match x with
 | .non=>k=false
 | .bl b=>k=b
 | .int i=>k=(i != 0)
 | .str y=>y.length<=sizeLine/\k=((y.length:JL) != 0)
 | .byt y=>y.size<=sizeLine/\k=((y.size:JL) != 0)
 | .ref p=>(∃xs,SqL K H p xs/\k = !xs.isEmpty)\/(∃xs,SqT K H p xs/\k = !xs.isEmpty)\/∃kvs,H p=gV (.dK kvs)/\k = !kvs.isEmpty
 | _=>KZ
theorem si {κ:Type}{kvs:Jy (κ×V)}{vs:Jy (κ×JB)}(r:KV kvs vs):(!vs.isEmpty) = !kvs.isEmpty:=by
 cases r <;> rfl
theorem lC {xs:Jy V}{its:Jy JB}(r:Vals xs its):(!its.toArray.isEmpty) = !xs.isEmpty:=by
 cases r <;> simp
theorem jK:(sizeLine:JF) < 2 ^ 63:=by rw[KL]; decide
theorem DZ:HV X (λx H Q=>∃k,HY X.K x H k/\Q k H):=by
 intro pins s σ H x v Q I rx h;obtain⟨k,e,q⟩:=h;have hl:=jK;have hs:sizeLine=16777216:=KL;cases x with
 | non=>
  cases rx;have e':k=false:=e;subst e';exact truthy_none ⟨H,I,q⟩
 | bl b=>
  cases rx;have e':k=b:=e;subst e';exact LN ⟨H,I,q⟩
 | int i=>
  obtain⟨t,rfl⟩:=rx;have e':k=(i != 0):=e;subst e';exact PySem.P.truthy_int ⟨H,I,q⟩
 | str y=>
  obtain⟨t,rfl⟩:=rx;obtain⟨hy,e'⟩ : y.length<=sizeLine/\k=((y.length:JL) != 0):=e;subst e';exact PySem.P.truthy_str (by omega) ⟨H,I.tok _,q⟩
 | byt y=>
  obtain⟨t,rfl⟩:=rx;obtain⟨hy,e'⟩ : y.size<=sizeLine/\k=((y.size:JL) != 0):=e;subst e';exact PySem.W.truthy_bytes (by omega) ⟨H,I.tok _,q⟩
 | ref p=>
  cases rx;have e':(∃xs,SqL X.K H p xs/\k = !xs.isEmpty)\/(∃xs,SqT X.K H p xs/\k = !xs.isEmpty)\/∃kvs,H p=gV (.dK kvs)/\k = !kvs.isEmpty:=e;rcases e' with⟨xs,hx,e'⟩|⟨xs,hx,e'⟩|⟨kvs,hx,e'⟩
  ·subst e';obtain⟨its,r,pl,hz⟩:=I.list hx;have hlen:=r.length;exact wpAny_truthy_list pl.isList (by simp only[JV]; omega) ⟨H,I.tok _,by rw[lC r]; exact q⟩
  ·subst e';obtain⟨its,r,pl,hz⟩:=I.tuple hx;have hlen:=r.length;exact truthy_tuple pl (by simp only[JV]; omega) ⟨H,I.tok _,by rw[lC r]; exact q⟩
  ·subst e';obtain⟨hz,hS,vs,r,m⟩ : kvs.length<=sizeLine/\(p==sysModules)=false/\∃vs,KV kvs vs/\s.heap.DictOf (oK X.prog X.w) p vs:=I.hok p _ hx;have hlen:kvs.length=vs.length:=NT r;exact wpAny_truthy_dict hS m (by omega) ⟨H,I.tok _,by rw[si r]; exact q⟩
 | _=>exact(show KZ from e).elim
theorem sj:OpR X (binaryOp .Add) (λx y H Q=>∃i j,x=.str i/\y=.str j/\i.length+j.length<=sizeLine/\Q (.str (i++j)) H):=by
 intro pins s σ H x y v u Q I rx ry h;obtain⟨i,j,rfl,rfl,hz,q⟩:=h;obtain⟨t,rfl⟩:=rx;obtain⟨t',rfl⟩:=ry;exact add_str (λt' tk=>⟨.str (i++j),H,I.tok _,⟨_,rfl⟩,q⟩) hz
theorem nO {x:V}{us:Jy JB}(r:Vals [x] us):∃u,us=[u]/\RelV x u:=by
 cases r with
 | cons r1 r2=>cases r2; exact⟨_,rfl,r1⟩
theorem nP:CallR X (.type "int") (λxs H Q=>(∃i,xs=[.int i]/\Q (.int i) H)\/∃k,xs=[.bl k]/\Q (.int (if k then 1 else 0)) H):=by
 intro pins s σ H xs us Q I r h;rcases h with⟨i,rfl,q⟩|⟨k,rfl,q⟩
 ·obtain⟨u,rfl,t,rfl⟩:=nO r;exact call_int_int ⟨.int i,H,I,⟨_,rfl⟩,q⟩
 ·obtain⟨u,rfl,r1⟩:=nO r;cases r1;exact call_int_bool ⟨.int (if k then 1 else 0),H,I.tok _,⟨_,rfl⟩,q⟩
noncomputable def HZ (K:JP)(x:V)(H:Hp)(n:JF):Prop:=
 match x with
 | .str y=>y.length<=sizeLine/\n=y.length
 | .byt y=>y.size<=sizeLine/\n=y.size
 | .ref p=>(∃xs,SqL K H p xs/\n=xs.length)\/∃xs,SqT K H p xs/\n=xs.length
 | _=>KZ
theorem lD:CallR X (.builtin "len") (λxs H Q=>∃x n,xs=[x]/\HZ X.K x H n/\Q (.int n) H):=by
 intro pins s σ H xs us Q I r h;obtain⟨x,n,rfl,e,q⟩:=h;obtain⟨u,rfl,rx⟩:=nO r;have hl:=jK;have hs:sizeLine=16777216:=KL;cases x with
 | str y=>
  obtain⟨t,rfl⟩:=rx;obtain⟨hy,e'⟩ : y.length<=sizeLine/\n=y.length:=e;subst e';exact len_str (by omega) ⟨.int _,H,I.tok _,⟨_,rfl⟩,q⟩
 | byt y=>
  obtain⟨t,rfl⟩:=rx;obtain⟨hy,e'⟩ : y.size<=sizeLine/\n=y.size:=e;subst e';exact PySem.W.len_bytes (by omega) ⟨.int _,H,I.tok _,⟨_,rfl⟩,q⟩
 | ref p=>
  cases rx;have e':(∃xs,SqL X.K H p xs/\n=xs.length)\/∃xs,SqT X.K H p xs/\n=xs.length:=e;rcases e' with⟨xs,hx,e'⟩|⟨xs,hx,e'⟩
  ·subst e';obtain⟨its,r',pl,hz⟩:=I.list hx;have hlen:=r'.length;exact Calls.call_len_list pl.isList (by simp only[JV]; omega) ⟨.int xs.length,H,I.tok _,⟨_,by simp only[JV]; rw[hlen]⟩,q⟩
  ·subst e';obtain⟨its,r',pl,hz⟩:=I.tuple hx;have hlen:=r'.length;exact len_tuple pl (by simp only[JV]; omega) ⟨.int xs.length,H,I.tok _,⟨_,by simp only[JV]; rw[hlen]⟩,q⟩
 | _=>exact(show KZ from e).elim
end
structure Room (k:JF)(A:Ks):Prop where
 hd:A.handled=td
 dp:A.depth+3*k+5 < recursionLimit
 un:A.units+16*k+200 < cLine
theorem Room.deeper {k:JF}{A:Ks}(r:Room (k+1) A)(env:Pu):Room k (A.deeper env):=
 ⟨r.hd,by have:=r.dp; show A.depth+1+3*k+5 < _; omega,by have:=r.un; show A.units+3+16*k+200 < _; omega⟩
theorem Room.depth {k:JF}{A:Ks}(r:Room k A):A.depth < recursionLimit:=by have:=r.dp; omega
noncomputable def F5:TA:=λ_ H Q=>Q [] H
noncomputable def F6 (ta:TE)(tr:TA):TA:=λσ H Q=>ta σ H λx H1=>tr σ H1 λxs H2=>Q (x::xs) H2
section
variable{X:Cx}{e:J9}{es:Jy J9}{te:TE}{t:TA}{pos:L0}
theorem xr:PA X [] F5:=λ_ _ _ _ H Q I h=>Calls.spliced_nil ⟨[],H,I,.nil,h⟩
theorem oN (ha:PE X e te)(hr:PA X es t)(hs:starEach (e::es) X.env=(false,eval e X.env)::starEach es X.env:=by rfl):PA X (e::es) (F6 te t):=by
 intro pos pins s σ H Q I h;rw[hs];show wpAny _ _ (spliced ((false,eval e X.env)::backTo pos (starEach es X.env))) _ _ s;refine Calls.spliced_cons (cu (ha pins s σ H _ I h) λu s1 ⟨x,H1,I1,r1,q1⟩=>?_)
 exact cu (hr pos pins s1 σ H1 _ I1 q1) λus s2 ⟨xs,H2,I2,r2,q2⟩=>⟨x::xs,H2,I2,.cons r1 r2,q2⟩
noncomputable def Ic (t:TA):TE:=λσ H Q=>t σ H λxs H1=>xs.length<=sizeLine/\∀p,H1 p=td->Q (.ref p) (cH H1 p (.tup xs))
noncomputable def Ig (t:TA):TE:=λσ H Q=>t σ H λxs H1=>xs.length<=sizeLine/\∀p,H1 p=td->Q (.ref p) (cH H1 p (.lst xs))
theorem D0 {x1}(h:PA X es t):PE X (.Tuple es x1 pos) (Ic t):=by
 intro pins s σ H Q I hq;refine wpAny_Tuple_spliced (cu (h pos pins s σ H _ I hq) λus s1 ⟨xs,H1,I1,r,z,q⟩=>⟨by rw[<- r.length]; exact z,?_⟩)
 have hf:H1 s1.heap.objs.size=td:=I1.hok.fresh (JO _);refine⟨.ref s1.heap.objs.size,cH H1 s1.heap.objs.size (.tup xs),I1.laid (t':=s1.toks) (λb u e=>JI _ e) (JO _) ?_,rfl,q _ hf⟩
 exact⟨⟨z,NoD.new _ _ _⟩,us,r,⟨_,J1 _ rfl,rfl,_,rfl⟩⟩
theorem D2 (h:PA X es t):PE X (.List es pos) (Ig t):=by
 intro pins s σ H Q I hq;refine wpAny_List_spliced (cu (h pos pins s σ H _ I hq) λus s1 ⟨xs,H1,I1,r,z,q⟩=>⟨by rw[<- r.length]; exact z,?_⟩)
 have hf:H1 s1.heap.objs.size=td:=I1.hok.fresh (JO _);refine⟨.ref s1.heap.objs.size,cH H1 s1.heap.objs.size (.lst xs),I1.laid (t':=s1.toks) (λb u e=>JI _ e) (JO _) ?_,rfl,q _ hf⟩
 exact⟨z,us,0,r,J1 _ rfl⟩
end
noncomputable abbrev Sp:=Jy V->Hp->VK->XK->Prop
noncomputable abbrev xt:=Jy Pu->Hp->JD->XK->JB->JD->Prop
structure Env0 (P:Ki)(w:Kv)(K:JP)(mg:JZ->JE JB)(base:KH)(A:Ks)(outer:Jy Pu)(s:JD)(H:Hp):Prop where
 frames:A.frames=gV outer
 mod:Mod K mg base
 bs:∀b o,base.get? b=gV o->s.heap.get? b=gV o/\H b=td
 bsz:base.objs.size<=s.heap.objs.size
 funs:s.heap.FunFrames base outer
 frf:∀b∈sf outer,H b=td
 hok:HOk P w H s.heap
 bare:NO s.gens
noncomputable def CE (outer:Jy Pu)(P:Ki)(w:Kv)(H:Hp)(s:JD)(Q:VK)(u:JB)(s':JD):Prop:=
 ∃v H',s'.os=s.os/\NO s'.gens/\Un (sf outer) [] H H' s.heap s'.heap/\HOk P w H' s'.heap/\RelV v u/\Q v H'
noncomputable def CR (CX:xt)(outer:Jy Pu)(P:Ki)(w:Kv)(H:Hp)(s:JD)(Q:VK)(E:XK)(r:P3)(s':JD):Prop:=
 match r with
 | .ok (.ret u)=>CE outer P w H s Q u s'
 | .ok _=>KZ
 | .error e=>CX outer H s E e s'
structure FnOk (P:Ki)(w:Kv)(K:JP)(mg:JZ->JE JB)(base:KH)(CX:xt)(k:JF)(f:JK)(fd:LX)(ps:Jy JZ)(sp:Sp):Prop where
 len:∀vs H Q E,sp vs H Q E->vs.length=ps.length
 run:∀(A:Ks) (outer:Jy Pu) (s:JD) (H:Hp) (args:Args) (us:Jy JB) (vs:Jy V) (Q:VK) (E:XK),Room k A->Env0 P w K mg base A outer s H->Pz s fd args (ps.zip us)->Vals vs us->sp vs H Q E->
  codeAny (model P w) A (.call (.ref f) args) (CR CX outer P w H s Q E) s
section
variable{X:Cx}{pins:Jy (JK×Ll)}{σ:St}{H:Hp}{s s':JD}
theorem Inv.env0 (I:Inv X pins σ H s):Env0 X.prog X.w X.K X.mg X.base X.A X.stack s H:=
 ⟨I.ok.frames,I.ok.mod,I.bs,J8 I.ok.bsz I.sz,I.stack,I.stkFree,I.hok,I.bare⟩
theorem Inv.after {Q:VK}{u:JB}(I:Inv X pins σ H s)(h:CE X.stack X.prog X.w H s Q u s'):EP X pins σ Q u s':=by
 obtain⟨v,H',os,bare,un,hok,r,q⟩:=h;obtain⟨hh,g,d,t,os'⟩:=s';obtain rfl:os'=s.os:=os;exact⟨v,H',I.call (h':=hh) (g':=g) (d':=d) (t':=t) (ch:=[]) un hok bare (λb z=>absurd z (by simp)),r,q⟩
end
noncomputable def xu (sp:Sp)(dvs:Jy V)(E:XK)(t:TA):TE:=λσ H Q=>t σ H λvs H1=>sp (vs++dvs) H1 Q E
noncomputable def Binds (K:JP)(fd:LX)(ps:Jy JZ)(ds:Jy JB):Prop:=
 ∀(s:JD) (us:Jy JB),K.In s.heap->(us++ds).length=ps.length->Pz s fd ⟨us,[]⟩ (ps.zip (us++ds))
theorem Binds.all {K:JP}{fd:LX}{ps:Jy JZ}(h:∀us:Jy JB,us.length=ps.length->bindArgs fd ⟨us,[]⟩=pure (ps.zip us)):Binds K fd ps []:=λs us _ hl=>by
 rw[K6]at hl ⊢;exact .of_eq (h us hl)
noncomputable def oO (CX:xt)(X:Cx)(E:XK):Prop:=∀(pins:Jy (JK×Ll)) (σ:St) (H:Hp) (s:JD) (e:JB) (s':JD),Inv X pins σ H s->CX X.stack H s E e s'->X.xe e s'
section
variable{X:Cx}{CX:xt}{k:JF}{f C:JK}{fd:LX}{ps:Jy JZ}{sp:Sp}{dvs:Jy V}{ds:Jy JB}{E:XK}{x m:JZ}{p pos apos:L0}{e o:J9}{es:Jy J9}{ta:TE}{t:TA}
theorem xv {pins:Jy (JK×Ll)}{σ:St}{H:Hp}{s:JD}{Q:VK}{us:Jy JB}{vs:Jy V}(F:FnOk X.prog X.w X.K X.mg X.base CX k f fd ps sp)(hr:Room k X.A)(hb:Binds X.K fd ps ds)(hd:Vals dvs ds)(hx:oO CX X E)
  (I:Inv X pins σ H s) (r:Vals vs us) (h:sp (vs++dvs) H Q E):wpAny (model X.prog X.w) X.A (call (.ref f) us) (EP X pins σ Q) X.xe s:=by
 have r2:Vals (vs++dvs) (us++ds):=r.append hd;have hl:(us++ds).length=ps.length:=by rw[<- r2.length]; exact F.len _ _ _ _ h
 refine wpAny_call (Oa (F.run X.A X.stack s H ⟨us,[]⟩ (us++ds) (vs++dvs) Q E hr I.env0 (hb s us I.kIn hl) r2 h) λr s' hq=>?_)
 cases r with
 | error e=>exact hx pins σ H s e s' I hq
 | ok fl=>
  cases fl with
  | ret u=>exact I.after hq
  | next=>exact KZ.elim hq
  | brk=>exact KZ.elim hq
  | cont=>exact KZ.elim hq
theorem AJ (F:FnOk X.prog X.w X.K X.mg X.base CX k f fd ps sp)(hr:Room k X.A)(hg:Gl X x)(hm:X.mg x=gV (.ref f))(hk:Lg X.K (.ref f)=true)(hb:Binds X.K fd ps ds)(hd:Vals dvs ds)(hx:oO CX X E)
  (ha:PA X (e::es) t) (hdb:(x==("__debug__" : JZ))=false:=by decide) (he:starEach (e::es) X.env=(false,eval e X.env)::starEach es X.env:=by rfl) (hpl:(backTo pos (starEach es X.env)).any (·.1)=false:=by rfl) :
  PE X (.Call (.Name x p) (e::es) [] pos) (xu sp dvs E t):=by
 intro pins s σ H Q I h;refine MV (tM I hg hm ?_ hdb);refine PySem.W.callWith_K (h₀:=X.base) I.ok.mod.kin hk (cu (ha pos pins s σ H _ I h) λus s1 ⟨vs,H1,I1,r,q⟩=>⟨I1.kIn,?_⟩) he hpl
 exact xv F hr hb hd hx I1 r q
theorem xw (F:FnOk X.prog X.w X.K X.mg X.base CX k f fd ps sp)(hr:Room k X.A)(hg:Gl X x)(hm:X.mg x=gV (.ref f))(hk:Lg X.K (.ref f)=true)(hb:Binds X.K fd ps ds)(hd:Vals dvs ds)(hx:oO CX X E)
  (hdb:(x==("__debug__" : JZ))=false:=by decide):PE X (.Call (.Name x p) [] [] pos) (xu sp dvs E F5):=by
 intro pins s σ H Q I h;refine MV (tM I hg hm ?_ hdb);exact PySem.W.callWith_K0 I.kIn hk (xv (us:=[]) F hr hb hd hx I .nil h)
end
structure FnScope (N P:Jy JZ)(sc:Mx):Prop where
 kind:sc.kind=.function
 co:sc.isCoroutine=false
 gen:sc.isGenerator=false
 nd:N.Nodup
 pre:N.take P.length=P
 par:∀x∈P,sc.names.lookup x=gV .local\/sc.names.lookup x=gV .cell
 nofree:∀y∈sc.names,y.2≠.free
theorem nQ {kindOf:JZ->JE Lx}{x:JZ}:∀ {binds:Jy (JZ×JB)} {m:JZ->JE JB},(∀v,(x,v)∉binds)->bindL kindOf binds m x=m x
 | [],_,_=>rfl
 | (n,v)::r,m,h=>by
  unfold bindL;rw[nQ λw hw=>h w (K1 _ hw)]
  split
  ·have:x≠n:=by rintro rfl; exact h v Ls
   simp[this]
  ·rfl
theorem nR {kindOf:JZ->JE Lx}{x:JZ}:∀ {binds:Jy (JZ×JB)} {m:JZ->JE JB},(∀v,(x,v)∉binds)->bindC kindOf binds m x=m x
 | [],_,_=>rfl
 | (n,v)::r,m,h=>by
  unfold bindC;rw[nR λw hw=>h w (K1 _ hw)]
  split
  ·rfl
  ·have:x≠n:=by rintro rfl; exact h v Ls
   simp[this]
theorem nS {kindOf:JZ->JE Lx}{x:JZ}{v:JB}:∀ {P:Jy JZ} {vs:Jy JB} {i:JF} {m:JZ->JE JB},P.Nodup->P[i]?=gV x->vs[i]?=gV v->kindOf x=gV .local->
  bindL kindOf (P.zip vs) m x=gV v
 | [],_,_,_,_,h,_,_=>by simp at h
 | _::_,[],_,_,_,_,h,_=>by simp at h
 | p::P,w::vs,0,m,nd,h1,h2,hk=>by
  simp at h1 h2; subst h1; subst h2
  show bindL kindOf ((p,w)::P.zip vs) m p=_;unfold bindL;rw[nQ λv hv=>(Lo.mp nd).1 (On hv).1,Kd hk]
  simp
 | p::P,w::vs,i+1,m,nd,h1,h2,hk=>by
  show bindL kindOf ((p,w)::P.zip vs) m x=_;unfold bindL;exact nS (i:=i) (Lo.mp nd).2 (by simpa using h1) (by simpa using h2) hk
theorem nT {kindOf:JZ->JE Lx}{x:JZ}{v:JB}:∀ {P:Jy JZ} {vs:Jy JB} {i:JF} {m:JZ->JE JB},P.Nodup->P[i]?=gV x->vs[i]?=gV v->kindOf x≠gV .local->
  bindC kindOf (P.zip vs) m x=gV v
 | [],_,_,_,_,h,_,_=>by simp at h
 | _::_,[],_,_,_,_,h,_=>by simp at h
 | p::P,w::vs,0,m,nd,h1,h2,hk=>by
  simp at h1 h2; subst h1; subst h2
  show bindC kindOf ((p,w)::P.zip vs) m p=_;unfold bindC;rw[nR λv hv=>(Lo.mp nd).1 (On hv).1,Ku hk]
  simp
 | p::P,w::vs,i+1,m,nd,h1,h2,hk=>by
  show bindC kindOf ((p,w)::P.zip vs) m x=_;unfold bindC;exact nT (i:=i) (Lo.mp nd).2 (by simpa using h1) (by simpa using h2) hk
noncomputable def gJ (N:Jy JZ)(vs:Jy V):St:=vs.map gV++Kz (N.length - vs.length) td
noncomputable def sm (CX:xt)(P:Ki)(w:Kv)(K:JP)(mg:JZ->JE JB)(base:KH)(N:Jy JZ)(qual:JZ)(scope:Mx)(f:JK)(cd:JB)(A:Ks)(outer:Jy Pu)(s:JD)(H:Hp)(E:XK):Cx where
 prog:=P
 w:=w
 K:=K
 mg:=mg
 base:=base
 A:=A.deeper (envOfC qual scope s.heap.objs.size f cd)
 N:=N
 s₀:=s
 H₀:=H
 env:=envOfC qual scope s.heap.objs.size f cd
 outer:=outer
 stack:=envOfC qual scope s.heap.objs.size f cd::outer
 ex:=[]
 calm:=true
 fn:=λ_=>true
 pn:=[]
 xe:=λe s'=>wpAny (model P w) (A.deeper (envOfC qual scope s.heap.objs.size f cd)) (leaving (envOfC qual scope s.heap.objs.size f cd) e) (λ_ s''=>CX outer H s E e s'') (λe' s''=>CX outer H s E e' s'') s'
theorem qj {sc:Mx}{n:JF}{x:JZ}(h:sc.names.lookup x=gV .cell):∃c,(cellsFrom n sc.names []).lookup x=gV c:=by
 have q:=Ob sc.names n [] (.inl h);exact KR.mp q
theorem vw {CX:xt}{P:Ki}{w:Kv}{K:JP}{mg:JZ->JE JB}{base:KH}{N ps:Jy JZ}{qual:JZ}{scope:Mx}{f:JK}{cd:JB}{A:Ks}{outer:Jy Pu}{s s1:JD}{H:Hp}{E:XK}{us:Jy JB}{vs:Jy V}
  (S:FnScope N ps scope) (hd:A.handled=td) (e0:Env0 P w K mg base A outer s H) (hl:vs.length=ps.length) (r:Vals vs us)
  (x:InCallC s s.heap.objs.size (bindL (envOfC qual scope s.heap.objs.size f cd).kindOf (ps.zip us) λ_=>td) (cellsFrom (s.heap.objs.size+1) scope.names []) (bindC (envOfC qual scope s.heap.objs.size f cd).kindOf (ps.zip us) λ_=>td) s1) :
  Inv (sm CX P w K mg base N qual scope f cd A outer s H E) [] (gJ N vs) H s1:=by
 have hpl:ps.length<=N.length:=by have:=congrArg Rx S.pre; rw[Kf]at this; omega
 obtain⟨h1,tk,rfl,hk⟩:=x.done;have noA:∀b:JK,b∉(sm CX P w K mg base N qual scope f cd A outer s H E).ex:=λb z=>absurd (show b∈([]:Jy JK)from z) (by simp)
 refine⟨⟨e0.mod,S.kind,rfl,rfl,JO _,λy z c h1 h2=>?_,λy hy=>?_,λy c _ h=>?_,λ_=>hd,Around.frames_deeper e0.frames,.inr ⟨rfl,rfl⟩,λb z=>absurd z (noA b),e0.bs,e0.bsz,λb _ _=>noA b,λb z=>absurd z (noA b),e0.funs,e0.frf⟩,
  rfl,e0.bare,Un.kept hk,⟨_,x.toInCall.ns,λi y v h1 h2 h3=>?_⟩,λy c h=>⟨_,x.cell y c h⟩,e0.hok.fresh (JO _),λy c h=>?_,λp hp=>absurd (show p∈([]:Jy (JK×Ll))from hp) (by simp),e0.hok.kept hk,?_⟩
 ·exact name_of_addr x.apart (Ml h1) (Ml h2)
 ·have hy:scope.names.lookup y=gV .cell\/scope.names.lookup y=gV .free:=hy;rcases hy with hy|hy
  ·exact qj hy
  ·exact absurd rfl (S.nofree _ (Ml hy))
 ·exact M0 (x.above y c (Ml h))
 ·have hi:i < vs.length:=by
   unfold gJ at h2
   by_cases hi:i < vs.length
   ·exact hi
   ·rw[KF (by simpa using hi)]at h2
    rw[List.getElem?_replicate]at h2;split at h2 <;> cases h2
  have ha:vs[i]?=gV v:=by
   unfold gJ at h2;rw[Kn (by simpa using hi),JJ]at h2
   cases e:vs[i]? with
   | none=>rw[e]at h2; cases h2
   | some a=>rw[e]at h2; cases h2; rfl
  obtain⟨u,hu,rv⟩:=r.get ha;have hp:ps[i]?=gV y:=by
   rw[<- S.pre,MP (by omega)]; exact h1
  have ndP:ps.Nodup:=by rw[<- S.pre]; exact S.nd.sublist (PB _ _)
  refine⟨u,rv,?_⟩;rcases S.par y (JT hp)with k|k
  ·exact .inl ⟨k,nS ndP hp hu k⟩
  ·obtain⟨c,e⟩:=qj (n:=s.heap.objs.size+1) k;refine .inr ⟨.inl k,c,e,?_⟩;have q:=x.cell y c e;rw[nT ndP hp hu (by show scope.names.lookup y≠_; rw[k]; decide)]at q
   exact q
 ·exact e0.hok.fresh (M0 (x.above y c (Ml h)))
 ·unfold gJ;show _=N.length;rw[JG,Jz,Oy];omega
theorem F7 {CX:xt}{P:Ki}{w:Kv}{K:JP}{mg:JZ->JE JB}{base:KH}{k:JF}{f:JK}{name qual:JZ}{params:Arguments}{body:Jy Mg}{scope:Mx}{dV kV doc pm cdv ct oc:JB}{an od:JE JK}
  {osl:KD (JE JB)} {N ps:Jy JZ} {sp:Sp} (lk:K.lookup f=gV ⟨oc,od,.func (LG name qual params body scope dV kV doc pm an cdv ct),osl⟩) (hcd:MC K cdv qual=true) (S:FnScope N ps scope)
  (len:∀vs H Q E,sp vs H Q E->vs.length=ps.length)
  (hbody:∀(A:Ks) (outer:Jy Pu) (s:JD) (H:Hp) (vs:Jy V) (Q:VK) (E:XK),Room k (A.deeper (envOfC qual scope s.heap.objs.size f cdv))->sp vs H Q E->
   ∃t,PSs (sm CX P w K mg base N qual scope f cdv A outer s H E) body t/\t { nx:=λ_ H'=>Q .non H',rt:=Q } (gJ N vs) H) :
  FnOk P w K mg base CX (k+1) f (LG name qual params body scope dV kV doc pm an cdv ct) ps sp:=by
 refine⟨len,λA outer s H args us vs Q E hr e0 hb r hsp=>?_⟩
 have hl:=len _ _ _ _ hsp;have KX:K.In s.heap:=e0.mod.kin.keeps λb o e=>(e0.bs b o e).1
 have lim:s.heap.NoLimit:=e0.mod.nolimit.keeps λb o e=>(e0.bs b o e).1
 have hkind:∀y∈ps.zip us,scope.names.lookup y.1=gV .local\/(scope.names.lookup y.1=gV .cell/\((cellsFrom (s.heap.objs.size+1) scope.names []).lookup y.1).isSome=true):=λ⟨n,v⟩ hy=>by
  rcases S.par n (On hy).1 with q|q
  ·exact .inl q
  ·exact .inr ⟨q,Ob _ _ _ (.inl q)⟩
 refine codeAny_call_function hr.depth (KX _ _ lk) rfl S.co S.gen rfl (PySem.W.codeRec_of KX hcd) (hb _ _ _ _ ?_);refine wpAny_newFunctionEnv_cells S.kind hkind λenv he s1 x=>?_
 subst he;refine⟨lim.keeps x.toInCall.keep,codeAny_func ?_⟩;obtain⟨t,ht,hq⟩:=hbody A outer s H vs Q E (hr.deeper _) hsp;have I:Inv (sm CX P w K mg base N qual scope f cdv A outer s H E) [] (gJ N vs) H s1:=vw S hr.hd e0 hl r x;refine Lu (ht [] s1 (gJ N vs) H _ I hq) (λfl s' hs=>?_) λe s' hs=>hs
 have fin:∀ {σ':St} {H':Hp} {v:V} {u:JB},Inv (sm CX P w K mg base N qual scope f cdv A outer s H E) [] σ' H' s'->RelV v u->Q v H'->CE outer P w H s Q u s':=
  λ{σ' H' v u} J rv q=>⟨v,H',J.os,J.bare,J.base,J.hok,rv,q⟩
 cases fl with
 | ret u=>
  obtain⟨v,σ',H',J,rv,q⟩:=hs;exact fin J rv q
 | next=>
  obtain⟨σ',H',J,q⟩:=hs;exact fin (v:=V.non) (u:=KN) J rfl q
 | brk=>
  obtain⟨_,_,_,q⟩:=hs;exact KZ.elim q
 | cont=>
  obtain⟨_,_,_,q⟩:=hs;exact KZ.elim q
section
variable{X:Cx}{x:JZ}{p pos:L0}{e:J9}{es:Jy J9}{t:TA}{id T:K8}{r:Jy V->Hp->VK->Prop}
noncomputable def Je (r:Jy V->Hp->VK->Prop)(t:TA):TE:=λσ H Q=>t σ H λvs H1=>r vs H1 Q
theorem qk (hc:CallR X (.builtin id) r)(hg:Gl X x)(hm:X.mg x=td)(hv:bootBuiltins x=gV (.builtin id))(ha:PA X (e::es) t)(hn:x≠"__name__":=by decide)(hdb:(x==("__debug__" : JZ))=false:=by decide)
  (he:starEach (e::es) X.env=(false,eval e X.env)::starEach es X.env:=by rfl) (hpl:(backTo pos (starEach es X.env)).any (·.1)=false:=by rfl):PE X (.Call (.Name x p) (e::es) [] pos) (Je r t):=by
 intro pins s σ H Q I h;refine MV (jH I hg hm hv ?_ hn hdb);exact P4 (cu (ha pos pins s σ H _ I h) λus s1 ⟨vs,H1,I1,r1,q1⟩=>hc pins s1 σ H1 vs us Q I1 r1 q1) he hpl
theorem vx (hc:CallR X (.type T) r)(hg:Gl X x)(hm:X.mg x=td)(hv:bootBuiltins x=gV (.type T))(ha:PA X (e::es) t)(hn:x≠"__name__":=by decide)(hdb:(x==("__debug__" : JZ))=false:=by decide)
  (he:starEach (e::es) X.env=(false,eval e X.env)::starEach es X.env:=by rfl) (hpl:(backTo pos (starEach es X.env)).any (·.1)=false:=by rfl):PE X (.Call (.Name x p) (e::es) [] pos) (Je r t):=by
 intro pins s σ H Q I h;refine MV (jH I hg hm hv ?_ hn hdb);exact LR (cu (ha pos pins s σ H _ I h) λus s1 ⟨vs,H1,I1,r1,q1⟩=>hc pins s1 σ H1 vs us Q I1 r1 q1) he hpl
end
end L2
namespace HT
open PySem PyProof.Rows
section
open PySem.SeqAt
open PySem.AutoSeq1 (wpAny_loadPart')
open PySem.MeetsSeq PySem.MeetsSeq2 PySem.MeetsSeq3
end
section
variable{prog:Ki}{w:Kv}{A:Ks}{E:JB->JD->Prop}{s:JD}
theorem AK {t b:JK}{vs ws:Jy JB}{Q:JB->JD->Prop}(ht:Ps s.heap t vs.toArray)(hb:Ps s.heap b ws.toArray)(hv:vs≠[])
  (h1:ws=[]->Q (.ref t) s) (h2:ws≠[]->Q (.ref s.heap.objs.size) { s with heap:=s.heap.push { cls:=.type "tuple",data:=.seq (vs++ws).toArray } })
  (hsz:vs.length+ws.length<=sizeLine):wpAny (model prog w) A (binaryOp .Add (.ref t) (.ref b)) Q E s:=by
 obtain⟨⟨cls,dd,data,sl⟩,ho,hc,n,hd⟩:=id ht;obtain⟨⟨cls2,dd2,data2,sl2⟩,ho2,hc2,n2,hd2⟩:=id hb;simp only at hc hd hc2 hd2;subst hc hd hc2 hd2;have e:vs.toArray++ws.toArray=(vs++ws).toArray:=by simp
 by_cases hw:ws=[]
 ·exact PC ⟨_,ho,rfl⟩ ⟨_,ho2,rfl⟩ N2 O4 M1 MY (MQ _ _)
   (tuple_addW1 t b vs.toArray ws.toArray n n2 dd dd2 sl sl2 (by simpa using hv) (by simp[hw])) ⟨ho,ho2,h1 hw⟩
 ·refine PC ⟨_,ho,rfl⟩ ⟨_,ho2,rfl⟩ N2 O4 M1 MY (MQ _ _)
   (tuple_addW2 t b vs.toArray ws.toArray n n2 dd dd2 sl sl2 (by simpa using hv) (by simpa using hw) (by rw[JV,JV]; exact hsz)) ⟨ho,ho2,?_⟩
  rw[e];exact h2 hw
noncomputable def db (n d:JF):JE JL->JF
 | none=>d
 | some v=>if v < 0 then(v+(n:JL)).toNat else min v.toNat n
theorem xx (n d:JF):db n d td=d:=rfl
theorem AL (n d k:JF):db n d (gV (k:JL))=min k n:=by
 show(if (k:JL) < 0 then((k:JL)+(n:JL)).toNat else min (k:JL).toNat n)=min k n
 rw[Ku (by omega),JW]
theorem D6 (n d:JF)(hd:d<=n)(o:JE JL):db n d o<=n:=by
 cases o with
 | none=>exact hd
 | some v=>
  show(if v < 0 then(v+(n:JL)).toNat else min v.toNat n)<=n
  by_cases hv:v < 0
  ·rw[Kd hv]; omega
  ·rw[Ku hv]; exact Nat.min_le_right _ _
theorem tQ (v:JL)(n d:JF):(if v < 0 then max (v+(n:JL)) 0 else min v (n:JL))=((db n d (gV v):JF):JL):=by
 show(if v < 0 then max (v+(n:JL)) 0 else min v (n:JL))=(((if v < 0 then(v+(n:JL)).toNat else min v.toNat n):JF):JL)
 by_cases hv:v < 0
 ·simp only[Kd hv]; omega
 ·simp only[Ku hv]; omega
theorem sn (lo hi:JE JL)(n:JF):MK lo hi 1 (n:JL)=(((db n 0 lo:JF):JL),((db n n hi:JF):JL)):=by
 have h1:¬ ((1:JL) < 0):=by omega
 unfold MK;simp only[h1,L9];refine Sd ?_ ?_
 ·cases lo with
  | none=>rfl
  | some v=>exact tQ v n 0
 ·cases hi with
  | none=>rfl
  | some v=>exact tQ v n n
theorem sv (i j:JF):L5 (i:JL) (j:JL) 1=j - i:=by
 unfold L5;have h1:(1:JL) > 0:=by omega
 simp only[h1,L1,Int.ediv_one];split <;> omega
theorem lE {v:JB}{o:JE JL}{Q:JE JL->JD->Prop}(p:NA v o)(h:Q o s):wpAny (model prog w) A (Qn v) Q E s:=by
 cases p with
 | none=>exact Qy h
 | int i t=>exact slicePart_int h
theorem fN {sl:JK}{vl vu:JB}{lo hi:JE JL}{n:JF}{Q:JL×JL×JF->JD->Prop}(hs:s.heap.IsSliceOf sl vl vu .none)(pl:NA vl lo)(pu:NA vu hi)
  (h:Q (((db n 0 lo:JF):JL),1,db n n hi - db n 0 lo) s):wpAny (model prog w) A (NB (.ref sl) (pure (n:JL))) Q E s:=by
 obtain⟨os,hos,hcs,hds⟩:=id hs;unfold NB QQ;refine JA (JA (LK hos hds (x:=vl) rfl (JA (LK hos hds (x:=vu) rfl (JA (LK hos hds (x:=.none) rfl (JM ?_)))))));refine JA (Qy ?_);show wpAny _ _ (if ((1:JL)==0)=true then _ else _) _ _ s
 rw[Ku (by decide)]
 refine JA (lE pl (JA (lE pu (JA (JM ?_)))));show wpAny _ _ (match MK lo hi 1 (n:JL)with|(lo,hi)=>pure (lo,(1:JL),L5 lo hi 1)) _ _ s
 rw[sn lo hi n];show wpAny _ _ (pure (((db n 0 lo:JF):JL),(1:JL),L5 ((db n 0 lo:JF):JL) ((db n n hi:JF):JL) 1)) _ _ s;rw[sv];exact JM h
theorem xy (xs:KD JB)(i k:JF):((JN k).filterMap λ(m:JF)=>xs[((i:JL)+(m:JL)*1).toNat]?).toArray=((xs.toList.drop i).take k).toArray:=by
 have e:(λ(m:JF)=>xs[((i:JL)+(m:JL)*1).toNat]?)=λm=>xs[i+m]?:=by
  funext m
  have:((i:JL)+(m:JL)*1).toNat=i+m:=by omega
  rw[this]
 rw[e];have:=pick_run xs i k;rw[List.filterMap_map]at this;have e2:((λx=>xs[x]?)∘λx=>i+x)=λm=>xs[i+m]?:=rfl
 rw[e2]at this;rw[this]
theorem i5 {t sl:JK}{items:KD JB}{vl vu:JB}{lo hi:JE JL}{Q:JB->JD->Prop}(ht:Ps s.heap t items)(hs:s.heap.IsSliceOf sl vl vu .none)(pl:NA vl lo)(pu:NA vu hi)
  (hw:¬ (db items.size 0 lo=0/\db items.size items.size hi=items.size))
  (h:Q (.ref s.heap.objs.size) { s with heap:=s.heap.push { cls:=.type "tuple",data:=.seq ((items.toList.drop (db items.size 0 lo)).take (db items.size items.size hi - db items.size 0 lo)).toArray } })
  (hsz:items.size<=sizeLine):wpAny (model prog w) A (getItem (.ref t) (.ref sl)) Q E s:=by
 have htake:sizeOk (.seq ((items.toList.drop (db items.size 0 lo)).take (db items.size items.size hi - db items.size 0 lo)).toArray):=by
  show((items.toList.drop (db items.size 0 lo)).take (db items.size items.size hi - db items.size 0 lo)).toArray.size<=sizeLine;rw[JV,Kf,Na,Kr];omega
 have hj:db items.size items.size hi<=items.size:=D6 _ _ (JO _) hi;obtain⟨os,hos,hcs,hds⟩:=id hs;have hTs:s.TypeIs (.ref sl) "slice":=⟨os,hos,hcs⟩;unfold getItem
 try with_reducible refine Lk ?_
 first|refine JA (JM ?_)|skip
 refine JA (PD ht.typeIs (by decide) ?_)
 refine JA (KU (name:=LS "__getitem__") ht.typeIs LD
  (La LD ht.typeIs OV ?_ (Pg _ _)))
 show wpAny _ _ (MD (.ref t) >>= _) _ _ s;refine JA (QV ht ?_);refine JA (Nv hTs ?_);rw[Kd (by decide)]
 refine JA (fN hs pl pu ?_);have hno:¬ ((((db items.size 0 lo:JF):JL)==0&&(1:JL)==1&&(db items.size items.size hi - db items.size 0 lo)==items.size)=true):=by
  intro q;rw[JH,JH]at q;have q1:((db items.size 0 lo:JF):JL)=0:=eq_of_beq q.1.1;have q2:db items.size items.size hi - db items.size 0 lo=items.size:=eq_of_beq q.2;exact hw ⟨by omega,by omega⟩
 show wpAny _ _ (if (((db items.size 0 lo:JF):JL)==0&&(1:JL)==1&&(db items.size items.size hi - db items.size 0 lo)==items.size)=true then _ else _) _ _ s
 rw[Ku hno,xy]
 first
  | exact JA (m:=Ln _) (KI (JM ⟨_,rfl,JM h⟩) htake)
  | exact JA (m:=Ln _) (KI (JA (JM (JM ⟨_,rfl,JM h⟩))) htake)
  | exact JA (JA (m:=Ln _) (KI (JM (JM ⟨_,rfl,JM h⟩)) htake))
  | exact JA (JA (m:=Ln _) (KI (JM ⟨_,rfl,JM h⟩) htake))
end
end HT
namespace L2
open PySem PySem.Spec PyProof.Rows
noncomputable abbrev TO:=St->Hp->(JE JL->Hp->Prop)->Prop
noncomputable def PO (X:Cx)(e:JE J9)(t:TO):Prop:=
 ∀(pins:Jy (JK×Ll)) (s:JD) (σ:St) (H:Hp) (Q:JE JL->Hp->Prop),Inv X pins σ H s->t σ H Q->
  wpAny (model X.prog X.w) X.A (evalPart e X.env) (λu s'=>∃o H',Inv X pins σ H' s'/\NA u o/\Q o H') X.xe s
noncomputable def AM:TO:=λ_ H Q=>Q td H
noncomputable def F8 (t:TE):TO:=λσ H Q=>t σ H λx H1=>∃i,x=.int i/\Q (gV i) H1
section
variable{X:Cx}{e:J9}{te:TE}{lo hi:JE J9}{tl th:TO}{pos p2:L0}
theorem AN:PO X td AM:=by
 intro pins s σ H Q I h;rw[QX];exact JM ⟨td,H,I,.none,h⟩
theorem AO (h:PE X e te):PO X (gV e) (F8 te):=by
 intro pins s σ H Q I hw;rw[evalPart_some];refine cu (h pins s σ H _ I hw) λu s1 ⟨x,H1,I1,r1,q1⟩=>?_
 obtain⟨i,rfl,q⟩:=q1;obtain⟨t,rfl⟩:=r1;exact⟨gV i,H1,I1,.int i t,q⟩
noncomputable def F9 (X:Cx)(r:V->JE JL->JE JL->Hp->VK->Prop):Prop:=
 ∀(pins:Jy (JK×Ll)) (s:JD) (σ:St) (H:Hp) (x:V) (v vl vu:JB) (lo hi:JE JL) (sl:JK) (Q:VK),Inv X pins σ H s->RelV x v->s.heap.IsSliceOf sl vl vu .none->NA vl lo->NA vu hi->r x lo hi H Q->
  ∃T id,typeLookup (.type T) "__getitem__" = pure (gV (.builtin id))/\s.TypeIs v T/\wpAny (model X.prog X.w) X.A (getItem v (.ref sl)) (EP X pins σ Q) X.xe s
noncomputable def Jq (r:V->JE JL->JE JL->Hp->VK->Prop)(te:TE)(tl th:TO):TE:=λσ H Q=>te σ H λx H1=>tl σ H1 λl H2=>th σ H2 λu H3=>r x l u H3 Q
theorem xz {r:V->JE JL->JE JL->Hp->VK->Prop}(hr:F9 X r)(he:PE X e te)(hl:PO X lo tl)(hu:PO X hi th):PE X (.Subscript e (.Slice lo hi td p2) pos) (Jq r te tl th):=by
 intro pins s σ H Q I h;refine Subscript_ (cu (he pins s σ H _ I h) λv s1 ⟨x,H1,I1,r1,q1⟩=>?_)
 refine wpAny_Slice (cu (hl pins s1 σ H1 _ I1 q1) λvl s2 ⟨l,H2,I2,pl,q2⟩=>cu (hu pins s2 σ H2 _ I2 q2) λvu s3 ⟨u,H3,I3,pu,q3⟩=>?_)
 rw[QX];refine JM ?_;have I4:Inv X pins σ H3 { s3 with heap:=s3.heap.push { cls:=.type "slice",data:=.fields [vl,vu,.none].toArray } }:=I3.kept (t':=s3.toks) λb ob q=>JI _ q
 obtain⟨T,id,hT,ht,hg⟩:=hr pins { s3 with heap:=s3.heap.push { cls:=.type "slice",data:=.fields [vl,vu,.none].toArray } } σ H3 x v vl vu l u s3.heap.objs.size Q I4 r1 (RO ..) pl pu q3
 show wpAny (model X.prog X.w) X.A (subscriptTail e (.Slice lo hi td p2) v (.ref s3.heap.objs.size)) (EP X pins σ Q) X.xe { s3 with heap:=s3.heap.push { cls:=.type "slice",data:=.fields [vl,vu,.none].toArray } }
 exact tail_any (ops:=[.ref s3.heap.objs.size,v]) ht hT hg (by with_unfolding_all rfl)
noncomputable def lF (xs:Jy V)(lo hi:JE JL):Jy V:=(xs.drop (HT.db xs.length 0 lo)).take (HT.db xs.length xs.length hi - HT.db xs.length 0 lo)
theorem kG (xs:Jy V)(lo hi:JE JL):(lF xs lo hi).length<=xs.length:=by
 unfold lF;rw[Kf,Na];omega
noncomputable def Ih (K:JP):V->JE JL->JE JL->Hp->VK->Prop:=λx lo hi H Q=>∃a xs,x=.ref a/\SqT K H a xs/\
 ¬ (HT.db xs.length 0 lo=0/\HT.db xs.length xs.length hi=xs.length)/\∀p,H p=td->Q (.ref p) (cH H p (.tup (lF xs lo hi)))
theorem D8:F9 X (Ih X.K):=by
 intro pins s σ H x v vl vu lo hi sl Q I rx hs pl pu h;obtain⟨a,xs,rfl,hx,hw,q⟩:=h;cases rx;obtain⟨its,r,ht,hz⟩:=I.tuple hx;have hlen:its.toArray.size=xs.length:=by rw[JV]; exact r.length.symm
 refine⟨"tuple",_,PyProof.Rows.slot_tuple_getitem.lookup,ht.typeIs,?_⟩;refine HT.i5 ht hs pl pu (by rw[hlen]; exact hw) ?_ (by rw[hlen]; exact hz)
 rw[hlen];refine⟨.ref s.heap.objs.size,_,I.laid (t':=s.toks) (o:=.tup (lF xs lo hi)) (λb ob q=>JI _ q) (JO _) ?_,rfl,q _ (I.hok.fresh (JO _))⟩
 exact⟨⟨J8 (kG xs lo hi) hz,NoD.new _ _ _⟩,_,(r.drop (HT.db xs.length 0 lo)).take (HT.db xs.length xs.length hi - HT.db xs.length 0 lo),P2 _ _⟩
theorem Vals.nil_iff {xs:Jy V}{us:Jy JB}(r:Vals xs us):us=[]↔xs=[]:=by
 cases r with
 | nil=>simp
 | cons _ _=>simp
end
noncomputable def wY (n:JF)(i:JL):JE JF:=if 0<=i then(if i < n then gV i.toNat else td)else if -(n:JL)<=i then gV (i+n).toNat else td
noncomputable def r9 {α:Type}(xs:Jy α)(i:JL):JE α:=(wY xs.length i).bind λj=>xs[j]?
theorem tR {n:JF}{i:JL}{j:JF}(h:wY n i=gV j):seqIndex? i n=gV j/\j < n/\-(n:JL)<=i/\i < n:=by
 unfold wY at h
 by_cases h0:0<=i
 ·rw[Kd h0]at h
  by_cases h1:i < n
  ·rw[Kd h1]at h;have e:i.toNat=j:=K5 h;exact⟨by rw[Qk h0 h1,e],by omega,by omega,h1⟩
  ·rw[Ku h1]at h; cases h
 ·rw[Ku h0]at h
  by_cases h1 : -(n:JL)<=i
  ·rw[Kd h1]at h;have e:(i+n).toNat=j:=K5 h;exact⟨by rw[PF (by omega) h1,e],by omega,h1,by omega⟩
  ·rw[Ku h1]at h; cases h
theorem oP {α:Type}{xs:Jy α}{i:JL}{v:α}(h:r9 xs i=gV v):∃j,seqIndex? i xs.length=gV j/\xs[j]?=gV v/\j < xs.length/\-(xs.length:JL)<=i/\i < xs.length:=by
 unfold r9 at h;cases e:wY xs.length i with
 | none=>rw[e]at h; cases h
 | some j=>
  rw[e]at h;obtain⟨h1,h2,h3,h4⟩:=tR e;exact⟨j,h1,h,h2,h3,h4⟩
theorem atI_nat {α:Type}{xs:Jy α}{j:JF}{v:α}(h:xs[j]?=gV v):r9 xs (j:JL)=gV v:=by
 have hj:j < xs.length:=(JU.mp h).1;have e:wY xs.length (j:JL)=gV j:=by
  unfold wY;rw[Kd (by omega),Kd (by omega)]; simp
 unfold r9; rw[e]; exact h
noncomputable def oQ (b:J9):Prop:=∀o i,subscripted b false o i=operate [o,i] (getItem o i)
noncomputable def IxR (X:Cx)(r:R2):Prop:=
 ∀(value slice:J9) (pins:Jy (JK×Ll)) (s:JD) (σ:St) (H:Hp) (x y:V) (v u:JB) (Q:VK),Inv X pins σ H s->RelV x v->RelV y u->r x y H Q->
  subscripted slice false v u=operate [v,u] (getItem v u)->wpAny (model X.prog X.w) X.A (subscriptTail value slice v u) (EP X pins σ Q) X.xe s
noncomputable def MtR (X:Cx)(id:K8)(r:V->Jy V->Hp->VK->Prop):Prop:=
 ∀(pins:Jy (JK×Ll)) (s:JD) (σ:St) (H:Hp) (x:V) (xs:Jy V) (v:JB) (us:Jy JB) (Q:VK),Inv X pins σ H s->RelV x v->Vals xs us->r x xs H Q->
  wpAny (model X.prog X.w) X.A (call (.builtin id) (v::us)) (EP X pins σ Q) X.xe s
section
variable{X:Cx}{a b:J9}{ta tb:TE}{pos:L0}
theorem Ga {r:R2}(hr:IxR X r)(ha:PE X a ta)(hb:PE X b tb)(hs:oQ b):PE X (.Subscript a b pos) (Hv r ta tb):=by
 intro pins s σ H Q I h;exact Subscript_ (DR ha hb I h λv u s2 x y H2 I2 rx ry q=>hr a b pins s2 σ H2 x y v u Q I2 rx ry q (hs _ _))
noncomputable def Ii (K:JP):R2:=λx y H Q=>∃p xs i v,x=.ref p/\y=.int i/\SqL K H p xs/\r9 xs i=gV v/\Q v H
noncomputable def Ij (K:JP):R2:=λx y H Q=>∃p xs i v,x=.ref p/\y=.int i/\SqT K H p xs/\r9 xs i=gV v/\Q v H
noncomputable def Ik:R2:=λx y H Q=>∃z i c,x=.str z/\y=.int i/\z.length<=sizeLine/\r9 z.cps.toList i=gV c/\Q (.str ⟨[c].toArray⟩) H
theorem AQ:IxR X (Ii X.K):=by
 intro value slice pins s σ H x y v u Q I rx ry h hs;obtain⟨p,xs,i,z,rfl,rfl,hq,he,q⟩:=h;cases rx;obtain⟨t,rfl⟩:=ry;obtain⟨its,r,pl,hz⟩:=I.list hq;obtain⟨j,h1,h2,h3,h4,h5⟩:=oP he;obtain⟨w,ew,rw'⟩:=r.get h2;have hl:=r.length;have hn:=jK;have fin:EP X pins σ Q w s:=⟨z,H,I,rw',q⟩
 by_cases h0:0<=i
 ·have hj:i.toNat=j:=by
   rw[Qk h0 h5]at h1;exact K5 h1
  exact item_listR pl.isList h0 (by omega) (by rw[hj]; simpa using ew) fin hs
 ·have hj:(i+(its.toArray.size:JL)).toNat=j:=by
   rw[PF (by omega) h4]at h1
   rw[JV,<- hl];exact K5 h1
  exact M2 (x:=w) pl.isList.typeIs slot_list_getitem.lookup
   (wpAny_getItem_list_neg (Q:=λr s'=>r=w/\EP X pins σ Q r s') pl.isList (by omega) (by rw[JV] <;> omega) (by omega) (by rw[hj]; simpa using ew) ⟨rfl,fin⟩) hs
theorem Ea:IxR X (Ij X.K):=by
 intro value slice pins s σ H x y v u Q I rx ry h hs;obtain⟨p,xs,i,z,rfl,rfl,hq,he,q⟩:=h;cases rx;obtain⟨t,rfl⟩:=ry;obtain⟨its,r,pl,hz⟩:=I.tuple hq;obtain⟨j,h1,h2,h3,h4,h5⟩:=oP he;obtain⟨w,ew,rw'⟩:=r.get h2;have hl:=r.length;have hn:=jK;have fin:EP X pins σ Q w s:=⟨z,H,I,rw',q⟩;exact M2 (x:=w) pl.typeIs slot_tuple_getitem.lookup
  (getItem_tuple (j:=j) (Q:=λr s'=>r=w/\EP X pins σ Q r s') pl (by omega) (by omega) (by rw[JV,<- hl]; exact h1) (by simpa using ew) ⟨rfl,fin⟩) hs
theorem Eb:IxR X Ik:=by
 intro value slice pins s σ H x y v u Q I rx ry h hs;obtain⟨z,i,c,rfl,rfl,hz,he,q⟩:=h;obtain⟨t,rfl⟩:=rx;obtain⟨t',rfl⟩:=ry;obtain⟨j,h1,h2,h3,h4,h5⟩:=oP he;have hl:z.cps.toList.length=z.length:=by simp[Str.length]
 rw[hl]at h1 h4 h5;have hn:=jK;exact tail_any (typeIs_str s z t) slot_str_getitem.lookup (getItem_str (c:=c) (by
  have e1:decide (i < -(2 ^ 63:JL))=false:=Kl (by omega)
  have e2:decide (i>=2 ^ 63)=false:=Kl (by omega)
  rw[e1,e2,O5]) (by rw[h1]; simpa using h2) ⟨.str ⟨[c].toArray⟩,H,I.tok _,⟨_,rfl⟩,q⟩) hs
theorem sw (its:Jy JB)(n j:JF)(u:JB):Lh (·.setIfInBounds j u) { cls:=.type "list",data:=.seq its.toArray n }={ cls:=.type "list",data:=.seq (its.set j u).toArray n }:=by
 simp[Lh]
theorem Inv.lst {pins:Jy (JK×Ll)}{σ:St}{H:Hp}{s:JD}{p:JK}{xs:Jy V}(I:Inv X pins σ H s)(h:H p=gV (.lst xs)) :
  ∃(its:Jy JB) (n:JF),Vals xs its/\s.heap.get? p=gV { cls:=.type "list",data:=.seq its.toArray n }/\xs.length<=sizeLine:=by
 obtain⟨z,its,n,r,e⟩:=I.hok p _ h;exact⟨its,n,r,e,z⟩
theorem Inv.lstUpd {pins:Jy (JK×Ll)}{σ:St}{H:Hp}{s:JD}{p:JK}{xs ys:Jy V}{its its':Jy JB}{n n':JF}{f:Ll->Ll}(I:Inv X pins σ H s)(h:H p=gV (.lst xs))
  (ho:s.heap.get? p=gV { cls:=.type "list",data:=.seq its.toArray n }) (hf:f { cls:=.type "list",data:=.seq its.toArray n }={ cls:=.type "list",data:=.seq its'.toArray n' }) (r:Vals ys its') (hz:ys.length<=sizeLine) (t:JF) :
  Inv X pins σ (cH H p (.lst ys)) { s with heap:=s.heap.update p f,toks:=t }:=by
 have e:(s.heap.update p f).get? p=gV { cls:=.type "list",data:=.seq its'.toArray n' }:=by
  rw[L3 f ho (by rw[hf] <;> rfl),hf]
 refine I.write (x:=p) (e:=p) (by rw[h]; trivial) (.inl rfl) (λb u hb q=>(KP _ _ (Ne.symm hb)).trans q) ⟨_,e⟩ ?_
 exact⟨hz,its',n',r,e⟩
noncomputable def Gb:V->V->V->Hp->(Hp->Prop)->Prop:=λo i v H Q=>∃p xs k j,o=.ref p/\i=.int k/\H p=gV (.lst xs)/\wY xs.length k=gV j/\Q (cH H p (.lst (xs.set j v)))
theorem xA:DK X Gb:=by
 intro pins s σ H o i v ov iv u Q I ro ri rv h;obtain⟨p,xs,k,j,rfl,rfl,hp,hj,q⟩:=h;cases ro;obtain⟨t,rfl⟩:=ri;obtain⟨its,n,r,ho,hz⟩:=I.lst hp;obtain⟨h1,h2,h3,h4⟩:=tR hj;have hl:=r.length;have hn:=jK;have I':Inv X pins σ (cH H p (.lst (xs.set j v))) { s with heap:=s.heap.update p (Lh (·.setIfInBounds j u)) }:=
  I.lstUpd hp ho (sw its n j u) (r.set rv j) (by rw[List.length_set]; exact hz) s.toks
 by_cases h0:0<=k
 ·have hk:k.toNat=j:=by
   rw[Qk h0 h4]at h1;exact K5 h1
  exact PySem.W.ki_setAt ho h0 (by omega) (by rw[JV,<- hl]; exact h4) (by rw[hk]; exact⟨_,I',q⟩)
 ·have hk:(k+(its.toArray.size:JL)).toNat=j:=by
   rw[PF (by omega) h3]at h1
   rw[JV,<- hl];exact K5 h1
  exact PySem.W.ki_setBack ho (by omega) (by rw[JV,<- hl]; exact h3) (by omega) (by rw[hk]; exact⟨_,I',q⟩)
theorem oR (lo hi:JE JL)(n:JF):(sliceBounds lo hi td n).1=((HT.db n 0 lo:JF):JL)/\(sliceBounds lo hi td n).2.1=((HT.db n n hi:JF):JL)/\(sliceBounds lo hi td n).2.2=1:=by
 refine⟨?_,?_,rfl⟩
 ·cases lo with
  | none=>simp[sliceBounds,HT.db]
  | some i=>
   simp only[sliceBounds,HT.db,P5,show(1:JL) > 0 by decide,L1]
   by_cases h:i < 0
   ·simp only[h,L1] <;> omega
   ·simp only[h,L9] <;> omega
 ·cases hi with
  | none=>simp[sliceBounds,HT.db]
  | some i=>
   simp only[sliceBounds,HT.db,P5,show(1:JL) > 0 by decide,L1]
   by_cases h:i < 0
   ·simp only[h,L1] <;> omega
   ·simp only[h,L9] <;> omega
theorem mW (its:Jy JB)(lo hi:JE JL):slicePick its.toArray lo hi td=((its.drop (HT.db its.length 0 lo)).take (HT.db its.length its.length hi - HT.db its.length 0 lo)).toArray:=by
 obtain⟨h1,h2,h3⟩:=oR lo hi its.toArray.size;unfold slicePick;rw[h1,h2,h3];simp only[sliceRange_one,pick_run,JV] <;> rfl
noncomputable def Il (K:JP):V->JE JL->JE JL->Hp->VK->Prop:=λx lo hi H Q=>∃a xs,x=.ref a/\SqL K H a xs/\∀p,H p=td->Q (.ref p) (cH H p (.lst (lF xs lo hi)))
theorem AR:F9 X (Il X.K):=by
 intro pins s σ H x v vl vu lo hi sl Q I rx hs pl pu h;obtain⟨a,xs,rfl,hx,q⟩:=h;cases rx;obtain⟨its,r,ht,hz⟩:=I.list hx;have hlen:=r.length;refine⟨"list",_,slot_list_getitem.lookup,ht.isList.typeIs,?_⟩;refine wpAny_getItem_list_slice ht.isList hs pl pu .none (by simp) ?_ (by rw[JV] <;> omega)
 rw[mW,<- hlen];refine⟨.ref s.heap.objs.size,_,I.laid (t':=s.toks) (o:=.lst (lF xs lo hi)) (λb ob q=>JI _ q) (JO _) ?_,rfl,q _ (I.hok.fresh (JO _))⟩
 exact⟨J8 (kG xs lo hi) hz,_,0,(r.drop (HT.db xs.length 0 lo)).take (HT.db xs.length xs.length hi - HT.db xs.length 0 lo),J1 _ rfl⟩
noncomputable def iz:V->Kc
 | .non=>true
 | .bl _=>true
 | .int _=>true
 | .str _=>true
 | _=>false
noncomputable def AS:V->V->Kc
 | .non,.non=>true
 | .bl a,.bl b=>a==b
 | .bl a,.int b=>(if a then 1 else 0)==b
 | .int a,.bl b=>a==(if b then 1 else 0)
 | .int a,.int b=>a==b
 | .str a,.str b=>a==b
 | _,_=>false
theorem Ec {A:Ks}{s:JD}{y x:V}{u v:JB}(ry:RelV y u)(rx:RelV x v)(fy:iz y=true)(fx:iz x=true):Nb A s u v (AS y x):=by
 cases y with
 | non=>
  cases ry;cases x with
  | non=>cases rx; exact R9 _
  | bl b=>cases rx; exact Ry b
  | int b=>obtain⟨t,rfl⟩:=rx; exact RG b t
  | str b=>obtain⟨t,rfl⟩:=rx; exact RH b t
  | _=>exact absurd (show false=true from fx) J5
 | bl a=>
  cases ry;cases x with
  | non=>cases rx; exact Rz a
  | bl b=>cases rx; exact RA a b
  | int b=>obtain⟨t,rfl⟩:=rx; exact RI a b t
  | str b=>obtain⟨t,rfl⟩:=rx; exact RJ a b t
  | _=>exact absurd (show false=true from fx) J5
 | int a=>
  obtain⟨t',rfl⟩:=ry;cases x with
  | non=>cases rx; exact RK a t'
  | bl b=>cases rx; exact RL a t' b
  | int b=>obtain⟨t,rfl⟩:=rx; exact RP a t' b t
  | str b=>obtain⟨t,rfl⟩:=rx; exact O9 a t' b t
  | _=>exact absurd (show false=true from fx) J5
 | str a=>
  obtain⟨t',rfl⟩:=ry;cases x with
  | non=>cases rx; exact RM a t'
  | bl b=>cases rx; exact RN a t' b
  | int b=>obtain⟨t,rfl⟩:=rx; exact Pa a t' b t
  | str b=>obtain⟨t,rfl⟩:=rx; exact RQ a t' b t
  | _=>exact absurd (show false=true from fx) J5
 | _=>exact absurd (show false=true from fy) J5
noncomputable def ql (x:V)(u:JB):Kc:=match u with
 | .none=>AS .non x
 | .bool b=>AS (.bl b) x
 | .int i _=>AS (.int i) x
 | .str z _=>AS (.str z) x
 | _=>false
theorem sx {x y:V}{u:JB}(r:RelV y u)(f:iz y=true):ql x u=AS y x:=by
 cases y with
 | non=>cases r; rfl
 | bl b=>cases r; rfl
 | int i=>obtain⟨t,rfl⟩:=r; rfl
 | str z=>obtain⟨t,rfl⟩:=r; rfl
 | _=>exact absurd (show false=true from f) J5
theorem i6 {x:V}:∀ {xs:Jy V} {us:Jy JB},Vals xs us->xs.all iz=true->us.any (ql x)=xs.any λy=>AS y x
 | _,_,.nil,_=>rfl
 | y::xs,u::us,.cons r t,f=>by
  rw[Kx,JH]at f;rw[LH,LH,sx r f.1,i6 t f.2]
theorem fO {A:Ks}{s:JD}{x:V}{v:JB}(rx:RelV x v)(fx:iz x=true):∀ {xs:Jy V} {us:Jy JB},Vals xs us->xs.all iz=true->∀u∈us,Nb A s u v (ql x u)
 | _,_,.nil,_=>λu hu=>by cases hu
 | y::xs,u::us,.cons r t,f=>λu' hu=>by
  rw[Kx,JH]at f;rcases Ke.mp hu with rfl|hu
  ·rw[sx r f.1]; exact Ec r rx f.1 fx
  ·exact fO rx fx t f.2 u' hu
noncomputable def Hx (x:V)(xs:Jy V):Kc:=xs.any λy=>AS y x
noncomputable def Im (K:JP)(neg:Kc):R2:=λx y H Q=>∃p xs,y=.ref p/\(SqL K H p xs\/SqT K H p xs)/\iz x=true/\xs.all iz=true/\Q (.bl (if neg then !Hx x xs else Hx x xs)) H
theorem vy:OpR X (compareOp .In) (Im X.K false):=by
 intro pins s σ H x y v u Q I rx ry h;obtain⟨p,xs,rfl,hq,fx,fs,q⟩:=h;cases ry;rcases hq with hq|hq
 ·obtain⟨its,r,pl,hz⟩:=I.list hq;refine Qo (ql x) pl.isList (λw hw=>fO rx fx r fs w (by simpa using hw)) ⟨.bl _,H,I,rfl,?_⟩
  rw[show its.toArray.any (ql x)=its.any (ql x) by simp,i6 r fs]
  exact q
 ·obtain⟨its,r,pl,hz⟩:=I.tuple hq;refine P6 (ql x) pl (λw hw=>fO rx fx r fs w (by simpa using hw)) ⟨.bl _,H,I,rfl,?_⟩
  rw[show its.toArray.any (ql x)=its.any (ql x) by simp,i6 r fs]
  exact q
theorem oS:OpR X (compareOp .NotIn) (Im X.K true):=by
 intro pins s σ H x y v u Q I rx ry h;obtain⟨p,xs,rfl,hq,fx,fs,q⟩:=h;cases ry;rcases hq with hq|hq
 ·obtain⟨its,r,pl,hz⟩:=I.list hq;refine Ph (ql x) pl.isList (λw hw=>fO rx fx r fs w (by simpa using hw)) ⟨.bl _,H,I,rfl,?_⟩
  rw[show its.toArray.any (ql x)=its.any (ql x) by simp,i6 r fs]
  exact q
 ·obtain⟨its,r,pl,hz⟩:=I.tuple hq;refine SeqAt.notIn_tupleAt (ql x) pl (λw hw=>fO rx fx r fs w (by simpa using hw)) ⟨.bl _,H,I,rfl,?_⟩
  rw[show its.toArray.any (ql x)=its.any (ql x) by simp,i6 r fs]
  exact q
theorem oT:CallR X (.type "list") (λxs H Q=>∃p ys,xs=[.ref p]/\(SqL X.K H p ys\/SqT X.K H p ys)/\∀l,H l=td->Q (.ref l) (cH H l (.lst ys))):=by
 intro pins s σ H xs us Q I r h;obtain⟨p,ys,rfl,hq,q⟩:=h;obtain⟨u,rfl,rx⟩:=nO r;cases rx;have fin:∀(its:Jy JB),Vals ys its->ys.length<=sizeLine->∀(h':KH) (c':JF),(∀b o',s.heap.get? b=gV o'->h'.get? b=gV o')->
   h'.get? s.heap.objs.size=gV { cls:=.type "list",dict:=td,data:=.seq its.toArray c',slots:=#[] }->EP X pins σ Q (.ref s.heap.objs.size) { s with heap:=h' }:=λits r' hz h' c' kp e=>
  ⟨.ref s.heap.objs.size,_,I.laid (t':=s.toks) kp (JO _) (show ObjOk X.prog X.w _ h' _ (.lst ys)from⟨hz,its,c',r',e⟩),rfl,q _ (I.hok.fresh (JO _))⟩
 rcases hq with hq|hq
 ·obtain⟨its,r',pl,hz⟩:=I.list hq;have hlen:=r'.length;obtain⟨o,ho,hc,n,hd⟩:=pl.isList;exact QY p (.inl rfl) ho hc hd (λh' c' kp e=>fin its r' hz h' c' kp e) (by simp only[JV] <;> omega)
 ·obtain⟨its,r',pl,hz⟩:=I.tuple hq;have hlen:=r'.length;obtain⟨o,ho,hc,n,hd⟩:=pl;exact QY p (.inr rfl) ho hc hd (λh' c' kp e=>fin its r' hz h' c' kp e) (by simp only[JV] <;> omega)
theorem iA:CallR X (.type "tuple") (λxs H Q=>∃p ys,xs=[.ref p]/\((SqL X.K H p ys/\∀l,H l=td->Q (.ref l) (cH H l (.tup ys)))\/(SqT X.K H p ys/\Q (.ref p) H))):=by
 intro pins s σ H xs us Q I r h;obtain⟨p,ys,rfl,h⟩:=h;obtain⟨u,rfl,rx⟩:=nO r;cases rx;rcases h with⟨hq,q⟩|⟨hq,q⟩
 ·obtain⟨its,r',pl,hz⟩:=I.list hq;have hlen:=r'.length;refine call_tuple_list pl.isList (λh' kp=>?_) (by simp only[JV] <;> omega)
  have I1:Inv X pins σ H { s with heap:=h' }:=I.kept (t':=s.toks) kp
  have I2:Inv X pins σ (cH H h'.objs.size (.tup ys)) { s with heap:=h'.push { cls:=.type "tuple",data:=.seq its.toArray } }:=
   I1.laid (t':=s.toks) (λb o e=>JI _ e) (JO _) (show ObjOk X.prog X.w _ _ _ (.tup ys)from⟨⟨hz,NoD.new _ _ _⟩,its,r',P2 _ _⟩)
  exact⟨.ref h'.objs.size,_,I2,rfl,q _ (I1.hok.fresh (JO _))⟩
 ·obtain⟨its,r',pl,hz⟩:=I.tuple hq;exact call_tuple_same pl ⟨.ref p,H,I,rfl,q⟩
noncomputable def Io (K:JP)(T:K8)(x:V)(H:Hp):Prop:=match x with
 | .str _=>T = "str"
 | .int _=>T = "int"
 | .ref p=>(T = "list"/\∃xs,SqL K H p xs)\/(T = "tuple"/\∃o,K.lookup p=gV o/\o.cls=.type "tuple"/\o.dict=td)\/
   (T = "dict"/\((∃kvs,H p=gV (.dK kvs))\/∃kvs,H p=gV (.dT kvs)))\/(T = "set"/\∃S n,H p=gV (.set S n))
 | _=>KZ
theorem xB {pins:Jy (JK×Ll)}{σ:St}{H:Hp}{s:JD}{T:K8}{x:V}{v:JB}(I:Inv X pins σ H s)(r:RelV x v)(ty:Io X.K T x H) :
  s.TypeIs v T/\∀a,v=.ref a->∃ob,s.heap.get? a=gV ob/\ob.dict=td:=by
 cases x with
 | str z=>
  obtain⟨t,rfl⟩:=r;cases(show T = "str" from ty)
  exact⟨typeIs_str s z t,λ_ e=>nomatch e⟩
 | int i=>
  obtain⟨t,rfl⟩:=r;cases(show T = "int" from ty)
  exact⟨Qz s i t,λ_ e=>nomatch e⟩
 | ref p=>
  cases r;rcases ty with⟨rfl,xs,hq⟩|⟨rfl,o,hk,hc,hd⟩|⟨rfl,hk⟩|⟨rfl,S,n,hk⟩
  ·obtain⟨its,_,pl,_⟩:=I.list hq;refine⟨pl.isList.typeIs,λa e=>?_⟩
   cases e;obtain⟨o,n,e,c,hd,_⟩:=pl;exact⟨o,e,hd⟩
  ·refine⟨⟨o,I.kIn p o hk,hc⟩,λa e=>?_⟩
   cases e;exact⟨o,I.kIn _ o hk,hd⟩
  ·have z:∃o,s.heap.get? p=gV o/\o.ExactDict:=by
    rcases hk with⟨kvs,hk⟩|⟨kvs,hk⟩
    ·obtain⟨_,_,_,_,o,_,_,e,ex,_⟩:=I.hok p _ hk;exact⟨o,e,ex⟩
    ·obtain⟨_,_,_,_,o,_,_,e,ex,_⟩:=I.hok p _ hk;exact⟨o,e,ex⟩
   obtain⟨o,e,ex⟩:=z;refine⟨⟨o,e,ex.1⟩,λa e2=>?_⟩
   cases e2;exact⟨o,e,ex.2.1⟩
  ·obtain⟨o,_,_,_,e,ex,_⟩:=I.hok p _ hk;refine⟨⟨o,e,ex.1⟩,λa e2=>?_⟩
   cases e2;exact⟨o,e,ex.2.1⟩
 | _=>exact KZ.elim ty
variable{o e:J9}{es:Jy J9}{to:TE}{t:TA}{name:JZ}{apos cpos:L0}{T id:K8}{r:V->Jy V->Hp->VK->Prop}
end
noncomputable def Ip (X:Cx)(id:K8)(r:V->Jy V->Hp->VK->Prop):Prop:=
 ∀(pins:Jy (JK×Ll)) (s:JD) (σ:St) (H:Hp) (x:V) (xs:Jy V) (v:JB) (us:Jy JB) (Q:VK),Inv X pins σ H s->RelV x v->Vals xs us->r x xs H Q->
  wpAny (model X.prog X.w) X.A (call (.builtin id) (v::us)) (EP X pins σ Q) X.xe s
theorem Vals.one:∀ {x:V} {us:Jy JB},Vals [x] us->∃u,us=[u]/\RelV x u
 | _,_,.cons r .nil=>⟨_,rfl,r⟩
theorem Vals.eraseIdx:∀ {xs:Jy V} {us:Jy JB} (i:JF),Vals xs us->Vals (xs.eraseIdx i) (us.eraseIdx i)
 | _,_,_,.nil=>.nil
 | _,_,0,.cons _ t=>t
 | _,_,i+1,.cons r t=>.cons r (Vals.eraseIdx i t)
theorem Vals.rep {xs:Jy V}{us:Jy JB}(h:Vals xs us):∀k:JF,Vals (Kz k xs).flatten (Kz k us).flatten
 | 0=>.nil
 | k+1=>by
  rw[LA,LA,Ma,Ma];exact Vals.append h (Vals.rep h k)
theorem nU {α:Type}:∀(l:Jy α) (i:JF),(l.eraseIdx i).length<=l.length
 | [],_=>JO _
 | _::_,0=>ME _
 | _::r,i+1=>Nc (nU r i)
theorem nV (its:Jy JB):∀(k:JF) (acc:Jy JB),
  QA (λx1 x2=>x1++x2) acc.toArray (Kz k its.toArray)=(acc++(Kz k its).flatten).toArray
 | 0,acc=>by simp
 | k+1,acc=>by
  have e:acc.toArray++its.toArray=(acc++its).toArray:=by simp
  have e2:(acc++its)++(Kz k its).flatten=acc++(Kz (k+1) its).flatten:=by
   rw[LA,Ma,My]
  rw[<- e2,<- nV its k (acc++its),<- e,LA,List.foldl_cons]
section
variable{X:Cx}{pins:Jy (JK×Ll)}{σ:St}{H:Hp}{s:JD}{l b:JK}{xs ys zs:Jy V}
theorem Inv.lset {its its':Jy JB}{n:JF}{f:KD JB->KD JB}{t':JF}(I:Inv X pins σ H s)(hH:H l=gV (.lst xs))
  (e:s.heap.get? l=gV { cls:=.type "list",data:=.seq its.toArray n }) (hf:f its.toArray=its'.toArray) (hv:Vals ys its') (hz:ys.length<=sizeLine) :
  Inv X pins σ (cH H l (.lst ys)) { s with heap:=s.heap.update l (Lh f),toks:=t' }:=by
 have q:=P7 e f;rw[hf]at q;refine I.write (x:=l) (e:=l) (by rw[hH]; exact trivial) (.inl rfl) (λb' u hb hu=>(KP s.heap (Lh f) (Ne.symm hb)).trans hu) ⟨_,q⟩ ?_
 exact⟨hz,its',_,hv,q⟩
theorem Inv.lnew {its:Jy JB}{t':JF}(I:Inv X pins σ H s)(hv:Vals ys its)(hz:ys.length<=sizeLine) :
  Inv X pins σ (cH H s.heap.objs.size (.lst ys)) { s with heap:=s.heap.push { cls:=.type "list",data:=.seq its.toArray },toks:=t' }:=
 I.laid (λ_ _ q=>JI _ q) (JO _) ⟨hz,its,0,hv,J1 _ rfl⟩
theorem Inv.fresh (I:Inv X pins σ H s):H s.heap.objs.size=td:=I.hok.fresh (JO _)
theorem Inv.lstM (I:Inv X pins σ H s)(hH:H l=gV (.lst xs)):xs.length<=sizeLine/\∃(its:Jy JB) (n:JF),Vals xs its/\xs.length=its.length/\s.heap.get? l=gV { cls:=.type "list",data:=.seq its.toArray n }:=by
 obtain⟨z,its,n,r,e⟩:=I.hok l _ hH;exact⟨z,its,n,r,r.length,e⟩
theorem qm {n:JF}(h:n<=sizeLine):Mh n=false:=by
 unfold Mh;exact Kl (by omega)
end
section
variable{X:Cx}
noncomputable def AT:V->Jy V->Hp->VK->Prop:=λx vs H Q=>∃l xs y,x=.ref l/\vs=[y]/\H l=gV (.lst xs)/\xs.length < sizeLine/\Q .non (cH H l (.lst (xs++[y])))
theorem vz:Ip X "list.append" AT:=by
 intro pins s σ H x vs v us Q I rx rv h;obtain⟨l,xs,y,rfl,rfl,hH,hz,q⟩:=h;cases rx;obtain⟨u,rfl,ru⟩:=rv.one;obtain⟨z,its,n,r,hl,e⟩:=I.lstM hH;refine Nd F.slot_list_append ⟨_,e,rfl⟩ F.entry_list_append (F.args_list_append_2 _ _) (PH l its.toArray n u (by rw[JV]; omega)) ⟨e,?_⟩
 refine⟨.non,_,I.lset (its':=its++[u]) hH e (by simp) (r.append (.cons ru .nil)) ?_,rfl,q⟩
 rw[JG,KT];omega
noncomputable def AU:V->Jy V->Hp->VK->Prop:=λx vs H Q=>∃l b xs zs,x=.ref l/\vs=[.ref b]/\H l=gV (.lst xs)/\H b=gV (.lst zs)/\xs.length+zs.length<=sizeLine/\Q .non (cH H l (.lst (xs++zs)))
theorem vA:Ip X "list.extend" AU:=by
 intro pins s σ H x vs v us Q I rx rv h;obtain⟨l,b,xs,zs,rfl,rfl,hH,hB,hz,q⟩:=h;cases rx;obtain⟨u,rfl,ru⟩:=rv.one;cases ru;obtain⟨z,its,n,r,hl,e⟩:=I.lstM hH;obtain⟨z2,its2,n2,r2,hl2,e2⟩:=I.lstM hB;have hsz:its.toArray.size+its2.toArray.size<=sizeLine:=by rw[JV,JV]; omega
 have hlong:¬ (!its.toArray.isEmpty&&Mh (its.toArray.size+its2.toArray.size))=true:=by
  rw[qm hsz,Bool.and_false];exact J5
 refine Nd F.slot_list_extend ⟨_,e,rfl⟩ F.entry_list_extend (F.args_list_extend_2 _ _)
  (PJ l its.toArray n b its2.toArray n2 hlong (by rw[JV]; omega) (by omega)) ⟨e,e2,?_⟩
 refine⟨.non,_,I.lset (its':=its++its2) hH e (by simp) (r.append r2) ?_,rfl,q⟩
 rw[JG];omega
noncomputable def Ed:V->Jy V->Hp->VK->Prop:=λx vs H Q=>∃l xs i k y,x=.ref l/\vs=[.int i]/\H l=gV (.lst xs)/\-(2 ^ 63)<=i/\i < 2 ^ 63/\seqIndex? i xs.length=gV k/\xs[k]?=gV y/\Q y (cH H l (.lst (xs.eraseIdx k)))
theorem xD:Ip X "list.pop" Ed:=by
 intro pins s σ H x vs v us Q I rx rv h;obtain⟨l,xs,i,k,y,rfl,rfl,hH,h1,h2,hk,hy,q⟩:=h;cases rx;obtain⟨u,rfl,ru⟩:=rv.one;obtain⟨t,rfl⟩:=ru;obtain⟨z,its,n,r,hl,e⟩:=I.lstM hH;obtain⟨w,hw,rw'⟩:=r.get hy;refine Nd F.slot_list_pop ⟨_,e,rfl⟩ F.entry_list_pop (F.args_list_pop_2 _ _)
  (RB l its.toArray n i t k w (QC h1 h2) (by rw[JV,<- hl]; exact hk) (by rw[<- Lm]; exact hw) (by rw[JV]; omega)) ⟨e,?_⟩
 refine⟨y,_,I.lset (its':=its.eraseIdx k) hH e ?_ (r.eraseIdx k) ?_,rw',q⟩
 ·show its.toArray.eraseIdxIfInBounds k=(its.eraseIdx k).toArray;rw[List.eraseIdxIfInBounds_toArray]
 ·have:=nU xs k;omega
noncomputable def Iq:R2:=λx y H Q=>∃l b xs zs,x=.ref l/\y=.ref b/\H l=gV (.lst xs)/\H b=gV (.lst zs)/\xs.length+zs.length<=sizeLine/\∀p,H p=td->Q (.ref p) (cH H p (.lst (xs++zs)))
theorem Ee:OpR X (binaryOp .Add) Iq:=by
 intro pins s σ H x y v u Q I rx ry h;obtain⟨l,b,xs,zs,rfl,rfl,hH,hB,hz,q⟩:=h;cases rx;cases ry;obtain⟨z,its,n,r,hl,e⟩:=I.lstM hH;obtain⟨z2,its2,n2,r2,hl2,e2⟩:=I.lstM hB;refine PySem.P.add_list e e2 ?_ (by rw[JV,JV]; omega)
 have ea:its.toArray++its2.toArray=(its++its2).toArray:=by simp
 rw[ea];exact⟨.ref _,_,I.lnew (t':=s.toks) (r.append r2) (by rw[JG]; omega),rfl,q _ I.fresh⟩
noncomputable def Ir:R2:=λx y H Q=>∃l k xs,x=.ref l/\y=.int k/\H l=gV (.lst xs)/\-(2 ^ 63)<=k/\k < 2 ^ 63/\xs.length*k.toNat<=sizeLine/\
 ∀p,H p=td->Q (.ref p) (cH H p (.lst (Kz k.toNat xs).flatten))
theorem AV {α:Type}(xs:Jy α)(k:JF):(Kz k xs).flatten.length=k*xs.length:=by
 induction k with
 | zero=>simp
 | succ k ih=>rw[LA,Ma,JG,ih,Oc,Nat.add_comm]
theorem Ef:OpR X (binaryOp .Mult) Ir:=by
 intro pins s σ H x y v u Q I rx ry h;obtain⟨l,k,xs,rfl,rfl,hH,h1,h2,hz,q⟩:=h;cases rx;obtain⟨t,rfl⟩:=ry;obtain⟨z,its,n,r,hl,e⟩:=I.lstM hH;have hlen:its.toArray.size*k.toNat<=sizeLine:=by rw[JV,<- hl]; exact hz
 have hcap:¬ its.toArray.size*k.toNat > (2 ^ 63 - 1) / 8:=by
  have:(sizeLine:JF)<=(2 ^ 63 - 1) / 8:=by decide
  omega
 have hfit:¬ (!QD k)=true:=by
  rw[QC h1 h2];exact J5
 have hlong:¬ Mh (its.toArray.size*k.toNat)=true:=by
  rw[qm hlen];exact J5
 have hnew:QA (λx1 x2=>x1++x2) #[] (Kz (if its.toArray.isEmpty=true then 0 else k.toNat) its.toArray)=(Kz k.toNat its).flatten.toArray:=by
  have f0:∀m:JF,QA (λx1 x2=>x1++x2) #[] (Kz m its.toArray)=(Kz m its).flatten.toArray:=λm=>by
   have:=nV its m [];rw[Qp]at this;exact this
  rw[f0];cases its with
  | nil=>simp
  | cons a r'=>rw[Ku (by simp)]
 refine wpAny_binaryOp_repeat_ref (T:="list") (U:="int") (by decide) ⟨_,e,rfl⟩ (λs'=>Qz s' k t) noFill_list_mul F.fills_int_mul F.slot_int_rmul repeat_list F.slot_int_index.lookup
  (Nd F.slot_int_rmul (Qz s k t) F.entry_int_rmul (F.args_int_rmul_2 _ _) (int___rmul___int_list k t l its.toArray n)
   ⟨e,rfl,⟨_,e,rfl⟩,Nd F.slot_list_mul ⟨_,e,rfl⟩ F.entry_list_mul (F.args_list_mul_2 _ _) (Pr l its.toArray n k t hfit hcap hlong) ⟨e,?_⟩⟩)
 rw[hnew];exact⟨.ref _,_,I.lnew (t':=s.toks) (r.rep k.toNat) (by rw[AV,Rn]; exact hz),rfl,q _ I.fresh⟩
end
section
variable{X:Cx}{pins:Jy (JK×Ll)}{σ:St}{H:Hp}{s:JD}{a:JK}{y v:V}{u r:JB}{o:JE V}{A:Ks}{E:JB->JD->Prop}
theorem Inv.big (I:Inv X pins σ H s):sysModules < s.heap.objs.size:=by
 have h:mainGlobals < s.heap.objs.size:=(I.mod.glob.keeps I.bk).lt;exact Mb (by decide) h
theorem oU {h':KH}{t':JF}{ob:HO}(I:Inv X pins σ H s)(mu:Fz (H a))(hs:L8 a s.heap h')(he:∃q,h'.get? a=gV q)(new:ObjOk X.prog X.w (cH H a ob) h' a ob) :
  Inv X pins σ (cH H a ob) { s with heap:=h',toks:=t' }:=
 I.write (x:=a) (e:=a) mu (.inl rfl) (λb q hb z=>(hs.2 b hb).trans z) he new
end
noncomputable abbrev VV:Jy (V×V)->Jy (JB×JB)->Prop:=N8 λp q=>RelV p.1 q.1/\RelV p.2 q.2
end L2
namespace Att
open PySem PySem.W PySem.Calls PyProof.Rows
theorem kU {P:QE}{h:KH}:∀(ns:Jy JL) (vs:Jy JB),WellAll P h vs (ns.map WData.int)->Qu vs ns:=by
 intro ns
 induction ns with
 | nil=>
  intro vs w;rw[Od]at w;cases w;exact .nil
 | cons n ns ih=>
  intro vs w;rw[Lb]at w;cases w with
  | cons a b=>
   cases a;exact .cons _ _ (ih _ b)
theorem vB {l:OpenLaw}{n:JF}(hn:l.most=gV n){P:QE}{h:KH}{args:Jy WData}{vals:Jy JB}
  (hpre:l.row.toRowW.claim.pre args=true) (hwl:WellAll P h vals args) :
  ∃a vs ns,vals=[Ky a]/\args=[WData.list (ns.map WData.int)]/\h.get? a=gV { cls:=.type "list",data:=.seq vs.toArray }/\Qu vs ns/\ns.length<=n:=by
 have hsh:WShape.hasAll [] args [.list .int]=true:=(pre_splitW hpre).1;have hc:l.pre.holds [] { args:=args }=true:=(pre_splitW hpre).2;obtain⟨d,r,rfl,h1,h2⟩:=hasAllW_cons hsh;obtain rfl:=hasAllW_nil h2;obtain⟨xs,rfl,h3⟩:=hasW_list h1;obtain⟨ns,rfl⟩:=items_int h3;have hlen:ns.length<=n:=by
  unfold OpenLaw.pre at hc;have h4:(WTm.not (.lt (.lit (.int (n:JL))) (.len (.arg 0)))).holds [] { args:=[.list (ns.map .int)] }=true:=by
   have h4:=(holds_andW hc).1;rw[hn]at h4;exact h4
  have h5:=condW_of h4 (w_not (w_lt w_lit (w_len_list (w_arg rfl))));rw[Jz]at h5;refine Nat.le_of_not_lt λq=>?_
  have q':(n:JL) < ((ns.length:JF):JL):=by omega
  first
   | (rw[LL q']at h5; exact absurd h5 (by decide))
   | (simp at h5; omega)
 cases hwl with
 | cons w1 w2=>
  cases w2;cases w1 with
  | list ho hall=>exact⟨_,_,ns,rfl,rfl,ho,kU ns _ hall,hlen⟩
theorem vC (l:OpenLaw)(args:Jy WData):l.row.toRowW.claim.post args (.bool true) args=true:=
 postW_of (r:=l.row.toRowW) (X:=(true==true))
  (show WShape.has [] (.bool true) .bool=true by first|rfl|decide|simp[WShape.has,WShape.arms,WShape.armsAll])
  (show(WTm.eq .res (.lit (.bool true))).value [] { args:=args,res:=gV (.bool true),after:=args }=gV (.bool (true==true))from w_eq_bool (w_res rfl) w_lit) rfl
theorem attach_call {l:OpenLaw}{n:JF}{q:Ki}{loose:Jy JZ}{XP:(JZ->JE JB)->KH->Prop}{YP:Kv->KH->Prop}{d:DefRec}
  (hn:l.most=gV n) (hdf:d.params.defaults=[])
  (call:∀(w:Kv) (s₀ s₁:JD) (mg mb:JZ->JE JB) (fa:JK) (o:Ll) (pm cd doc:JB) (a:JK) (vs:Jy JB) (ns:Jy JL),
   Ground q loose [] XP w s₀ mg mb s₁.heap->YP w s₁.heap->
   s₁.heap.get? fa=gV o->o.data=.func (docDef d.name d.params d.body d.scope pm cd doc)->s₁.heap.CodeRec cd d.name->mg d.name=gV (.ref fa)->
   s₁.heap.get? a=gV { cls:=.type "list",data:=.seq vs.toArray }->Qu vs ns->ns.length<=n->s₁.gens=#[]->
   codeAny (model l.prog w) callerA (.call (.ref fa) ⟨[.ref a],[]⟩) (λr s'=>r=.ok (.ret (.bool true))/\OldK s₁.heap s'.heap/\s'.os=s₁.os/\NO s'.gens) s₁) :
  WalkO q loose XP YP l.row.toRowW d [] (λf vs=>QF f vs):=by
 intro w s₀ s₁ mg mb G Y fa o pm cd doc dV kV ho hd hcd hD hmg hg args vals as hpre hlay hrd hwl hlo;obtain rfl:dV=.none:=Dflts.none hD hdf;obtain rfl:kV=.none:=Dflts.noKw hD;obtain⟨a,vs,ns,rfl,rfl,hobj,hints,hlen⟩:=vB hn hpre hwl;refine enter_call (Oa (call w s₀ s₁ mg mb fa o pm cd doc a vs ns G Y ho (fd_plain hd) hcd hmg hobj hints hlen hg) λr s' hq=>?_)
 obtain⟨rfl,h2,h3,h4⟩:=hq;exact⟨.inl ⟨.bool true,.bool true,[],rfl,λ_=>rfl,.bool true,vC l _,λ_=>⟨R1,λ_ hm=>(nomatch hm)⟩⟩,h2,h3,h4⟩
end Att
namespace L2
open PySem PySem.Spec PyProof.Rows
theorem nW:∀ {vs:Jy JB} {ns:Jy JL},Qu vs ns->Vals (ns.map V.int) vs
 | _,_,.nil=>.nil
 | _,_,.cons n t h=>.cons ⟨t,rfl⟩ (nW h)
noncomputable def xE (H:Hp):Prop:=∀b,H b=td\/∃o xs,H b=gV (.frz o (.lst xs))
theorem xF {P:Ki}{w:Kv}{K:JP}{mg mb:JZ->JE JB}{CX:xt}{k:JF}{fa a:JK}{fd:LX}{x:JZ}{sp:Sp}{s₁:JD}{vs:Jy JB}{ns:Jy JL}
  (KX:K.In s₁.heap) (hns:s₁.heap.Ns mainGlobals mg) (hb:s₁.heap.Ns builtinsNs mb) (hbb:∀x:JZ,x≠"__name__"->mb x=bootBuiltins x) (hlim:s₁.heap.NoLimit) (hg:s₁.gens=#[])
  (ha:s₁.heap.get? a=gV { cls:=.type "list",data:=.seq vs.toArray }) (hi:Qu vs ns) (hl:ns.length<=sizeLine) (hr:Room k callerA)
  (F:∀base:KH,K.In base->base.Ns mainGlobals mg->FnOk P w K mg base CX k fa fd [x] sp) (hbind:∀(s:JD) (u:JB),Pz s fd ⟨[u],[]⟩ [(x,u)])
  (hsp:∀H:Hp,xE H->SqL K H a (ns.map V.int)->sp [.ref a] H (λv _=>v=.bl true) λ_ _ _=>KZ)
  (hCX:∀H e s',CX [] H s₁ (λ_ _ _=>KZ) e s'->KZ) :
  codeAny (model P w) callerA (.call (.ref fa) ⟨[.ref a],[]⟩) (λr s'=>r=.ok (.ret (.bool true))/\OldK s₁.heap s'.heap/\s'.os=s₁.os/\NO s'.gens) s₁:=by
 have rv:=nW hi;have lenV:=hi.length;have core:∀H:Hp,xE H->SqL K H a (ns.map V.int)->HOk P w H s₁.heap->(∀b,H b≠td->b=a)->(H a≠td->K.lookup a=td)->
   codeAny (model P w) callerA (.call (.ref fa) ⟨[.ref a],[]⟩) (λr s'=>r=.ok (.ret (.bool true))/\OldK s₁.heap s'.heap/\s'.os=s₁.os/\NO s'.gens) s₁:=by
  intro H hO hS hok hA hK;have base_of:∀ {b:JK} {o:Ll},s₁.heap.get? b=gV o->H b=td->(oM s₁.heap H).get? b=gV o:=λe n=>w9 e n
  have noA:∀ {b:JK} {o:Ll} {es:KD LO} {ep:JF},s₁.heap.get? b=gV o->o.data=.dict es ep->H b=td:=λ{b o es ep} e d=>by
   cases q:H b with
   | none=>rfl
   | some u=>
    have e':b=a:=hA b (by rw[q]; simp)
    subst e';rw[ha]at e; cases e
    have d':Data.seq vs.toArray _=Data.dict es ep:=d;cases d'
  have nsK:∀ {b:JK} {m:JZ->JE JB},s₁.heap.Ns b m->(oM s₁.heap H).Ns b m:=λ{b m} ⟨o,es,ep,e,d,r⟩=>⟨o,es,ep,base_of e (noA e d),d,r⟩
  have hKb:K.In (oM s₁.heap H):=λb o e=>base_of (KX b o e) (by
   cases q:H b with
   | none=>rfl
   | some u=>
    have e':b=a:=hA b (by rw[q]; simp)
    subst e';rw[hK (by rw[q]; simp)]at e; cases e)
  have hM:Mod K mg (oM s₁.heap H):=⟨hKb,nsK hns,⟨mb,nsK hb,hbb⟩,let ⟨mc,h1,h2⟩:=hlim; ⟨mc,nsK h1,h2⟩⟩
  have e0:Env0 P w K mg (oM s₁.heap H) callerA [] s₁ H:=⟨rfl,hM,λb o e=>Au e,Nat.le_of_eq (vk _ _),trivial,λb hb=>absurd (show b∈([]:Jy JK)from hb) (by simp),hok,.of_eq hg⟩
  refine Oa ((F _ hKb (nsK hns)).run callerA [] s₁ H ⟨[.ref a],[]⟩ [.ref a] [.ref a] _ _ hr e0 (hbind s₁ (.ref a)) (.cons rfl .nil) (hsp H hO hS)) λr s' h=>?_
  cases r with
  | error e=>exact(hCX H e s' h).elim
  | ok fl=>
   cases fl with
   | next=>exact KZ.elim h
   | brk=>exact KZ.elim h
   | cont=>exact KZ.elim h
   | ret u=>
    obtain⟨v,H',os,bare,un,hok',r',q⟩:=h;have q':v=.bl true:=q;subst q';obtain rfl:u=MA true:=r';refine⟨rfl,OldK.of_keep λb o e=>?_,os,bare⟩
    cases q:H b with
    | none=>exact un.keep b o e q (by intro z; exact absurd (show b∈([]:Jy JK)from z) (by simp)) (by simp)
    | some u=>
     rcases hO b with z|⟨ob,xs,z⟩
     ·rw[q]at z; cases z
     ·have z2:=un.frzs b ob _ z;obtain⟨e1,_⟩:=hok b _ z;obtain⟨e2,_⟩:=hok' b _ z2;rw[e]at e1; cases e1
      exact e2
 cases hk:K.lookup a with
 | some o=>
  have e:=KX a o hk;rw[ha]at e;cases e;refine core (λ_=>td) (λ_=>.inl rfl) (.inr ⟨_,vs.toArray,_,hk,rfl,rfl,rfl,by rw[JV,lenV]; exact hl,by simpa using rv⟩) (λb u z=>by have z':(td:JE HO)=gV u:=z; cases z') (λb z=>absurd rfl z) λz=>absurd rfl z
 | none=>
  refine core (λb=>if b=a then gV (.frz { cls:=.type "list",data:=.seq vs.toArray } (.lst (ns.map V.int)))else td) (λb=>?_) (.inl (.inr ⟨{ cls:=.type "list",data:=.seq vs.toArray },Kd rfl⟩)) (λb u z=>?_) (λb z=>?_) λ_=>hk
  ·by_cases hb:b=a
   ·exact .inr ⟨_,_,Kd hb⟩
   ·exact .inl (Ku hb)
  ·by_cases hb:b=a
   ·have z':=(Kd hb).symm.trans z;cases z';subst hb;exact⟨ha,by rw[Jz]; exact hl,vs,_,rv,ha⟩
   ·have z':=(Ku hb).symm.trans z;cases z'
  ·by_cases hb:b=a
   ·exact hb
   ·exact absurd (Ku hb) z
theorem AW {l:Oo}{n k:JF}{q:Ki}{loose:Jy JZ}{XP:(JZ->JE JB)->KH->Prop}{YP:Kv->KH->Prop}{d:DefRec}{K:QE->JP}{CX:Kv->xt}{sp:Kv->Sp}{x:JZ}
  (hn:l.most=gV n) (hn2:n<=sizeLine) (hdf:d.params.defaults=[]) (hr:Room k callerA)
  (hY:∀(w:Kv) (h:KH),YP w h->(K w.params).In h)
  (F:∀(w:Kv) (mg:JZ->JE JB) (fa:JK) (h:KH),(K w.params).In h->h.Ns mainGlobals mg->mg d.name=gV (.ref fa)->
   ∃fd:LX,(∀(s:JD) (u:JB),Pz s fd ⟨[u],[]⟩ [(x,u)])/\
    ∀base:KH,(K w.params).In base->base.Ns mainGlobals mg->FnOk l.prog w (K w.params) mg base (CX w) k fa fd [x] (sp w))
  (hsp:∀(w:Kv) (H:Hp) (a:JK) (ns:Jy JL),ns.length<=n->xE H->SqL (K w.params) H a (ns.map V.int)->sp w [.ref a] H (λv _=>v=.bl true) λ_ _ _=>KZ)
  (hCX:∀(w:Kv) (H:Hp) (s:JD) (e:JB) (s':JD),CX w [] H s (λ_ _ _=>KZ) e s'->KZ) :
  QZ q loose XP YP l.row.toRowW d [] (λf vs=>QF f vs):=by
 refine Att.attach_call hn hdf λw s₀ s₁ mg mb fa o pm cd doc a vs ns G Y ho hd hcd hmg hobj hints hlen hg=>?_
 have KX:=hY w _ Y;obtain⟨fd,hb,hF⟩:=F w mg fa _ KX G.T.g hmg;exact xF KX G.T.g G.T.b G.T.builtins G.T.nolimit hg hobj hints (J8 hlen hn2) hr hF hb (λH hO hS=>hsp w H a ns hlen hO hS) λH e s'=>hCX w H s₁ e s'
noncomputable def en (s:Mg):Arguments:=match s with
 | .FunctionDef _ a _ _ _ _ _ _ _ _=>a
 | _=>{ posonlyargs:=[],args:=[],vararg:=td,kwonlyargs:=[],kw_defaults:=[],kwarg:=td,defaults:=[] }
noncomputable def dD (s:Mg):Jy Mg:=match s with
 | .FunctionDef _ _ b _ _ _ _ _ _ _=>b
 | _=>[]
noncomputable def ah (s:Mg):Mx:=match s with
 | .FunctionDef _ _ _ _ _ _ sc _ _ _=>sc
 | _=>{ kind:=.function,names:=[],isGenerator:=false,isCoroutine:=false }
noncomputable abbrev w6:xt:=λ_ _ _ _ _ _=>KZ
noncomputable abbrev E0:XK:=λ_ _ _=>KZ
theorem CW {X:Cx}:oO w6 X E0:=λ_ _ _ _ _ _ _ h=>h.elim
structure Fun (K:JP)(x qual:JZ)(st:Mg)(f:JK)(fd:LX):Prop where
 ex:∃(oc:JB) (od:JE JK) (kV doc pm:JB) (an:JE JK) (cdv ct:JB) (osl:KD (JE JB)),
  fd=LG x qual (en st) (dD st) (ah st) .none kV doc pm an cdv ct/\K.lookup f=gV ⟨oc,od,.func fd,osl⟩/\MC K cdv qual=true
 kp:Lg K (.ref f)=true
section
variable{P:Ki}{w:Kv}{K:JP}{mg:JZ->JE JB}{base:KH}
theorem Fun.ok {x qual:JZ}{st:Mg}{f:JK}{fd:LX}{N ps:Jy JZ}{k:JF}{sp:Sp}(F:Fun K x qual st f fd)(S:FnScope N ps (ah st))(len:∀vs H Q E,sp vs H Q E->vs.length=ps.length)
  (hbody:∀(cdv:JB) (A:Ks) (outer:Jy Pu) (s:JD) (H:Hp) (vs:Jy V) (Q:VK) (E:XK),Room k (A.deeper (envOfC qual (ah st) s.heap.objs.size f cdv))->sp vs H Q E->
   ∃t,PSs (sm w6 P w K mg base N qual (ah st) f cdv A outer s H E).nox (dD st) t/\t { nx:=λ_ H'=>Q .non H',rt:=Q } (gJ N vs) H):FnOk P w K mg base w6 (k+1) f fd ps sp:=by
 obtain⟨oc,od,kV,doc,pm,an,cdv,ct,osl,rfl,lk,hcd⟩:=F.ex;refine F7 lk hcd S len λA outer s H vs Q E hr hsp=>?_
 obtain⟨t,h,q⟩:=hbody cdv A outer s H vs Q E hr hsp;exact⟨t,h.nox,q⟩
theorem Fun.binds {x qual:JZ}{st:Mg}{f:JK}{fd:LX}{ps:Jy JZ}(F:Fun K x qual st f fd)
  (h:∀(kV doc pm:JB) (an:JE JK) (cdv ct:JB) (us:Jy JB),us.length=ps.length->bindArgs (LG x qual (en st) (dD st) (ah st) .none kV doc pm an cdv ct) ⟨us,[]⟩=pure (ps.zip us)):Binds K fd ps []:=by
 obtain⟨oc,od,kV,doc,pm,an,cdv,ct,osl,rfl,lk,hcd⟩:=F.ex;exact .all (h kV doc pm an cdv ct)
theorem xG {x qual:JZ}{st:Mg}{f:JK}{oc:JB}{od an:JE JK}{osl:KD (JE JB)}{kV doc pm cdv ct:JB}(l:K.lookup f=gV ⟨oc,od,.func (LG x qual (en st) (dD st) (ah st) .none kV doc pm an cdv ct),osl⟩)
  (c:MC K cdv qual=true) (k:Lg K (.ref f)=true):Fun K x qual st f (LG x qual (en st) (dD st) (ah st) .none kV doc pm an cdv ct):=⟨⟨oc,od,kV,doc,pm,an,cdv,ct,osl,rfl,l,c⟩,k⟩
end
end L2
namespace Mi
open PySem PySem.Spec PyProof.Rows L2
inductive W where
 | non|bl (b:Kc)|int (i:JL)|str (x:JZ)|tup (xs:Jy W)|ref (i:JF)
inductive T where
 | int (i:JL)|str (x:JZ)|tup (xs:Jy T)
mutual
noncomputable def T.beq:T->T->Kc
 | .int i,.int j=>i==j
 | .str x,.str y=>x==y
 | .tup xs,.tup ys=>T.beqs xs ys
 | _,_=>false
noncomputable def T.beqs:Jy T->Jy T->Kc
 | [],[]=>true
 | x::xs,y::ys=>T.beq x y&&T.beqs xs ys
 | _,_=>false
end
mutual
theorem T.beq_iff:∀x y:T,T.beq x y=true↔x=y
 | .int i,.int j=>by simp[T.beq]
 | .str x,.str y=>by simp[T.beq]
 | .tup xs,.tup ys=>by simp[T.beq,T.beqs_iff xs ys]
 | .int _,.str _|.int _,.tup _|.str _,.int _|.str _,.tup _|.tup _,.int _|.tup _,.str _=>by simp[T.beq]
theorem T.beqs_iff:∀xs ys:Jy T,T.beqs xs ys=true↔xs=ys
 | [],[]=>by simp[T.beqs]
 | x::xs,y::ys=>by simp[T.beqs,T.beq_iff x y,T.beqs_iff xs ys]
 | [],_::_|_::_,[]=>by simp[T.beqs]
end
noncomputable instance:Mz T:=λx y=>decidable_of_iff (T.beq x y=true) (T.beq_iff x y)
mutual
noncomputable def T.w:T->W
 | .int i=>.int i
 | .str x=>.str x
 | .tup xs=>.tup (T.ws xs)
noncomputable def T.ws:Jy T->Jy W
 | []=>[]
 | x::xs=>T.w x::T.ws xs
end
mutual
noncomputable def W.t:W->JE T
 | .int i=>gV (.int i)
 | .str x=>gV (.str x)
 | .tup xs=>(W.ts xs).map .tup
 | _=>td
noncomputable def W.ts:Jy W->JE (Jy T)
 | []=>gV []
 | x::xs=>match W.t x,W.ts xs with
  | some y,gV ys=>gV (y::ys)
  | _,_=>td
end
mutual
theorem W.t_w:∀ {w:W} {k:T},W.t w=gV k->k.w=w
 | .int i,_,h=>by cases h; rfl
 | .str x,_,h=>by cases h; rfl
 | .tup xs,_,h=>by
  simp only[W.t,JC]at h;obtain⟨ks,h1,h2⟩:=h;subst h2;simp only[T.w,W.ts_w h1]
 | .non,_,h|.bl _,_,h|.ref _,_,h=>by cases h
theorem W.ts_w:∀ {ws:Jy W} {ks:Jy T},W.ts ws=gV ks->T.ws ks=ws
 | [],_,h=>by cases h; rfl
 | w::ws,_,h=>by
  simp only[W.ts]at h;split at h
  ·rename_i y ys h1 h2;cases h;simp only[T.ws,W.t_w h1,W.ts_w h2]
  ·cases h
end
mutual
theorem T.w_t:∀k:T,W.t k.w=gV k
 | .int _=>rfl
 | .str _=>rfl
 | .tup xs=>by simp only[T.w,W.t,T.ws_ts xs,Kq]
theorem T.ws_ts:∀ks:Jy T,W.ts (T.ws ks)=gV ks
 | []=>rfl
 | x::xs=>by simp only[T.ws,W.ts,T.w_t x,T.ws_ts xs]
end
mutual
noncomputable def T.depth:T->JF
 | .tup xs=>T.depths xs+1
 | _=>0
noncomputable def T.depths:Jy T->JF
 | []=>0
 | x::xs=>max (T.depth x) (T.depths xs)
end
mutual
noncomputable def T.draws:T->JF
 | .tup xs=>T.drawss xs+1
 | _=>1
noncomputable def T.drawss:Jy T->JF
 | []=>0
 | x::xs=>T.draws x+T.drawss xs
end
mutual
noncomputable def qo (wd:Kv):T->JL
 | .int i=>hashInt i
 | .str x=>hashStr wd x
 | .tup xs=>reduceHash (NH (lG wd xs))
noncomputable def lG (wd:Kv):Jy T->Jy JL
 | []=>[]
 | x::xs=>qo wd x::lG wd xs
end
noncomputable def T.isTup:T->Kc
 | .tup _=>true
 | _=>false
noncomputable def bX:JF:=6
inductive O where
 | lst (xs:Jy W)
 | fro (xs:Jy W)
 | rng (lo hi:JL)
 | dic (kvs:Jy (T×W))
 | frd (kvs:Jy (T×W))
noncomputable abbrev aa:=Jy O
noncomputable abbrev Fm:=Jy (JE W)
section
variable (K:JP) (A:Jy JK) (H:Hp)
mutual
inductive Rel:W->V->Prop
 | non:Rel .non .non
 | bl {b:Kc}:Rel (.bl b) (.bl b)
 | int {i:JL}:Rel (.int i) (.int i)
 | str {x:JZ}:Rel (.str x) (.str x)
 | tup {ws:Jy W} {a:JK} {vs:Jy V}:SqT K H a vs->RelL ws vs->Rel (.tup ws) (.ref a)
 | ref {i:JF} {a:JK}:A[i]?=gV a->Rel (.ref i) (.ref a)
inductive RelL:Jy W->Jy V->Prop
 | nil:RelL [] []
 | cons {w:W} {v:V} {ws:Jy W} {vs:Jy V}:Rel w v->RelL ws vs->RelL (w::ws) (v::vs)
end
end
section
variable{K:JP}{A A' A'':Jy JK}{H H' H'':Hp}
structure Ext (K:JP)(A:Jy JK)(H:Hp)(A':Jy JK)(H':Hp):Prop where
 ad:∀(i:JF) (a:JK),A[i]?=gV a->A'[i]?=gV a
 tp:∀(a:JK) (vs:Jy V),SqT K H a vs->SqT K H' a vs
 fz:∀(a:JK) (o:Ll) (u:HO),H a=gV (.frz o u)->H' a=gV (.frz o u)
theorem Ext.refl:Ext K A H A H:=⟨λ_ _ h=>h,λ_ _ h=>h,λ_ _ _ h=>h⟩
theorem Ext.trans (e:Ext K A H A' H')(f:Ext K A' H' A'' H''):Ext K A H A'' H'':=⟨λi a h=>f.ad i a (e.ad i a h),λa vs h=>f.tp a vs (e.tp a vs h),λa o u h=>f.fz a o u (e.fz a o u h)⟩
mutual
theorem Rel.mono (e:Ext K A H A' H'):∀ {w:W} {v:V},Rel K A H w v->Rel K A' H' w v
 | _,_,.non=>.non
 | _,_,.bl=>.bl
 | _,_,.int=>.int
 | _,_,.str=>.str
 | _,_,.tup h r=>.tup (e.tp _ _ h) (RelL.mono e r)
 | _,_,.ref h=>.ref (e.ad _ _ h)
theorem RelL.mono (e:Ext K A H A' H'):∀ {ws:Jy W} {vs:Jy V},RelL K A H ws vs->RelL K A' H' ws vs
 | _,_,.nil=>.nil
 | _,_,.cons r t=>.cons (Rel.mono e r) (RelL.mono e t)
end
theorem RelL.length:∀ {ws:Jy W} {vs:Jy V},RelL K A H ws vs->ws.length=vs.length
 | _,_,.nil=>rfl
 | _,_,.cons _ t=>by simp[RelL.length t]
theorem RelL.get:∀ {ws:Jy W} {vs:Jy V} {i:JF} {w:W},RelL K A H ws vs->ws[i]?=gV w->∃v,vs[i]?=gV v/\Rel K A H w v
 | _,_,_,_,.nil,e=>by simp at e
 | _,_,0,_,.cons r _,e=>by simp at e; subst e; exact⟨_,rfl,r⟩
 | _,_,i+1,w,.cons _ t,e=>by
  obtain⟨u,h1,h2⟩:=RelL.get (i:=i) (w:=w) t (by simpa using e)
  exact⟨u,by simpa using h1,h2⟩
theorem RelL.append:∀ {xs ys:Jy W} {us ws:Jy V},RelL K A H xs us->RelL K A H ys ws->RelL K A H (xs++ys) (us++ws)
 | _,_,_,_,.nil,s=>s
 | _,_,_,_,.cons r t,s=>.cons r (RelL.append t s)
theorem RelL.take:∀ {xs:Jy W} {us:Jy V} (n:JF),RelL K A H xs us->RelL K A H (xs.take n) (us.take n)
 | _,_,0,_=>.nil
 | _,_,_+1,.nil=>.nil
 | _,_,n+1,.cons r t=>.cons r (RelL.take n t)
theorem RelL.drop:∀ {xs:Jy W} {us:Jy V} (n:JF),RelL K A H xs us->RelL K A H (xs.drop n) (us.drop n)
 | _,_,0,r=>r
 | _,_,_+1,.nil=>.nil
 | _,_,n+1,.cons _ t=>RelL.drop n t
theorem RelL.set {x:W}{u:V}(r:Rel K A H x u):∀ {xs:Jy W} {us:Jy V} (i:JF),RelL K A H xs us->RelL K A H (xs.set i x) (us.set i u)
 | _,_,_,.nil=>.nil
 | _,_,0,.cons _ t=>.cons r t
 | _,_,i+1,.cons q t=>.cons q (RelL.set r i t)
theorem RelL.rep {xs:Jy W}{us:Jy V}(h:RelL K A H xs us):∀k:JF,RelL K A H (Kz k xs).flatten (Kz k us).flatten
 | 0=>.nil
 | k+1=>by
  rw[LA,LA,Ma,Ma];exact RelL.append h (RelL.rep h k)
theorem RelL.eraseIdx:∀ {xs:Jy W} {us:Jy V} (i:JF),RelL K A H xs us->RelL K A H (xs.eraseIdx i) (us.eraseIdx i)
 | _,_,_,.nil=>.nil
 | _,_,0,.cons _ t=>t
 | _,_,i+1,.cons r t=>.cons r (RelL.eraseIdx i t)
noncomputable def FroL (K:JP)(H:Hp)(a:JK)(vs:Jy V):Prop:=
 (∃o,H a=gV (.frz o (.lst vs)))\/
  ∃(o:Ll) (its:KD JB) (n:JF),K.lookup a=gV o/\o.cls=.type "list"/\o.dict=td/\o.data=.seq its n/\its.size<=sizeLine/\Vals vs its.toList
theorem FroL.sq {a:JK}{vs:Jy V}(h:FroL K H a vs):SqL K H a vs:=by
 rcases h with⟨o,h⟩|h
 ·exact .inl (.inr ⟨o,h⟩)
 ·exact .inr h
noncomputable def xH (wd:Kv)(x:T×JK×JB):LO:=⟨qo wd x.1,.ref x.2.1,x.2.2⟩
noncomputable def DicAt (wd:Kv)(a:JK)(xs:Jy (T×JK×JB))(h:KH):Prop:=
 xs.length<=sizeLine/\(a==sysModules)=false/\(xs.map (·.1)).Nodup/\∃o es ep,h.get? a=gV o/\o.ExactDict/\o.data=.dict es ep/\es.toList=xs.map (xH wd)
noncomputable def eO (wd:Kv)(a:JK)(xs:Jy (T×JK×JB)):HO:=.ext (DicAt wd a xs)
noncomputable def KRel (K:JP)(A:Jy JK)(H:Hp):Jy (T×W)->Jy (T×JK×JB)->Prop:=
 N8 λ(p:T×W) (q:T×JK×JB)=>p.1=q.1/\p.1.isTup=true/\p.1.depth<=bX/\Rel K A H p.1.w (.ref q.2.1)/\∃v,Rel K A H p.2 v/\RelV v q.2.2
theorem KRel.mono (e:Ext K A H A' H'){kvs:Jy (T×W)}{xs:Jy (T×JK×JB)}(h:KRel K A H kvs xs):KRel K A' H' kvs xs:=
 Paired.mapP h λ_ _ ⟨h1,h2,h3,h4,v,h5,h6⟩=>⟨h1,h2,h3,h4.mono e,v,h5.mono e,h6⟩
variable{wd:Kv}
noncomputable def ObjRel (wd:Kv)(K:JP)(A:Jy JK)(H:Hp)(a:JK):O->Prop
 | .lst ws=>∃vs,H a=gV (.lst vs)/\RelL K A H ws vs
 | .fro ws=>∃vs,FroL K H a vs/\RelL K A H ws vs
 | .rng lo hi=>H a=gV (.rng lo hi)
 | .dic kvs=>∃xs,H a=gV (eO wd a xs)/\KRel K A H kvs xs
 | .frd kvs=>∃o xs,H a=gV (.frz o (eO wd a xs))/\KRel K A H kvs xs
noncomputable def O.mut:O->Kc
 | .fro _=>false
 | .rng _ _=>false
 | .frd _=>false
 | _=>true
structure StoreOk (wd:Kv)(K:JP)(A:Jy JK)(H:Hp)(S:aa):Prop where
 len:A.length=S.length
 nd:∀(i j:JF) (a:JK) (o u:O),S[i]?=gV o->o.mut=true->S[j]?=gV u->u.mut=true->A[i]?=gV a->A[j]?=gV a->i=j
 obj:∀(i:JF) (o:O) (a:JK),S[i]?=gV o->A[i]?=gV a->ObjRel wd K A H a o
noncomputable def EnvRel (K:JP)(A:Jy JK)(H:Hp)(ρ:Fm)(σ:L2.St):Prop:=
 ρ.length=σ.length/\∀(i:JF) (w:W),ρ[i]?=gV (gV w)->∃v,σ[i]?=gV (gV v)/\Rel K A H w v
theorem EnvRel.mono {ρ:Fm}{σ:L2.St}(e:Ext K A H A' H')(h:EnvRel K A H ρ σ):EnvRel K A' H' ρ σ:=
 ⟨h.1,λi w q=>let ⟨v,a,b⟩:=h.2 i w q; ⟨v,a,b.mono e⟩⟩
theorem EnvRel.set {ρ:Fm}{σ:L2.St}{w:W}{v:V}(h:EnvRel K A H ρ σ)(r:Rel K A H w v)(i:JF):EnvRel K A H (ρ.set i (gV w)) (σ.set i (gV v)):=by
 refine⟨by simp[h.1],λj w' q=>?_⟩
 rw[Lz]at q ⊢
 by_cases e:i=j
 ·subst e;rw[Kd rfl]at q ⊢
  by_cases hl:i < ρ.length
  ·rw[Kd hl]at q;rw[Kd (h.1 ▸ hl)];cases q;exact⟨v,rfl,r⟩
  ·rw[Ku hl]at q; cases q
 ·rw[Ku e]at q ⊢;exact h.2 j w' q
noncomputable def Wr (H:Hp)(p:JK):Prop:=H p=td\/(∃xs,H p=gV (.lst xs))\/(∃φ,H p=gV (.ext φ))\/∃ks,H p=gV (.dK ks)
theorem Wr.lst {p:JK}{xs:Jy V}(h:H p=gV (.lst xs)):Wr H p:=.inr (.inl ⟨xs,h⟩)
theorem Wr.ext {p:JK}{φ:KH->Prop}(h:H p=gV (.ext φ)):Wr H p:=.inr (.inr (.inl ⟨φ,h⟩))
theorem Wr.ne_tup {p a:JK}{xs:Jy V}(hp:Wr H p)(h:H a=gV (.tup xs)):a≠p:=by
 intro e; subst e
 rcases hp with q|⟨xs,q⟩|⟨φ,q⟩|⟨ks,q⟩ <;> (rw[h]at q; cases q)
theorem Wr.ne_frz {p a:JK}{o:Ll}{u:HO}(hp:Wr H p)(h:H a=gV (.frz o u)):a≠p:=by
 intro e; subst e
 rcases hp with q|⟨xs,q⟩|⟨φ,q⟩|⟨ks,q⟩ <;> (rw[h]at q; cases q)
theorem Wr.ne_rng {p a:JK}{lo hi:JL}(hp:Wr H p)(h:H a=gV (.rng lo hi)):a≠p:=by
 intro e; subst e
 rcases hp with q|⟨xs,q⟩|⟨φ,q⟩|⟨ks,q⟩ <;> (rw[h]at q; cases q)
theorem tU {p:JK}{o:HO}(hp:Wr H p){a:JK}{vs:Jy V}(h:SqT K H a vs):SqT K (cH H p o) a vs:=by
 rcases h with(h|⟨o',h⟩)|h
 ·exact .inl (.inl (by rw[bc (hp.ne_tup h)]; exact h))
 ·exact .inl (.inr ⟨o',by rw[bc (hp.ne_frz h)]; exact h⟩)
 ·exact .inr h
theorem xI {p:JK}{o:HO}(hp:Wr H p){a:JK}{vs:Jy V}(h:FroL K H a vs):FroL K (cH H p o) a vs:=by
 rcases h with⟨o',h⟩|h
 ·exact .inl ⟨o',by rw[bc (hp.ne_frz h)]; exact h⟩
 ·exact .inr h
theorem dS {p:JK}{o:HO}(hp:Wr H p):Ext K A H A (cH H p o):=⟨λ_ _ h=>h,λ_ _ h=>tU hp h,λ_ _ _ h=>by rw[bc (hp.ne_frz h)]; exact h⟩
theorem eP {p:JK}{o:HO}(hp:H p=td):Ext K A H (A++[p]) (cH H p o):=
 ⟨λi a h=>by rw[Kn (JU.mp h).1]; exact h,λ_ _ h=>tU (.inl hp) h,λ_ _ _ h=>by rw[bc (Wr.ne_frz (.inl hp) h)]; exact h⟩
theorem ObjRel.keep {p a:JK}{o:HO}{b:O}(hp:Wr H p)(hne:b.mut=true->a≠p)(e:Ext K A H A' (cH H p o))(h:ObjRel wd K A H a b):ObjRel wd K A' (cH H p o) a b:=by
 cases b with
 | lst ws=>
  obtain⟨vs,q,r⟩:=h;exact⟨vs,by rw[bc (hne rfl)]; exact q,r.mono e⟩
 | fro ws=>
  obtain⟨vs,q,r⟩:=h;exact⟨vs,xI hp q,r.mono e⟩
 | rng lo hi=>
  have h:H a=gV (.rng lo hi):=h;show cH H p o a=gV (.rng lo hi);rw[bc (hp.ne_rng h)];exact h
 | dic kvs=>
  obtain⟨xs,q,r⟩:=h;exact⟨xs,by rw[bc (hne rfl)]; exact q,r.mono e⟩
 | frd kvs=>
  obtain⟨ob,xs,q,r⟩:=h;exact⟨ob,xs,by rw[bc (hp.ne_frz q)]; exact q,r.mono e⟩
theorem ObjRel.there {a:JK}{b:O}(h:ObjRel wd K A H a b)(hm:b.mut=true):H a≠td:=by
 cases b with
 | lst ws=>obtain⟨vs,q,r⟩:=h; rw[q]; intro z; cases z
 | fro ws=>cases hm
 | rng lo hi=>cases hm
 | dic kvs=>obtain⟨vs,q,r⟩:=h; rw[q]; intro z; cases z
 | frd ws=>cases hm
theorem ObjRel.wr {a:JK}{b:O}(h:ObjRel wd K A H a b)(hm:b.mut=true):Wr H a:=by
 cases b with
 | lst ws=>obtain⟨vs,q,r⟩:=h; exact .lst q
 | fro ws=>cases hm
 | rng lo hi=>cases hm
 | dic kvs=>obtain⟨vs,q,r⟩:=h; exact .ext q
 | frd ws=>cases hm
theorem StoreOk.lay {S:aa}{p:JK}{o:HO}(h:StoreOk wd K A H S)(hp:H p=td):StoreOk wd K A (cH H p o) S:=
 ⟨h.len,h.nd,λi b a e ea=>(h.obj i b a e ea).keep (.inl hp) (λhm z=>(h.obj i b a e ea).there hm (z ▸ hp)) (dS (.inl hp))⟩
theorem StoreOk.pushO {S:aa}{p:JK}{n:O}{u:HO}(h:StoreOk wd K A H S)(hp:H p=td)(r:ObjRel wd K (A++[p]) (cH H p u) p n):StoreOk wd K (A++[p]) (cH H p u) (S++[n]):=by
 have ex:Ext K A H (A++[p]) (cH H p u):=eP hp;have old:∀ {i:JF} {o:O} {a:JK},(S++[n])[i]?=gV o->(A++[p])[i]?=gV a->i < S.length->S[i]?=gV o/\A[i]?=gV a:=λ{i o a} e ea hl=>by
  rw[Kn hl]at e;rw[Kn (h.len ▸ hl)]at ea;exact⟨e,ea⟩
 have new:∀ {i:JF} {o:O} {a:JK},(S++[n])[i]?=gV o->(A++[p])[i]?=gV a->¬ i < S.length->i=S.length/\o=n/\a=p:=λ{i o a} e ea hl=>by
  have hi:i=S.length:=by
   have:=(JU.mp e).1;simp at this;omega
  subst hi;simp at e;rw[<- h.len]at ea;simp at ea;exact⟨rfl,e.symm,ea.symm⟩
 refine⟨by simp[h.len],λi j a o u e1 m1 e2 m2 a1 a2=>?_,λi o a e ea=>?_⟩
 ·by_cases hi:i < S.length <;> by_cases hj:j < S.length
  ·obtain⟨x1,y1⟩:=old e1 a1 hi;obtain⟨x2,y2⟩:=old e2 a2 hj;exact h.nd i j a o u x1 m1 x2 m2 y1 y2
  ·obtain⟨x1,y1⟩:=old e1 a1 hi;obtain⟨_,_,z⟩:=new e2 a2 hj;subst z;exact absurd hp ((h.obj i o a x1 y1).there m1)
  ·obtain⟨x2,y2⟩:=old e2 a2 hj;obtain⟨_,_,z⟩:=new e1 a1 hi;subst z;exact absurd hp ((h.obj j u a x2 y2).there m2)
  ·rw[(new e1 a1 hi).1,(new e2 a2 hj).1]
 ·by_cases hi:i < S.length
  ·obtain⟨x1,y1⟩:=old e ea hi;exact(h.obj i o a x1 y1).keep (.inl hp) (λhm z=>(h.obj i o a x1 y1).there hm (z ▸ hp)) ex
  ·obtain⟨_,rfl,rfl⟩:=new e ea hi;exact r
theorem StoreOk.push {S:aa}{p:JK}{ws:Jy W}{vs:Jy V}(h:StoreOk wd K A H S)(hp:H p=td)(r:RelL K A H ws vs):StoreOk wd K (A++[p]) (cH H p (.lst vs)) (S++[.lst ws]):=
 h.pushO hp ⟨vs,bM,r.mono (eP hp)⟩
theorem StoreOk.writeO {S:aa}{i:JF}{p:JK}{o0 n:O}{u:HO}(h:StoreOk wd K A H S)(e:S[i]?=gV o0)(m0:o0.mut=true)(ea:A[i]?=gV p)(r:ObjRel wd K A (cH H p u) p n) :
  StoreOk wd K A (cH H p u) (S.set i n)/\Ext K A H A (cH H p u):=by
 have hw:Wr H p:=(h.obj i _ p e ea).wr m0;have ex:Ext K A H A (cH H p u):=dS hw;have hl:i < S.length:=(JU.mp e).1;refine⟨⟨by simp[h.len],λj k a o u e1 m1 e2 m2 a1 a2=>?_,λj o a e1 a1=>?_⟩,ex⟩
 ·have get:∀ {j:JF} {o:O},(S.set i n)[j]?=gV o->o.mut=true->∃o',S[j]?=gV o'/\o'.mut=true:=λ{j o} q m=>by
   rw[Lz]at q
   by_cases z:i=j
   ·subst z; exact⟨_,e,m0⟩
   ·rw[Ku z]at q; exact⟨o,q,m⟩
  obtain⟨o',x1,m1'⟩:=get e1 m1;obtain⟨u',x2,m2'⟩:=get e2 m2;exact h.nd j k a o' u' x1 m1' x2 m2' a1 a2
 ·rw[Lz]at e1
  by_cases z:i=j
  ·subst z;rw[Kd rfl,Kd hl]at e1;cases e1;rw[ea]at a1; cases a1
   exact r
  ·rw[Ku z]at e1;exact(h.obj j o a e1 a1).keep hw (λhm q=>z (h.nd i j p _ o e m0 e1 hm ea (q ▸ a1))) ex
theorem StoreOk.write {S:aa}{i:JF}{p:JK}{ws:Jy W}{us:Jy V}{ws0:Jy W}(h:StoreOk wd K A H S)(e:S[i]?=gV (.lst ws0))(ea:A[i]?=gV p)(r:RelL K A H ws us) :
  StoreOk wd K A (cH H p (.lst us)) (S.set i (.lst ws))/\Ext K A H A (cH H p (.lst us)):=
 h.writeO e rfl ea ⟨us,bM,r.mono (dS ((h.obj i _ p e ea).wr rfl))⟩
end
noncomputable def iH (S:aa)(i:JF):JE (Jy W):=match S[i]? with
 | some (.lst xs)=>gV xs
 | some (.fro xs)=>gV xs
 | _=>td
noncomputable def qe (S:aa)(i:JF):JE (Jy W):=match S[i]? with
 | some (.lst xs)=>gV xs
 | _=>td
noncomputable def mX (S:aa)(xs:Jy W):JE (W×aa):=if xs.length<=sizeLine then gV (.ref S.length,S++[.lst xs])else td
noncomputable def sy (S:aa)(xs:Jy W):JE (W×aa):=if xs.length<=sizeLine then gV (.tup xs,S)else td
noncomputable def AX (j:JL):Kc:=decide (0 < j)&&decide (j < 1073741824)
noncomputable def vD (i j:JL):Kc:=(decide (-(2 ^ 64) < i)&&decide (i < 2 ^ 64))||(decide (-(2 ^ 64) < j)&&decide (j < 2 ^ 64))
noncomputable def Gc (i j:JL):Kc:=decide (0<=j)&&decide (j<=1000000)&&decide (i.natAbs < 2 ^ 64)
inductive BOp where|add|sub|mul|fdiv|mod|pow
 deriving Mz
noncomputable def Aq (c:JL->JL->Kc)(f:JL->JL->JL)(x y:W)(S:aa):JE (W×aa):=match x,y with
 | .int i,.int j=>if c i j then gV (.int (f i j),S)else td
 | _,_=>td
noncomputable def xJ (x y:W)(S:aa):JE (W×aa):=match x with
 | .int i=>match y with
  | .int j=>gV (.int (i+j),S)
  | _=>td
 | .str x=>match y with
  | .str y=>if x.length+y.length<=sizeLine then gV (.str (x++y),S)else td
  | _=>td
 | .tup xs=>match y with
  | .tup ys=>sy S (xs++ys)
  | _=>td
 | .ref i=>match y with
  | .ref j=>match qe S i,qe S j with
   | some xs,gV ys=>mX S (xs++ys)
   | _,_=>td
  | _=>td
 | _=>td
noncomputable def AY (x y:W)(S:aa):JE (W×aa):=match x with
 | .str x=>match y with
  | .int k=>if k < 2 ^ 24/\-(2 ^ 24)<=k/\x.length*k.toNat<=sizeLine then gV (.str (Sj x k),S)else td
  | _=>td
 | .ref i=>match y with
  | .int k=>match qe S i with
   | some xs=>if k < 2 ^ 24/\-(2 ^ 24)<=k/\xs.length*k.toNat<=sizeLine then mX S (Kz k.toNat xs).flatten else td
   | none=>td
  | _=>td
 | x=>Aq vD (· * ·) x y S
noncomputable def iZ:BOp->W->W->aa->JE (W×aa)
 | .add,x,y,S=>xJ x y S
 | .sub,x,y,S=>Aq (λ_ _=>true) (· - ·) x y S
 | .mul,x,y,S=>AY x y S
 | .fdiv,x,y,S=>Aq (λ_ j=>AX j) (· / ·) x y S
 | .mod,x,y,S=>Aq (λ_ j=>decide (0 < j)) (· % ·) x y S
 | .pow,x,y,S=>Aq Gc (λi j=>i ^ j.toNat) x y S
noncomputable def BOp.py:BOp->Py
 | .add=>.Add|.sub=>.Sub|.mul=>.Mult|.fdiv=>.FloorDiv|.mod=>.Mod|.pow=>.Pow
section
variable (X:Cx)
noncomputable def ef (pins:Jy (JK×Ll))(σ:L2.St)(A:Jy JK)(H:Hp)(S':aa)(w:W)(u:JB)(s':JD):Prop:=
 ∃v H' A',Inv X pins σ H' s'/\RelV v u/\Ext X.K A H A' H'/\StoreOk X.w X.K A' H' S'/\Rel X.K A' H' w v
noncomputable abbrev FE:=Fm->aa->JE (W×aa)
noncomputable def LOp (f:JB->JB->Rv JB)(g:W->W->aa->JE (W×aa)):Prop:=
 ∀(pins:Jy (JK×Ll)) (s:JD) (σ:L2.St) (H:Hp) (A:Jy JK) (S:aa) (x y:W) (a b:V) (u v:JB) (w:W) (S':aa),Inv X pins σ H s->StoreOk X.w X.K A H S->
  Rel X.K A H x a->RelV a u->Rel X.K A H y b->RelV b v->g x y S=gV (w,S')->wpAny (model X.prog X.w) X.A (f u v) (ef X pins σ A H S' w) X.xe s
end
section
variable{X:Cx}
theorem lH {S:aa}{i:JF}{xs:Jy W}(h:qe S i=gV xs):S[i]?=gV (.lst xs):=by
 unfold qe at h;split at h
 ·cases h; assumption
 ·cases h
theorem fG {A:Jy JK}{H:Hp}{S:aa}{i:JF}{xs:Jy W}{a:JK}(so:StoreOk X.w X.K A H S)(h:qe S i=gV xs)(ea:A[i]?=gV a):∃vs,H a=gV (.lst vs)/\RelL X.K A H xs vs:=
 so.obj i _ a (lH h) ea
theorem dq {A:Jy JK}{H:Hp}{S:aa}{i:JF}{xs:Jy W}{a:JK}(so:StoreOk X.w X.K A H S)(h:iH S i=gV xs)(ea:A[i]?=gV a):∃vs,SqL X.K H a vs/\RelL X.K A H xs vs:=by
 unfold iH at h;split at h
 ·cases h;obtain⟨vs,q,r⟩:=so.obj i _ a (by assumption) ea
  exact⟨vs,.of q,r⟩
 ·cases h;obtain⟨vs,q,r⟩:=so.obj i _ a (by assumption) ea
  exact⟨vs,q.sq,r⟩
 ·cases h
theorem lm {S S':aa}{xs:Jy W}{w:W}(h:mX S xs=gV (w,S')):xs.length<=sizeLine/\w=.ref S.length/\S'=S++[.lst xs]:=by
 unfold mX at h;split at h
 ·cases h; exact⟨by assumption,rfl,rfl⟩
 ·cases h
theorem tV {S S':aa}{xs:Jy W}{w:W}(h:sy S xs=gV (w,S')):xs.length<=sizeLine/\w=.tup xs/\S'=S:=by
 unfold sy at h;split at h
 ·cases h; exact⟨by assumption,rfl,rfl⟩
 ·cases h
theorem AZ {A:Jy JK}{H:Hp}{S:aa}{ws:Jy W}{vs:Jy V}{Q:VK}{p:JK}(so:StoreOk X.w X.K A H S)(r:RelL X.K A H ws vs)(hp:H p=td)
  (q:∀v H' A',Ext X.K A H A' H'->StoreOk X.w X.K A' H' (S++[.lst ws])->Rel X.K A' H' (.ref S.length) v->Q v H'):Q (.ref p) (cH H p (.lst vs)):=
 q _ _ (A++[p]) (eP hp) (so.push hp r) (.ref (by rw[<- so.len]; simp))
theorem A6 {A:Jy JK}{H:Hp}{S:aa}{ws:Jy W}{vs:Jy V}{Q:VK}{p:JK}(so:StoreOk X.w X.K A H S)(r:RelL X.K A H ws vs)(hp:H p=td)
  (q:∀v H' A',Ext X.K A H A' H'->StoreOk X.w X.K A' H' S->Rel X.K A' H' (.tup ws) v->Q v H'):Q (.ref p) (cH H p (.tup vs)):=
 q _ _ A (dS (.inl hp)) (so.lay hp) (.tup (.of bM) (r.mono (dS (.inl hp))))
noncomputable def Gd (K:JP):R2:=λx y H Q=>∃a b xs ys,x=.ref a/\y=.ref b/\SqT K H a xs/\SqT K H b ys/\xs.length+ys.length<=sizeLine/\
 (xs=[]->Q (.ref b) H)/\(ys=[]->Q (.ref a) H)/\(∀p,H p=td->Q (.ref p) (cH H p (.tup (xs++ys))))
theorem A7:OpR X (binaryOp .Add) (Gd X.K):=by
 intro pins s σ H x y v u Q I rx ry h;obtain⟨a,b,xs,ys,rfl,rfl,ha,hb,hz,q0,q1,q2⟩:=h;cases rx;cases ry;obtain⟨its,r1,p1,_⟩:=I.tuple ha;obtain⟨its2,r2,p2,_⟩:=I.tuple hb
 by_cases hx:xs=[]
 ·obtain⟨⟨cls,dd,data,sl⟩,ho,hc,n,hd⟩:=id p1;obtain⟨⟨cls2,dd2,data2,sl2⟩,ho2,hc2,n2,hd2⟩:=id p2;simp only at hc hd hc2 hd2;subst hc hd hc2 hd2;exact PC ⟨_,ho,rfl⟩ ⟨_,ho2,rfl⟩ N2 O4 M1 MY (MQ _ _)
   (tuple_addW0 a b its.toArray its2.toArray n n2 dd dd2 sl sl2 (by simp[r1.nil_iff.mpr hx])) ⟨ho,ho2,⟨.ref b,H,I,rfl,q0 hx⟩⟩
 ·refine HT.AK p1 p2 (λz=>hx (r1.nil_iff.mp z)) (λz=>⟨.ref a,H,I,rfl,q1 (r2.nil_iff.mp z)⟩) (λz=>?_) (by rw[<- r1.length,<- r2.length]; exact hz)
  refine⟨.ref s.heap.objs.size,_,I.laid (t':=s.toks) (o:=.tup (xs++ys)) (λb ob q=>JI _ q) (JO _) ?_,rfl,q2 _ (I.hok.fresh (JO _))⟩
  exact⟨⟨by rw[JG]; exact hz,NoD.new _ _ _⟩,_,r1.append r2,P2 _ _⟩
theorem RelL.nil_iff {K:JP}{A:Jy JK}{H:Hp}{ws:Jy W}{vs:Jy V}(r:RelL K A H ws vs):vs=[]↔ws=[]:=by
 cases r <;> simp
theorem sA:OpR X (binaryOp .Mult) (λx y H Q=>∃z k,x=.str z/\y=.int k/\MulOk z k/\Q (.str (Sj z k)) H):=by
 intro pins s σ H x y v u Q I rx ry h;obtain⟨z,k,rfl,rfl,ok,q⟩:=h;obtain⟨t,rfl⟩:=rx;obtain⟨t',rfl⟩:=ry;exact SB.mul ok λt2 k2=>⟨.str _,H,I.tok _,⟨_,rfl⟩,q⟩
theorem xK {x:JZ}{k:JL}(h1:k < 16777216)(h2 : -16777216<=k)(h3:x.length*k.toNat<=sizeLine):MulOk x k:=by
 have hs:sizeLine=16777216:=KL;rw[hs]at h3;refine⟨?_,λa b=>?_,λ_ _=>?_⟩
 ·rw[Bool.or_eq_false_iff];exact⟨Kl (by omega),Kl (by omega)⟩
 ·have hk:0 < k:=by omega
  have e:(x.length:JL)*k=((x.length*k.toNat:JF):JL):=by
   rw[Op,Lc (by omega)]
  intro hgt;have h4:(2 ^ 63 - 1:JL) < (x.length:JL)*k:=(Int.ediv_lt_iff_lt_mul hk).mp hgt;rw[e]at h4;generalize x.length*k.toNat=z at h3 h4;omega
 ·unfold QR;rw[hs];exact Kl (by omega)
noncomputable def EndV (wd:Kv)(K:JP)(A:Jy JK)(H:Hp)(S':aa)(w:W):VK:=λv H'=>∃A',Ext K A H A' H'/\StoreOk wd K A' H' S'/\Rel K A' H' w v
theorem EndV.here {A:Jy JK}{H:Hp}{S:aa}{w:W}{v:V}(so:StoreOk X.w X.K A H S)(r:Rel X.K A H w v):EndV X.w X.K A H S w v H:=⟨A,.refl,so,r⟩
theorem EndV.lst {A:Jy JK}{H:Hp}{S:aa}{ws:Jy W}{vs:Jy V}{p:JK}(so:StoreOk X.w X.K A H S)(r:RelL X.K A H ws vs)(hp:H p=td):EndV X.w X.K A H (S++[.lst ws]) (.ref S.length) (.ref p) (cH H p (.lst vs)):=
 AZ (Q:=EndV X.w X.K A H (S++[.lst ws]) (.ref S.length)) so r hp λv H' A' a b c=>⟨A',a,b,c⟩
theorem EndV.tup {A:Jy JK}{H:Hp}{S:aa}{ws:Jy W}{vs:Jy V}{p:JK}(so:StoreOk X.w X.K A H S)(r:RelL X.K A H ws vs)(hp:H p=td):EndV X.w X.K A H S (.tup ws) (.ref p) (cH H p (.tup vs)):=
 A6 (Q:=EndV X.w X.K A H S (.tup ws)) so r hp λv H' A' a b c=>⟨A',a,b,c⟩
theorem EP.post {pins:Jy (JK×Ll)}{σ:L2.St}{A:Jy JK}{H:Hp}{S':aa}{w:W}{u:JB}{s':JD}(h:EP X pins σ (EndV X.w X.K A H S' w) u s'):ef X pins σ A H S' w u s':=by
 obtain⟨v,H',I',r,A',x,y,z⟩:=h;exact⟨v,H',A',I',r,x,y,z⟩
theorem OpR.go {f:JB->JB->Rv JB}{r:R2}(h:OpR X f r){pins:Jy (JK×Ll)}{σ:L2.St}{A:Jy JK}{H:Hp}{S':aa}{w:W}{s:JD}{a b:V}{u v:JB}(I:Inv X pins σ H s)(ru:RelV a u)(rv:RelV b v)
  (q:r a b H (EndV X.w X.K A H S' w)):wpAny (model X.prog X.w) X.A (f u v) (ef X pins σ A H S' w) X.xe s:=cu (h pins s σ H a b u v _ I ru rv q) λ_ _=>EP.post
theorem Ba:LOp X (binaryOp .Add) (iZ .add):=by
 intro pins s σ H A S x y a b u v w S' I so rx ru ry rv e;cases rx with
 | int=>cases ry with
  | int=>cases e; exact OpR.go DS I ru rv ⟨_,_,rfl,rfl,.here so .int⟩
  | _=>cases e
 | str=>cases ry with
  | str=>
   dsimp only[iZ,xJ]at e;split at e
   ·cases e; exact OpR.go sj I ru rv ⟨_,_,rfl,rfl,by assumption,.here so .str⟩
   ·cases e
  | _=>cases e
 | tup h1 r1=>cases ry with
  | tup h2 r2=>
   obtain⟨hl,rfl,rfl⟩:=tV (show sy S _=_ from e)
   rw[JG,r1.length,r2.length]at hl;refine OpR.go A7 I ru rv ⟨_,_,_,_,rfl,rfl,h1,h2,hl,λz=>?_,λz=>?_,λp hp=>.tup so (r1.append r2) hp⟩
   ·have z':=r1.nil_iff.mp z;subst z';exact .here so (.tup h2 r2)
   ·have z':=r2.nil_iff.mp z;subst z';rw[K6];exact .here so (.tup h1 r1)
  | _=>cases e
 | ref h1=>cases ry with
  | ref h2=>
   dsimp only[iZ,xJ]at e;split at e
   ·obtain⟨hl,rfl,rfl⟩:=lm e;obtain⟨vs,q1,r1⟩:=fG so (by assumption) h1
    obtain⟨us,q2,r2⟩:=fG so (by assumption) h2
    rw[JG,r1.length,r2.length]at hl;exact OpR.go Ee I ru rv ⟨_,_,_,_,rfl,rfl,q1,q2,hl,λp hp=>.lst so (r1.append r2) hp⟩
   ·cases e
  | _=>cases e
 | _=>cases e
theorem qp {f:JB->JB->Rv JB}{c:JL->JL->Kc}{g:JL->JL->JL}{r:R2}(h:OpR X f r)(hr:∀i j H Q,c i j=true->Q (.int (g i j)) H->r (.int i) (.int j) H Q):LOp X f (Aq c g):=by
 intro pins s σ H A S x y a b u v w S' I so rx ru ry rv e;cases rx with
 | int=>cases ry with
  | int=>
   unfold Aq at e;dsimp only at e;split at e
   ·cases e; exact OpR.go h I ru rv (hr _ _ _ _ (by assumption) (.here so .int))
   ·cases e
  | _=>cases e
 | _=>cases e
theorem Bb:LOp X (binaryOp .Sub) (iZ .sub):=qp DT λ_ _ _ _ _ q=>⟨_,_,rfl,rfl,q⟩
theorem Bc {i j:JL}(h:vD i j=true):CMul i j:=by
 unfold vD at h;rw[LP,JH,JH,Kh,Kh,Kh,Kh]at h;exact h
theorem Bd:LOp X (binaryOp .Mult) (iZ .mul):=by
 have hI:LOp X (binaryOp .Mult) (Aq vD (· * ·)):=qp DU λ_ _ _ _ h q=>⟨_,_,rfl,rfl,Bc h,q⟩
 intro pins s σ H A S x y a b u v w S' I so rx ru ry rv e;cases x with
 | str z=>
  cases rx with
  | str=>cases ry with
   | int=>
    dsimp only[iZ,AY]at e;split at e
    ·rename_i hc;cases e; exact OpR.go sA I ru rv ⟨_,_,rfl,rfl,xK (by omega) (by omega) hc.2.2,.here so .str⟩
    ·cases e
   | _=>cases e
 | ref z=>
  cases rx with
  | ref h1=>cases ry with
   | int=>
    dsimp only[iZ,AY]at e;split at e
    ·split at e
     ·rename_i hc;obtain⟨hl,rfl,rfl⟩:=lm e;obtain⟨vs,q1,r1⟩:=fG so (by assumption) h1
      rw[r1.length]at hc;exact OpR.go Ef I ru rv ⟨_,_,_,rfl,rfl,q1,by omega,by omega,hc.2.2,λp hp=>.lst so (r1.rep _) hp⟩
     ·cases e
    ·cases e
   | _=>cases e
 | _=>exact hI _ _ _ _ _ _ _ _ _ _ _ _ _ _ I so rx ru ry rv e
theorem xL:LOp X (binaryOp .FloorDiv) (iZ .fdiv):=qp AF λ_ _ _ _ h q=>⟨_,_,rfl,rfl,by
 unfold AX at h;rw[JH,Kh,Kh]at h;exact h,q⟩
theorem Be:LOp X (binaryOp .Mod) (iZ .mod):=qp DV λ_ _ _ _ h q=>⟨_,_,rfl,rfl,K4 h,q⟩
theorem Bf:LOp X (binaryOp .Pow) (iZ .pow):=qp DW λ_ _ _ _ h q=>⟨_,_,rfl,rfl,by
 unfold Gc at h;rw[JH,JH,Kh,Kh,Kh]at h;exact⟨h.1.1,h.1.2,h.2⟩,q⟩
theorem tX (o:BOp):LOp X (binaryOp o.py) (iZ o):=by
 cases o
 ·exact Ba
 ·exact Bb
 ·exact Bd
 ·exact xL
 ·exact Be
 ·exact Bf
end
noncomputable def qr (f:W->W->JE Kc):Jy W->Jy W->JE Kc
 | [],[]=>gV true
 | [],_::_=>gV false
 | _::_,[]=>gV false
 | x::xs,y::ys=>match f x y,qr f xs ys with
  | some a,gV b=>gV (a&&b)
  | _,_=>td
noncomputable def b2 (b:Kc):JL:=if b then 1 else 0
noncomputable def qt (S:aa):JF->W->W->JE Kc
 | _,.non,y=>match y with
  | .non=>gV true
  | _=>td
 | _,.bl a,y=>match y with
  | .bl b=>gV (a==b)
  | _=>td
 | _,.int a,y=>match y with
  | .int b=>gV (a==b)
  | _=>td
 | _,.str a,y=>match y with
  | .str b=>gV (a==b)
  | _=>td
 | 0,_,_=>td
 | d+1,.tup xs,y=>match y with
  | .tup ys=>qr (qt S d) xs ys
  | _=>td
 | d+1,.ref i,y=>match y with
  | .ref j=>match qe S i,qe S j with
   | some xs,gV ys=>if xs.length=ys.length then qr (qt S d) xs ys else gV false
   | _,_=>td
  | _=>td
section
variable{X:Cx}{pins:Jy (JK×Ll)}{σ:L2.St}{H:Hp}{s:JD}{A:Jy JK}{S:aa}
noncomputable def RU (K:JP)(A:Jy JK)(H:Hp)(w:W)(u:JB):Prop:=∃v,Rel K A H w v/\RelV v u
theorem tY {ws:Jy W}{vs:Jy V}{us:Jy JB}(r:RelL X.K A H ws vs)(q:Vals vs us):∀(j:JF) (h1:j < ws.length) (h2:j < us.length),RU X.K A H ws[j] us[j]:=by
 induction ws generalizing vs us with
 | nil=>intro j h1; simp at h1
 | cons w ws ih=>
  cases r with
  | cons r1 rr=>
   cases q with
   | cons q1 qq=>
    intro j h1 h2;cases j with
    | zero=>exact⟨_,r1,q1⟩
    | succ j=>exact ih rr qq j (by simpa using h1) (by simpa using h2)
theorem xM {ws:Jy W}{u:JB}(I:Inv X pins σ H s)(h:RU X.K A H (.tup ws) u):∃a its,u=.ref a/\Ps s.heap a its/\its.size=ws.length/\ws.length<=sizeLine/\∀(j:JF) (h1:j < ws.length) (h2:j < its.size),RU X.K A H ws[j] its[j]:=by
 obtain⟨v,r,q⟩:=h;cases r with
 | tup sq rl=>
  obtain⟨its,rv,ht,hz⟩:=I.tuple sq;refine⟨_,its.toArray,q,ht,by rw[JV,<- rv.length,rl.length],by rw[rl.length]; exact hz,λj h1 h2=>?_⟩
  have:=tY rl rv j h1 (by simpa using h2)
  simpa using this
theorem xN {i:JF}{ws:Jy W}{u:JB}(I:Inv X pins σ H s)(so:StoreOk X.w X.K A H S)(e:qe S i=gV ws)(h:RU X.K A H (.ref i) u):∃a its,u=.ref a/\A[i]?=gV a/\s.heap.IsList a its/\its.size=ws.length/\ws.length<=sizeLine/\∀(j:JF) (h1:j < ws.length) (h2:j < its.size),RU X.K A H ws[j] its[j]:=by
 obtain⟨v,r,q⟩:=h;cases r with
 | ref ea=>
  obtain⟨vs,hq,rl⟩:=fG so e ea;obtain⟨its,rv,ht,hz⟩:=I.list (.of hq);refine⟨_,its.toArray,q,ea,ht.isList,by rw[JV,<- rv.length,rl.length],by rw[rl.length]; exact hz,λj h1 h2=>?_⟩
  have:=tY rl rv j h1 (by simpa using h2)
  simpa using this
theorem lI {f:W->W->JE Kc}:∀ {xs ys:Jy W} {k:Kc},qr f xs ys=gV k->∃e:JF->Kc,(∀(j:JF) (h1:j < xs.length) (h2:j < ys.length),f xs[j] ys[j]=gV (e j))/\
  k=((JN (min xs.length ys.length)).all e&&xs.length==ys.length)
 | [],[],k,h=>⟨λ_=>true,λj h1=>by simp at h1,by cases h; rfl⟩
 | [],_::_,k,h=>⟨λ_=>true,λj h1=>by simp at h1,by cases h; simp⟩
 | _::_,[],k,h=>⟨λ_=>true,λj h1 h2=>by simp at h2,by cases h; simp⟩
 | x::xs,y::ys,k,h=>by
  dsimp only[qr]at h;split at h
  ·rename_i a b ha hb;cases h;obtain⟨e,h1,h2⟩:=lI hb;refine⟨λj=>match j with|0=>a|j+1=>e j,λj hj1 hj2=>?_,?_⟩
   ·cases j with
    | zero=>exact ha
    | succ j=>exact h1 j (by simpa using hj1) (by simpa using hj2)
   ·subst h2;simp only[Kk,Nat.add_min_add_right,Oe,Kx,Of,QH];congr 2;simp
  ·cases h
theorem Bg (I:Inv X pins σ H s)(so:StoreOk X.w X.K A H S):∀(d:JF) {x y:W} {v:V} {k:Kc},Rel X.K A H x v->Rel X.K A H y v->qt S d x y=gV k->k=true:=by
 intro d
 induction d with
 | zero=>
  intro x y v k rx ry e;cases rx with
  | non=>cases ry; cases e; rfl
  | bl=>cases ry; cases e; exact KY _
  | int=>cases ry; cases e; exact KY _
  | str=>cases ry; cases e; exact KY _
  | tup _ _=>cases e
  | ref _=>cases e
 | succ d ih=>
  have lists:∀ {xs ys:Jy W} {vs:Jy V} {k:Kc},RelL X.K A H xs vs->RelL X.K A H ys vs->qr (qt S d) xs ys=gV k->k=true:=by
   intro xs
   induction xs with
   | nil=>
    intro ys vs k r1 r2 e;cases r1; cases r2; cases e; rfl
   | cons x xs ihx=>
    intro ys vs k r1 r2 e;cases r1 with
    | cons p1 q1=>
     cases r2 with
     | cons p2 q2=>
      dsimp only[qr]at e;split at e
      ·rename_i a b ha hb;cases e;rw[ih p1 p2 ha,ihx q1 q2 hb];rfl
      ·cases e
  intro x y v k rx ry e;cases rx with
  | non=>cases ry; cases e; rfl
  | bl=>cases ry; cases e; exact KY _
  | int=>cases ry; cases e; exact KY _
  | str=>cases ry; cases e; exact KY _
  | tup h1 r1=>
   cases ry with
   | tup h2 r2=>
    rw[I.tuple_inj h1 h2]at r1;exact lists r1 r2 e
   | ref ea=>cases e
  | ref ea=>
   cases ry with
   | tup h2 r2=>cases e
   | ref eb=>
    dsimp only[qt]at e;split at e
    ·rename_i xs ys hx hy;have:=so.nd _ _ _ _ _ (lH hx) rfl (lH hy) rfl ea eb;subst this;rw[hx]at hy; cases hy
     rw[Kd rfl]at e;obtain⟨vs,q,r⟩:=fG so hx ea;exact lists r r e
    ·cases e
theorem bU (A:Ks):A.in1.units=A.units+1:=rfl
noncomputable abbrev Fp (B:Ks)(s:JD)(u v:JB)(k:Kc):Prop:=SeqAt.RcAt B s u v k/\SeqAt.RcNeAt B s u v (!k)/\Nb B s u v k
open SeqAt in
theorem CY (I:Inv X pins σ H s)(so:StoreOk X.w X.K A H S):∀(d:JF) (B:Ks) {x y:W} {u v:JB} {k:Kc},B.units+d < cLine->RU X.K A H x u->RU X.K A H y v->qt S d x y=gV k->Fp B s u v k:=by
 have non:∀ {B:Ks} {y:W} {u v:JB} {k:Kc} {d:JF},RU X.K A H .non u->RU X.K A H y v->qt S d .non y=gV k->Fp B s u v k:=by
  intro B y u v k d ⟨_,rx,ra⟩ ⟨_,ry,rb⟩ e;cases rx;cases(show u=KN from ra)
  cases y with
  | non=>
   have e:gV (true)=gV k:=by cases d <;> exact e
   cases e;cases ry;cases(show v=KN from rb)
   exact⟨.none_none,.none_none,.same _⟩
  | _=>cases d <;> cases e
 have bl:∀ {B:Ks} {b:Kc} {y:W} {u v:JB} {k:Kc} {d:JF},RU X.K A H (.bl b) u->RU X.K A H y v->qt S d (.bl b) y=gV k->Fp B s u v k:=by
  intro B b y u v k d ⟨_,rx,ra⟩ ⟨_,ry,rb⟩ e;cases rx;cases(show u=MA _ from ra)
  cases y with
  | bl c=>
   have e:gV (b==c)=gV k:=by cases d <;> exact e
   cases e;cases ry;cases(show v=MA _ from rb)
   exact⟨.bool_bool _ _,.bool_bool _ _,.bool_bool _ _⟩
  | _=>cases d <;> cases e
 have int:∀ {B:Ks} {b:JL} {y:W} {u v:JB} {k:Kc} {d:JF},RU X.K A H (.int b) u->RU X.K A H y v->qt S d (.int b) y=gV k->Fp B s u v k:=by
  intro B b y u v k d ⟨_,rx,ra⟩ ⟨_,ry,rb⟩ e;cases rx;obtain⟨t0,rfl⟩ : ∃t,u=N1 _ t:=ra;cases y with
  | int c=>
   have e:gV (b==c)=gV k:=by cases d <;> exact e
   cases e;cases ry;obtain⟨t,rfl⟩ : ∃t,v=N1 _ t:=rb;exact⟨.int_int _ _ _ _,.int_int _ _ _ _,.int_int _ _ _ _⟩
  | _=>cases d <;> cases e
 have str:∀ {B:Ks} {b:JZ} {y:W} {u v:JB} {k:Kc} {d:JF},RU X.K A H (.str b) u->RU X.K A H y v->qt S d (.str b) y=gV k->Fp B s u v k:=by
  intro B b y u v k d ⟨_,rx,ra⟩ ⟨_,ry,rb⟩ e;cases rx;obtain⟨t0,rfl⟩ : ∃t,u=M9 _ t:=ra;cases y with
  | str c=>
   have e:gV (b==c)=gV k:=by cases d <;> exact e
   cases e;cases ry;obtain⟨t,rfl⟩ : ∃t,v=M9 _ t:=rb;exact⟨.str_str _ _ _ _,.str_str _ _ _ _,.str_str _ _ _ _⟩
  | _=>cases d <;> cases e
 intro d
 induction d with
 | zero=>
  intro B x y u v k hu rx ry e;cases x with
  | non=>exact non rx ry e
  | bl b=>exact bl rx ry e
  | int b=>exact int rx ry e
  | str b=>exact str rx ry e
  | _=>cases e
 | succ d ih=>
  intro B x y u v k hu rx ry e;have hu0:B.units < cLine:=by omega
  have hu1:B.in1.units+d < cLine:=by rw[bU]; omega
  have rx0:=rx;have ry0:=ry;have fin:∀ {a b:JK},u=.ref a->v=.ref b->RcAt B s u v k->RcNeAt B s u v (!k)->Fp B s u v k:=by
   intro a b ea eb h1 h2;subst ea eb;refine⟨h1,h2,?_⟩
   by_cases hab:a=b
   ·subst hab;obtain⟨v1,q1,z1⟩:=rx0;obtain⟨v2,q2,z2⟩:=ry0;have e12:v1=v2:=z1.inj z2;subst e12;have:=Bg I so (d+1) q1 q2 e;subst this;exact EqAt.same _
   ·exact EqAt.of_refs hab h1
  cases x with
  | non=>exact non rx ry e
  | bl b=>exact bl rx ry e
  | int b=>exact int rx ry e
  | str b=>exact str rx ry e
  | tup xs=>
   cases y with
   | tup ys=>
    obtain⟨a,its,rfl,ht,hs,_,hi⟩:=xM I rx;obtain⟨b,its2,rfl,ht2,hs2,_,hi2⟩:=xM I ry;obtain⟨f,h1,h2⟩:=lI (show qr (qt S d) xs ys=gV k from e)
    have he:∀j (h1:j < its.size) (h2:j < its2.size),EqAt B.in1 s its[j] its2[j] (f j):=λj j1 j2=>
     (ih B.in1 hu1 (hi j (hs ▸ j1) j1) (hi2 j (hs2 ▸ j2) j2) (h1 j (hs ▸ j1) (hs2 ▸ j2))).2.2
    rw[<- hs,<- hs2]at h2;subst h2;exact fin rfl rfl (RcAt.tuples ht ht2 hu0 he) (RcNeAt.tuples ht ht2 hu0 he)
   | _=>cases e
  | ref i=>
   cases y with
   | ref j=>
    dsimp only[qt]at e;split at e
    ·rename_i ws ws2 hw hw2;obtain⟨a,its,rfl,_,hl,hs,_,hi⟩:=xN I so hw rx;obtain⟨b,its2,rfl,_,hl2,hs2,_,hi2⟩:=xN I so hw2 ry;split at e
     ·rename_i hlen;obtain⟨f,h1,h2⟩:=lI e;have he:∀j (h1:j < its.size) (h2:j < its2.size),EqAt B.in1 s its[j] its2[j] (f j):=λj j1 j2=>
       (ih B.in1 hu1 (hi j (hs ▸ j1) j1) (hi2 j (hs2 ▸ j2) j2) (h1 j (hs ▸ j1) (hs2 ▸ j2))).2.2
      have hk:k=(JN its.size).all f:=by rw[h2,hs,hlen]; simp
      subst hk;exact fin rfl rfl (RcAt.lists hl hl2 (by rw[hs,hs2,hlen]) hu0 he) (RcNeAt.lists hl hl2 (by rw[hs,hs2,hlen]) hu0 he)
     ·rename_i hlen;cases e;have hb:(its.size != its2.size)=true:=by rw[hs,hs2]; simpa using hlen
      exact fin rfl rfl (RcAt.lists_lengths hl hl2 hb hu0) (RcNeAt.lists_lengths hl hl2 hb hu0)
    ·cases e
   | _=>cases e
end
noncomputable def CZ (fe fl:W->W->JE Kc):Jy W->Jy W->JE Kc
 | [],[]=>gV false
 | [],_::_=>gV true
 | _::_,[]=>gV false
 | x::xs,y::ys=>match fe x y with
  | some true=>CZ fe fl xs ys
  | some false=>fl x y
  | none=>td
noncomputable def Jr (S:aa):JF->W->W->JE Kc
 | _,.int a,.int b=>gV (decide (a < b))
 | _,.str a,.str b=>gV (decide (a.cps.toList < b.cps.toList))
 | d+1,.tup xs,.tup ys=>CZ (qt S d) (Jr S d) xs ys
 | _,_,_=>td
noncomputable def LtAt (B:Ks)(s:JD)(u v:JB)(k:Kc):Prop:=
 ∀(prog:Ki) (w:Kv) (E:JB->JD->Prop) (Q:JB->JD->Prop),Q (.bool k) s->wpAny (model prog w) B (richCompare .Lt u v) Q E s
inductive LexR (B:Ks)(s:JD):Jy JB->Jy JB->Kc->Prop
 | nn:LexR B s [] [] false
 | nc {v:JB} {vs:Jy JB}:LexR B s [] (v::vs) true
 | cn {v:JB} {vs:Jy JB}:LexR B s (v::vs) [] false
 | eq {u v:JB} {us vs:Jy JB} {k:Kc}:Nb B s u v true->LexR B s us vs k->LexR B s (u::us) (v::vs) k
 | ne {u v:JB} {us vs:Jy JB} {k:Kc}:Nb B s u v false->LtAt B s u v k->LexR B s (u::us) (v::vs) k
section
open PySem.SeqAt
open PySem.AutoSeq1 (wpAny_loadPart')
open PySem.MeetsSeq PySem.MeetsSeq2 PySem.MeetsSeq3
theorem oV (l b:JK)(items items2:KD JB)(n n2:JF)(dd dd2:JE JK)(sl sl2:KD (JE JB))(k:Kc) :
  Meets (Og.«tuple.__lt__» ⟨[.ref l,.ref b],[]⟩)
   (λB R s=>s.heap.get? l=gV { cls:=.type "tuple",dict:=dd,data:=.seq items n,slots:=sl }/\s.heap.get? b=gV { cls:=.type "tuple",dict:=dd2,data:=.seq items2 n2,slots:=sl2 }/\
    LexR B.in1 s items.toList items2.toList k/\R (.ok (.ret (.bool k))) s):=
 .of_wp λprog w A R s h=>by
  obtain⟨hp,g,d,tk,os⟩:=s; obtain⟨hl,hb,hx,h⟩:=h
  have f2:=Q1;have z1:items.toList.length=items.size:=by simp
  have z2:items2.toList.length=items2.size:=by simp
  wp_walk using MU hl,MU hb,N3 _ (λdc b s'=>b.1=td/\s'=⟨hp,g,d,tk,os⟩/\∃(vs ws:Jy JB),dc=vs.zip ws/\
   LexR A.in1 ⟨hp,g,d,tk,os⟩ vs ws k/\vs.length+items2.size=ws.length+items.size) _
  case turn=>
   rintro⟨y,x⟩ dc b s' ⟨hb',rfl,vs,ws,hz,hlx,hlen⟩;cases hlx with
   | nn=>rw[PK]at hz; cases hz
   | nc=>rw[PK]at hz; cases hz
   | cn=>rw[List.zip_nil_right]at hz; cases hz
   | eq he hr=>
    rw[Mq]at hz;injection hz with hyx hrest
    injection hyx with hy hx
    subst hy hx;simp only[Kk]at hlen;refine JA (he prog w _ _ ?_)
    wp_walk
    exact⟨rfl,rfl,_,_,hrest,hr,by omega⟩
   | ne he hr=>
    rw[Mq]at hz;injection hz with hyx hrest
    injection hyx with hy hx
    subst hy hx;refine JA (he prog w _ _ ?_);have hri:=hr prog w
    wp_walk using hri
    exact⟨_,rfl,by simpa using h⟩
  case fin=>
   rintro⟨b1,b2⟩ s' ⟨hb',rfl,vs,ws,hz,hlx,hlen⟩;simp only at hb';subst hb';have hv:k=decide (items.size < items2.size):=by
    cases hlx with
    | nn=>simp only[Lp]at hlen; exact(Kl (by omega)).symm
    | nc=>simp only[Lp,Kk]at hlen; exact(LL (by omega)).symm
    | cn=>simp only[Lp,Kk]at hlen; exact(Kl (by omega)).symm
    | eq _ _=>rw[Mq]at hz; cases hz
    | ne _ _=>rw[Mq]at hz; cases hz
   subst hv
   wp_walk
   exact⟨_,rfl,by simpa [PZ]using h⟩
  case h=>
   exact⟨rfl,rfl,items.toList,items2.toList,rfl,hx,by omega⟩
end
theorem LtAt.tuples {B:Ks}{s:JD}{l b:JK}{items items2:KD JB}{k:Kc}(hl:Ps s.heap l items)(hb:Ps s.heap b items2)(hu:B.units < cLine)(hx:LexR B.in1 s items.toList items2.toList k) :
  LtAt B s (.ref l) (.ref b) k:=λprog w E Q h=>by
 obtain⟨⟨cls,dd,data,sl⟩,ho,hc,n,hd⟩:=id hl;obtain⟨⟨cls2,dd2,data2,sl2⟩,ho2,hc2,n2,hd2⟩:=id hb;simp only at hc hd hc2 hd2;subst hc hd hc2 hd2;exact richCompare_meets_room (op:=.Lt) ⟨_,ho,rfl⟩ ⟨_,ho2,rfl⟩ PySem.F.slot_tuple_lt PySem.F.entry_tuple_lt (PySem.F.args_tuple_lt_2 _ _) (oV l b items items2 n n2 dd dd2 sl sl2 k)
  ⟨ho,ho2,hx,show MA k≠Value.notImplemented/\Q (.bool k) s from⟨(λx=>nomatch x),h⟩⟩ hu
inductive COp where|eq|ne|lt|le|gt|ge|isin|notin|is|isnot
 deriving Mz
noncomputable def COp.py:COp->Rj
 | .eq=>.Eq|.ne=>.NotEq|.lt=>.Lt|.le=>.LtE|.gt=>.Gt|.ge=>.GtE|.isin=>.In|.notin=>.NotIn|.is=>.Is|.isnot=>.IsNot
noncomputable def bG:W->Kc
 | .non=>true
 | .bl _=>true
 | .int _=>true
 | .str _=>true
 | _=>false
noncomputable def mY:W->W->Kc
 | .non,.non=>true
 | .bl a,.bl b=>a==b
 | .bl a,.int b=>b2 a==b
 | .int a,.bl b=>a==b2 b
 | .int a,.int b=>a==b
 | .str a,.str b=>a==b
 | _,_=>false
noncomputable def eQ (S:aa):W->JE (Jy W)
 | .tup xs=>gV xs
 | .ref i=>iH S i
 | _=>td
noncomputable abbrev iI:JF:=20
noncomputable def xO (x y:W)(S:aa):JE Kc:=match eQ S y with
 | some ys=>if bG x&&ys.all bG then gV (ys.any λz=>mY z x)else td
 | none=>td
noncomputable def xP:W->Kc
 | .non=>true
 | _=>false
noncomputable def xQ (f:JL->JL->Kc):W->W->JE Kc
 | .int i,.int j=>gV (f i j)
 | _,_=>td
noncomputable def Bh:COp->W->W->aa->JE Kc
 | .eq,x,y,S=>qt S iI x y
 | .ne,x,y,S=>(qt S iI x y).map (!·)
 | .lt,x,y,_=>xQ (λi j=>decide (i < j)) x y
 | .le,x,y,_=>xQ (λi j=>decide (i<=j)) x y
 | .gt,x,y,_=>xQ (λi j=>decide (j < i)) x y
 | .ge,x,y,_=>xQ (λi j=>decide (j<=i)) x y
 | .isin,x,y,S=>xO x y S
 | .notin,x,y,S=>(xO x y S).map (!·)
 | .is,x,y,_=>if xP y then gV (xP x)else td
 | .isnot,x,y,_=>if xP y then gV (!xP x)else td
noncomputable def gK (o:COp)(x y:W)(S:aa):JE (W×aa):=(Bh o x y S).map λk=>(.bl k,S)
section
variable{X:Cx}
theorem tZ {pins:Jy (JK×Ll)}{σ:L2.St}{H:Hp}{s:JD}{A:Jy JK}{S:aa}{k:Kc}(I:Inv X pins σ H s)(so:StoreOk X.w X.K A H S):ef X pins σ A H S (.bl k) (.bool k) s:=
 ⟨.bl k,H,A,I,rfl,.refl,so,.bl⟩
theorem Bj {o:COp}{x y w:W}{S S':aa}(h:gK o x y S=gV (w,S')):∃k,Bh o x y S=gV k/\w=.bl k/\S'=S:=by
 unfold gK at h;rw[JC]at h;obtain⟨k,h1,h2⟩:=h;cases h2;exact⟨k,h1,rfl,rfl⟩
theorem lJ {A:Jy JK}{H:Hp}{w:W}{v:V}(r:Rel X.K A H w v)(f:bG w=true):iz v=true:=by
 cases r <;> first|rfl|cases f
theorem jL {A:Jy JK}{H:Hp}:∀ {ws:Jy W} {vs:Jy V},RelL X.K A H ws vs->ws.all bG=true->vs.all iz=true
 | _,_,.nil,_=>rfl
 | _,_,.cons r t,f=>by
  rw[Kx,JH]at f ⊢;exact⟨lJ r f.1,jL t f.2⟩
theorem t8 {A:Jy JK}{H:Hp}{x y:W}{u v:V}(r:Rel X.K A H x u)(q:Rel X.K A H y v)(fx:bG x=true)(fy:bG y=true):AS u v=mY x y:=by
 cases r <;> cases q <;> first|rfl|cases fx|cases fy
theorem t9 {A:Jy JK}{H:Hp}{y:W}{v:V}(q:Rel X.K A H y v)(fy:bG y=true):∀ {ws:Jy W} {vs:Jy V},RelL X.K A H ws vs->ws.all bG=true->Hx v vs=ws.any λz=>mY z y
 | _,_,.nil,_=>rfl
 | _,_,.cons r t,f=>by
  rw[Kx,JH]at f;have:=t9 q fy t f.2;unfold Hx at this ⊢;rw[LH,LH,t8 r q f.1 fy,this]
theorem oW {pins:Jy (JK×Ll)}{σ:L2.St}{H:Hp}{s:JD}{A:Jy JK}{S:aa}{y:W}{b:V}{ys:Jy W}(so:StoreOk X.w X.K A H S)(r:Rel X.K A H y b)(e:eQ S y=gV ys):∃p vs,b=.ref p/\(SqL X.K H p vs\/SqT X.K H p vs)/\RelL X.K A H ys vs:=by
 cases r with
 | tup h1 r1=>cases e; exact⟨_,_,rfl,.inr h1,r1⟩
 | ref ea=>
  obtain⟨vs,h1,r1⟩:=dq so e ea;exact⟨_,vs,rfl,.inl h1,r1⟩
 | _=>cases e
theorem xR {neg:Kc}{o:Rj}(ho:OpR X (compareOp o) (Im X.K neg)){pins:Jy (JK×Ll)}{σ:L2.St}{H:Hp}{s:JD}{A:Jy JK}{S:aa}{x y:W}{a b:V}{u v:JB}{ys:Jy W}(I:Inv X pins σ H s)(so:StoreOk X.w X.K A H S)
  (rx:Rel X.K A H x a) (ru:RelV a u) (ry:Rel X.K A H y b) (rv:RelV b v) (e:eQ S y=gV ys) (f:(bG x&&ys.all bG)=true) :
  wpAny (model X.prog X.w) X.A (compareOp o u v) (ef X pins σ A H S (.bl (if neg then !ys.any λz=>mY z x else ys.any λz=>mY z x))) X.xe s:=by
 obtain⟨p,vs,rfl,hq,rl⟩:=oW (pins:=pins) (σ:=σ) (s:=s) so ry e;rw[JH]at f;refine OpR.go ho I ru rv ⟨p,vs,rfl,hq,lJ rx f.1,jL rl f.2,?_⟩;rw[t9 rx f.1 rl f.2];exact .here so .bl
theorem Bk (hu:X.A.units+iI < cLine)(o:COp):LOp X (compareOp o.py) (gK o):=by
 intro pins s σ H A S x y a b u v w S' I so rx ru ry rv e;obtain⟨k,ek,e1,e2⟩:=Bj e;subst e1;subst e2;clear e
 rename aa=>S
 have twoI:∀ {f:JL->JL->Kc},xQ f x y=gV k->∃i j,x=.int i/\y=.int j/\k=f i j:=by
  intro f h;cases x with
  | int i=>cases y with
   | int j=>cases h; exact⟨i,j,rfl,rfl,rfl⟩
   | _=>cases h
  | _=>cases h
 have hu1:X.A.units+1 < cLine:=by have:iI=20:=rfl; omega
 have ofSq:∀ {c:Kc},xO x y S=gV c->(∃ys,eQ S y=gV ys/\(bG x&&ys.all bG)=true/\c=ys.any λz=>mY z x):=by
  intro c h;unfold xO at h;split at h
  ·split at h
   ·cases h; exact⟨_,by assumption,by assumption,rfl⟩
   ·cases h
  ·cases h
 have ofN:∀ {c:Kc},(if xP y then gV c else td)=gV k->y=.non/\k=c:=by
  intro c h;cases y with
  | non=>cases h; exact⟨rfl,rfl⟩
  | _=>cases h
 cases o with
 | eq=>exact(CY I so iI X.A hu ⟨a,rx,ru⟩ ⟨b,ry,rv⟩ ek).1 _ _ _ _ (tZ I so)
 | ne=>
  obtain⟨k',h1,rfl⟩:=JC.mp ek;exact(CY I so iI X.A hu ⟨a,rx,ru⟩ ⟨b,ry,rv⟩ h1).2.1 _ _ _ _ (tZ I so)
 | lt=>
  obtain⟨i,j,rfl,rfl,rfl⟩:=twoI ek;cases rx; cases ry
  exact OpR.go F0 I ru rv ⟨_,_,rfl,rfl,.here so .bl⟩
 | le=>
  obtain⟨i,j,rfl,rfl,rfl⟩:=twoI ek;cases rx; cases ry
  exact OpR.go F1 I ru rv ⟨_,_,rfl,rfl,.here so .bl⟩
 | gt=>
  obtain⟨i,j,rfl,rfl,rfl⟩:=twoI ek;cases rx; cases ry
  exact OpR.go F2 I ru rv ⟨_,_,rfl,rfl,.here so .bl⟩
 | ge=>
  obtain⟨i,j,rfl,rfl,rfl⟩:=twoI ek;cases rx; cases ry
  exact OpR.go F3 I ru rv ⟨_,_,rfl,rfl,.here so .bl⟩
 | isin=>
  obtain⟨ys,h1,h2,rfl⟩:=ofSq ek;exact xR (neg:=false) vy I so rx ru ry rv h1 h2
 | notin=>
  obtain⟨c,h,rfl⟩:=JC.mp ek;obtain⟨ys,h1,h2,rfl⟩:=ofSq h;exact xR (neg:=true) oS I so rx ru ry rv h1 h2
 | is=>
  obtain⟨rfl,rfl⟩:=ofN ek;cases ry;refine OpR.go DY I ru rv ⟨rfl,?_⟩;cases rx <;> exact .here so .bl
 | isnot=>
  obtain⟨rfl,rfl⟩:=ofN ek;cases ry;refine OpR.go AG I ru rv ⟨rfl,?_⟩;cases rx <;> exact .here so .bl
end
end Mi
namespace HT
open PySem PyProof.Rows
section
variable{prog:Ki}{w:Kv}{A:Ks}{E:JB->JD->Prop}{s:JD}
theorem hZ {t sl:JK}{items:KD JB}{vl vu:JB}{lo hi:JE JL}{Q:JB->JD->Prop}(ht:Ps s.heap t items)(hs:s.heap.IsSliceOf sl vl vu .none)(pl:NA vl lo)(pu:NA vu hi)
  (hw:db items.size 0 lo=0/\db items.size items.size hi=items.size) (h:Q (.ref t) s):wpAny (model prog w) A (getItem (.ref t) (.ref sl)) Q E s:=by
 obtain⟨os,hos,hcs,hds⟩:=id hs;have hTs:s.TypeIs (.ref sl) "slice":=⟨os,hos,hcs⟩;unfold getItem
 try with_reducible refine Lk ?_
 first|refine JA (JM ?_)|skip
 refine JA (PD ht.typeIs (by decide) ?_)
 refine JA (KU (name:=LS "__getitem__") ht.typeIs LD
  (La LD ht.typeIs OV ?_ (Pg _ _)))
 show wpAny _ _ (MD (.ref t) >>= _) _ _ s;refine JA (QV ht ?_);refine JA (Nv hTs ?_);rw[Kd (by decide)]
 refine JA (fN hs pl pu ?_);have hyes:((((db items.size 0 lo:JF):JL)==0&&(1:JL)==1&&(db items.size items.size hi - db items.size 0 lo)==items.size)=true):=by
  rw[hw.1,hw.2];simp
 show wpAny _ _ (if (((db items.size 0 lo:JF):JL)==0&&(1:JL)==1&&(db items.size items.size hi - db items.size 0 lo)==items.size)=true then _ else _) _ _ s
 rw[Kd hyes];unfold QI;refine JA (JA (Nv ht.typeIs (JM ?_)));rw[Kd (by decide)]
 exact JA (Pd (JA (JM (JM ⟨_,rfl,JM h⟩))))
end
end HT
namespace Mi
open PySem PySem.Spec PyProof.Rows L2
noncomputable def w8 (x y:W)(S:aa):JE (W×aa):=match x,y with
 | .tup xs,.int i=>(r9 xs i).map λw=>(w,S)
 | .ref r,.int i=>match iH S r with
  | some xs=>(r9 xs i).map λw=>(w,S)
  | none=>td
 | .str x,.int i=>if x.length<=sizeLine then(r9 x.cps.toList i).map λc=>(.str ⟨[c].toArray⟩,S)else td
 | _,_=>td
noncomputable def qu (xs:Jy W)(lo hi:JE JL):Jy W:=(xs.drop (HT.db xs.length 0 lo)).take (HT.db xs.length xs.length hi - HT.db xs.length 0 lo)
noncomputable def sB (x:W)(lo hi:JE JL)(S:aa):JE (W×aa):=match x with
 | .tup xs=>gV (.tup (qu xs lo hi),S)
 | .ref r=>match iH S r with
  | some xs=>gV (.ref S.length,S++[.lst (qu xs lo hi)])
  | none=>td
 | _=>td
noncomputable def vE (o i v:W)(S:aa):JE aa:=match o,i with
 | .ref r,.int k=>match qe S r with
  | some xs=>match wY xs.length k with
   | some j=>gV (S.set r (.lst (xs.set j v)))
   | none=>td
  | none=>td
 | _,_=>td
section
variable (X:Cx)
noncomputable def LIx (g:W->W->aa->JE (W×aa)):Prop:=
 ∀(value slice:J9) (pins:Jy (JK×Ll)) (s:JD) (σ:L2.St) (H:Hp) (A:Jy JK) (S:aa) (x y:W) (a b:V) (u v:JB) (w:W) (S':aa),Inv X pins σ H s->StoreOk X.w X.K A H S->
  Rel X.K A H x a->RelV a u->Rel X.K A H y b->RelV b v->g x y S=gV (w,S')->subscripted slice false u v=operate [u,v] (getItem u v)->wpAny (model X.prog X.w) X.A (subscriptTail value slice u v) (ef X pins σ A H S' w) X.xe s
noncomputable def LSl (g:W->JE JL->JE JL->aa->JE (W×aa)):Prop:=
 ∀(pins:Jy (JK×Ll)) (s:JD) (σ:L2.St) (H:Hp) (A:Jy JK) (S:aa) (x:W) (a:V) (v vl vu:JB) (lo hi:JE JL) (sl:JK) (w:W) (S':aa),Inv X pins σ H s->StoreOk X.w X.K A H S->
  Rel X.K A H x a->RelV a v->s.heap.IsSliceOf sl vl vu .none->NA vl lo->NA vu hi->g x lo hi S=gV (w,S')->
  ∃T id,typeLookup (.type T) "__getitem__" = pure (gV (.builtin id))/\s.TypeIs v T/\wpAny (model X.prog X.w) X.A (getItem v (.ref sl)) (ef X pins σ A H S' w) X.xe s
noncomputable def LSet (g:W->W->W->aa->JE aa):Prop:=
 ∀(pins:Jy (JK×Ll)) (s:JD) (σ:L2.St) (H:Hp) (A:Jy JK) (S:aa) (o i x:W) (ao ai ax:V) (uo ui ux:JB) (S':aa),Inv X pins σ H s->StoreOk X.w X.K A H S->
  Rel X.K A H o ao->RelV ao uo->Rel X.K A H i ai->RelV ai ui->Rel X.K A H x ax->RelV ax ux->g o i x S=gV S'->
  wpAny (model X.prog X.w) X.A (setItem uo ui ux) (λ_ s'=>∃H' A',Inv X pins σ H' s'/\Ext X.K A H A' H'/\StoreOk X.w X.K A' H' S') X.xe s
noncomputable def LCall (f:JB)(g:Jy W->aa->JE (W×aa)):Prop:=
 ∀(pins:Jy (JK×Ll)) (s:JD) (σ:L2.St) (H:Hp) (A:Jy JK) (S:aa) (xs:Jy W) (vs:Jy V) (us:Jy JB) (w:W) (S':aa),Inv X pins σ H s->StoreOk X.w X.K A H S->
  RelL X.K A H xs vs->Vals vs us->g xs S=gV (w,S')->wpAny (model X.prog X.w) X.A (call f us) (ef X pins σ A H S' w) X.xe s
noncomputable def LMeth (id:K8)(g:W->Jy W->aa->JE (W×aa)):Prop:=
 ∀(pins:Jy (JK×Ll)) (s:JD) (σ:L2.St) (H:Hp) (A:Jy JK) (S:aa) (x:W) (a:V) (u:JB) (xs:Jy W) (vs:Jy V) (us:Jy JB) (w:W) (S':aa),Inv X pins σ H s->StoreOk X.w X.K A H S->
  Rel X.K A H x a->RelV a u->RelL X.K A H xs vs->Vals vs us->g x xs S=gV (w,S')->wpAny (model X.prog X.w) X.A (call (.builtin id) (u::us)) (ef X pins σ A H S' w) X.xe s
end
section
variable{X:Cx}{pins:Jy (JK×Ll)}{σ:L2.St}{H:Hp}{s:JD}{A:Jy JK}{S:aa}
theorem IxR.go {r:R2}(h:IxR X r){S':aa}{w:W}{a b:V}{u v:JB}{value slice:J9}(I:Inv X pins σ H s)(ru:RelV a u)(rv:RelV b v)(q:r a b H (EndV X.w X.K A H S' w))(hs:subscripted slice false u v=operate [u,v] (getItem u v)) :
  wpAny (model X.prog X.w) X.A (subscriptTail value slice u v) (ef X pins σ A H S' w) X.xe s:=cu (h value slice pins s σ H a b u v _ I ru rv q hs) λ_ _=>EP.post
theorem CallR.go {f:JB}{r:Jy V->Hp->VK->Prop}(h:CallR X f r){S':aa}{w:W}{vs:Jy V}{us:Jy JB}(I:Inv X pins σ H s)(rv:Vals vs us)(q:r vs H (EndV X.w X.K A H S' w)) :
  wpAny (model X.prog X.w) X.A (call f us) (ef X pins σ A H S' w) X.xe s:=cu (h pins s σ H vs us _ I rv q) λ_ _=>EP.post
theorem MtR.go {id:K8}{r:V->Jy V->Hp->VK->Prop}(h:MtR X id r){S':aa}{w:W}{a:V}{u:JB}{vs:Jy V}{us:Jy JB}(I:Inv X pins σ H s)(ru:RelV a u)(rv:Vals vs us)(q:r a vs H (EndV X.w X.K A H S' w)) :
  wpAny (model X.prog X.w) X.A (call (.builtin id) (u::us)) (ef X pins σ A H S' w) X.xe s:=cu (h pins s σ H a vs u us _ I ru rv q) λ_ _=>EP.post
theorem ub {xs:Jy W}{vs:Jy V}{i:JL}{w:W}(r:RelL X.K A H xs vs)(e:r9 xs i=gV w):∃v,r9 vs i=gV v/\Rel X.K A H w v:=by
 unfold r9 at e ⊢;rw[r.length]at e;cases q:wY vs.length i with
 | none=>rw[q]at e; cases e
 | some j=>
  rw[q]at e;obtain⟨v,h1,h2⟩:=r.get (show xs[j]?=gV w from e)
  exact⟨v,h1,h2⟩
theorem Js (hu:X.A.units+10 < cLine):LIx X w8:=by
 intro value slice pins s σ H A S x y a b u v w S' I so rx ru ry rv e hs;cases rx with
 | tup h1 r1=>cases ry with
  | int=>
   (dsimp only[w8]at e; simp only[JC]at e)
   obtain⟨w',e1,e2⟩:=e;cases e2;obtain⟨z,h2,r2⟩:=ub r1 e1;exact IxR.go Ea I ru rv ⟨_,_,_,_,rfl,rfl,h1,h2,.here so r2⟩ hs
  | _=>cases e
 | ref ea=>cases ry with
  | int=>
   dsimp only[w8]at e;split at e
   ·rename_i ws hw;rw[JC]at e;obtain⟨w',e1,e2⟩:=e;cases e2;obtain⟨vs,h1,r1⟩:=dq so hw ea;obtain⟨z,h2,r2⟩:=ub r1 e1;exact IxR.go AQ I ru rv ⟨_,_,_,_,rfl,rfl,h1,h2,.here so r2⟩ hs
   ·cases e
  | _=>cases e
 | str=>cases ry with
  | int=>
   dsimp only[w8]at e;split at e
   ·rw[JC]at e;obtain⟨c,e1,e2⟩:=e;cases e2;exact IxR.go Eb I ru rv ⟨_,_,_,rfl,rfl,by assumption,e1,.here so .str⟩ hs
   ·cases e
  | _=>cases e
 | _=>cases ry <;> cases e
theorem oX {xs:Jy W}{vs:Jy V}{lo hi:JE JL}(r:RelL X.K A H xs vs):RelL X.K A H (qu xs lo hi) (lF vs lo hi):=by
 unfold qu lF;rw[r.length];exact(r.drop _).take _
theorem Bl:F9 X (λx lo hi H Q=>∃a xs,x=.ref a/\SqT X.K H a xs/\(lF xs lo hi=xs->Q (.ref a) H)/\∀p,H p=td->Q (.ref p) (cH H p (.tup (lF xs lo hi)))):=by
 intro pins s σ H x v vl vu lo hi sl Q I rx hs pl pu h;obtain⟨a,xs,rfl,hx,q0,q⟩:=h
 by_cases hw:(HT.db xs.length 0 lo=0/\HT.db xs.length xs.length hi=xs.length)
 ·cases rx;obtain⟨its,r,ht,hz⟩:=I.tuple hx;have hlen:its.toArray.size=xs.length:=by rw[JV]; exact r.length.symm
  refine⟨"tuple",_,PyProof.Rows.slot_tuple_getitem.lookup,ht.typeIs,?_⟩;refine HT.hZ ht hs pl pu (by rw[hlen]; exact hw) ⟨.ref a,H,I,rfl,q0 ?_⟩
  unfold lF;rw[hw.1,hw.2];simp
 ·exact D8 pins s σ H (.ref a) v vl vu lo hi sl Q I rx hs pl pu ⟨a,xs,rfl,hx,hw,q⟩
theorem Jt:LSl X sB:=by
 intro pins s σ H A S x a v vl vu lo hi sl w S' I so rx rv hs pl pu e;cases rx with
 | tup h1 r1=>
  cases e;obtain⟨T,id,z1,z2,z3⟩:=Bl pins s σ H _ v vl vu lo hi sl (EndV X.w X.K A H S (.tup (qu _ lo hi))) I rv hs pl pu ⟨_,_,rfl,h1,λq=>.here so (.tup h1 (by have:=oX (lo:=lo) (hi:=hi) r1; rw[q]at this; exact this)),λp hp=>.tup so (oX r1) hp⟩
  exact⟨T,id,z1,z2,cu z3 λ_ _=>EP.post⟩
 | ref ea=>
  simp only[sB]at e;split at e
  ·rename_i ws hw;cases e;obtain⟨vs,h1,r1⟩:=dq so hw ea;obtain⟨T,id,z1,z2,z3⟩:=AR pins s σ H _ v vl vu lo hi sl (EndV X.w X.K A H (S++[.lst (qu ws lo hi)]) (.ref S.length)) I rv hs pl pu ⟨_,_,rfl,h1,λp hp=>.lst so (oX r1) hp⟩
   exact⟨T,id,z1,z2,cu z3 λ_ _=>EP.post⟩
  ·cases e
 | _=>cases e
theorem lset (hu:X.A.units+10 < cLine):LSet X vE:=by
 intro pins s σ H A S o i x ao ai ax uo ui ux S' I so ro ruo ri rui rx rux e;cases ro with
 | ref ea=>cases ri with
  | int=>
   simp only[vE]at e;split at e
   ·rename_i ws hw;split at e
    ·rename_i j hj;cases e;obtain⟨vs,h1,r1⟩:=fG so hw ea;rw[r1.length]at hj;obtain⟨so',ex⟩:=so.write (lH hw) ea (r1.set rx j);exact cu (xA pins s σ H _ _ _ uo ui ux (λH'=>H'=cH H _ (.lst (vs.set j ax))) I ruo rui rux ⟨_,_,_,_,rfl,rfl,h1,hj,rfl⟩) λ_ s' ⟨H',I',e'⟩=>⟨_,A,e' ▸ I',ex,so'⟩
    ·cases e
   ·cases e
  | _=>cases e
 | _=>cases ri <;> cases e
noncomputable def sC (xs:Jy W)(S:aa):JE (W×aa):=match xs with
 | [.tup ys]=>gV (.int ys.length,S)
 | [.str y]=>if y.length<=sizeLine then gV (.int y.length,S)else td
 | [.ref i]=>(iH S i).map λys=>(.int ys.length,S)
 | _=>td
theorem vF:LCall X (.builtin "len") sC:=by
 intro pins s σ H A S xs vs us w S' I so rl rv e;cases rl with
 | nil=>cases e
 | cons r t=>
  cases t with
  | cons _ _=>cases r <;> cases e
  | nil=>
   cases r with
   | tup h1 r1=>cases e; rw[r1.length]; exact CallR.go lD I rv ⟨_,_,rfl,.inr ⟨_,h1,rfl⟩,.here so .int⟩
   | str=>
    dsimp only[sC]at e;split at e
    ·cases e; exact CallR.go lD I rv ⟨_,_,rfl,⟨by assumption,rfl⟩,.here so .int⟩
    ·cases e
   | ref ea=>
    (dsimp only[sC]at e; simp only[JC]at e)
    obtain⟨ws,hw,e2⟩:=e;cases e2;obtain⟨vs',h1,r1⟩:=dq so hw ea;rw[r1.length];exact CallR.go lD I rv ⟨_,_,rfl,.inl ⟨_,h1,rfl⟩,.here so .int⟩
   | _=>cases e
noncomputable def i7 (xs:Jy W)(S:aa):JE (W×aa):=match xs with
 | [x]=>match eQ S x with
  | some ys=>gV (.ref S.length,S++[.lst ys])
  | none=>td
 | _=>td
theorem iJ:LCall X (.type "list") i7:=by
 intro pins s σ H A S xs vs us w S' I so rl rv e;cases rl with
 | nil=>cases e
 | cons r t=>
  cases t with
  | cons _ _=>cases e
  | nil=>
   simp only[i7]at e;split at e
   ·rename_i ys hy;cases e;obtain⟨p,vs',rfl,hq,r1⟩:=oW (pins:=pins) (σ:=σ) (s:=s) so r hy;exact CallR.go oT I rv ⟨p,vs',rfl,hq,λl hl=>.lst so r1 hl⟩
   ·cases e
noncomputable def lK (xs:Jy W)(S:aa):JE (W×aa):=match xs with
 | [.tup ys]=>gV (.tup ys,S)
 | [.ref i]=>match iH S i with
  | some ys=>gV (.tup ys,S)
  | none=>td
 | _=>td
theorem kH:LCall X (.type "tuple") lK:=by
 intro pins s σ H A S xs vs us w S' I so rl rv e;cases rl with
 | nil=>cases e
 | cons r t=>
  cases t with
  | cons _ _=>cases r <;> cases e
  | nil=>
   cases r with
   | tup h1 r1=>cases e; exact CallR.go iA I rv ⟨_,_,rfl,.inr ⟨h1,.here so (.tup h1 r1)⟩⟩
   | ref ea=>
    dsimp only[lK]at e;split at e
    ·rename_i ys hy;cases e;obtain⟨vs',h1,r1⟩:=dq so hy ea;exact CallR.go iA I rv ⟨_,_,rfl,.inl ⟨h1,λl hl=>.tup so r1 hl⟩⟩
    ·cases e
   | _=>cases e
noncomputable def Ge (xs:Jy W)(S:aa):JE (W×aa):=match xs with
 | [.int i]=>gV (.int i,S)
 | [.bl b]=>gV (.int (if b then 1 else 0),S)
 | _=>td
theorem vG:LCall X (.type "int") Ge:=by
 intro pins s σ H A S xs vs us w S' I so rl rv e;cases rl with
 | nil=>cases e
 | cons r t=>
  cases t with
  | cons _ _=>cases r <;> cases e
  | nil=>
   cases r with
   | int=>cases e; exact CallR.go nP I rv (.inl ⟨_,rfl,.here so .int⟩)
   | bl=>cases e; exact CallR.go nP I rv (.inr ⟨_,rfl,.here so .int⟩)
   | _=>cases e
noncomputable def i8 (x:W)(xs:Jy W)(S:aa):JE (W×aa):=match x,xs with
 | .ref i,[y]=>match qe S i with
  | some ys=>if ys.length < sizeLine then gV (.non,S.set i (.lst (ys++[y])))else td
  | none=>td
 | _,_=>td
theorem jM {i:JF}{p:JK}{ws ws0:Jy W}{us:Jy V}(so:StoreOk X.w X.K A H S)(e:qe S i=gV ws0)(ea:A[i]?=gV p)(r:RelL X.K A H ws us){w:W}{v:V}(rw':Rel X.K A H w v) :
  EndV X.w X.K A H (S.set i (.lst ws)) w v (cH H p (.lst us)):=by
 obtain⟨so',ex⟩:=so.write (lH e) ea r;exact⟨A,ex,so',rw'.mono ex⟩
theorem oY:LMeth X "list.append" i8:=by
 intro pins s σ H A S x a u xs vs us w S' I so rx ru rl rv e;cases rx with
 | ref ea=>
  cases rl with
  | nil=>cases e
  | cons r t=>
   cases t with
   | cons _ _=>cases e
   | nil=>
    simp only[i8]at e;split at e
    ·rename_i ys hy;split at e
     ·rename_i hl;cases e;obtain⟨vs',h1,r1⟩:=fG so hy ea;rw[r1.length]at hl;exact MtR.go vz I ru rv ⟨_,_,_,rfl,rfl,h1,hl,jM so hy ea (r1.append (.cons r .nil)) .non⟩
     ·cases e
    ·cases e
 | _=>cases e
noncomputable def i9 (x:W)(xs:Jy W)(S:aa):JE (W×aa):=match x,xs with
 | .ref i,[.ref j]=>match qe S i,qe S j with
  | some ys,gV zs=>if ys.length+zs.length<=sizeLine then gV (.non,S.set i (.lst (ys++zs)))else td
  | _,_=>td
 | _,_=>td
theorem oZ:LMeth X "list.extend" i9:=by
 intro pins s σ H A S x a u xs vs us w S' I so rx ru rl rv e;cases rx with
 | ref ea=>
  cases rl with
  | nil=>cases e
  | cons r t=>
   cases t with
   | cons _ _=>cases r <;> cases e
   | nil=>
    cases r with
    | ref eb=>
     dsimp only[i9]at e;split at e
     ·rename_i ys zs hy hz;split at e
      ·rename_i hl;cases e;obtain⟨vs',h1,r1⟩:=fG so hy ea;obtain⟨vs2,h2,r2⟩:=fG so hz eb;rw[r1.length,r2.length]at hl;exact MtR.go vA I ru rv ⟨_,_,_,_,rfl,rfl,h1,h2,hl,jM so hy ea (r1.append r2) .non⟩
      ·cases e
     ·cases e
    | _=>cases e
 | _=>cases e
noncomputable def Eg (x:W)(xs:Jy W)(S:aa):JE (W×aa):=match x,xs with
 | .ref i,[.int k]=>match qe S i with
  | some ys=>if -(2 ^ 63)<=k/\k < 2 ^ 63 then match seqIndex? k ys.length with
   | some j=>match ys[j]? with
    | some y=>gV (y,S.set i (.lst (ys.eraseIdx j)))
    | none=>td
   | none=>td
   else td
  | none=>td
 | _,_=>td
theorem vH:LMeth X "list.pop" Eg:=by
 intro pins s σ H A S x a u xs vs us w S' I so rx ru rl rv e;cases rx with
 | ref ea=>
  cases rl with
  | nil=>cases e
  | cons r t=>
   cases t with
   | cons _ _=>cases r <;> cases e
   | nil=>
    cases r with
    | int=>
     dsimp only[Eg]at e;split at e
     ·rename_i ys hy;split at e
      ·rename_i hk;split at e
       ·rename_i j hj;split at e
        ·rename_i y hyj;cases e;obtain⟨vs',h1,r1⟩:=fG so hy ea;obtain⟨v',h2,r2⟩:=r1.get hyj;rw[r1.length]at hj;exact MtR.go xD I ru rv ⟨_,_,_,_,_,rfl,rfl,h1,hk.1,hk.2,hj,h2,jM so hy ea (r1.eraseIdx j) r2⟩
        ·cases e
       ·cases e
      ·cases e
     ·cases e
    | _=>cases e
 | _=>cases e
theorem jN {M:R0}{A:Ks}{E:JB->JD->Prop}{s:JD}{β:Type}{m:JF}(f:JF->β->Rv (ForInStep β))(I:JF->β->JD->Prop)(Q:β->JD->Prop)
  (turn:∀i b s,i < m->I i b s->wpAny M A (f i b) (λr s'=>match r with|.yield b'=>I (i+1) b' s'|.done b'=>Q b' s') E s)
  (fin:∀b s,I m b s->Q b s) (b:β) (h:I 0 b s):wpAny M A (forIn [0:m] b f) Q E s:=by
 rw[Std.Legacy.Range.forIn_eq_forIn_range'];simp only[Std.Legacy.Range.size,Ro,Pi,Nat.div_one];refine N3 _ (λdc b s'=>∃i,i<=m/\dc=RC i (m - i)/\I i b s') _ ?_ ?_ _ _ ⟨0,LJ _,by simp,h⟩
 ·rintro x dc b s' ⟨i,hi,hr,hI⟩;have hlt:i < m:=by
   rcases PL i m with h|h
   ·exact h
   ·rw[Nat.sub_eq_zero_of_le h]at hr; simp at hr
  obtain⟨rfl,hrest⟩ : x=i/\dc=RC (i+1) (m - (i+1)):=by
   have e:m - i=(m - (i+1))+1:=by omega
   rw[e,P8]at hr;injection hr with h1 h2
   exact⟨h1,h2⟩
  refine Lu (turn x b s' hlt hI) (λr s2 hr2=>?_) λ_ _ e=>e
  cases r with
  | yield b'=>exact⟨x+1,hlt,hrest,hr2⟩
  | done b'=>exact hr2
 ·rintro b s' ⟨i,hi,hr,hI⟩;have:i=m:=by
   rcases PL i m with h|h
   ·have e:m - i=(m - (i+1))+1:=by omega
    rw[e,P8]at hr; cases hr
   ·omega
  exact fin b s' (this ▸ hI)
open SeqAt in
theorem mZ (l:JK)(items:KD JB)(n:JF)(dd:JE JK)(sl:KD (JE JB))(x:JB)(e:JB->Kc)(j:JF)(hj:j < items.size)
  (hit:e items[j]=true) (hno:∀m (hm:m < items.size),m < j->e items[m]=false) :
  Meets (Og.«tuple.index» ⟨[.ref l,x],[]⟩)
   (λA R s=>s.heap.get? l=gV { cls:=.type "tuple",dict:=dd,data:=.seq items n,slots:=sl }/\(∀y,y∈items->EqAt A.in1 s y x (e y))/\R (.ok (.ret (.int j s.toks))) { s with toks:=s.toks+1 }):=
 .of_wp λprog w A R s h=>by
  obtain⟨hp,g,d,tk,os⟩:=s; obtain⟨hl,he,h⟩:=h
  wp_walk using MU hl,jN _ (λi b s'=>b.1=td/\s'=⟨hp,g,d,tk,os⟩/\i<=j) _
  case turn=>
   rintro i b s' hi ⟨hb,rfl,hij⟩;have hi2:i < items.size:=by omega
   rw[ML hi2];refine JA (he _ (Array.getElem_mem hi2) prog w _ _ ?_)
   by_cases ej:i=j
   ·subst ej;rw[hit]
    wp_walk
    exact⟨_,rfl,h⟩
   ·rw[hno i hi2 (by omega)]
    wp_walk
    exact⟨rfl,rfl,by omega⟩
  case fin=>
   rintro b s' ⟨hb,rfl,hij⟩;rw[MJ]at hij;omega
  case h=>exact⟨rfl,rfl,LJ _⟩
theorem o4 {A:Jy JK}{H:Hp}:∀ {ws:Jy W} {vs:Jy V} {us:Jy JB},RelL X.K A H ws vs->Vals vs us->ws.all bG=true->∀(j:JF) (h:j < us.length) (h':j < ws.length),ql .non us[j]=mY ws[j] .non
 | _,_,_,.nil,.nil,_,j,h,_=>absurd h (Qq _)
 | _,_,_,.cons r t,.cons q p,f,j,h,h'=>by
  rw[Kx,JH]at f;cases j with
  | zero=>exact(sx q (lJ r f.1)).trans (t8 r .non f.1 rfl)
  | succ j=>exact o4 t p f.2 j (Oh h) (Oh h')
noncomputable def ja (x:W)(xs:Jy W)(S:aa):JE (W×aa):=match x,xs with
 | .tup ys,[.non]=>if ys.all bG then(ys.findIdx? λz=>mY z .non).map λj=>(.int (j:JF),S)else td
 | _,_=>td
theorem qv:LMeth X "tuple.index" ja:=by
 intro pins s σ H A S x a u xs vs us w S' I so rx ru rl rv e;cases rx with
 | tup hq r1=>
  cases rl with
  | nil=>cases e
  | cons r t=>
   cases t with
   | cons _ _=>cases r <;> cases e
   | nil=>
    cases r with
    | non=>
     dsimp only[ja]at e;split at e
     ·rename_i hf;rw[JC]at e;obtain⟨j,hj,e⟩:=e;cases e;cases ru;obtain⟨u',rfl,q'⟩:=rv.one;cases(show u'=KN from q')
      obtain⟨its,r2,⟨⟨cls,dd,data,sl⟩,eo,hc,n,hd⟩,hz⟩:=I.tuple hq;dsimp only at hc hd;subst hc hd;have hl:its.length=_:=r2.length.symm.trans r1.length.symm;obtain⟨hj1,hj2,hj3⟩:=L4.mp hj;refine Nd NU ⟨_,eo,rfl⟩ PySem.F.entry_tuple_index (PySem.F.args_tuple_index_2 _ _) (mZ _ its.toArray n dd sl .none (ql .non) j (by rw[JV,hl]; exact hj1) ?_ λm hm h=>?_) ⟨eo,λy hy=>fO (x:=.non) rfl rfl r2 (jL r1 hf) y (by simpa using hy),⟨.int _,H,A,I.tok _,⟨_,rfl⟩,.refl,so,.int⟩⟩
      ·exact(o4 r1 r2 hf j (by rw[hl]; exact hj1) hj1).trans hj2
      ·have hm':m < its.length:=by simpa using hm
       exact(o4 r1 r2 hf m hm' (by rw[<- hl]; exact hm')).trans (by simpa using hj3 m h)
     ·cases e
    | _=>cases e
 | _=>cases e
noncomputable def o5:Jy W->JE (Jy JZ)
 | []=>gV []
 | .str x::xs=>(o5 xs).map (x :: ·)
 | _::_=>td
noncomputable def xS (x:W)(xs:Jy W)(S:aa):JE (W×aa):=match x,xs with
 | .str x,[y]=>match eQ S y with
  | some ys=>match o5 ys with
   | some zs=>if (zs.map (·.length)).sum+zs.length*x.length<=16777216 then gV (.str (Txt.join x zs),S)else td
   | none=>td
  | none=>td
 | _,_=>td
theorem lL:∀ {ws:Jy W} {vs:Jy V} {us:Jy JB} {zs:Jy JZ},RelL X.K A H ws vs->Vals vs us->o5 ws=gV zs->StrsAre us zs
 | _,_,_,zs,.nil,.nil,e=>by cases e; exact .nil
 | _,_,_,zs,.cons r t,.cons q p,e=>by
  cases r with
  | str=>
   simp only[o5,JC]at e;obtain⟨z,e1,e2⟩:=e;subst e2;obtain⟨tk,rfl⟩ : ∃t,_=M9 _ t:=q;exact .cons _ tk (lL t p e1)
  | _=>cases e
theorem sD:LMeth X "str.join" xS:=by
 intro pins s σ H A S x a u xs vs us w S' I so rx ru rl rv e;cases rx with
 | str=>
  cases rl with
  | nil=>cases e
  | cons r t=>
   cases t with
   | cons _ _=>cases e
   | nil=>
    simp only[xS]at e;split at e
    ·rename_i ys hy;split at e
     ·rename_i zs hz;split at e
      ·rename_i hl;cases e;obtain⟨p,vs',rfl,hq,r1⟩:=oW (pins:=pins) (σ:=σ) (s:=s) so r hy;obtain⟨t0,rfl⟩ : ∃t,u=M9 _ t:=ru;obtain⟨u1,rfl,ru1⟩:=nO rv;have ru1':u1=Ky p:=ru1;subst ru1';rcases hq with hq|hq
       ·obtain⟨its,rr,pl,hz'⟩:=I.list hq;exact join_list pl.isList (by simpa using lL r1 rr hz) hl λt' k=>⟨.str _,H,A,I.tok _,⟨_,rfl⟩,.refl,so,.str⟩
       ·obtain⟨its,rr,pl,hz'⟩:=I.tuple hq;exact join_tuple pl (by simpa using lL r1 rr hz) hl λt' k=>⟨.str _,H,A,I.tok _,⟨_,rfl⟩,.refl,so,.str⟩
      ·cases e
     ·cases e
    ·cases e
 | _=>cases e
noncomputable def ff (S:aa):W->JE Kc
 | .non=>gV false
 | .bl b=>gV b
 | .int i=>gV (i != 0)
 | .str y=>if y.length<=sizeLine then gV ((y.length:JL) != 0)else td
 | .tup xs=>gV (!xs.isEmpty)
 | .ref i=>(iH S i).map λxs=>!xs.isEmpty
theorem kI {ws:Jy W}{vs:Jy V}(r:RelL X.K A H ws vs):(!ws.isEmpty) = !vs.isEmpty:=by cases r <;> rfl
theorem Iu {x:W}{a:V}{u:JB}{k:Kc}{Q:Kc->JD->Prop}(I:Inv X pins σ H s)(so:StoreOk X.w X.K A H S)(rx:Rel X.K A H x a)(ru:RelV a u)(e:ff S x=gV k)(hq:∀s',Inv X pins σ H s'->Q k s') :
  wpAny (model X.prog X.w) X.A (truthy u) Q X.xe s:=by
 refine cu (DZ pins s σ H a u (λb H'=>b=k/\H'=H) I ru ⟨k,?_,rfl,rfl⟩) λb s' ⟨H',I',e1,e2⟩=>?_
 ·cases rx with
  | non=>cases e; rfl
  | bl=>cases e; rfl
  | int=>cases e; rfl
  | str=>
   simp only[ff]at e;split at e
   ·cases e; exact⟨by assumption,rfl⟩
   ·cases e
  | tup h1 r1=>cases e; exact .inr (.inl ⟨_,h1,kI r1⟩)
  | ref ea=>
   simp only[ff,JC]at e;obtain⟨ws,hw,e2⟩:=e;subst e2;obtain⟨vs,h1,r1⟩:=dq so hw ea;exact .inl ⟨_,h1,kI r1⟩
 ·subst e1 e2;exact hq s' I'
end
noncomputable def xT (S:aa)(i:JF):JE (JL×JL):=match S[i]? with
 | some (.rng lo hi)=>gV (lo,hi)
 | _=>td
noncomputable def o7 (xs:Jy W)(S:aa):JE (W×aa):=match xs with
 | [.int j]=>if -(2 ^ 62)<=j/\j < 2 ^ 62 then gV (.ref S.length,S++[.rng 0 j])else td
 | _=>td
noncomputable def Bm (lo:JL)(n:JF):Jy W:=(JN n).map λ(k:JF)=>.int (lo+(k:JL))
noncomputable def kJ (xs:Jy W)(S:aa):JE (W×aa):=match xs with
 | [.ref i]=>match xT S i with
  | some (lo,hi)=>if -(2 ^ 62)<=lo/\lo < 2 ^ 62/\-(2 ^ 62)<=hi/\hi < 2 ^ 62/\(hi - lo).toNat<=sizeLine then gV (.ref S.length,S++[.lst (Bm lo (hi - lo).toNat)])else td
  | none=>i7 [.ref i] S
 | xs=>i7 xs S
section
variable{X:Cx}{pins:Jy (JK×Ll)}{σ:L2.St}{H:Hp}{s:JD}{A:Jy JK}{S:aa}
theorem Inv.drawn (I:Inv X pins σ H s)(d:Sc):Inv X pins σ H { s with drawn:=d }:=⟨I.ok,I.os,I.bare,I.base,I.loc,I.cell,I.free,I.freeC,I.pin,I.hok,I.len⟩
theorem qw {h':KH}{tk:JF}{dr:Sc}{D:JK}{n:O}{u:HO}(I:Inv X pins σ H s)(so:StoreOk X.w X.K A H S)(hk:∀b o,s.heap.get? b=gV o->h'.get? b=gV o)(hD:s.heap.objs.size<=D)(new:ObjOk X.prog X.w (cH H D u) h' D u)
  (r:H D=td->ObjRel X.w X.K (A++[D]) (cH H D u) D n):ef X pins σ A H (S++[n]) (.ref S.length) (.ref D) { s with heap:=h',toks:=tk,drawn:=dr }:=by
 have hn:H D=td:=I.hok.fresh hD;refine⟨.ref D,_,A++[D],Mi.Inv.drawn (I.laid (a:=D) (o:=u) (t':=tk) hk hD new) dr,rfl,eP hn,so.pushO hn (r hn),.ref ?_⟩;rw[<- so.len]; simp
theorem o8:∀ {vs:Jy V} {us:Jy JB},vs.length=us.length->(∀(i:JF) v u,vs[i]?=gV v->us[i]?=gV u->L2.RelV v u)->Vals vs us
 | [],[],_,_=>.nil
 | v::vs,u::us,hl,h=>.cons (h 0 v u rfl rfl) (o8 (by simpa using hl) λi v u a b=>h (i+1) v u (by simpa using a) (by simpa using b))
 | [],_::_,hl,_=>by cases hl
 | _::_,[],hl,_=>by cases hl
theorem o9 {K:JP}{lo:JL}:∀(l:Jy JF),RelL K A H (l.map λ(k:JF)=>W.int (lo+(k:JL))) (l.map λ(k:JF)=>V.int (lo+(k:JL)))
 | []=>.nil
 | _::l=>.cons .int (o9 l)
theorem uc {xs:Jy W}{vs:Jy V}{us:Jy JB}{i:JF}(rl:RelL X.K A H [.ref i] vs)(rv:Vals vs us):∃a,A[i]?=gV a/\us=[.ref a]:=by
 cases rl with
 | cons r t=>
  cases t;cases r with
  | @ref _ a ea=>
   cases rv with
   | cons ru rv=>
    cases rv;obtain rfl:_=Ky a:=ru;exact⟨a,ea,rfl⟩
theorem qx:LCall X (.type "range") o7:=by
 intro pins s σ H A S xs vs us w S' I so rl rv e;unfold o7 at e;split at e
 ·rename_i j;split at e
  ·rename_i hb;cases e;cases rl with
   | cons r t=>
    cases t;cases r;cases rv with
    | cons ru rv=>
     cases rv;obtain⟨tk,rfl⟩:=ru;exact Rm (qw (dr:=s.drawn) (u:=.rng 0 j) I so (λb o e=>JI _ e) (JO _) ⟨_,_,_,J1 _ rfl⟩ λ_=>bM)
  ·cases e
 ·cases e
theorem qy (hh:X.A.handled=td):LCall X (.type "list") kJ:=by
 intro pins s σ H A S xs vs us w S' I so rl rv e;unfold kJ at e;split at e
 ·rename_i i;split at e
  ·rename_i lo hi hr;split at e
   ·rename_i hb;cases e;obtain⟨a,ea,rfl⟩:=uc (xs:=[]) rl rv;obtain⟨b1,b2,b3,b4,b5⟩:=hb;have hH:H a=gV (.rng lo hi):=by
     unfold xT at hr;split at hr
     ·rename_i hx; cases hr; exact so.obj i _ a hx ea
     ·cases hr
    obtain⟨t,u,v,ho⟩:=I.hok a _ hH;have hn:Lw lo hi 1=((hi - lo).toNat:JF):=by rw[O3]; split <;> omega
    refine call_list_range hh ho (Ri b1 b2 b3 b4) hn b5 λh' tk acc c hk hD hacc=>?_
    have hv:Vals ((JN (hi - lo).toNat).map λ(k:JF)=>V.int (lo+(k:JL))) acc.toList:=by
     refine o8 (by rw[Jz,J6,Kr,hacc.1]) λi v u e1 e2=>?_
     rw[JJ,JC]at e1;obtain⟨k,e1,rfl⟩:=e1;obtain⟨hk,rfl⟩:=JU.mp e1;obtain⟨t,rfl⟩:=hacc.2 i u (by rw[<- Lm]; exact e2)
     exact⟨t,by simp⟩
    refine qw (dr:=s.drawn) (u:=.lst ((JN (hi - lo).toNat).map λ(k:JF)=>V.int (lo+(k:JL)))) I so hk (JO _) ⟨by simpa using b5,acc.toList,c,hv,by simpa using hD⟩ λhn=>⟨_,bM,?_⟩
    exact o9 _
   ·cases e
  ·exact iJ pins s σ H A S _ vs us w S' I so rl rv e
 ·exact iJ pins s σ H A S _ vs us w S' I so rl rv e
end
mutual
inductive IsT (h:KH):T->JB->Prop
 | int {i:JL} {t:Si}:IsT h (.int i) (.int i t)
 | str {x:JZ} {t:Si}:IsT h (.str x) (.str x t)
 | tup {ks:Jy T} {a:JK} {o:Ll} {items:KD JB} {n:JF}:h.get? a=gV o->o.cls=.type "tuple"->o.data=.seq items n->IsTs h ks items.toList->IsT h (.tup ks) (.ref a)
inductive IsTs (h:KH):Jy T->Jy JB->Prop
 | nil:IsTs h [] []
 | cons {k:T} {v:JB} {ks:Jy T} {vs:Jy JB}:IsT h k v->IsTs h ks vs->IsTs h (k::ks) (v::vs)
end
mutual
theorem IsT.inj {h:KH}:∀ {x y:T} {v:JB},IsT h x v->IsT h y v->x=y
 | _,_,_,.int,h2=>by cases h2; rfl
 | _,_,_,.str,h2=>by cases h2; rfl
 | _,_,_,.tup a1 _ d1 t1,h2=>by
  cases h2 with
  | tup a2 _ d2 t2=>
   rw[a1]at a2; cases a2
   rw[d1]at d2; cases d2
   rw[IsTs.inj t1 t2]
theorem IsTs.inj {h:KH}:∀ {x y:Jy T} {v:Jy JB},IsTs h x v->IsTs h y v->x=y
 | _,_,_,.nil,h2=>by cases h2; rfl
 | _,_,_,.cons a b,h2=>by
  cases h2 with
  | cons c d=>rw[IsT.inj a c,IsTs.inj b d]
end
mutual
theorem IsT.keeps {h h':KH}{d:JK}{o:Ll}{es:KD LO}{ep:JF}(ho:h.get? d=gV o)(hd:o.data=.dict es ep)(hs:L8 d h h'):∀ {x:T} {v:JB},IsT h x v->IsT h' x v
 | _,_,.int=>.int
 | _,_,.str=>.str
 | _,_,.tup (a:=a) a1 c1 d1 t1=>by
  have hne:a≠d:=by
   rintro rfl;rw[a1]at ho; cases ho
   rw[d1]at hd; cases hd
  exact .tup ((hs.2 a hne).trans a1) c1 d1 (IsTs.keeps ho hd hs t1)
theorem IsTs.keeps {h h':KH}{d:JK}{o:Ll}{es:KD LO}{ep:JF}(ho:h.get? d=gV o)(hd:o.data=.dict es ep)(hs:L8 d h h'):∀ {x:Jy T} {v:Jy JB},IsTs h x v->IsTs h' x v
 | _,_,.nil=>.nil
 | _,_,.cons a b=>.cons (IsT.keeps ho hd hs a) (IsTs.keeps ho hd hs b)
end
theorem IsTs.length {h:KH}:∀ {x:Jy T} {v:Jy JB},IsTs h x v->x.length=v.length
 | _,_,.nil=>rfl
 | _,_,.cons _ b=>by simp[IsTs.length b]
theorem IsTs.get {h:KH}:∀ {x:Jy T} {v:Jy JB},IsTs h x v->∀(j:JF) (h1:j < x.length) (h2:j < v.length),IsT h x[j] v[j]
 | _,_,.cons a _,0,_,_=>a
 | _,_,.cons _ b,j+1,h1,h2=>IsTs.get b j (by simpa using h1) (by simpa using h2)
theorem eR:∀ {ks:Jy T} (j:JF) (h:j < ks.length),(ks[j]).depth<=T.depths ks
 | k::ks,0,_=>by simp only[T.depths,List.getElem_cons_zero]; omega
 | k::ks,j+1,h=>by
  have:=eR (ks:=ks) j (by simpa using h)
  simp only[T.depths,List.getElem_cons_succ]; omega
section
variable{prog:Ki}{w:Kv}{E:JB->JD->Prop}
mutual
theorem qz:∀(k:T) (v:JB) (A:Ks) (s:JD) (Q:JL->JD->Prop),IsT s.heap k v->A.units+k.depth < cLine->Q (qo w k) { s with toks:=s.toks+k.draws }->wpAny (model prog w) A (pyHash v) Q E s
 | .int i,_,A,s,Q,x,_,h=>by cases x; exact P0 h
 | .str y,_,A,s,Q,x,_,h=>by cases x; exact P1 h
 | .tup ks,_,A,s,Q,x,hu,h=>by
  cases x with
  | @tup _ a o items n hg hc hd hw=>
   simp only[T.depth]at hu;refine PySem.W.pyHash_slot (T:="tuple") ⟨_,hg,hc⟩ F.slot_tuple_hash F.entry_tuple_hash (F.args_tuple_hash_1 _) (beq_builtin_none _) (.inr (by omega)) ?_
   show wpAny _ _ (MD (.ref a) >>= _) _ _ s;refine JA (wpAny_tupleItemsOf hg hd ?_);refine JA ?_;rw[<- Pj];refine lM ks items.toList A.in1 s #[] _ hw (by rw[bU]; omega) λb hb=>?_
   show wpAny _ _ (retInt (NH b.toList)) _ _ _;rw[hb];refine JA (Ql (JM ⟨_,_,rfl,?_⟩))
   simpa [T.draws,Q7,qo]using h
theorem lM:∀(ks:Jy T) (vs:Jy JB) (A:Ks) (s:JD) (b:KD JL) (Q:KD JL->JD->Prop),IsTs s.heap ks vs->A.units+T.depths ks < cLine->
  (∀b',b'.toList=b.toList++lG w ks->Q b' { s with toks:=s.toks+T.drawss ks })->
  wpAny (model prog w) A (forIn vs b λx r=>do let h <- pyHash x; pure Pk; pure (Lq (r.push h))) Q E s
 | [],_,A,s,b,Q,x,_,h=>by cases x; exact JM (h b (by simp[lG]))
 | k::ks,_,A,s,b,Q,x,hu,h=>by
  cases x with
  | cons x1 x2=>
   simp only[T.depths]at hu;rw[Oq];refine JA (JA (qz k _ A s _ x1 (by omega) ?_))
   refine JA (JM (JM ?_));refine lM ks _ A _ _ Q x2 (by omega) λb' hb=>?_
   have:=h b' (by simp[hb,lG])
   simpa [T.drawss,Q7]using this
end
open SeqAt in
theorem vI:∀(d:JF) (x y:T) (u v:JB) (B:Ks) (s:JD),x.depth<=d->IsT s.heap x u->IsT s.heap y v->B.units+d < cLine->B.units+y.depth < cLine->EqAt B s u v (decide (x=y))
 | d,.int i,y,_,_,B,s,_,h1,h2,hu,hv=>by
  cases h1;cases h2 with
  | int=>
   rename_i j t2;have:decide (T.int i=T.int j)=(i==j):=by by_cases e:i=j <;> simp[e]
   rw[this]; exact .int_int _ _ _ _
  | str=>rw[Kl (by simp)]; exact .int_str _ _ _ _
  | tup a c dd t=>rw[Kl (by simp)]; exact .int_tuple _ _ ⟨_,a,c,_,dd⟩ (by simp only[T.depth]at hv; omega)
 | d,.str z,y,_,_,B,s,_,h1,h2,hu,hv=>by
  cases h1;cases h2 with
  | int=>rw[Kl (by simp)]; exact .str_int _ _ _ _
  | str=>
   rename_i z2 t2;have:decide (T.str z=T.str z2)=(z==z2):=by by_cases e:z=z2 <;> simp[e]
   rw[this]; exact .str_str _ _ _ _
  | tup a c dd t=>rw[Kl (by simp)]; exact .str_tuple _ _ ⟨_,a,c,_,dd⟩ (by simp only[T.depth]at hv; omega)
 | 0,.tup ks,y,_,_,B,s,hd,h1,h2,hu,hv=>by simp[T.depth]at hd
 | d+1,.tup ks,y,_,_,B,s,hd,h1,h2,hu,hv=>by
  have h1':=h1;cases h1 with
  | @tup _ a o items n a1 c1 d1 t1=>
   have hT:s.heap.IsTuple a items:=⟨_,a1,c1,_,d1⟩;simp only[T.depth]at hd;cases h2 with
   | int=>rw[Kl (by simp)]; exact .tuple_int _ _ hT (by omega)
   | str=>rw[Kl (by simp)]; exact .tuple_str _ _ hT (by omega)
   | @tup ks2 b o2 items2 n2 a2 c2 d2 t2=>
    have hT2:s.heap.IsTuple b items2:=⟨_,a2,c2,_,d2⟩
    by_cases hab:a=b
    ·subst hab;have:T.tup ks=T.tup ks2:=h1'.inj (.tup a2 c2 d2 t2);rw[LL this];exact EqAt.same _
    ·refine EqAt.of_refs hab ?_;simp only[T.depth]at hv;have l1:items.size=ks.length:=by rw[<- Kr,t1.length]
     have l2:items2.size=ks2.length:=by rw[<- Kr,t2.length]
     let e:JF->Kc:=λj=>if h:j < ks.length/\j < ks2.length then decide (ks[j]'h.1=ks2[j]'h.2)else true
     have he:∀j (h1:j < items.size) (h2:j < items2.size),EqAt B.in1 s items[j] items2[j] (e j):=λj j1 j2=>by
      have g1:=t1.get j (l1 ▸ j1) (by simpa using j1)
      have g2:=t2.get j (l2 ▸ j2) (by simpa using j2)
      have q1:=eR (ks:=ks) j (l1 ▸ j1);have q2:=eR (ks:=ks2) j (l2 ▸ j2);have:=vI d _ _ _ _ B.in1 s (by omega) g1 g2 (by rw[bU]; omega) (by rw[bU]; omega)
      show EqAt B.in1 s items[j] items2[j] (if h:j < ks.length/\j < ks2.length then decide (ks[j]'h.1=ks2[j]'h.2)else true)
      rw[R3 ⟨l1 ▸ j1,l2 ▸ j2⟩]
      simpa using this
     have:=RcAt.tuples hT hT2 (by omega) he
     have hk:((JN (min items.size items2.size)).all e&&items.size==items2.size)=decide (T.tup ks=T.tup ks2):=by
      rw[l1,l2]
      by_cases hl:ks.length=ks2.length
      ·by_cases hq:ks=ks2
       ·subst hq;simp only[MJ,KY,NV,decide_true,J3,JY];intro j hj;show(if h:j < ks.length/\j < ks.length then decide (ks[j]'h.1=ks[j]'h.2)else true)=true
        rw[R3 ⟨hj,hj⟩]; simp
       ·rw[Kl (by simpa using hq)]
        have:∃j,∃h:j < ks.length,ks[j]≠ks2[j]'(hl ▸ h):=by
         apply NJ;intro hn;exact hq (Nf hl λj h1 h2=>NJ λz=>hn ⟨j,h1,z⟩)
        obtain⟨j,hj,hne⟩:=this;rw[M7];left;rw[PM];refine⟨j,by rw[JY,<- hl,MJ]; exact hj,?_⟩
        show ¬ (if h:j < ks.length/\j < ks2.length then decide (ks[j]'h.1=ks2[j]'h.2)else true)=true
        rw[R3 ⟨hj,hl ▸ hj⟩]
        simpa using hne
      ·rw[Kl (by simp; intro z; exact hl (by rw[z])),M7]
       right
       simpa using hl
     rw[hk]at this;exact this
theorem nX {n:JF}{v:JB}(h:∀a,v≠.ref a):eqIsQuiet n v=pure true:=by
 cases v with
 | ref a=>exact absurd rfl (h a)
 | _=>first|rfl|simp[eqIsQuiet]|(unfold eqIsQuiet; rfl)
theorem ud:∀(d:JF) (k:T) (v:JB) (A:Ks) (s:JD) (Q:Kc->JD->Prop),k.depth<=d->IsT s.heap k v->Q true s->wpAny (model prog w) A (eqIsQuiet d v) Q E s
 | d,.int i,_,A,s,Q,_,x,h=>by cases x; rw[nX (λa=>by simp)]; exact JM h
 | d,.str i,_,A,s,Q,_,x,h=>by cases x; rw[nX (λa=>by simp)]; exact JM h
 | 0,.tup ks,_,A,s,Q,hd,x,h=>by simp[T.depth]at hd
 | d+1,.tup ks,_,A,s,Q,hd,x,h=>by
  cases x with
  | @tup _ a o items n ho hc hdt hi=>
   simp only[T.depth]at hd;have hT:s.TypeIs (.ref a) "tuple":=⟨_,ho,hc⟩;unfold eqIsQuiet;refine JA (wpAny_specialOf hT F.slot_tuple_eq.lookup ?_);show wpAny _ _ (isInstance (.ref a) (.type "tuple") >>= _) _ _ s;refine JA (N4 hT isSubtype_tuple_tuple ?_);simp only[O6,K9,L9];refine JA (MF ho hdt ?_);refine JA ?_;show wpAny _ _ (forIn items _ _) _ _ s;rw[<- Pj];refine N3 _ (λdc r s'=>r.1=td/\s'=s/\∃kk,IsTs s.heap kk dc/\T.depths kk<=d) _ ?_ ?_ _ _ ⟨rfl,rfl,ks,hi,by omega⟩
   ·rintro v dc r s' ⟨hr,rfl,kk,hall,hdk⟩;cases hall with
    | cons q1 q2=>
     simp only[T.depths]at hdk;refine JA (ud d _ v _ _ _ (by omega) q1 ?_)
     simp only[O6,K9,L9];exact JM ⟨rfl,rfl,_,q2,by omega⟩
   ·rintro⟨r1,r2⟩ s' ⟨hr,rfl,_⟩;simp only at hr;subst hr;exact JM h
end
noncomputable def dE (prog:Ki)(w:Kv):HeapKind prog w T where
 is:=λh k a=>IsT h k (.ref a)/\k.depth<=bX
 hash:=qo w
 draws:=T.draws
 room:=λA=>A.units+bX < cLine
 inj:=λhx hy=>hx.1.inj hy.1
 keeps:=λx ho hd hs=>⟨x.1.keeps ho hd hs,x.2⟩
 pyHash:=λhu hk h=>qz _ _ _ _ _ hk.1 (by have:=hk.2; omega) h
 eqBool:=λhu hx hy h=>vI bX _ _ _ _ _ _ hx.2 hx.1 hy.1 hu (by have:=hy.2; omega) _ _ _ _ h
 quiet:=λhk h=>ud 8 _ _ _ _ _ (by have:=hk.2; unfold bX at this; omega) hk.1 h
noncomputable def kW (S:aa)(i:JF):JE (Jy (T×W)):=match S[i]? with
 | some (.dic kvs)=>gV kvs
 | some (.frd kvs)=>gV kvs
 | _=>td
noncomputable def pb (S:aa)(i:JF):JE (Jy (T×W)):=match S[i]? with
 | some (.dic kvs)=>gV kvs
 | _=>td
noncomputable def cC (kvs:Jy (T×W))(k:T):JE W:=(kvs.find? λp=>decide (p.1=k)).map (·.2)
noncomputable def fg (kvs:Jy (T×W))(k:T)(v:W):Jy (T×W):=
 if (kvs.any λp=>decide (p.1=k))=true then kvs.map (λp=>if p.1=k then(p.1,v)else p)else kvs++[(k,v)]
noncomputable def ib (w:W):JE T:=match W.t w with
 | some k=>if k.isTup=true/\k.depth<=bX then gV k else td
 | none=>td
theorem eH {w:W}{k:T}(h:ib w=gV k):k.w=w/\k.isTup=true/\k.depth<=bX:=by
 unfold ib at h;split at h
 ·rename_i k' hk;split at h
  ·rename_i hc;cases h;exact⟨W.t_w hk,hc.1,hc.2⟩
  ·cases h
 ·cases h
theorem dy (kvs:Jy (T×W))(k:T)(v:W):(fg kvs k v).length<=kvs.length+1:=by
 unfold fg;split
 ·rw[Jz]; omega
 ·rw[JG,Kk,Lp]; omega
section
variable{X:Cx}{pins:Jy (JK×Ll)}{σ:L2.St}{H:Hp}{s:JD}{A:Jy JK}{S:aa}
mutual
theorem pc (I:Inv X pins σ H s):∀(k:T) {v:V} {u:JB},Rel X.K A H k.w v->RelV v u->IsT s.heap k u
 | .int i,_,_,r,q=>by
  cases r;obtain⟨t,rfl⟩ : ∃t,_=N1 _ t:=q;exact .int
 | .str x,_,_,r,q=>by
  cases r;obtain⟨t,rfl⟩ : ∃t,_=M9 _ t:=q;exact .str
 | .tup ks,_,_,r,q=>by
  simp only[T.w]at r;cases r with
  | tup sq rl=>
   obtain⟨its,rv,⟨o,h1,h2,n,h3⟩,hz⟩:=I.tuple sq;obtain rfl:_=Ky _:=q;exact .tup h1 h2 h3 (g7 I ks rl (by simpa using rv))
theorem g7 (I:Inv X pins σ H s):∀(ks:Jy T) {vs:Jy V} {us:Jy JB},RelL X.K A H (T.ws ks) vs->Vals vs us->IsTs s.heap ks us
 | [],_,_,r,q=>by
  simp only[T.ws]at r;cases r; cases q; exact .nil
 | k::ks,_,_,r,q=>by
  simp only[T.ws]at r;cases r with
  | cons r1 r2=>
   cases q with
   | cons q1 q2=>exact .cons (pc I k r1 q1) (g7 I ks r2 q2)
end
theorem jO (I:Inv X pins σ H s){k:T}{b:JK}(r:Rel X.K A H k.w (.ref b))(hd:k.depth<=bX):(dE X.prog X.w).is s.heap k b:=⟨pc I k r rfl,hd⟩
theorem jb {w:W}{k:T}{v:V}{u:JB}(hk:ib w=gV k)(r:Rel X.K A H w v)(q:RelV v u):∃b,v=.ref b/\u=.ref b/\Rel X.K A H k.w (.ref b):=by
 obtain⟨h1,h2,h3⟩:=eH hk;subst h1;cases k with
 | tup ks=>
  simp only[T.w]at r;cases r with
  | tup a b=>exact⟨_,rfl,q,by simp only[T.w]; exact .tup a b⟩
 | _=>cases h2
theorem KRel.is {kvs:Jy (T×W)}{xs:Jy (T×JK×JB)}(I:Inv X pins σ H s)(r:KRel X.K A H kvs xs):∀x∈xs,(dE X.prog X.w).is s.heap x.1 x.2.1:=by
 unfold KRel at r
 induction r with
 | nil=>intro x hx; exact nomatch hx
 | @cons p q ps qs h t ih=>
  intro x hx;rcases Ke.mp hx with e|hx
  ·subst e;obtain⟨h1,h2,h3,h4,_⟩:=h;rw[h1]at h3 h4;exact jO I h4 h3
  ·exact ih x hx
theorem KRel.length {kvs:Jy (T×W)}{xs:Jy (T×JK×JB)}(r:KRel X.K A H kvs xs):kvs.length=xs.length:=NT r
theorem KRel.val {kvs:Jy (T×W)}{xs:Jy (T×JK×JB)}(r:KRel X.K A H kvs xs)(k:T) :
  (∀w,cC kvs k=gV w->∃p v,atKey xs k=gV p/\Rel X.K A H w v/\RelV v p.2)/\(cC kvs k=td->atKey xs k=td):=by
 unfold KRel at r
 induction r with
 | nil=>exact⟨λw h=>(nomatch h),λ_=>rfl⟩
 | @cons p q ps qs h t ih=>
  obtain⟨h1,_,_,_,v,h5,h6⟩:=h
  by_cases e:p.1=k
  ·have e':q.1=k:=h1.symm.trans e;have a1:cC (p::ps) k=gV p.2:=by simp[cC,Mt,e]
   have a2:atKey (q::qs) k=gV q.2:=by simp[atKey,Mt,e']
   rw[a1,a2];exact⟨λw hw=>(by cases hw; exact⟨_,v,rfl,h5,h6⟩),λh=>nomatch h⟩
  ·have e':¬ q.1=k:=λz=>e (h1.trans z)
   have a1:cC (p::ps) k=cC ps k:=by simp[cC,Mt,e]
   have a2:atKey (q::qs) k=atKey qs k:=by simp[atKey,Mt,e']
   rw[a1,a2];exact ih
theorem KRel.repl {kvs:Jy (T×W)}{xs:Jy (T×JK×JB)}(r:KRel X.K A H kvs xs)(k:T){w:W}{v:V}{u:JB}(rw':Rel X.K A H w v)(rv:RelV v u) :
  KRel X.K A H (kvs.map λp=>if p.1=k then(p.1,w)else p) (xs.map (putAt k u)):=by
 unfold KRel at r ⊢
 induction r with
 | nil=>exact .nil
 | @cons p q ps qs h t ih=>
  rw[Lb,Lb];refine .cons ?_ ih;obtain⟨h1,h2,h3,h4,h5⟩:=h;unfold putAt
  by_cases e:p.1=k
  ·rw[Kd e,Kd (h1.symm.trans e)]; exact⟨h1,h2,h3,h4,v,rw',rv⟩
  ·rw[Ku e,Ku (λz=>e (h1.trans z))]; exact⟨h1,h2,h3,h4,h5⟩
theorem qA (k:T):∀kvs:Jy (T×W),(kvs.any λp=>decide (p.1=k))=(cC kvs k).isSome
 | []=>rfl
 | p::r=>by
  rw[LH]
  by_cases e:p.1=k
  ·have a1:cC (p::r) k=gV p.2:=by simp[cC,Mt,e]
   rw[a1,LL e]; rfl
  ·have a1:cC (p::r) k=cC r k:=by simp[cC,Mt,e]
   rw[a1,Kl e,NW]; exact qA k r
theorem KRel.put {kvs:Jy (T×W)}{xs:Jy (T×JK×JB)}(r:KRel X.K A H kvs xs){k:T}{b:JK}{w:W}{v:V}{u:JB}(h1:k.isTup=true)(h2:k.depth<=bX)(h3:Rel X.K A H k.w (.ref b))(rw':Rel X.K A H w v)(rv:RelV v u) :
  KRel X.K A H (fg kvs k w) (storedH xs k b u):=by
 have e:(kvs.any λp=>decide (p.1=k))=(atKey xs k).isSome:=by
  rw[qA];cases q:cC kvs k with
  | none=>rw[(r.val k).2 q]; rfl
  | some x=>obtain⟨p,_,h,_⟩:=(r.val k).1 x q; rw[h]; rfl
 unfold fg storedH;rw[e]
 by_cases q:(atKey xs k).isSome=true
 ·rw[Kd q,Kd q]; exact r.repl k rw' rv
 ·rw[Ku q,Ku q]; exact Paired.snoc r ⟨rfl,h1,h2,h3,v,rw',rv⟩
theorem DicAt.of {h:KH}{a:JK}{xs:Jy (T×JK×JB)}(hz:xs.length<=sizeLine)(hs:(a==sysModules)=false)(d:h.DictOfH (dE X.prog X.w) a xs):DicAt X.w a xs h:=
 let ⟨o,es,ep,h1,h2,h3,h4,_,h6⟩:=d; ⟨hz,hs,h6,o,es,ep,h1,h2,h3,h4⟩
theorem DicAt.stay {wd:Kv}{h h':KH}{a:JK}{xs:Jy (T×JK×JB)}(d:DicAt wd a xs h)(k:∀o,h.get? a=gV o->h'.get? a=gV o):DicAt wd a xs h':=
 let ⟨h0,hs,hn,o,es,ep,h1,h2⟩:=d; ⟨h0,hs,hn,o,es,ep,k _ h1,h2⟩
theorem DicAt.ok {P:Ki}{h:KH}{wd:Kv}{a:JK}{xs:Jy (T×JK×JB)}(d:DicAt wd a xs h):ObjOk P wd H h a (eO wd a xs):=
 ⟨d,let ⟨_,_,_,o,_,_,h1,_⟩:=d; ⟨o,h1⟩,λ_ _ p k=>p.stay k⟩
theorem dk {a:JK}{xs:Jy (T×JK×JB)}(I:Inv X pins σ H s)(e:Rd H a (eO X.w a xs)):DicAt X.w a xs s.heap:=(show ObjOk X.prog X.w H s.heap a (eO X.w a xs)from e.ok I.hok).1
theorem DicAt.dict {kvs:Jy (T×W)}{a:JK}{xs:Jy (T×JK×JB)}(d:DicAt X.w a xs s.heap)(I:Inv X pins σ H s)(r:KRel X.K A H kvs xs):s.heap.DictOfH (dE X.prog X.w) a xs:=
 let ⟨_,_,hn,o,es,ep,h1,h2,h3,h4⟩:=d; ⟨o,es,ep,h1,h2,h3,h4,r.is I,hn⟩
theorem gL {i:JF}{kvs:Jy (T×W)}{a:JK}(so:StoreOk X.w X.K A H S)(e:kW S i=gV kvs)(ea:A[i]?=gV a):∃xs,Rd H a (eO X.w a xs)/\KRel X.K A H kvs xs:=by
 unfold kW at e;split at e
 ·rename_i k h;cases e;obtain⟨xs,q,r⟩:=so.obj i _ a h ea;exact⟨xs,.inl q,r⟩
 ·rename_i k h;cases e;obtain⟨o,xs,q,r⟩:=so.obj i _ a h ea;exact⟨xs,.inr ⟨o,q⟩,r⟩
 ·cases e
theorem jc {i:JF}{kvs:Jy (T×W)}(e:pb S i=gV kvs):S[i]?=gV (.dic kvs):=by
 unfold pb at e;split at e
 ·rename_i h; cases e; exact h
 ·cases e
theorem ue {i:JF}{kvs:Jy (T×W)}{a:JK}(so:StoreOk X.w X.K A H S)(e:pb S i=gV kvs)(ea:A[i]?=gV a):∃xs,H a=gV (eO X.w a xs)/\KRel X.K A H kvs xs:=
 so.obj i _ a (jc e) ea
theorem qB {B:Ks}(hu:B.units+10 < cLine):(dE X.prog X.w).room B.in1:=by
 show B.in1.units+bX < cLine;rw[bU]; unfold bX; omega
noncomputable def kK (x y:W)(S:aa):JE (W×aa):=match x,y with
 | .ref r,.tup ks=>match kW S r,ib (.tup ks)with
  | some kvs,gV k=>(cC kvs k).map λw=>(w,S)
  | _,_=>td
 | x,y=>w8 x y S
theorem Iv (hu:X.A.units+10 < cLine):LIx X kK:=by
 intro value slice pins s σ H A S x y a b u v w S' I so rx ru ry rv e hs
 by_cases hxy:∃r ks,x=.ref r/\y=.tup ks
 ·obtain⟨r,ks,rfl,rfl⟩:=hxy;simp only[kK]at e;split at e
  ·rename_i kvs k hk1 hk2;rw[JC]at e;obtain⟨w',e1,e2⟩:=e;cases e2;cases rx with
   | ref ea=>
    obtain⟨xs,rd,kr⟩:=gL so hk1 ea;have d:=dk I rd;have dd:=d.dict I kr;obtain⟨bk,rfl,rfl,rk⟩:=jb hk2 ry rv;obtain⟨p,vv,h1,h2,h3⟩:=(kr.val k).1 _ e1;obtain rfl:u=Ky _:=ru;refine M2 (x:=p.2) dd.typeIs slot_dict_getitem.lookup
     (wpAny_getItem_heap (Q:=λr s'=>r=p.2/\ef X pins σ A H S w r s') (qB hu) (jO I rk (eH hk2).2.2) dd h1 ⟨rfl,vv,H,A,I.tok _,h3,.refl,so,h2⟩) hs
  ·cases e
 ·have:kK x y S=w8 x y S:=by
   cases x <;> cases y <;> first|rfl|exact absurd ⟨_,_,rfl,rfl⟩ hxy
  rw[this]at e;exact Js hu value slice pins s σ H A S x y a b u v w S' I so rx ru ry rv e hs
noncomputable def jd (o i v:W)(S:aa):JE aa:=match o,i with
 | .ref r,.tup ks=>match pb S r,ib (.tup ks)with
  | some kvs,gV k=>if kvs.length < sizeLine then gV (S.set r (.dic (fg kvs k v)))else td
  | _,_=>td
 | o,i=>vE o i v S
theorem Gf (hu:X.A.units+10 < cLine):LSet X jd:=by
 intro pins s σ H A S o i x ao ai ax uo ui ux S' I so ro ruo ri rui rx rux e
 by_cases hxy:∃r ks,o=.ref r/\i=.tup ks
 ·obtain⟨r,ks,rfl,rfl⟩:=hxy;simp only[jd]at e;split at e
  ·rename_i kvs k hk1 hk2;split at e
   ·rename_i hl;cases e;cases ro with
    | ref ea=>
     obtain⟨xs,hH,kr⟩:=ue so hk1 ea;have d:=dk I (.inl hH);have dd:=d.dict I kr;obtain⟨bk,rfl,rfl,rk⟩:=jb hk2 ri rui;obtain⟨q1,q2,q3⟩:=eH hk2;obtain rfl:uo=Ky _:=ruo;have hz:xs.length<=sizeLine:=by rw[<- kr.length]; omega
     refine wpAny_setItem_heap (hsz:=hz) (qB hu) (jO I rk q3) dd λh' dd' hs=>?_
     have kr':=kr.put q2 q3 rk rx rux;have hz':(storedH xs k bk ux).length<=sizeLine:=by
      rw[<- kr'.length];have:=dy kvs k x;omega
     have dn:DicAt X.w _ (storedH xs k bk ux) h':=.of hz' d.2.1 dd';obtain⟨so',ex⟩:=so.writeO (jc hk1) rfl ea (u:=eO X.w _ (storedH xs k bk ux)) (n:=.dic (fg kvs k x)) ⟨_,bM,kr'.mono (dS (.ext hH))⟩;exact⟨_,A,oU I (by rw[hH]; exact Ng) hs (let ⟨q,_,_,hq,_⟩:=dd'; ⟨q,hq⟩) dn.ok,ex,so'⟩
   ·cases e
  ·cases e
 ·have:jd o i x S=vE o i x S:=by
   cases o <;> cases i <;> first|rfl|exact absurd ⟨_,_,rfl,rfl⟩ hxy
  rw[this]at e;exact lset hu pins s σ H A S o i x ao ai ax uo ui ux S' I so ro ruo ri rui rx rux e
noncomputable def uf (x:W)(xs:Jy W)(S:aa):JE (W×aa):=match x,xs with
 | .ref r,[y,z]=>match kW S r,ib y with
  | some kvs,gV k=>gV ((cC kvs k).getD z,S)
  | _,_=>td
 | _,_=>td
theorem sE (hu:X.A.units+10 < cLine):LMeth X "dict.get" uf:=by
 intro pins s σ H A S x a u xs vs us w S' I so rx ru rl rv e;cases rx with
 | ref ea=>
  cases rl with
  | nil=>cases e
  | cons r1 t1=>
   cases t1 with
   | nil=>cases e
   | cons r2 t2=>
    cases t2 with
    | cons _ _=>cases e
    | nil=>
     dsimp only[uf]at e;split at e
     ·rename_i kvs k hk1 hk2;cases e;obtain⟨xs,rd,kr⟩:=gL so hk1 ea;have d:=dk I rd;have dd:=d.dict I kr;cases rv with
      | cons v1 rv2=>
       cases rv2 with
       | cons v2 rv3=>
        cases rv3;obtain⟨bk,rfl,rfl,rk⟩:=jb hk2 r1 v1;obtain rfl:u=Ky _:=ru;refine call_meetsIn Oz dd.typeIs PySem.F.entry_dict_get (PySem.F.args_dict_get_3 _ _ _) (meetsH_dict_get_default (dE X.prog X.w) _ bk d.2.1 _) ⟨qB hu,k,xs,jO I rk (eH hk2).2.2,dd,?_⟩;cases q:cC kvs k with
        | none=>
         rw[(kr.val k).2 q];exact⟨_,H,A,I.tok _,v2,.refl,so,r2⟩
        | some w'=>
         obtain⟨p,vv,h1,h2,h3⟩:=(kr.val k).1 _ q;rw[h1];exact⟨vv,H,A,I.tok _,h3,.refl,so,h2⟩
     ·cases e
 | _=>cases e
noncomputable def Hy (x:W)(i:JF)(S:aa):JE Kc:=match W.t x,iH S i with
 | some k,gV ys=>match W.ts ys with
  | some ks=>if k.depth<=bX/\T.depths ks<=bX then gV (decide (k∈ks))else td
  | none=>td
 | _,_=>td
noncomputable def Eh (x:W)(ys:Jy W):JE Kc:=match W.t x,W.ts ys with
 | some k,gV ks=>if k.depth<=bX/\T.depths ks<=bX then gV (decide (k∈ks))else td
 | _,_=>td
theorem pd {h:KH}:∀ {ks:Jy T} {vs:Jy JB},IsTs h ks vs->∀v∈vs,∃k∈ks,IsT h k v
 | _,_,.cons a b,v,hv=>by
  rcases Ke.mp hv with rfl|hv
  ·exact⟨_,.head _,a⟩
  ·obtain⟨k,hk,q⟩:=pd b v hv;exact⟨k,.tail _ hk,q⟩
noncomputable def Ar (h:KH)(k:T)(v:JB):Kc:=@decide (IsT h k v) (Rk _)
theorem sF {h:KH}{k k':T}{v:JB}(x:IsT h k' v):Ar h k v=decide (k'=k):=by
 unfold Ar
 by_cases e:k'=k
 ·subst e; simp[x]
 ·have:¬ IsT h k v:=λy=>e (x.inj y)
  simp[e,this]
theorem pe {h:KH}{k:T}:∀ {ks:Jy T} {vs:Jy JB},IsTs h ks vs->vs.any (Ar h k)=decide (k∈ks)
 | _,_,.nil=>by simp
 | _,_,.cons (k:=k') a b=>by
  rw[LH,sF a,pe b]
  by_cases e:k'=k
  ·simp[e]
  ·have:¬ k=k':=λz=>e z.symm
   simp[e,this]
theorem lN:∀ {ks:Jy T} {k:T},k∈ks->k.depth<=T.depths ks
 | x::ks,k,h=>by
  simp only[T.depths];rcases Ke.mp h with rfl|h
  ·omega
  ·have:=lN h; omega
theorem xU {x:W}{i:JF}{a b:V}{u v:JB}{c:Kc}(hu:X.A.units+10 < cLine)(I:Inv X pins σ H s)(so:StoreOk X.w X.K A H S)(rx:Rel X.K A H x a)(ru:RelV a u)(ry:Rel X.K A H (.ref i) b)(rv:RelV b v)(e:Hy x i S=gV c) :
  ∃l its k ks,v=.ref l/\s.heap.IsList l its/\(∀y,y∈its->Nb X.A.in1 s y u (Ar s.heap k y))/\its.any (Ar s.heap k)=c/\c=decide (k∈(ks:Jy T)):=by
 unfold Hy at e;split at e
 ·rename_i k ys h1 h2;split at e
  ·rename_i ks h3;split at e
   ·rename_i h4;cases e;cases ry with
    | ref ea=>
     obtain⟨vs,g1,g2⟩:=dq so h2 ea;obtain⟨its,rv',p,_⟩:=I.list g1;obtain rfl:v=Ky _:=rv;have hT:IsTs s.heap ks its:=g7 I ks ((W.ts_w h3).symm ▸ g2) rv';have hk:IsT s.heap k u:=pc I k ((W.t_w h1).symm ▸ rx) ru;refine⟨_,its.toArray,k,ks,rfl,p.isList,λy hy=>?_,by rw[P9]; exact pe hT,rfl⟩
     obtain⟨k',hk',q⟩:=pd hT y (by simpa using hy)
     rw[sF q];have:=lN hk';have kl:bX=6:=rfl;exact vI bX k' k _ _ _ _ (by omega) q hk (by rw[bU]; omega) (by rw[bU]; omega)
   ·cases e
  ·cases e
 ·cases e
theorem Bn {x:W}{ys:Jy W}{a b:V}{u v:JB}{c:Kc}(hu:X.A.units+10 < cLine)(I:Inv X pins σ H s)(rx:Rel X.K A H x a)(ru:RelV a u)(ry:Rel X.K A H (.tup ys) b)(rv:RelV b v)(e:Eh x ys=gV c) :
  ∃l its k,v=.ref l/\s.heap.IsTuple l its/\(∀y,y∈its->Nb X.A.in1 s y u (Ar s.heap k y))/\its.any (Ar s.heap k)=c:=by
 unfold Eh at e;split at e
 ·rename_i k ks h1 h3;split at e
  ·rename_i h4;cases e;cases ry with
   | @tup _ l vs g1 g2=>
    obtain⟨its,rv',p,_⟩:=I.tuple g1;obtain rfl:v=Ky _:=rv;have hT:IsTs s.heap ks its:=g7 I ks ((W.ts_w h3).symm ▸ g2) rv';have hk:IsT s.heap k u:=pc I k ((W.t_w h1).symm ▸ rx) ru;refine⟨_,its.toArray,k,rfl,p,λy hy=>?_,by rw[P9]; exact pe hT⟩
    obtain⟨k',hk',q⟩:=pd hT y (by simpa using hy)
    rw[sF q];have:=lN hk';have kl:bX=6:=rfl;exact vI bX k' k _ _ _ _ (by omega) q hk (by rw[bU]; omega) (by rw[bU]; omega)
  ·cases e
 ·cases e
noncomputable def cv (o:COp)(x y:W)(S:aa):JE (W×aa):=match o,y with
 | .isin,.ref i=>match kW S i with
  | some kvs=>(ib x).map λk=>(.bl (cC kvs k).isSome,S)
  | none=>match x with
   | .tup xs=>(Hy (.tup xs) i S).map λb=>(.bl (b),S)
   | x=>gK .isin x (.ref i) S
 | .notin,.ref i=>match kW S i with
  | some kvs=>(ib x).map λk=>(.bl (!(cC kvs k).isSome),S)
  | none=>match x with
   | .tup xs=>(Hy (.tup xs) i S).map λb=>(.bl (!b),S)
   | x=>gK .notin x (.ref i) S
 | .isin,.tup ys=>match x with
  | .tup xs=>(Eh (.tup xs) ys).map λb=>(.bl b,S)
  | x=>gK .isin x (.tup ys) S
 | o,y=>gK o x y S
theorem qC (hu:X.A.units+iI < cLine)(o:COp):LOp X (compareOp o.py) (cv o):=by
 intro pins s σ H A S x y a b u v w S' I so rx ru ry rv e;have get:∀ {i:JF} {kvs:Jy (T×W)} {k:T},y=.ref i->kW S i=gV kvs->ib x=gV k->∃d c xs,v=.ref d/\u=.ref c/\(d==sysModules)=false/\(dE X.prog X.w).is s.heap k c/\s.heap.DictOfH (dE X.prog X.w) d xs/\(cC kvs k).isSome=(atKey xs k).isSome:=by
  intro i kvs k hy hk1 hk2;subst hy;cases ry with
  | ref ea=>
   obtain⟨xs,rd,kr⟩:=gL so hk1 ea;have d:=dk I rd;obtain⟨bk,rfl,rfl,rk⟩:=jb hk2 rx ru;obtain rfl:v=Ky _:=rv;refine⟨_,bk,xs,rfl,rfl,d.2.1,jO I rk (eH hk2).2.2,d.dict I kr,?_⟩;cases q:cC kvs k with
   | none=>rw[(kr.val k).2 q]; rfl
   | some w'=>obtain⟨p,_,h1,_⟩:=(kr.val k).1 _ q; rw[h1]; rfl
 have old:gK o x y S=gV (w,S')->wpAny (model X.prog X.w) X.A (compareOp o.py u v) (ef X pins σ A H S' w) X.xe s:=λh=>Bk hu o pins s σ H A S x y a b u v w S' I so rx ru ry rv h
 have hu':X.A.units+10 < cLine:=by have:iI=20:=rfl; omega
 unfold cv at e;split at e
 ·split at e
  ·rename_i kvs hk1;rw[JC]at e;obtain⟨k,hk2,e2⟩:=e;cases e2;obtain⟨d,c,xs,rfl,rfl,q1,q2,q3,q4⟩:=get rfl hk1 hk2;rw[q4];exact wpAny_in_heap (qB hu') q2 q1 q3 ⟨.bl _,H,A,I.tok _,rfl,.refl,so,.bl⟩
  ·split at e
   ·rw[JC]at e;obtain⟨c,hc,e⟩:=e;cases e;obtain⟨l,its,k,ks,rfl,p1,p2,p3,_⟩:=xU hu' I so rx ru ry rv hc;refine Qo (Ar s.heap k) p1 p2 ?_;rw[p3];exact⟨.bl _,H,A,I,rfl,.refl,so,.bl⟩
   ·exact old e
 ·split at e
  ·rename_i kvs hk1;rw[JC]at e;obtain⟨k,hk2,e2⟩:=e;cases e2;obtain⟨d,c,xs,rfl,rfl,q1,q2,q3,q4⟩:=get rfl hk1 hk2;rw[q4];exact wpAny_notIn_heap (qB hu') q2 q1 q3 ⟨.bl _,H,A,I.tok _,rfl,.refl,so,.bl⟩
  ·split at e
   ·rw[JC]at e;obtain⟨c,hc,e⟩:=e;cases e;obtain⟨l,its,k,ks,rfl,p1,p2,p3,_⟩:=xU hu' I so rx ru ry rv hc;refine Ph (Ar s.heap k) p1 p2 ?_;rw[p3];exact⟨.bl _,H,A,I,rfl,.refl,so,.bl⟩
   ·exact old e
 ·split at e
  ·rw[JC]at e;obtain⟨c,hc,e⟩:=e;cases e;obtain⟨l,its,k,rfl,p1,p2,p3⟩:=Bn hu' I rx ru ry rv hc;refine P6 (Ar s.heap k) p1 p2 ?_;rw[p3];exact⟨.bl _,H,A,I,rfl,.refl,so,.bl⟩
  ·exact old e
 ·exact old e
end
noncomputable def RawD (d:JK)(es:KD LO)(ep:JF)(h:KH):Prop:=∃o,h.get? d=gV o/\o.ExactDict/\o.data=.dict es ep
theorem RawD.at {d:JK}{es:KD LO}{ep:JF}{h h':KH}(x:RawD d es ep h)(e:∀o,h.get? d=gV o->h'.get? d=gV o):RawD d es ep h':=let ⟨o,ho,r⟩:=x; ⟨o,e _ ho,r⟩
theorem RawD.lt {d:JK}{es:KD LO}{ep:JF}{h:KH}(x:RawD d es ep h):d < h.objs.size:=let ⟨_,ho,_⟩:=x; J2 ho
theorem RawD.type {d:JK}{es:KD LO}{ep:JF}{s:JD}(x:RawD d es ep s.heap):s.TypeIs (.ref d) "dict":=let ⟨o,ho,hc,_⟩:=x; ⟨o,ho,hc.1⟩
section
variable{prog:Ki}{w:Kv}{A:Ks}{E:JB->JD->Prop}{s:JD}{it d:JK}{i ep:JF}{es:KD LO}
theorem qD {Q:JB->JD->Prop}(hd:(d==sysModules)=false)(hm:RawD d es ep s.heap)
  (hQ:Q (.ref s.heap.objs.size) { s with heap:=s.heap.push { cls:=.type "dict_keyiterator",data:=.fields [.ref d,.int 0 0,.int es.size 0,.int ep 0].toArray } }):wpAny (model prog w) A (pyIter (.ref d)) Q E s:=by
 have hT:=hm.type;obtain⟨o,ho,hc,hdat⟩:=id hm;refine wpAny_pyIter_slot hT F.slot_dict_iter (La F.slot_dict_iter hT F.entry_dict_iter ?_ (F.args_dict_iter_1 _));unfold Og.«dict.__iter__» QS;refine JA (JA (wpAny_notOrdered_dict hT ?_));show wpAny _ _ (pure (Ky d)) _ _ s;refine JM ?_;show wpAny _ _ (OA d >>= _) _ _ s;unfold OA;rw[Ku (by rw[hd]; exact J5)]
 refine JA (JM (JA (M3 ho hdat (JA (Os ho hdat ?_)))));refine JA (KI (JM ⟨_,rfl,"dict_keyiterator",_,⟨_,J1 _ rfl,rfl⟩,F.slot_dict_keyiterator_next.lookup,?_⟩))
 simpa [rawInt]using hQ
theorem qE {Q:JE JB->JD->Prop}(hit:s.heap.IsKeyIter it d i es.size ep)(hm:RawD d es ep s.heap)(hi:i < es.size)
  (hQ:∀h',h'.IsKeyIter it d (i+1) es.size ep->L8 it s.heap h'->Q (gV es[i].key) { s with heap:=h' }):wpAny (model prog w) A (pyNext (.ref it)) Q E s:=by
 obtain⟨o,ho,hc,hd⟩:=id hit;obtain⟨od,hod,hcd,hdd⟩:=id hm;unfold pyNext;refine JA (NX (KU (name:=LS "__next__") hit.typeIs F.slot_dict_keyiterator_next
  (La F.slot_dict_keyiterator_next hit.typeIs F.entry_dict_keyiterator_next ?_ (F.args_dict_keyiterator_next_1 _))))
 refine JA (JM (JA (JA ?_)))
 first|refine JA (LM hit.typeIs (JM ?_))|refine JA (Mj hit.typeIs (JM ?_))
 refine JA (QJ ho hd ?_);have hown:Nq "dict_keyiterator" = false:=by decide
 simp only[hown,K9,L9];show wpAny _ _ (if (Ky d==KN)=true then _ else _) _ _ s
 rw[Ku (show ¬ ((Ky d==KN)=true)from J5)]
 refine JA (JM (JA (M3 hod hdd ?_)));rw[Ku (by simp)]
 refine JA (JM (JA (Os hod hdd ?_)));rw[Ku (by simp)]
 refine JM ?_;simp only[show ¬ ((i:JL) < 0)from by omega,L9,JW,ML hi]
 refine JA ?_
 first|refine JA (LM hit.typeIs (JM ?_))|refine JA (Mj hit.typeIs (JM ?_))
 refine JA (OB hit.typeIs ?_);show wpAny _ _ (setField (.ref it) 1 (rawInt ((i:JL)+1)) >>= _) _ _ s;refine JA (NC ho hd (by simp) ?_)
 have hit':(s.heap.update it (Q8 (·.setIfInBounds 1 (rawInt ((i:JL)+1))))).IsKeyIter it d (i+1) es.size ep:=
  ⟨_,L3 _ ho (OC (MW hd _)),(PN ..).trans hc,by rw[MW hd]; simp[rawInt]⟩
 refine JA (Lk ?_);refine JA (OB (s:={ s with heap:=s.heap.update it (Q8 (·.setIfInBounds 1 (rawInt ((i:JL)+1)))) }) hit'.typeIs ?_)
 show wpAny _ _ (pure es[i].key) _ _ _;exact JM (JM ⟨_,rfl,JM (hQ _ hit' (MN ..))⟩)
theorem ug {Q:JE JB->JD->Prop}(hh:A.handled=td)(hit:s.heap.IsKeyIter it d i es.size ep)(hm:RawD d es ep s.heap)(hge:es.size<=i)
  (hQ:∀h',OH it s.heap h'->Q td { s with heap:=h' }):wpAny (model prog w) A (pyNext (.ref it)) Q E s:=by
 obtain⟨o,ho,hc,hd⟩:=id hit;obtain⟨od,hod,hcd,hdd⟩:=id hm;unfold pyNext;refine JA (NX (KU (name:=LS "__next__") hit.typeIs F.slot_dict_keyiterator_next
  (La F.slot_dict_keyiterator_next hit.typeIs F.entry_dict_keyiterator_next ?_ (F.args_dict_keyiterator_next_1 _))))
 refine JA (JM (JA (JA ?_)))
 first|refine JA (LM hit.typeIs (JM ?_))|refine JA (Mj hit.typeIs (JM ?_))
 refine JA (QJ ho hd ?_);have hown:Nq "dict_keyiterator" = false:=by decide
 simp only[hown,K9,L9];show wpAny _ _ (if (Ky d==KN)=true then _ else _) _ _ s
 rw[Ku (show ¬ ((Ky d==KN)=true)from J5)]
 refine JA (JM (JA (M3 hod hdd ?_)));rw[Ku (by simp)]
 refine JA (JM (JA (Os hod hdd ?_)));rw[Ku (by simp)]
 refine JM ?_;simp only[show ¬ ((i:JL) < 0)from by omega,L9,JW,Array.getElem?_eq_none hge]
 refine JA ?_
 first|refine JA (LM hit.typeIs (JM ?_))|refine JA (Mj hit.typeIs (JM ?_))
 show wpAny _ _ (setField (.ref it) 0 .none >>= _) _ _ s;refine JA (NC ho hd (by simp) ?_)
 show wpAny _ _ (newExc (.type "StopIteration") [] >>= _) _ _ _;refine JA ?_;simp only[newExc,newTuple];refine JA (KI ?_ (by size_fits))
 refine JA (m:=firstArgMember _ _) (OI (a:=KN) (by first|rfl|(simp only[firstArgMember]; rfl)) ?_)
 refine KI ?_ (by size_fits)
 simp only[raiseNew];refine JA (Q9 ?_);rw[show A.in1.handled=td from hh]
 refine JA (JM (RD ?_));refine JA (N4 (T:="StopIteration") (b:=true) ⟨_,J1 _ rfl,rfl⟩ QK ?_);exact JM (hQ _ (((MN ..).extBut.push _).push _))
theorem vJ (hh:A.handled=td)(I d:JK)(hne:d≠I)(es:KD LO)(ep:JF) :
  Se prog w A I [I,d] [I] es.size (λi v=>∃e,es[i]?=gV e/\e.key=v) (λi h=>h.IsKeyIter I d i es.size ep/\RawD d es ep h) where
 sub:=λb hb=>by simp at hb; simp[hb]
 frame:=λ_ _ _ st hk=>⟨st.1.at λo e=>hk I (by simp) o e,st.2.at λo e=>hk d (by simp) o e⟩
 item:=λi s Q E hi st hQ=>
  qE st.1 st.2 hi λh' hit' hs'=>hQ _ h' s.toks ⟨es[i],by simp[hi],rfl⟩ ⟨hit',st.2.at λo e=>(hs'.2 d hne).trans e⟩ λb o hb e=>hs'.extBut b o (λh=>hb (by simp[h])) e
 done:=λs Q E st hQ=>ug hh st.1 st.2 (JO _) λh' he'=>hQ h' s.toks λb o hb e=>he' b o (λh=>hb (by simp[h])) e
 self:=λ_ _ _ _ st hQ=>OJ st.1 hQ
theorem uh (lo:(d==sysModules)=false):OL prog w "dict" d d es.size (λi v=>∃e,es[i]?=gV e/\e.key=v) (RawD d es ep) where
 type:=λ_ hm=>hm.type
 there:=λ_ hm=>⟨hm.lt,hm.lt⟩
 keep:=λ_ _ hm hk=>hm.at λo e=>hk d (.inl rfl) o e
 notList:=by decide
 notTuple:=by decide
 hint:=λ_ _ _ _ hm hq=>PySem.W.kdl_hint_dict hm.type hq
 iter:=λ_ _ hh hm=>⟨_,_,(λ_ _ hq=>qD lo hm hq),vJ hh _ d (Kj hm.lt) es ep,⟨⟨_,J1 _ rfl,rfl,rfl⟩,hm.at λo e=>JI _ e⟩⟩
theorem xV {T:K8}{r d S:JK}{n:JF}{P:JF->JB->Prop}{OK:KH->Prop}{R:P3->JD->Prop}(K:OL prog w T r d n P OK)(hh:A.handled=td)(hok:OK s.heap)(hn:n<=sizeLine)(hSr:S≠r)(hSd:S≠d)
  (hS:s.heap.get? S=gV { cls:=.type "list",data:=.seq #[] 0 })
  (hR:∀h' tk acc' c',(∀b o,b≠S->s.heap.get? b=gV o->h'.get? b=gV o)->h'.get? S=gV { cls:=.type "list",dict:=td,data:=.seq acc' c',slots:=#[] }->Oi P acc' n->R (.ok (.ret (.ref S))) { s with heap:=h',toks:=tk }) :
  codeAny (model prog w) A (.builtin "list.__iadd__" ⟨[.ref S,.ref r],[]⟩) R s:=by
 refine Lr F.entry_list_iadd ?_;rw[Li F.plain_list_iadd _];show wpAny _ A.in1 (LU (.ref S) (.ref r) (.ref S)) _ _ _;exact PySem.W.kdl_extend K hh hok S hSr hSd _ 0 hS hR hn
theorem qF {T:K8}{r d:JK}{n:JF}{P:JF->JB->Prop}{OK:KH->Prop}{Q:Jy JB->JD->Prop}(K:OL prog w T r d n P OK)(hh:A.handled=td)(hok:OK s.heap)(hn:n<=sizeLine)
  (hQ:∀h' tk acc,(∀b o,s.heap.get? b=gV o->h'.get? b=gV o)->s.heap.objs.size<=h'.objs.size->Oi P acc n->Q acc.toList { s with heap:=h',toks:=tk }):wpAny (model prog w) A (collect (.ref r)) Q E s:=by
 unfold collect;refine JA (OM (Lr F.entry_proto_collect ?_));rw[Li F.plain_proto_collect _];show wpAny _ A.in1 (newList [] >>= λl=>again (.builtin "list.__iadd__" ⟨[l,.ref r],[]⟩)) _ _ s
 refine JA (KI ?_);have hlt:=K.there _ hok;refine JM ⟨Mv F.plain_list_iadd _,xV (s:={ s with heap:=s.heap.push { cls:=.type "list",data:=.seq ([]:Jy JB).toArray } }) K hh (K.keep _ _ hok λb _ o e=>JI _ e) hn (Mp hlt.1) (Mp hlt.2) (J1 _ rfl) λh' tk acc' c' hk hS' hacc=>?_⟩
 show wpAny (model prog w) A (do
   let o <- load s.heap.objs.size
   match o.data with
   | .seq xs _=>pure xs.toList
   | _=>unsupported "internal:collect") Q E { s with heap:=h',toks:=tk }
 refine JA (Pe hS' ?_);exact JM (hQ h' tk acc' (λb o e=>hk b o (Kj (J2 e)) (JI _ e)) (M0 (J2 hS')) hacc)
end
mutual
noncomputable def Bo:T->T->JE Kc
 | .int a,.int b=>gV (decide (a < b))
 | .str a,.str b=>gV (decide (a.cps.toList < b.cps.toList))
 | .tup xs,.tup ys=>qG xs ys
 | _,_=>td
noncomputable def qG:Jy T->Jy T->JE Kc
 | [],[]=>gV false
 | [],_::_=>gV true
 | _::_,[]=>gV false
 | x::xs,y::ys=>if x=y then qG xs ys else Bo x y
end
mutual
theorem IsT.kept {h h':KH}(hk:∀b o,o.cls=.type "tuple"->h.get? b=gV o->h'.get? b=gV o):∀ {x:T} {v:JB},IsT h x v->IsT h' x v
 | _,_,.int=>.int
 | _,_,.str=>.str
 | _,_,.tup a1 c1 d1 t1=>.tup (hk _ _ c1 a1) c1 d1 (IsTs.kept hk t1)
theorem IsTs.kept {h h':KH}(hk:∀b o,o.cls=.type "tuple"->h.get? b=gV o->h'.get? b=gV o):∀ {x:Jy T} {v:Jy JB},IsTs h x v->IsTs h' x v
 | _,_,.nil=>.nil
 | _,_,.cons a b=>.cons (IsT.kept hk a) (IsTs.kept hk b)
end
theorem Gg {B:Ks}{s:JD}{d:JF}(hu:B.units+d < cLine)(hl:∀(x y:T) (u v:JB) (k:Kc),x.depth<=d->y.depth<=d->IsT s.heap x u->IsT s.heap y v->Bo x y=gV k->LtAt B s u v k) :
  ∀(xs ys:Jy T) (us vs:Jy JB) (k:Kc),T.depths xs<=d->T.depths ys<=d->IsTs s.heap xs us->IsTs s.heap ys vs->qG xs ys=gV k->LexR B s us vs k
 | [],[],_,_,k,_,_,h1,h2,e=>by cases h1; cases h2; cases e; exact .nn
 | [],y::ys,_,_,k,_,_,h1,h2,e=>by cases h1; cases h2; cases e; exact .nc
 | x::xs,[],_,_,k,_,_,h1,h2,e=>by cases h1; cases h2; cases e; exact .cn
 | x::xs,y::ys,_,_,k,d1,d2,h1,h2,e=>by
  simp only[T.depths]at d1 d2;cases h1 with
  | cons p1 q1=>
   cases h2 with
   | cons p2 q2=>
    have he:=vI d x y _ _ B s (by omega) p1 p2 hu (by omega)
    simp only[qG]at e
    by_cases hxy:x=y
    ·rw[Kd hxy]at e;rw[LL hxy]at he;exact .eq he (Gg hu hl xs ys _ _ k (by omega) (by omega) q1 q2 e)
    ·rw[Ku hxy]at e;rw[Kl hxy]at he;exact .ne he (hl x y _ _ k (by omega) (by omega) p1 p2 e)
theorem Gh:∀(d:JF) (x y:T) (u v:JB) (B:Ks) (s:JD) (k:Kc),x.depth<=d->y.depth<=d->IsT s.heap x u->IsT s.heap y v->B.units+d < cLine->Bo x y=gV k->LtAt B s u v k:=by
 intro d
 induction d with
 | zero=>
  intro x y u v B s k d1 d2 h1 h2 hu e;cases h1 with
  | int=>cases h2 with
   | int=>cases e; exact λprog w E Q h=>(OW h:wpAny (model prog w) B (compareOp .Lt _ _) Q E s)
   | _=>cases e
  | str=>cases h2 with
   | str=>cases e; exact λprog w E Q h=>(lt_str h:wpAny (model prog w) B (compareOp .Lt _ _) Q E s)
   | _=>cases e
  | tup _ _ _ _=>simp[T.depth]at d1
 | succ d ih=>
  intro x y u v B s k d1 d2 h1 h2 hu e;cases h1 with
  | int=>cases h2 with
   | int=>cases e; exact λprog w E Q h=>(OW h:wpAny (model prog w) B (compareOp .Lt _ _) Q E s)
   | _=>cases e
  | str=>cases h2 with
   | str=>cases e; exact λprog w E Q h=>(lt_str h:wpAny (model prog w) B (compareOp .Lt _ _) Q E s)
   | _=>cases e
  | tup a1 c1 e1 t1=>cases h2 with
   | tup a2 c2 e2 t2=>
    simp only[T.depth]at d1 d2;have hu1:B.in1.units+d < cLine:=by rw[bU]; omega
    exact LtAt.tuples ⟨_,a1,c1,_,e1⟩ ⟨_,a2,c2,_,e2⟩ (by omega) (Gg hu1 (λx y u v k q1 q2 q3 q4 q5=>ih x y u v B.in1 s k q1 q2 q3 q4 hu1 q5) _ _ _ _ k (by omega) (by omega) t1 t2 e)
   | _=>cases e
section
variable{prog:Ki}{w:Kv}{A:Ks}{R:P3->JD->Prop}{I S:JK}{fp wr:Jy JK}{n:JF}{P:JF->JB->Prop}{St:JF->KH->Prop}{Ok:KH->Prop}{bt:JF->JF->Kc}
noncomputable def xW (prog:Ki)(w:Kv)(A:Ks)(P:JF->JB->Prop)(Ok:KH->Prop)(bt:JF->JF->Kc):Prop:=
 ∀i j vi vj (s:JD) (Q:JB->JD->Prop) (E:JB->JD->Prop),Ok s.heap->P i vi->P j vj->Q (.bool (bt i j)) s->wpAny (model prog w) A (richCompare .Lt vi vj) Q E s
theorem xX (W:Se prog w A.in1 I fp wr n P St)(hcmp:xW prog w A.in1 P Ok bt)(hSf:S∉fp)(hok:∀h h',Ok h->(∀b o,b∉wr->b≠S->h.get? b=gV o->h'.get? b=gV o)->Ok h') :
  ∀(k j:JF) (s:JD) (vb:JB) (c:JF),n - (j+1)=k->j < n->St (j+1) s.heap->P (argBest bt j) vb->Ok s.heap->s.heap.get? S=gV { cls:=.type "list",dict:=td,data:=.seq [vb,vb].toArray c,slots:=#[] }->
  (∀v h' tk,P (argBest bt (n - 1)) v->(∀b o,b∉wr->b≠S->s.heap.get? b=gV o->h'.get? b=gV o)->R (.ok (.ret v)) { s with heap:=h',toks:=tk })->
  codeAny (model prog w) A (.builtin "min.loop" ⟨[.ref I,.none,.ref S],[]⟩) R s:=by
 have hSw:S∉wr:=λh=>hSf (W.sub _ h)
 have hname:(toString "min" ++ toString ".loop" : K8) = "min.loop":=by decide
 intro k
 induction k with
 | zero=>
  intro j s vb c hk hj hst hPb hO hS hR;have hin:j+1=n:=by omega
  refine Lr F.entry_min_loop ?_;rw[Li F.plain_min_loop _];show wpAny _ A.in1 (seqItems? (.ref S) >>= _) _ _ s;refine JA (MF hS rfl ?_);show wpAny _ A.in1 (tryCatch (pyNext (.ref I)) _ >>= _) _ _ s;refine JA (ND (W.done s _ _ (hin ▸ hst) λh' tk hk'=>?_))
  have hS':=hk' S _ hSw hS;show wpAny _ A.in1 (updateSeq S (λ_=>#[]) >>= _) _ _ _
  refine JA (Ot hS' rfl (JA (Nl (JM ?_))));have e:j=n - 1:=by omega
  exact hR vb _ tk (e ▸ hPb) λb o hbw hbS e=>(KP _ _ (Ne.symm hbS)).trans (hk' b o hbw e)
 | succ k ih=>
  intro j s vb c hk hj hst hPb hO hS hR;have hlt:j+1 < n:=by omega
  refine Lr F.entry_min_loop ?_;rw[Li F.plain_min_loop _];show wpAny _ A.in1 (seqItems? (.ref S) >>= _) _ _ s;refine JA (MF hS rfl ?_);show wpAny _ A.in1 (tryCatch (pyNext (.ref I)) _ >>= _) _ _ s;refine JA (ND (W.item (j+1) s _ _ hlt hst λv h' tk hP hst' hk'=>?_))
  have hS':=hk' S _ hSw hS;have hO':Ok h':=hok _ _ hO λb o hb _ e=>hk' b o hb e
  show wpAny _ A.in1 (tryCatch (holding [v,v] (richCompare .Lt v vb >>= _)) _ >>= _) _ _ _;refine JA (ND (Lk (JA (hcmp (j+1) (argBest bt j) v vb _ _ _ hO' hP hPb ?_))));refine JA (Lk (LN ?_));refine JA (Nl (JM ?_));cases hb:bt (j+1) (argBest bt j)with
  | true=>
   simp only[L1];refine JA (Ot hS' rfl (JA (Nl ?_)));rw[hname];refine JM ⟨Mv F.plain_min_loop _,ih (j+1) _ v _ (by omega) hlt (W.frame _ _ _ hst' λb hbf o e=>?_) (by simp only[argBest,hb,L1]; exact hP) (hok _ _ hO' λb o _ hbS e=>(KP _ _ (Ne.symm hbS)).trans e) (L3 _ hS' rfl)
    λv' h'' tk'' hP' hk''=>?_⟩
   ·exact(KP _ _ (λh:S=b=>hSf (by rw[h]; exact hbf))).trans e
   ·exact hR v' h'' tk'' hP' λb o hbw hbS e=>hk'' b o hbw hbS ((KP _ _ (Ne.symm hbS)).trans (hk' b o hbw e))
  | false=>
   simp only[K9,L9];refine JA (Nl ?_);rw[hname];refine JM ⟨Mv F.plain_min_loop _,ih (j+1) _ vb c (by omega) hlt hst' (by simp only[argBest,hb,K9,L9]; exact hPb) hO' hS' λv' h'' tk'' hP' hk''=>?_⟩
   exact hR v' h'' tk'' hP' λb o hbw hbS e=>hk'' b o hbw hbS (hk' b o hbw e)
theorem vK (W:Se prog w A.in1 I fp wr n P St)(hcmp:xW prog w A.in1 P Ok bt)(hSf:S∉fp)(hok:∀h h',Ok h->(∀b o,b∉wr->b≠S->h.get? b=gV o->h'.get? b=gV o)->Ok h')(hn:0 < n){s:JD}{c:JF}(hst:St 0 s.heap)(hO:Ok s.heap)
  (hS:s.heap.get? S=gV { cls:=.type "list",dict:=td,data:=.seq #[] c,slots:=#[] })
  (hR:∀v h' tk,P (argBest bt (n - 1)) v->(∀b o,b∉wr->b≠S->s.heap.get? b=gV o->h'.get? b=gV o)->R (.ok (.ret v)) { s with heap:=h',toks:=tk }) :
  codeAny (model prog w) A (.builtin "min.loop" ⟨[.ref I,.none,.ref S],[]⟩) R s:=by
 have hSw:S∉wr:=λh=>hSf (W.sub _ h)
 have hname:(toString "min" ++ toString ".loop" : K8) = "min.loop":=by decide
 refine Lr F.entry_min_loop ?_;rw[Li F.plain_min_loop _];show wpAny _ A.in1 (seqItems? (.ref S) >>= _) _ _ s;refine JA (MF hS rfl ?_);show wpAny _ A.in1 (tryCatch (pyNext (.ref I)) _ >>= _) _ _ s;refine JA (ND (W.item 0 s _ _ hn hst λv h' tk hP hst' hk'=>?_))
 have hS':=hk' S _ hSw hS;show wpAny _ A.in1 (updateSeq S (λ_=>[v,v].toArray) >>= _) _ _ _
 refine JA (Ot hS' rfl ?_);rw[hname];have hO':Ok h':=hok _ _ hO λb o hb _ e=>hk' b o hb e
 refine JM ⟨Mv F.plain_min_loop _,xX W hcmp hSf hok _ 0 _ v _ rfl hn (W.frame _ _ _ hst' λb hbf o e=>?_) hP (hok _ _ hO' λb o _ hbS e=>(KP _ _ (Ne.symm hbS)).trans e) (L3 _ hS' rfl) λv' h'' tk'' hP' hk''=>?_⟩
 ·exact(KP _ _ (λh:S=b=>hSf (by rw[h]; exact hbf))).trans e
 ·exact hR v' h'' tk'' hP' λb o hbw hbS e=>hk'' b o hbw hbS ((KP _ _ (Ne.symm hbS)).trans (hk' b o hbw e))
end
section
variable{prog:Ki}{w:Kv}{A:Ks}{E:JB->JD->Prop}{s:JD}
theorem xY {l:JK}{items:KD JB}{bt:JF->JF->Kc}{Q:JB->JD->Prop}(hh:A.handled=td)(hl:s.heap.IsList l items)(hn:0 < items.size)
  (hcmp:xW prog w A.in1 (λi v=>items[i]?=gV v) (λh=>∀b o,s.heap.get? b=gV o->h.get? b=gV o) bt)
  (hQ:∀v h' tk,items[argBest bt (items.size - 1)]?=gV v->(∀b o,s.heap.get? b=gV o->h'.get? b=gV o)->Q v { s with heap:=h',toks:=tk }) :
  wpAny (model prog w) A (call (.builtin "min") [.ref l]) Q E s:=by
 have hname:(toString "min" ++ toString ".loop" : K8) = "min.loop":=by decide
 refine call_function_tree F.kind_min F.plain_min F.entry_min (F.args_min1 _) ?_;show wpAny _ A.in1 (Nw "min" ["key","default"] 0 ⟨[],[]⟩ >>= _) _ _ s;refine JA (OI (show Nw "min" ["key","default"] 0 ⟨[],[]⟩=pure [td,td]from rfl) ?_)
 refine JA (JM ?_);refine JA (NP hl ?_);refine JA (KI ?_);rw[hname];have hlt:l < s.heap.objs.size:=let ⟨_,ho,_⟩:=hl; J2 ho
 have hne:l≠s.heap.objs.size:=Kj hlt;have W:=RS (prog:=prog) (w:=w) (A:=A.in1) hh s.heap.objs.size l hne items;have hsz:∀o:Ll,(s.heap.push o).objs.size=s.heap.objs.size+1:=λo=>by simp[Heap.push]
 refine JM ⟨Mv F.plain_min_loop _,vK (A:=A) (Ok:=λh=>∀b o,s.heap.get? b=gV o->h.get? b=gV o) W hcmp (λhm=>?_) (λh h' ho hk b o e=>?_) hn ⟨?_,?_⟩ (λb o e=>JI _ (JI _ e)) (J1 _ rfl) λv h' tk hv hk=>?_⟩
 ·rcases Ke.mp hm with e|hm
  ·exact absurd (show(s.heap.push _).objs.size=s.heap.objs.size from e) (by rw[hsz]; exact Nat.succ_ne_self _)
  ·have e:(s.heap.push _).objs.size=l:=J0.mp hm;rw[hsz]at e;exact absurd hlt (by rw[<- e]; exact QL.mpr (ME _))
 ·have hb:=J2 e;refine hk b o (λz=>?_) (λz=>?_) (ho b o e)
  ·rw[J0.mp z]at hb; exact KQ _ hb
  ·have z':b=(s.heap.push _).objs.size:=z;rw[hsz]at z';rw[z']at hb;exact absurd hb (QL.mpr (ME _))
 ·exact⟨_,JI _ (J1 _ rfl),rfl,rfl⟩
 ·obtain⟨o,ho,hc⟩:=hl;exact⟨o,JI _ (JI _ ho),hc⟩
 ·refine hQ v h' tk hv λb o e=>hk b o (λz=>?_) (λz=>?_) (JI _ (JI _ e))
  ·have hb:=J2 e;rw[J0.mp z]at hb; exact KQ _ hb
  ·have hb:=J2 e;have z':b=(s.heap.push _).objs.size:=z;rw[hsz]at z';rw[z']at hb;exact absurd hb (QL.mpr (ME _))
end
open PySem.W (KasT kas_sort kas_ask kas_cmp kas_item kas_asc kas_desc kas_tail3 kas_descPart kas_count kas_place kas_bin kas_rev)
noncomputable def pf {α:Type}(lt:JF->JF->Kc):KasT α->α
 | .ret a=>a
 | .ask i j k=>pf lt (k (lt i j))
noncomputable def OkK {α:Type}(n:JF)(P:α->Prop):KasT α->Prop
 | .ret a=>P a
 | .ask i j k=>i < n/\j < n/\∀b,OkK n P (k b)
theorem qH {α:Type}{n:JF}{P:α->Prop}{lt:JF->JF->Kc}:∀(t:KasT α),OkK n P t->P (pf lt t)
 | .ret _,h=>h
 | .ask i j k,h=>qH (k (lt i j)) (h.2.2 _)
theorem pg {α:Type}{n:JF}{P:α->Prop}{lt:JF->JF->Kc}{t:KasT α}(h:OkK n P t):P (pf lt t):=qH t h
theorem OkK.bind {α β:Type}{n:JF}{P:α->Prop}{P':β->Prop}{f:α->KasT β}:∀ {t:KasT α},OkK n P t->(∀a,P a->OkK n P' (f a))->OkK n P' (t.bind f)
 | .ret a,h,hf=>hf a h
 | .ask _ _ _,h,hf=>⟨h.1,h.2.1,λb=>OkK.bind (h.2.2 b) hf⟩
theorem nY {α:Type}{n:JF}{P:α->Prop}{lt:JF->JF->Kc}{cmp:JF->JF->(Kc->JD->Prop)->JD->Prop}{Q:α->JD->Prop}{s:JD}(hc:∀i j,i < n->j < n->∀C:Kc->JD->Prop,C (lt i j) s->cmp i j C s) :
  ∀ {t:KasT α},OkK n P t->Q (pf lt t) s->t.kasWp cmp Q s
 | .ret _,_,h=>h
 | .ask i j k,h,hq=>hc i j h.1 h.2.1 _ (nY hc (h.2.2 _) hq)
noncomputable def Pm (n:JF)(p:KD JF):Prop:=p.toList.Perm (JN n)
theorem Pm.size {n:JF}{p:KD JF}(h:Pm n p):p.size=n:=by rw[<- Kr,h.length_eq,J6]
theorem Pm.lt {n:JF}{p:KD JF}(h:Pm n p)(hn:0 < n)(i:JF):p.getD i 0 < n:=by
 by_cases hi:i < p.size
 ·have e:p.getD i 0=p[i]:=by simp[RT,hi]
  rw[e];have:p[i]∈p.toList:=by simp
  exact JY.mp (h.mem_iff.mp this)
 ·have e:p.getD i 0=0:=by simp[RT,hi]
  rw[e]; exact hn
theorem Pm.rev {n:JF}{p:KD JF}(h:Pm n p)(i j:JF):Pm n (kas_rev p i j):=(NE.mp (mirror_perm p i j _)).trans h
theorem Pm.bub {n:JF}{p:KD JF}(h:Pm n p)(i j:JF):Pm n (bubble p i j):=(NE.mp (bubble_perm p i j)).trans h
section
variable{n:JF}(hn:0 < n)
include hn
theorem sG {p:KD JF}(h:Pm n p):∀(f m:JF),OkK n (λ_=>Qv) (kas_asc p f m)
 | 0,_=>trivial
 | f+1,m=>⟨h.lt hn _,h.lt hn _,λb=>by
  show OkK n _ (if b=true then _ else _)
  split
  ·trivial
  ·exact sG h f (m+1)⟩
theorem ln:∀(f:JF) (p:KD JF) (m q:JF),Pm n p->OkK n (λr=>Pm n r.1) (kas_desc f p m q)
 | 0,p,m,q,h=>h
 | f+1,p,m,q,h=>⟨h.lt hn _,h.lt hn _,λb=>by
  show OkK n _ (if b=true then _ else _)
  split
  ·split
   ·exact ln f _ _ _ (h.rev _ _)
   ·exact ln f _ _ _ h
  ·refine⟨h.lt hn _,h.lt hn _,λc=>?_⟩
   show OkK n _ (if c=true then _ else _)
   split
   ·exact h
   ·exact ln f _ _ _ h⟩
theorem uj {p:KD JF}(h:Pm n p)(m k:JF):OkK n (λr=>Pm n r.2) (kas_tail3 m k p):=by
 unfold kas_tail3;exact OkK.bind (sG hn (h.rev 0 m) _ _) λa _=>h.rev 0 m
theorem kL {p:KD JF}(h:Pm n p)(m k:JF):OkK n (λr=>Pm n r.2) (kas_descPart m k p):=by
 unfold kas_descPart;refine OkK.bind (ln hn _ _ _ _ h) λr hr=>?_
 split
 ·exact uj hn (hr.rev _ _) _ _
 ·exact uj hn hr _ _
theorem xZ {p:KD JF}(h:Pm n p)(k:JF):OkK n (λr=>Pm n r.2) (kas_count k p):=by
 unfold kas_count;refine OkK.bind (sG hn h _ _) λm _=>?_
 split
 ·exact h
 ·split
  ·refine⟨h.lt hn _,h.lt hn _,λc=>?_⟩
   show OkK n _ (if c=true then _ else _)
   split
   ·exact h
   ·exact kL hn (h.rev _ _) _ _
  ·exact kL hn h _ _
theorem lO {p:KD JF}(h:Pm n p)(k:JF):∀(f l r:JF),OkK n (λ_=>Qv) (kas_place p k f l r)
 | 0,_,_=>trivial
 | f+1,l,r=>by
  unfold kas_place;split
  ·trivial
  ·refine⟨h.lt hn _,h.lt hn _,λc=>?_⟩
   show OkK n _ (if c=true then _ else _)
   split
   ·exact lO h k f _ _
   ·exact lO h k f _ _
theorem ya:∀(f:JF) (p:KD JF) (k:JF),Pm n p->OkK n (Pm n) (kas_bin f p k)
 | 0,p,k,h=>h
 | f+1,p,k,h=>by
  unfold kas_bin;exact OkK.bind (lO hn h k _ _ _) λl _=>ya f _ _ (h.bub _ _)
theorem lq:OkK n (Pm n) (kas_sort n):=by
 unfold kas_sort;refine OkK.bind (xZ hn (by unfold Pm; simp) _) λr hr=>?_
 split
 ·exact ya hn _ _ _ hr
 ·exact hr
end
section
variable{prog:Ki}{w:Kv}{A:Ks}{E:JB->JD->Prop}{s:JD}{vs:Jy JB}
noncomputable def fP (lt:JF->JF->Kc){β:Type}(d:β)(vs:Jy β):Jy β:=if vs.length < 2 then vs else(pf lt (kas_sort vs.length)).toList.map λi=>vs.getD i d
theorem qI {lt:JF->JF->Kc}{β:Type}{d:β}{vs:Jy β}:(fP lt d vs).length=vs.length:=by
 unfold fP;split
 ·rfl
 ·rw[Jz,Kr,(pg (lt:=lt) (lq (n:=vs.length) (by omega))).size]
theorem vL {a:JK}{n:JF}{lt:JF->JF->Kc}{κ:N5}{P:PySem.Fin->JD->Prop}(ho:s.heap.get? a=gV (seqObj "list" vs.toArray n))(h64:vs.length < 64)
  (hkind:2<=vs.length->∀h',(∀b o,b≠a->s.heap.get? b=gV o->h'.get? b=gV o)->∀Q:N5->JD->Prop,Q κ { s with heap:=h' }->wpAny (model prog w) A (keyKind' vs.toArray) Q (λ_ _=>KZ) { s with heap:=h' })
  (hlt:2<=vs.length->∀h',(∀b o,b≠a->s.heap.get? b=gV o->h'.get? b=gV o)->∀i j,i < vs.length->j < vs.length->∀Q:Kc->JD->Prop,Q (lt i j) { s with heap:=h' }->
   wpAny (model prog w) A (keyLt' κ (vs.getD i KN) (vs.getD j KN)) Q (λ_ _=>KZ) { s with heap:=h' })
  (h:∀h' c,(∀b o,b≠a->s.heap.get? b=gV o->h'.get? b=gV o)->h'.get? a=gV (seqObj "list" (fP lt KN vs).toArray c)->P (.done (.ret .none)) { s with heap:=h' }) :
  wpAny (model prog w) A (Og.«list.sort» ⟨[.ref a],[]⟩) P E s:=by
 have ha:a < s.heap.objs.size:=J2 ho;obtain⟨e1,ho1⟩ : ∃e1,(s.heap.update a (Lh λ_=>(#[]:KD JB))).get? a=gV (seqObj "list" #[] e1):=⟨_,Ou ho λ_=>#[]⟩
 have keep:∀b o,b≠a->s.heap.get? b=gV o->(((s.heap.update a (Lh λ_=>(#[]:KD JB))).push (seqObj "tuple" vs.toArray 0)).push (seqObj "list" #[] 0)).get? b=gV o:=λb o hb e=>
  JI _ (JI _ ((MO _ _ _ _ hb).trans e))
 have ho3:(((s.heap.update a (Lh λ_=>(#[]:KD JB))).push (seqObj "tuple" vs.toArray 0)).push (seqObj "list" #[] 0)).get? a=gV (seqObj "list" #[] e1):=JI _ (JI _ ho1)
 have fin:∀(out:Jy JB),out.length=vs.length->out=fP lt KN vs->P (.done (.ret .none)) { s with heap:=(((s.heap.update a (Lh λ_=>(#[]:KD JB))).push (seqObj "tuple" vs.toArray 0)).push (seqObj "list" #[] 0)).update a (Lh λ_=>out.toArray) }:=λout hl e=>by
  obtain⟨c2,hc2⟩ : ∃c2,((((s.heap.update a (Lh λ_=>(#[]:KD JB))).push (seqObj "tuple" vs.toArray 0)).push (seqObj "list" #[] 0)).update a (Lh λ_=>out.toArray)).get? a=gV (seqObj "list" out.toArray c2):=⟨_,Ou ho3 λ_=>out.toArray⟩
  exact h _ c2 (λb o hb q=>(MO _ _ _ _ hb).trans (keep b o hb q)) (e ▸ hc2)
 rw[list_sort_plain];refine JA (PP ho rfl ?_);refine JA (NY ho rfl ?_ (by rw[JV,KL]; omega) (LJ _))
 refine JA (Qm ho1 rfl ?_);refine JA (QM ?_ (by show vs.length<=_; rw[KL]; omega))
 refine JA (O7 ?_ (LJ _));refine Lk ?_;show wpAny (model prog w) A _ P E { s with heap:=((s.heap.update a (Lh λ_=>(#[]:KD JB))).push (seqObj "tuple" vs.toArray 0)).push (seqObj "list" #[] 0) }
 dsimp only
 by_cases h2:vs.length < 2
 ·rw[Kd (by rw[JV]; exact h2),Kd (by rw[JV]; exact h2)]
  refine JA (JM (JA ?_));rw[StateT.run_pure];refine JM ?_;dsimp only;refine JA (Qm ho3 rfl ?_);have hs:((arrOf (SortSt.mk' general' (vs.toArray.zip vs.toArray) #[] 7 td)).map (·.2))=vs.toArray:=by
   show(vs.toArray.zip vs.toArray).map (·.2)=vs.toArray
   apply Array.toList_inj.mp;rw[Array.toList_map,Array.toList_zip];exact List.map_snd_zip (JO _)
  rw[hs];refine JA (NY ho3 rfl ?_ (LJ _) (by rw[JV,KL]; omega))
  simp only[PQ,K9,L9];exact JM (fin vs rfl (by unfold fP; rw[Kd h2]))
 ·have hn2:¬ vs.toArray.size < 2:=by rw[JV]; exact h2
  have h2':2<=vs.length:=by omega
  rw[Ku hn2,Ku hn2];refine JA (Lu (hkind h2' _ keep (λ(k:N5) (s':JD)=>k=κ/\s'={ s with heap:=((s.heap.update a (Lh λ_=>(#[]:KD JB))).push (seqObj "tuple" vs.toArray 0)).push (seqObj "list" #[] 0) }) ⟨rfl,rfl⟩) ?_ λ_ _ x=>x.elim)
  rintro _ _ ⟨rfl,rfl⟩;refine JA (Lu (PySem.W.kat_run (Q:=λst' s'=>∃p:KD JF,p.size=vs.length/\arrOf st'=p.map (kas_item (vs.toArray.zip vs.toArray))/\failedOf st'=td/\p=pf lt (kas_sort vs.length)/\s'={ s with heap:=((s.heap.update a (Lh λ_=>(#[]:KD JB))).push (seqObj "tuple" vs.toArray 0)).push (seqObj "list" #[] 0) })
   (G:=λp s'=>p=pf lt (kas_sort vs.length)/\s'={ s with heap:=((s.heap.update a (Lh λ_=>(#[]:KD JB))).push (seqObj "tuple" vs.toArray 0)).push (seqObj "list" #[] 0) }) rfl h2' h64 (λp' st' s' a1 a2 a3 a4=>⟨p',a1,a2,a3,a4⟩)
   (nY (lt:=lt) (λi j hi hj C hC=>hlt h2' _ keep i j hi hj C hC) (lq (n:=vs.length) (by omega)) ⟨rfl,rfl⟩)) ?_ λ_ _ e=>e)
  rintro⟨⟨⟩,st'⟩ s' ⟨p,hp,har,hf,ep,rfl⟩;dsimp only;have hout:=PySem.W.kat_snds rfl har;have hsz:(p.toList.map λi=>vs.getD i KN).length=vs.length:=by rw[Jz,Kr,hp]
  rw[hout];refine JA (Qm ho3 rfl ?_);refine JA (NY ho3 rfl ?_ (LJ _) (by rw[JV,hsz,KL]; omega))
  rw[hf];simp only[PQ,K9,L9];exact JM (fin _ hsz (by unfold fP; rw[Ku h2,ep]))
theorem vM {x:JB}{lt:JF->JF->Kc}{κ:N5}{Q:JB->JD->Prop}(h64:vs.length < 64)
  (hcol:∀Q':Jy JB->JD->Prop,(∀h' tk,(∀b o,s.heap.get? b=gV o->h'.get? b=gV o)->s.heap.objs.size<=h'.objs.size->Q' vs { s with heap:=h',toks:=tk })->wpAny (model prog w) A.in1 (collect x) Q' E s)
  (hkind:2<=vs.length->∀h' tk,(∀b o,s.heap.get? b=gV o->h'.get? b=gV o)->∀Q:N5->JD->Prop,Q κ { s with heap:=h',toks:=tk }->wpAny (model prog w) A.in1.in1 (keyKind' vs.toArray) Q (λ_ _=>KZ) { s with heap:=h',toks:=tk })
  (hlt:2<=vs.length->∀h' tk,(∀b o,s.heap.get? b=gV o->h'.get? b=gV o)->∀i j,i < vs.length->j < vs.length->∀Q:Kc->JD->Prop,Q (lt i j) { s with heap:=h',toks:=tk }->
   wpAny (model prog w) A.in1.in1 (keyLt' κ (vs.getD i KN) (vs.getD j KN)) Q (λ_ _=>KZ) { s with heap:=h',toks:=tk })
  (h:∀D h' tk c,(∀b o,s.heap.get? b=gV o->h'.get? b=gV o)->s.heap.objs.size<=D->h'.get? D=gV (seqObj "list" (fP lt KN vs).toArray c)->Q (.ref D) { s with heap:=h',toks:=tk }) :
  wpAny (model prog w) A (call (.builtin "sorted") [x]) Q E s:=by
 refine NK kind_sorted plain_sorted entry_sorted (args_sorted1 _) ?_;unfold Og.«sorted»;refine JA (m:=checkCount "sorted" 1 1 _) (JM ?_);refine JA (hcol _ λh1 tk1 hk1 hle=>?_)
 refine JA (O7 ?_ (by rw[KL]; omega))
 have hoL:(h1.push (seqObj "list" vs.toArray 0)).get? h1.objs.size=gV (seqObj "list" vs.toArray 0):=J1 _ rfl;have kp:∀b o,s.heap.get? b=gV o->(h1.push (seqObj "list" vs.toArray 0)).get? b=gV o:=λb o e=>JI _ (hk1 b o e)
 have hne:∀b o,s.heap.get? b=gV o->b≠h1.objs.size:=λb o e=>Kj (Kg (J2 e) hle)
 show wpAny _ _ _ _ _ { s with heap:=h1.push (seqObj "list" vs.toArray 0),toks:=tk1 }
 refine JA (Lk (La slot_list_sort ⟨_,hoL,rfl⟩ entry_list_sort ?_ (args_list_sort _)));refine vL (s:={ s with heap:=h1.push (seqObj "list" vs.toArray 0),toks:=tk1 }) (lt:=lt) (κ:=κ) hoL h64 (λh2 h' hk Q hq=>hkind h2 h' tk1 (λb o e=>hk b o (hne b o e) (kp b o e)) Q hq)
  (λh2 h' hk i j hi hj Q hq=>hlt h2 h' tk1 (λb o e=>hk b o (hne b o e) (kp b o e)) i j hi hj Q hq) λh' c hk hD=>?_
 exact⟨_,rfl,JM ⟨_,rfl,h _ h' tk1 c (λb o e=>hk b o (hne b o e) (kp b o e)) hle hD⟩⟩
end
end Mi
namespace Mi
open PySem PySem.Spec PyProof.Rows L2
noncomputable def gz:T->K8
 | .int _=>"int"|.str _=>"str"|.tup _=>"tuple"
noncomputable def b8:T->JE T
 | .tup (x::_)=>gV x
 | _=>td
noncomputable def Bp (ks:Jy T):JE JF:=
 if ks.all (λk=>gz k == "int")then gV 0
 else if ks.all (λk=>gz k == "str")then gV 1
 else if ks.all (λk=>(b8 k).any λf=>gz f == "int")then gV 2
 else if ks.all (λk=>(b8 k).any λf=>gz f == "str")then gV 3
 else if ks.all (λk=>(b8 k).any λf=>gz f == "tuple")then gV 4
 else td
noncomputable def yb:JF->N5
 | 0=>oneType'|1=>oneType'|2=>tuples' true|3=>tuples' true|_=>tuples' false
noncomputable def lP (ks:Jy T):Kc:=ks.all λx=>ks.all λy=>(Bo x y).isSome
noncomputable def C0 (ks:Jy T)(i j:JF):Kc:=(Bo (ks.getD i (.int 0)) (ks.getD j (.int 0))).getD false
theorem yc {ks:Jy T}(h:lP ks=true){i j:JF}(hi:i < ks.length)(hj:j < ks.length):Bo (ks[i]) (ks[j])=gV (C0 ks i j):=by
 unfold lP at h;rw[J3]at h;have h1:=h ks[i] (K7 hi);rw[J3]at h1;have h2:=h1 ks[j] (K7 hj);unfold C0;rw[show ks.getD i (.int 0)=ks[i] by simp[hi],show ks.getD j (.int 0)=ks[j] by simp[hj]]
 obtain⟨b,hb⟩:=KR.mp h2;rw[hb]; rfl
noncomputable def Jf (c:JF)(x y:T):Prop:=match c with|0=>gz x = "int"/\gz y = "int"|1=>gz x = "str"/\gz y = "str"|2=>∃f g,b8 x=gV f/\b8 y=gV g/\gz f = "int"/\gz g = "int"|3=>∃f g,b8 x=gV f/\b8 y=gV g/\gz f = "str"/\gz g = "str"|_=>∃f g,b8 x=gV f/\b8 y=gV g
section
variable{prog:Ki}{w:Kv}{A:Ks}{E:JB->JD->Prop}{s:JD}
theorem uk {h:KH}{k:T}{v:JB}(x:IsT h k v):Ra (model prog w) h (typeOf v) (.type (gz k)):=by
 cases x with
 | int=>exact .now
 | str=>exact .now
 | tup a c d t=>exact c ▸ ((R7 a).andThen .now:Ra (model prog w) h (typeOf (.ref _)) _)
theorem IsTs.mem {h:KH}:∀ {ks:Jy T} {vs:Jy JB},IsTs h ks vs->∀v∈vs,∃k∈ks,IsT h k v
 | _,_,.cons a b,v,hv=>by
  rcases Ke.mp hv with rfl|hv
  ·exact⟨_,.head _,a⟩
  ·obtain⟨k,hk,q⟩:=IsTs.mem b v hv;exact⟨k,.tail _ hk,q⟩
theorem nZ {h:KH}{p:T->Kc}:∀ {ks:Jy T} {vs:Jy JB},IsTs h ks vs->ks.all (λk=>(b8 k).any p)=true->∃fs,PySem.W.KatTups h vs fs/\fs.length=vs.length/\∀v∈fs,∃k,p k=true/\IsT h k v
 | _,_,.nil,_=>⟨[],.nil,rfl,λv hv=>nomatch hv⟩
 | k::ks,_,.cons a b,hp=>by
  rw[Kx,JH]at hp;obtain⟨fs,h1,h2,h3⟩:=nZ b hp.2;cases a with
  | int=>simp[b8]at hp
  | str=>simp[b8]at hp
  | @tup kk ad o items n a1 c1 d1 t1=>
   cases kk with
   | nil=>simp[b8]at hp
   | cons x xs=>
    have hx:p x=true:=by simpa [b8]using hp.1
    generalize hit:items.toList=its at t1;cases t1 with
    | @cons _ u _ us q1 q2=>
     refine⟨u::fs,.cons a1 c1 d1 (by rw[<- Lm,hit]; rfl) h1,by simp[h2],λv hv=>?_⟩
     rcases Ke.mp hv with rfl|hv
     ·exact⟨x,hx,q1⟩
     ·exact h3 v hv
theorem Ei {ks:Jy T}{vs:Jy JB}{c:JF}{Q:N5->JD->Prop}(h:IsTs s.heap ks vs)(h2:2<=vs.length)(hc:Bp ks=gV c)(hq:Q (yb c) s):wpAny (model prog w) A (keyKind' vs.toArray) Q E s:=by
 have one:∀ty:K8,(MB ty != MB "tuple")=true->ks.all (λk=>gz k==ty)=true->Q oneType' s->wpAny (model prog w) A (keyKind' vs.toArray) Q E s:=λty hty hall hq=>
  PySem.W.kas_kind (T:=.type ty) h2 (λv hv=>by
   obtain⟨k,hk,x⟩:=h.mem v hv;have:=eq_of_beq (J3.mp hall k hk);exact this ▸ uk x) hty (by simp) hq
 have tup:∀ty:K8,ks.all (λk=>(b8 k).any λf=>gz f==ty)=true->Q (tuples' (MB ty != MB "tuple")) s->wpAny (model prog w) A (keyKind' vs.toArray) Q E s:=λty hall hq=>by
  obtain⟨fs,h1,h3,h4⟩:=nZ h hall;exact PySem.W.kat_kind (T:=.type ty) h1 (by omega) (λv hv=>by
   obtain⟨k,hk,x⟩:=h4 v hv;have:=eq_of_beq hk;exact this ▸ uk x) (by simp) hq
 unfold Bp at hc;split at hc
 ·cases hc; exact one "int" (by decide) (by assumption) hq
 ·split at hc
  ·cases hc; exact one "str" (by decide) (by assumption) hq
  ·split at hc
   ·cases hc; exact tup "int" (by assumption) hq
   ·split at hc
    ·cases hc; exact tup "str" (by assumption) hq
    ·split at hc
     ·cases hc; exact tup "tuple" (by assumption) hq
     ·cases hc
theorem qJ {b:Kc}{Q:Kc->JD->Prop}{d:JF}(hu:A.units+d < cLine):∀(xs ys:Jy T) (us vs:Jy JB) (i:JF) (k:Kc),T.depths xs<=d->T.depths ys<=d->IsTs s.heap xs us->IsTs s.heap ys vs->qG xs ys=gV k->
  (b=true->i=0->∀x y,xs.head?=gV x->ys.head?=gV y->(gz x = "int"/\gz y = "int")\/(gz x = "str"/\gz y = "str"))->Q k s->PySem.W.KatLex prog w A b (decide (us.length < vs.length)) Q (us.zip vs) i s
 | [],[],_,_,i,k,_,_,h1,h2,e,hb,hq=>by cases h1; cases h2; cases e; exact Ov (by simpa using hq)
 | [],y::ys,_,_,i,k,_,_,h1,h2,e,hb,hq=>by cases h1; cases h2; cases e; exact Ov (by simpa using hq)
 | x::xs,[],_,_,i,k,_,_,h1,h2,e,hb,hq=>by cases h1; cases h2; cases e; exact Ov (by simpa using hq)
 | x::xs,y::ys,_,_,i,k,d1,d2,h1,h2,e,hb,hq=>by
  simp only[T.depths]at d1 d2;cases h1 with
  | @cons _ u _ us p1 q1=>
   cases h2 with
   | @cons _ v _ vs p2 q2=>
    have he:=vI d x y _ _ A s (by omega) p1 p2 hu (by omega)
    rw[Mq];refine PySem.W.kat_cons (he prog w _ _ ?_);simp only[qG]at e;have hlen:decide ((u::us).length < (v::vs).length)=decide (us.length < vs.length):=by simp
    rw[hlen]
    by_cases hxy:x=y
    ·rw[Kd hxy]at e;rw[LL hxy];exact PySem.W.kat_yes (qJ hu xs ys us vs (i+1) k (by omega) (by omega) q1 q2 e (λ_ z=>absurd z (Nat.succ_ne_zero _)) hq)
    ·rw[Ku hxy]at e;rw[Kl hxy];refine PySem.W.kat_no ?_
     by_cases hb0:b=true/\i=0
     ·obtain⟨rfl,rfl⟩:=hb0;rcases hb rfl rfl x y rfl rfl with⟨hx,hy⟩|⟨hx,hy⟩
      ·cases p1 with
       | int=>cases p2 with
        | int=>cases e; exact oneLt_int hq
        | _=>exact absurd hy (by simp[gz])
       | _=>exact absurd hx (by simp[gz])
      ·cases p1 with
       | str=>cases p2 with
        | str=>cases e; exact oneLt_str hq
        | _=>exact absurd hy (by simp[gz])
       | _=>exact absurd hx (by simp[gz])
     ·have hf:(b&&i==0)=false:=by
       cases b with
       | false=>rfl
       | true=>
        have:i≠0:=λz=>hb0 ⟨rfl,z⟩
        simpa using this
      rw[hf];exact PySem.W.kat_one _ _ ((Gh d x y _ _ A s k (by omega) (by omega) p1 p2 hu e) prog w _ _ hq)
theorem Bq {c d:JF}{x y:T}{u v:JB}{k:Kc}{Q:Kc->JD->Prop}(hu:A.units+d < cLine)(d1:x.depth<=d)(d2:y.depth<=d)(h1:IsT s.heap x u)(h2:IsT s.heap y v)(e:Bo x y=gV k)
  (hc:Jf c x y)
  (hq:Q k s):wpAny (model prog w) A (keyLt' (yb c) u v) Q E s:=by
 have tup:∀b:Kc,(∃f g,b8 x=gV f/\b8 y=gV g/\(b=true->(gz f = "int"/\gz g = "int")\/(gz f = "str"/\gz g = "str")))->wpAny (model prog w) A (keyLt' (tuples' b) u v) Q E s:=by
  rintro b ⟨f,g,hf,hg,hb⟩;cases h1 with
  | int=>cases hf
  | str=>cases hf
  | @tup xs a o items n a1 c1 e1 t1=>
   cases h2 with
   | int=>cases hg
   | str=>cases hg
   | @tup ys a' o' items' n' a2 c2 e2 t2=>
    simp only[T.depth]at d1 d2;refine PySem.W.kat_lt a1 e1 a2 e2 ?_;have:=qJ (prog:=prog) (w:=w) (b:=b) (Q:=Q) hu xs ys items.toList items'.toList 0 k (by omega) (by omega) t1 t2 e (λhb' _ p q hp hq'=>by
     cases xs with
     | nil=>cases hp
     | cons x0 xs=>cases ys with
      | nil=>cases hq'
      | cons y0 ys=>cases hp; cases hq'; cases hf; cases hg; exact hb hb') hq
    simpa using this
 match c,hc with
 | 0,⟨hx,hy⟩=>
  cases h1 with
  | int=>cases h2 with
   | int=>cases e; exact PySem.W.kat_lt_int hq
   | _=>exact absurd hy (by simp[gz])
  | _=>exact absurd hx (by simp[gz])
 | 1,⟨hx,hy⟩=>
  cases h1 with
  | str=>cases h2 with
   | str=>cases e; exact PySem.W.kas_lt_str hq
   | _=>exact absurd hy (by simp[gz])
  | _=>exact absurd hx (by simp[gz])
 | 2,⟨f,g,h1',h2',h3,h4⟩=>exact tup true ⟨f,g,h1',h2',λ_=>.inl ⟨h3,h4⟩⟩
 | 3,⟨f,g,h1',h2',h3,h4⟩=>exact tup true ⟨f,g,h1',h2',λ_=>.inr ⟨h3,h4⟩⟩
 | n+4,⟨f,g,h1',h2'⟩=>exact tup false ⟨f,g,h1',h2',λz=>nomatch z⟩
end
theorem Br {ks:Jy T}{c:JF}(h:Bp ks=gV c){x y:T}(hx:x∈ks)(hy:y∈ks) :
  Jf c x y:=by
 have one:∀ {ty:K8},ks.all (λk=>gz k==ty)=true->gz x=ty/\gz y=ty:=λha=>⟨eq_of_beq (J3.mp ha x hx),eq_of_beq (J3.mp ha y hy)⟩
 have fst:∀ {ty:K8},ks.all (λk=>(b8 k).any λf=>gz f==ty)=true->∃f g,b8 x=gV f/\b8 y=gV g/\gz f=ty/\gz g=ty:=λ{ty} ha=>by
  have h1:=J3.mp ha x hx;have h2:=J3.mp ha y hy;cases e1:b8 x with
  | none=>rw[e1]at h1; cases h1
  | some f=>
   cases e2:b8 y with
   | none=>rw[e2]at h2; cases h2
   | some g=>
    rw[e1]at h1; rw[e2]at h2
    exact⟨f,g,rfl,rfl,eq_of_beq (by simpa using h1),eq_of_beq (by simpa using h2)⟩
 unfold Bp at h;split at h
 ·cases h; exact one (by assumption)
 ·split at h
  ·cases h; exact one (by assumption)
  ·split at h
   ·cases h; exact fst (by assumption)
   ·split at h
    ·cases h; exact fst (by assumption)
    ·split at h
     ·cases h;obtain⟨f,g,h1,h2,_⟩:=fst (by assumption)
      exact⟨f,g,h1,h2⟩
     ·cases h
noncomputable def eS (S:aa):W->JE (Jy W)
 | .tup xs=>gV xs
 | .ref i=>match iH S i with
  | some xs=>gV xs
  | none=>(kW S i).map λkvs=>kvs.map λp=>p.1.w
 | _=>td
noncomputable def fw:JF:=8
noncomputable def ph (ks:Jy T):Kc:=decide (ks.length < 64)&&decide (T.depths ks<=fw)&&(decide (ks.length < 2)||((Bp ks).isSome&&lP ks))
noncomputable def je (xs:Jy W)(S:aa):JE (W×aa):=match xs with
 | [x]=>match eS S x with
  | some ws=>match W.ts ws with
   | some ks=>if ph ks then gV (.ref S.length,S++[.lst (fP (C0 ks) .non ws)])else td
   | none=>td
  | none=>td
 | _=>td
noncomputable def n0 (xs:Jy W)(S:aa):JE (W×aa):=match xs with
 | [.ref i]=>match kW S i with
  | some kvs=>gV (.ref S.length,S++[.lst (kvs.map λp=>p.1.w)])
  | none=>i7 [.ref i] S
 | xs=>i7 xs S
noncomputable def sH (xs:Jy W)(S:aa):JE (W×aa):=match xs with
 | [.ref i]=>match kW S i with
  | some kvs=>gV (.int kvs.length,S)
  | none=>sC [.ref i] S
 | xs=>sC xs S
noncomputable def pi (ks:Jy T):JF:=argBest (C0 ks) (ks.length - 1)
noncomputable def Bs (xs:Jy W)(S:aa):JE (W×aa):=match xs with
 | [.ref i]=>match iH S i with
  | some ws=>match W.ts ws with
   | some ks=>if T.depths ks<=fw/\lP ks=true then(ws[pi ks]?).map λw=>(w,S)else td
   | none=>td
  | none=>td
 | _=>td
noncomputable def lQ:Jy W->JE (Jy Kc)
 | []=>gV []
 | .bl b::ws=>(lQ ws).map (b :: ·)
 | _::_=>td
noncomputable def Gi (xs:Jy W)(S:aa):JE (W×aa):=match xs with
 | [.ref i]=>match iH S i with
  | some ws=>(lQ ws).map λbs=>(.bl (bs.all id),S)
  | none=>td
 | _=>td
section
variable{X:Cx}{pins:Jy (JK×Ll)}{σ:L2.St}{H:Hp}{s:JD}{A:Jy JK}{S:aa}
theorem RelL.pick {K:JP}{ws:Jy W}{vs:Jy V}(r:RelL K A H ws vs)(d:W)(d':V):∀(is:Jy JF),(∀i∈is,i < ws.length)->RelL K A H (is.map λi=>ws.getD i d) (is.map λi=>vs.getD i d')
 | [],_=>.nil
 | i::is,h=>by
  have hi:=h i (.head _);obtain⟨v,h1,h2⟩:=r.get (JX hi);refine .cons ?_ (RelL.pick r d d' is λj hj=>h j (.tail _ hj))
  have e1:ws.getD i d=ws[i]:=by simp[hi]
  have e2:vs.getD i d'=v:=by simp[h1]
  show Rel K A H (ws.getD i d) (vs.getD i d');rw[e1,e2]; exact h2
theorem Vals.pick {vs:Jy V}{us:Jy JB}(r:Vals vs us)(d:V)(d':JB):∀(is:Jy JF),(∀i∈is,i < vs.length)->Vals (is.map λi=>vs.getD i d) (is.map λi=>us.getD i d')
 | [],_=>.nil
 | i::is,h=>by
  have hi:=h i (.head _);obtain⟨v,h1,h2⟩:=L2.Vals.get r (JX hi);refine .cons ?_ (Vals.pick r d d' is λj hj=>h j (.tail _ hj))
  have e1:vs.getD i d=vs[i]:=by simp[hi]
  have e2:us.getD i d'=v:=by simp[h1]
  show L2.RelV (vs.getD i d) (us.getD i d');rw[e1,e2]; exact h2
theorem pj {n:JF}{lt:JF->JF->Kc}(hn:0 < n):∀i∈(pf lt (Qa n)).toList,i < n:=λi hi=>JY.mp ((pg (lt:=lt) (lq hn)).mem_iff.mp hi)
theorem yd {K:JP}{lt:JF->JF->Kc}{ws:Jy W}{vs:Jy V}(r:RelL K A H ws vs):RelL K A H (fP lt .non ws) (fP lt .non vs):=by
 unfold fP;rw[r.length];split
 ·exact r
 ·exact r.pick _ _ _ λi hi=>by rw[r.length]; exact pj (by omega) i hi
theorem vN {lt:JF->JF->Kc}{vs:Jy V}{us:Jy JB}(r:Vals vs us):Vals (fP lt .non vs) (fP lt .none us):=by
 unfold fP;rw[L2.Vals.length r];split
 ·exact r
 ·exact Vals.pick r _ _ _ λi hi=>by rw[L2.Vals.length r]; exact pj (by omega) i hi
theorem qK {prog:Ki}{w:Kv}{B:Ks}{E:JB->JD->Prop}{l:JK}{vs:Jy JB}{Q:Jy JB->JD->Prop}(hl:Ps s.heap l vs.toArray)(hsz:vs.length<=sizeLine)
  (h:∀h' tk,(∀b o,s.heap.get? b=gV o->h'.get? b=gV o)->s.heap.objs.size<=h'.objs.size->Q vs { s with heap:=h',toks:=tk }):wpAny (model prog w) B (collect (.ref l)) Q E s:=by
 obtain⟨o,ho,hc,n,hd⟩:=id hl;unfold collect;refine JA (OM (Lr entry_proto_collect' ?_));show wpAny _ _ (do again (.builtin "list.__iadd__" ⟨[<- newList [],.ref l],[]⟩)) _ _ s
 refine JA (O7 (JM ⟨Code.quiet_builtin _ (by decide +kernel),Lr entry_list_iadd' ?_⟩))
 show wpAny _ _ (LU (.ref s.heap.objs.size) (.ref l) (.ref s.heap.objs.size)) _ _ { s with heap:=s.heap.push (seqObj "list" #[] 0) }
 unfold LU;have ho':(s.heap.push (seqObj "list" #[] 0)).get? l=gV o:=JI _ ho;refine JA (Nv (T:="tuple") ⟨o,ho',hc⟩ ?_);have ht:(MB "tuple" == MB "tuple")=true:=by rfl
 rw[Kd (by rw[ht]; simp)]
 refine JA (PP ho' hd ?_);refine JA (PP (xs:=#[]) (n:=0) (J1 _ rfl) rfl ?_);rw[Ku (by simp)]
 refine JA (NY (xs:=#[]) (n:=0) (J1 _ rfl) rfl ?_ (LJ _) (by show(#[]++vs.toArray).size<=sizeLine+1; simp only[Array.size_append,JV,Lp]; omega))
 refine JM ?_;show wpAny (model prog w) B (do
   let o <- load s.heap.objs.size
   match o.data with
   | .seq xs _=>pure xs.toList
   | _=>unsupported "internal:collect") Q E { s with heap:=(s.heap.push (seqObj "list" #[] 0)).update s.heap.objs.size (Lh (· ++ vs.toArray)) }
 refine JA (Pe (Ou (J1 _ rfl) _) ?_);show wpAny _ _ (pure ((#[]:KD JB)++vs.toArray).toList) Q E _;rw[show((#[]:KD JB)++vs.toArray).toList=vs by simp]
 refine JM (h _ s.toks (λb o' e=>(MO _ _ _ _ (Kj (J2 e))).trans (JI _ e)) ?_)
 rw[Qb,size_push'];exact ME _
theorem DicAt.raw {wd:Kv}{a:JK}{xs:Jy (T×JK×JB)}{h:KH}(d:DicAt wd a xs h):∃es ep,RawD a es ep h/\es.toList=xs.map (xH wd):=
 let ⟨_,_,_,o,es,ep,h1,h2,h3,h4⟩:=d; ⟨es,ep,⟨o,h1,h2,h3⟩,h4⟩
theorem KRel.keysL {kvs:Jy (T×W)}{xs:Jy (T×JK×JB)}(r:KRel X.K A H kvs xs):RelL X.K A H (kvs.map λp=>p.1.w) (xs.map λq=>V.ref q.2.1):=by
 unfold KRel at r
 induction r with
 | nil=>exact .nil
 | cons h t ih=>exact .cons h.2.2.2.1 ih
theorem n6 (xs:Jy (T×JK×JB)):Vals (xs.map λq=>V.ref q.2.1) (xs.map λq=>Ky q.2.1):=by
 induction xs with
 | nil=>exact .nil
 | cons x xs ih=>exact .cons rfl ih
theorem lR {wd:Kv}{es:KD LO}{xs:Jy (T×JK×JB)}(he:es.toList=xs.map (xH wd)){acc:KD JB}(ha:Oi (λi v=>∃e,es[i]?=gV e/\e.key=v) acc es.size):acc.toList=xs.map λq=>Ky q.2.1:=by
 have hl:es.size=xs.length:=by rw[<- Kr,he,Jz]
 apply Nf
 ·rw[Kr,ha.1,Jz,hl]
 ·intro i h1 h2;rw[Kr]at h1;obtain⟨e,q1,q2⟩:=ha.2 i acc[i] (by simp[h1])
  rw[<- Lm,he,JJ]at q1;rw[Jz]at h2;rw[JX h2]at q1;simp only[Kq,KG]at q1;subst q1;rw[List.getElem_map,Array.getElem_toList];exact q2.symm
theorem vO {x:W}{a:V}{u:JB}{ws:Jy W}(hh:X.A.handled=td)(I:Inv X pins σ H s)(so:StoreOk X.w X.K A H S)(rx:Rel X.K A H x a)(ru:RelV a u)(e:eS S x=gV ws):∃vs us,RelL X.K A H ws vs/\Vals vs us/\us.length<=sizeLine/\
  ∀(B:Ks) (hB:B.handled=td) (E:JB->JD->Prop) (Q':Jy JB->JD->Prop),(∀h' tk,(∀b o,s.heap.get? b=gV o->h'.get? b=gV o)->s.heap.objs.size<=h'.objs.size->Q' us { s with heap:=h',toks:=tk })->wpAny (model X.prog X.w) B (collect u) Q' E s:=by
 cases rx with
 | tup h1 r1=>
  cases e;obtain⟨its,rv,ht,hz⟩:=I.tuple h1;obtain rfl:u=Ky _:=ru;exact⟨_,its,r1,rv,by rw[<- L2.Vals.length rv]; exact hz,λB hB E Q' h=>qK ht (by rw[<- L2.Vals.length rv]; exact hz) h⟩
 | ref ea=>
  simp only[eS]at e;split at e
  ·rename_i xs hx;cases e;obtain⟨vs,h1,r1⟩:=dq so hx ea;obtain⟨its,rv,p,hz⟩:=I.list h1;obtain rfl:u=Ky _:=ru;refine⟨_,its,r1,rv,by rw[<- L2.Vals.length rv]; exact hz,λB hB E Q' h=>collect_list p.isList (h _ s.toks (λb o' e=>(MO _ _ _ _ (Kj (J2 e))).trans (JI _ e)) ?_) (by rw[<- L2.Vals.length rv]; exact hz)⟩
   rw[Qb,size_push'];exact ME _
  ·rw[JC]at e;obtain⟨kvs,hk,rfl⟩:=e;obtain⟨xs,rd,kr⟩:=gL so hk ea;have d:=dk I rd;obtain⟨es,ep,raw,he⟩:=d.raw;obtain rfl:u=Ky _:=ru;have hl:es.size=xs.length:=by rw[<- Kr,he,Jz]
   refine⟨_,_,kr.keysL,n6 xs,by rw[Jz]; exact d.1,λB hB E Q' h=>qF (uh d.2.1) hB raw (by rw[hl]; exact d.1) λh' tk acc hk' hle ha=>?_⟩
   rw[lR he ha];exact h h' tk hk' hle
 | _=>cases e
theorem n8 {h':KH}{tk c:JF}{D:JK}{ws:Jy W}{vs:Jy V}{us:Jy JB}(I:Inv X pins σ H s)(so:StoreOk X.w X.K A H S)(r:RelL X.K A H ws vs)(rv:Vals vs us)(hz:us.length<=sizeLine)(hk:∀b o,s.heap.get? b=gV o->h'.get? b=gV o)(hD:s.heap.objs.size<=D)
  (ho:h'.get? D=gV { cls:=.type "list",data:=.seq us.toArray c }):ef X pins σ A H (S++[.lst ws]) (.ref S.length) (.ref D) { s with heap:=h',toks:=tk }:=by
 have hn:H D=td:=I.hok.fresh hD;refine⟨.ref D,_,A++[D],I.laid (a:=D) (o:=.lst vs) (t':=tk) hk hD ⟨by rw[L2.Vals.length rv]; exact hz,us,c,rv,ho⟩,rfl,eP hn,so.push hn r,.ref ?_⟩
 rw[<- so.len]; simp
theorem pk (hh:X.A.handled=td)(hu:X.A.units+12 < cLine):LCall X (.builtin "sorted") je:=by
 intro pins s σ H A S xs vs us w S' I so rl rv e;cases rl with
 | nil=>cases e
 | cons r t=>
  cases t with
  | cons _ _=>cases e
  | nil=>
   cases rv with
   | cons ru rv2=>
    cases rv2;simp only[je]at e;split at e
    ·rename_i ws hw;split at e
     ·rename_i ks hk;split at e
      ·rename_i hok;cases e;obtain⟨vs',us',r1,rv1,hz,hcol⟩:=vO hh I so r ru hw;simp only[ph,JH,Kh]at hok;obtain⟨⟨h64,hd⟩,hok⟩:=hok;have hws:T.ws ks=ws:=W.ts_w hk;have hT:IsTs s.heap ks us':=g7 I ks (hws ▸ r1) rv1;have hl:us'.length=ks.length:=hT.length.symm;have sk:2<=us'.length->(Bp ks).isSome=true/\lP ks=true:=λh2=>by
        rcases LP _ _ ▸ hok with h|h
        ·simp only[Kh]at h; omega
        ·simpa using h
       refine vM (vs:=us') (lt:=C0 ks) (κ:=yb ((Bp ks).getD 0)) (by omega) (λQ' hQ'=>hcol X.A.in1 hh _ Q' hQ') (λh2 h' tk hk' Q hq=>?_) (λh2 h' tk hk' i j hi hj Q hq=>?_) λD h' tk c hk' hD ho=>?_
       ·obtain⟨q1,q2⟩:=sk h2;obtain⟨c,hc⟩:=KR.mp q1;rw[hc]at hq;exact Ei (s:={ s with heap:=h',toks:=tk }) (hT.kept λb o _ e=>hk' b o e) h2 hc hq
       ·obtain⟨q1,q2⟩:=sk h2;obtain⟨c,hc⟩:=KR.mp q1;rw[hc];have hi':i < ks.length:=by omega
        have hj':j < ks.length:=by omega
        have g:=(hT.kept (h':=h') λb o _ e=>hk' b o e)
        have e1:us'.getD i KN=us'[i]:=by simp[hi]
        have e2:us'.getD j KN=us'[j]:=by simp[hj]
        rw[e1,e2];have b1:=eR (ks:=ks) i hi';have b2:=eR (ks:=ks) j hj';exact Bq (s:={ s with heap:=h',toks:=tk }) (d:=fw) (c:=c) (by rw[bU,bU]; unfold fw; omega) (by omega) (by omega) (g.get i hi' hi) (g.get j hj' hj) (yc q2 hi' hj') (Br hc (K7 hi') (K7 hj')) hq
       ·exact n8 I so (yd r1) (vN rv1) (by rw[qI]; exact hz) hk' hD ho
      ·cases e
     ·cases e
    ·cases e
theorem qL (hh:X.A.handled=td):LCall X (.type "list") n0:=by
 intro pins s σ H A S xs vs us w S' I so rl rv e
 by_cases hd:∃i kvs,xs=[.ref i]/\kW S i=gV kvs
 ·obtain⟨i,kvs,rfl,hk⟩:=hd;simp only[n0,hk]at e;cases e;cases rl with
  | cons r t=>
   cases t;cases rv with
   | cons ru rv2=>
    cases rv2;cases r with
    | ref ea=>
     obtain⟨xs,rd,kr⟩:=gL so hk ea;have d:=dk I rd;obtain⟨es,ep,raw,he⟩:=d.raw;obtain rfl:_=Ky _:=ru;have hl:es.size=xs.length:=by rw[<- Kr,he,Jz]
     refine PySem.W.kdl_call (uh d.2.1) hh raw (by rw[hl]; exact d.1) λh' tk acc' c' hk' hD ha=>?_
     have ea':=lR he ha;refine n8 (us:=acc'.toList) I so kr.keysL (ea' ▸ n6 xs) (by rw[ea',Jz]; exact d.1) hk' (JO _) (c:=c') ?_
     simpa using hD
 ·have:n0 xs S=i7 xs S:=by
   unfold n0;split
   ·rename_i i;split
    ·rename_i kvs hk;exact absurd ⟨i,kvs,rfl,hk⟩ hd
    ·rfl
   ·rfl
  rw[this]at e;exact iJ pins s σ H A S xs vs us w S' I so rl rv e
end
open PySem.W (KasT kas_sort kas_asc kas_desc kas_tail3 kas_descPart kas_count kas_place kas_bin kas_rev)
noncomputable def gt (p:KD JF)(i:JF):JF:=p.getD i 0
end Mi
namespace Mi
open PySem PySem.Spec PyProof.Rows L2
theorem ye {α:Type}{lt:JF->JF->Kc}{d:α}{xs:Jy α}:(fP lt d xs).Perm xs:=by
 unfold fP;split
 ·exact .refl _
 ·have p:Pm xs.length (pf lt (Qa xs.length)):=pg (lq (by omega))
  refine(Sg _ p).trans ?_;have:(JN xs.length).map (λi=>xs.getD i d)=xs:=by
   apply Nf
   ·simp
   ·intro k h1 h2; simp[h2]
  rw[this]
noncomputable def lS (xs:Jy W)(S:aa):JE (W×aa):=match xs with
 | [.ref i]=>match xT S i with
  | some (lo,hi)=>if -(2 ^ 62)<=lo/\lo < 2 ^ 62/\-(2 ^ 62)<=hi/\hi < 2 ^ 62/\(hi - lo).toNat<=sizeLine then gV (.tup (Bm lo (hi - lo).toNat),S)else td
  | none=>lK [.ref i] S
 | xs=>lK xs S
section
variable{prog:Ki}{w:Kv}{A:Ks}{E:JB->JD->Prop}{s:JD}
theorem nb {Q:Jy JB->JD->Prop}{r:JK}{a b c:JL}{t u v:Si}{n:JF}(hh:A.handled=td)(hr:R4 s.heap r a b c t u v)(hsmall:Nu a b c=true)
  (hn:Lw a b c=n) (hlen:n<=2 ^ 24)
  (hQ:∀h' tk (acc:KD JB),(∀b o,s.heap.get? b=gV o->h'.get? b=gV o)->s.heap.objs.size<=h'.objs.size->Oi (λi v=>∃t,v=.int (a+i*c) t) acc n->Q acc.toList { s with heap:=h',toks:=tk }):wpAny (model prog w) A (collect (.ref r)) Q E s:=by
 unfold collect;refine JA (OM (Lr F.entry_proto_collect ?_));rw[Li F.plain_proto_collect _];show wpAny _ A.in1 (newList [] >>= λl=>again (.builtin "list.__iadd__" ⟨[l,.ref r],[]⟩)) _ _ s
 refine JA (KI ?_);refine JM ⟨Mv F.plain_list_iadd _,Lr F.entry_list_iadd ?_⟩;rw[Li F.plain_list_iadd _];show wpAny _ A.in1 (LU (.ref s.heap.objs.size) (.ref r) (.ref s.heap.objs.size)) _ _ _;have hS:(s.heap.push { cls:=.type "list",data:=.seq ([]:Jy JB).toArray }).get? s.heap.objs.size=gV { cls:=.type "list",data:=.seq #[] 0 }:=J1 _ rfl;have fin':∀s',(∃h' tk acc c',s'={ s with heap:=h',toks:=tk }/\(∀b o,s.heap.get? b=gV o->h'.get? b=gV o)/\h'.get? s.heap.objs.size=gV { cls:=.type "list",dict:=td,data:=.seq acc c',slots:=#[] }/\Oi (λi v=>∃t,v=.int (a+i*c) t) acc n)->wpAny (model prog w) A (do
   let o <- load s.heap.objs.size
   match o.data with
   | .seq xs _=>pure xs.toList
   | _=>unsupported "internal:collect") Q E s':=by
  rintro s' ⟨h',tk,acc,c',rfl,hk,hS',hacc⟩;exact JA (Pe hS' (JM (hQ h' tk acc hk (M0 (J2 hS')) hacc)))
 refine Lu (wpAny_extend_range (A:=A) (s:={ s with heap:=s.heap.push { cls:=.type "list",data:=.seq ([]:Jy JB).toArray } }) (R:=λr s'=>r=.ok (.ret (.ref s.heap.objs.size))/\∃h' tk acc c',s'={ s with heap:=h',toks:=tk }/\(∀b o,s.heap.get? b=gV o->h'.get? b=gV o)/\h'.get? s.heap.objs.size=gV { cls:=.type "list",dict:=td,data:=.seq acc c',slots:=#[] }/\Oi (λi v=>∃t,v=.int (a+i*c) t) acc n) hh (JI _ hr) hsmall hn hlen _ _ 0 hS λh' tk acc' c' hk hS' hacc=>⟨rfl,h',tk,acc',c',rfl,λb o e=>hk b o (Kj (J2 e)) (JI _ e),hS',hacc⟩) (λfin s' h=>?_) (λe s' h=>?_)
 ·cases fin with
  | done f=>
   obtain⟨e,h⟩:=h;cases e;exact fin' s' h
  | again c'=>exact⟨h.1,Oa h.2 λr s'' hr=>by obtain⟨rfl,hr⟩:=hr; exact fin' s'' hr⟩
 ·exact absurd h.1 (by simp)
theorem jP {Q₁:JB->JD->Prop}{r:JK}{a b c:JL}{t u v:Si}{n:JF}(hh:A.handled=td)(hr:R4 s.heap r a b c t u v)(hsmall:Nu a b c=true)
  (hn:Lw a b c=n) (hlen:n<=2 ^ 24)
  (h:∀(h':KH) (tk:JF) (acc:KD JB),(∀b o,s.heap.get? b=gV o->h'.get? b=gV o)->s.heap.objs.size<=h'.objs.size->Oi (λi v=>∃t,v=.int (a+i*c) t) acc n->Q₁ (.ref h'.objs.size) { s with heap:=h'.push { cls:=.type "tuple",data:=.seq acc },toks:=tk }) :
  codeAny (model prog w) A (.call (.builtin "tuple.__new__") ⟨[.type "tuple",.ref r],[]⟩) (wants Q₁ E) s:=by
 refine codeAny_of_tree ?_;show wpAny _ A.in1 (do checkBuiltinCall "tuple.__new__" ⟨[.type "tuple",.ref r],[]⟩; again (.builtin "tuple.__new__" ⟨[.type "tuple",.ref r],[]⟩)) _ _ s
 refine JA (OI (F.newCall_tuple_1 _) (JM ⟨Mv F.plain_tuple_new _,Lr F.entry_tuple_new ?_⟩));rw[Li F.plain_tuple_new _];have hsub:=PySem.sub_tuple_self;have hinit:=PySem.init_tuple_lookup;have hmh:=PySem.madeHere_tuple;have hTI:s.TypeIs (.ref r) "range":=⟨_,hr,rfl⟩;have hh1:A.in1.handled=td:=by simp[hh]
 wp_walk using Nv hTI,nb (A:=A.in1) hh1 hr hsmall hn hlen
 intro h' tk acc hk hle hacc;show wpAny _ _ (Ln acc.toList.toArray >>= λv=>ret v) _ _ _
 unfold Ln;refine JA (KI ?_ (by show acc.toList.toArray.size<=sizeLine; simp only[Array.toArray_toList]; rw[hacc.1,KL]; omega))
 refine JM ?_;have e:acc.toList.toArray=acc:=by simp
 rw[e];exact h h' tk acc hk hle hacc
theorem jQ {Q:JB->JD->Prop}{r:JK}{a b c:JL}{t u v:Si}{n:JF}(hh:A.handled=td)(hr:R4 s.heap r a b c t u v)(hsmall:Nu a b c=true)
  (hn:Lw a b c=n) (hlen:n<=2 ^ 24)
  (hQ:∀(h':KH) (tk:JF) (acc:KD JB),(∀b o,s.heap.get? b=gV o->h'.get? b=gV o)->s.heap.objs.size<=h'.objs.size->Oi (λi v=>∃t,v=.int (a+i*c) t) acc n->Q (.ref h'.objs.size) { s with heap:=h'.push { cls:=.type "tuple",data:=.seq acc },toks:=tk }) :
  wpAny (model prog w) A (call (.type "tuple") [.ref r]) Q E s:=by
 refine callType_codes (Q₁:=λobj s₁=>s₁.TypeIs obj "tuple"/\Q obj s₁) F.called_tuple (F.typeCall_tuple_1 _) F.entry_object_init
  (jP (by simp[hh]) hr hsmall hn hlen λh' tk acc hk hle hacc=>⟨⟨_,J1 _ rfl,rfl⟩,hQ h' tk acc hk hle hacc⟩) λobj s₁ h₁=>?_
 exact⟨h₁.1,F.args_object_init_2 obj _,object_init_meets F.called_tuple.init.lookup F.called_tuple.made (by decide) prog w A.in1 _ s₁ ⟨h₁.1,rfl,h₁.2⟩⟩
end
section
variable{X:Cx}{pins:Jy (JK×Ll)}{σ:L2.St}{H:Hp}{s:JD}{A:Jy JK}{S:aa}
theorem po (hh:X.A.handled=td):LCall X (.type "tuple") lS:=by
 intro pins s σ H A S xs vs us w S' I so rl rv e;unfold lS at e;split at e
 ·rename_i i;split at e
  ·rename_i lo hi hr;split at e
   ·rename_i hb;cases e;obtain⟨a,ea,rfl⟩:=uc (xs:=[]) rl rv;obtain⟨b1,b2,b3,b4,b5⟩:=hb;have hH:H a=gV (.rng lo hi):=by
     unfold xT at hr;split at hr
     ·rename_i hx; cases hr; exact so.obj i _ a hx ea
     ·cases hr
    obtain⟨t,u,v,ho⟩:=I.hok a _ hH;have hn:Lw lo hi 1=((hi - lo).toNat:JF):=by rw[O3]; split <;> omega
    refine jQ hh ho (Ri b1 b2 b3 b4) hn b5 λh' tk acc hk hle hacc=>?_
    have hv:Vals ((JN (hi - lo).toNat).map λ(k:JF)=>V.int (lo+(k:JL))) acc.toList:=by
     refine o8 (by rw[Jz,J6,Kr,hacc.1]) λi v u e1 e2=>?_
     rw[JJ,JC]at e1;obtain⟨k,e1,rfl⟩:=e1;obtain⟨hk,rfl⟩:=JU.mp e1;obtain⟨t,rfl⟩:=hacc.2 i u (by rw[<- Lm]; exact e2)
     exact⟨t,by simp⟩
    have hnn:H h'.objs.size=td:=I.hok.fresh hle;refine⟨.ref h'.objs.size,_,A,I.laid (a:=h'.objs.size) (o:=.tup ((JN (hi - lo).toNat).map λ(k:JF)=>V.int (lo+(k:JL)))) (t':=tk) (λb o e=>JI _ (hk b o e)) hle ⟨⟨by simpa using b5,NoD.new _ _ _⟩,acc.toList,hv,?_⟩,rfl,dS (.inl hnn),so.lay hnn,.tup (.inl (.inl bM)) (o9 _)⟩
    exact⟨_,J1 _ rfl,rfl,0,by simp⟩
   ·cases e
  ·exact kH pins s σ H A S _ vs us w S' I so rl rv e
 ·exact kH pins s σ H A S _ vs us w S' I so rl rv e
end
section
variable{X:Cx}{pins:Jy (JK×Ll)}{σ:L2.St}{H:Hp}{s:JD}{A:Jy JK}{S:aa}
theorem vP (hh:X.A.handled=td)(hu:X.A.units+12 < cLine):LCall X (.builtin "min") Bs:=by
 intro pins s σ H A S xs vs us w S' I so rl rv e;cases rl with
 | nil=>cases e
 | cons r t=>
  cases t with
  | cons _ _=>cases r <;> cases e
  | nil=>
   cases rv with
   | cons ru rv2=>
    cases rv2;cases r with
    | ref ea=>
     simp only[Bs]at e;split at e
     ·rename_i ws hw;split at e
      ·rename_i ks hk;split at e
       ·rename_i hc;rw[JC]at e;obtain⟨w',e1,e2⟩:=e;cases e2;obtain⟨vs',h1,r1⟩:=dq so hw ea;obtain⟨its,rv1,p,hz⟩:=I.list h1;obtain rfl:_=Ky _:=ru;have hws:T.ws ks=ws:=W.ts_w hk;have hT:IsTs s.heap ks its:=g7 I ks (hws ▸ r1) rv1;have hl:its.length=ks.length:=hT.length.symm;have hlw:ws.length=ks.length:=by rw[r1.length,L2.Vals.length rv1,hl]
        have hn:0 < ks.length:=by
         have:=(JU.mp e1).1;omega
        refine xY (items:=its.toArray) (bt:=C0 ks) hh p.isList (by simpa [hl]using hn) (λi j vi vj s' Q E hk' hi hj hq=>?_) λv h' tk hv hk'=>?_
        ·have hi':i < ks.length:=by
          have:=(LY.mp hi).1
          simpa [hl]using this
         have hj':j < ks.length:=by
          have:=(LY.mp hj).1
          simpa [hl]using this
         have g:=hT.kept (h':=s'.heap) λb o _ e=>hk' b o e
         have e1:vi=its[i]'(by omega):=by
          have:=(LY.mp hi).2
          simpa using this.symm
         have e2:vj=its[j]'(by omega):=by
          have:=(LY.mp hj).2
          simpa using this.symm
         subst e1 e2;have b1:=eR (ks:=ks) i hi';have b2:=eR (ks:=ks) j hj';exact Gh fw _ _ _ _ X.A.in1 s' _ (by omega) (by omega) (g.get i hi' (by omega)) (g.get j hj' (by omega)) (by rw[bU]; unfold fw; omega) (yc hc.2 hi' hj') X.prog X.w _ _ hq
        ·have hv':its[pi ks]?=gV v:=by
          have:its.toArray.size=ks.length:=by simpa using hl
          rw[this]at hv
          simpa [pi]using hv
         obtain⟨v',q1,q2⟩:=r1.get e1;obtain⟨u',q3,q4⟩:=L2.Vals.get rv1 q1;rw[hv']at q3;cases q3;exact⟨v',H,A,I.kept hk',q4,.refl,so,q2⟩
       ·cases e
      ·cases e
     ·cases e
    | _=>cases e
theorem og:∀ {ws:Jy W} {bs:Jy Kc},lQ ws=gV bs->ws=bs.map W.bl
 | [],bs,h=>by cases h; rfl
 | .bl b::ws,bs,h=>by
  simp only[lQ,JC]at h;obtain⟨r,h1,h2⟩:=h;subst h2;rw[og h1]; rfl
 | .non::_,_,h|.int _::_,_,h|.str _::_,_,h|.tup _::_,_,h|.ref _::_,_,h=>by cases h
theorem sI {bs:Jy Kc}{vs:Jy V}{us:Jy JB}(r:RelL X.K A H (bs.map W.bl) vs)(rv:Vals vs us):us=bs.map MA:=by
 induction bs generalizing vs us with
 | nil=>cases r; cases rv; rfl
 | cons b bs ih=>
  cases r with
  | cons r1 r2=>
   cases rv with
   | cons v1 v2=>
    cases r1;obtain rfl:_=MA b:=v1;rw[ih r2 v2]; rfl
theorem vQ (bs:Jy Kc):(JN bs.length).all (λi=>bs.getD i false)=bs.all id:=by
 induction bs with
 | nil=>rfl
 | cons b bs ih=>simp[Oe,Of,NQ]at ih ⊢; rw[ih]
theorem Ej {id:K8}{fb:Jy Kc->Kc}{g:Jy W->aa->JE (W×aa)}(hg:∀xs S,g xs S=match xs with|[.ref i]=>(match iH S i with|some ws=>(lQ ws).map λbs=>(.bl (fb bs),S)|none=>td)|_=>td)
  (hcall:∀ {s:JD} {x:JB} {Q:JB->JD->Prop} {E:JB->JD->Prop} {bs:Jy Kc},wpAny (model X.prog X.w) X.A.in1 (pyIter x) (λit s₂=>∃I fp wr P St,it=.ref I/\Se X.prog X.w X.A.in1 I fp wr bs.length P St/\St 0 s₂.heap/\TruthOf X.prog X.w X.A.in1 P (λi=>bs.getD i false)/\
   ∀h' tk,(∀b o,b∉wr->s₂.heap.get? b=gV o->h'.get? b=gV o)->Q (.bool (fb bs)) { s₂ with heap:=h',toks:=tk }) E s->wpAny (model X.prog X.w) X.A (call (.builtin id) [x]) Q E s)
  (hh:X.A.handled=td):LCall X (.builtin id) g:=by
 intro pins s σ H A S xs vs us w S' I so rl rv e;rw[hg]at e;cases rl with
 | nil=>cases e
 | cons r t=>
  cases t with
  | cons _ _=>cases r <;> cases e
  | nil=>
   cases rv with
   | cons ru rv2=>
    cases rv2;cases r with
    | @ref ri ad ea=>
     simp only at e;split at e
     ·rename_i ws hw;rw[JC]at e;obtain⟨bs,e1,e2⟩:=e;cases e2;obtain⟨vs',h1,r1⟩:=dq so hw ea;obtain⟨its,rv1,p,hz⟩:=I.list h1;obtain rfl:_=Ky _:=ru;rw[og e1]at r1;have hits:=sI r1 rv1;refine hcall (bs:=bs) ?_;refine NP p.isList ?_;have hlt:ad < s.heap.objs.size:=by obtain⟨_,ho,_⟩:=p.isList; exact J2 ho
      have W:=RS (prog:=X.prog) (w:=X.w) (A:=X.A.in1) hh s.heap.objs.size ad (Kj hlt) its.toArray;have hsz:its.toArray.size=bs.length:=by rw[JV,hits,Jz]
      rw[hsz]at W;refine⟨_,_,_,_,_,rfl,W,⟨⟨_,J1 _ rfl,rfl,rfl⟩,?_⟩,λi v s' Q E hi hq=>?_,λh' tk hk=>?_⟩
      ·obtain⟨o,ho,hc⟩:=p.isList;exact⟨o,JI _ ho,hc⟩
      ·have hb:bs[i]?.map MA=gV v:=by rw[<- JJ,<- hits]; simpa using hi
       cases q:bs[i]? with
       | none=>rw[q]at hb; cases hb
       | some b=>
        rw[q]at hb;cases hb;have eb:bs.getD i false=b:=by simp[q]
        have hq:Q (bs.getD i false) s':=hq;rw[eb]at hq;exact LN hq
      ·refine⟨.bl (fb bs),H,A,I.kept (λb o e=>hk b o (λz=>?_) (JI _ e)),rfl,.refl,so,.bl⟩
       have hb:=J2 e;rw[J0.mp z]at hb;exact KQ _ hb
     ·cases e
    | _=>cases e
theorem vR (hh:X.A.handled=td):LCall X (.builtin "all") Gi:=
 Ej (fb:=λbs=>bs.all id) (λxs S=>rfl) (λ{s x Q E bs} h=>call_all_walk (Lu h (λit s₂ ⟨I,fp,wr,P,St',a,b,c,d,f⟩=>⟨I,fp,wr,_,P,St',_,a,b,c,d,λh' tk hk=>by rw[vQ]; exact f h' tk hk⟩) λ_ _ e=>e)) hh
end
noncomputable abbrev FA:=Fm->aa->JE (Jy W×aa)
noncomputable abbrev FT:=Fm->aa->JE (Kc×aa)
inductive Out where
 | nx (ρ:Fm)|rt (w:W)|bk (ρ:Fm)|ct (ρ:Fm)
noncomputable abbrev FS:=Fm->aa->JE (Out×aa)
section
variable (X:Cx)
noncomputable def tE (f:FE):TE:=λσ H Q=>∃A ρ S w S',EnvRel X.K A H ρ σ/\StoreOk X.w X.K A H S/\f ρ S=gV (w,S')/\∀v H',EndV X.w X.K A H S' w v H'->Q v H'
noncomputable def EndB (A:Jy JK)(H:Hp)(S':aa)(k:Kc):Kc->Hp->Prop:=λb H'=>b=k/\∃A',Ext X.K A H A' H'/\StoreOk X.w X.K A' H' S'
noncomputable def tT (f:FT):TT:=λσ H Q=>∃A ρ S k S',EnvRel X.K A H ρ σ/\StoreOk X.w X.K A H S/\f ρ S=gV (k,S')/\∀b H',EndB X A H S' k b H'->Q b H'
noncomputable def Ek (A:Jy JK)(H:Hp)(S':aa)(ws:Jy W):Jy V->Hp->Prop:=λvs H'=>∃A',Ext X.K A H A' H'/\StoreOk X.w X.K A' H' S'/\RelL X.K A' H' ws vs
noncomputable def tA (f:FA):TA:=λσ H Q=>∃A ρ S ws S',EnvRel X.K A H ρ σ/\StoreOk X.w X.K A H S/\f ρ S=gV (ws,S')/\∀vs H',Ek X A H S' ws vs H'->Q vs H'
noncomputable def EndS (A:Jy JK)(H:Hp)(o:Out)(S':aa):Ends where
 nx:=λσ' H'=>∃ρ' A',o=.nx ρ'/\Ext X.K A H A' H'/\StoreOk X.w X.K A' H' S'/\EnvRel X.K A' H' ρ' σ'
 rt:=λv H'=>∃w A',o=.rt w/\Ext X.K A H A' H'/\StoreOk X.w X.K A' H' S'/\Rel X.K A' H' w v
 bk:=λσ' H'=>∃ρ' A',o=.bk ρ'/\Ext X.K A H A' H'/\StoreOk X.w X.K A' H' S'/\EnvRel X.K A' H' ρ' σ'
 ct:=λσ' H'=>∃ρ' A',o=.ct ρ'/\Ext X.K A H A' H'/\StoreOk X.w X.K A' H' S'/\EnvRel X.K A' H' ρ' σ'
structure Imp (E D:Ends):Prop where
 nx:∀σ H,E.nx σ H->D.nx σ H
 rt:∀v H,E.rt v H->D.rt v H
 bk:∀σ H,E.bk σ H->D.bk σ H
 ct:∀σ H,E.ct σ H->D.ct σ H
noncomputable def tS (f:FS):TS:=λD σ H=>∃A ρ S o S',EnvRel X.K A H ρ σ/\StoreOk X.w X.K A H S/\f ρ S=gV (o,S')/\Imp (EndS X A H o S') D
noncomputable abbrev GE (e:J9)(f:FE):Prop:=PE X e (tE X f)
noncomputable abbrev GT (e:J9)(f:FT):Prop:=PT X e (tT X f)
noncomputable abbrev GW (e:J9)(f:FT):Prop:=PW X e (tT X f)
noncomputable abbrev GA (es:Jy J9)(f:FA):Prop:=PA X es (tA X f)
noncomputable abbrev GS (st:Mg)(f:FS):Prop:=PS X st (tS X f)
noncomputable abbrev GSs (sts:Jy Mg)(f:FS):Prop:=PSs X sts (tS X f)
end
theorem Imp.trans {E D F:Ends}(a:Imp E D)(b:Imp D F):Imp E F:=⟨λ_ _ h=>b.nx _ _ (a.nx _ _ h),λ_ _ h=>b.rt _ _ (a.rt _ _ h),λ_ _ h=>b.bk _ _ (a.bk _ _ h),λ_ _ h=>b.ct _ _ (a.ct _ _ h)⟩
section
variable{X:Cx}
theorem GE.of {e:J9}{t:TE}{f:FE}(h:PE X e t)(hf:∀(σ:L2.St) (H:Hp) (A:Jy JK) (ρ:Fm) (S:aa) (w:W) (S':aa),EnvRel X.K A H ρ σ->StoreOk X.w X.K A H S->f ρ S=gV (w,S')->∀Q:VK,(∀v H',EndV X.w X.K A H S' w v H'->Q v H')->t σ H Q):GE X e f:=
 λpins s σ H Q I ⟨A,ρ,S,w,S',er,so,e1,hq⟩=>h pins s σ H Q I (hf σ H A ρ S w S' er so e1 Q hq)
theorem GT.of {e:J9}{t:TT}{f:FT}(h:PT X e t)(hf:∀(σ:L2.St) (H:Hp) (A:Jy JK) (ρ:Fm) (S:aa) (k:Kc) (S':aa),EnvRel X.K A H ρ σ->StoreOk X.w X.K A H S->f ρ S=gV (k,S')->∀Q:Kc->Hp->Prop,(∀b H',EndB X A H S' k b H'->Q b H')->t σ H Q):GT X e f:=
 λpins s σ H Q I ⟨A,ρ,S,w,S',er,so,e1,hq⟩=>h pins s σ H Q I (hf σ H A ρ S w S' er so e1 Q hq)
theorem GW.of {e:J9}{t:TT}{f:FT}(h:PW X e t)(hf:∀(σ:L2.St) (H:Hp) (A:Jy JK) (ρ:Fm) (S:aa) (k:Kc) (S':aa),EnvRel X.K A H ρ σ->StoreOk X.w X.K A H S->f ρ S=gV (k,S')->∀Q:Kc->Hp->Prop,(∀b H',EndB X A H S' k b H'->Q b H')->t σ H Q):GW X e f:=
 λwh pins s σ H Q I ⟨A,ρ,S,w,S',er,so,e1,hq⟩=>h wh pins s σ H Q I (hf σ H A ρ S w S' er so e1 Q hq)
theorem GA.of {es:Jy J9}{t:TA}{f:FA}(h:PA X es t)(hf:∀(σ:L2.St) (H:Hp) (A:Jy JK) (ρ:Fm) (S:aa) (ws:Jy W) (S':aa),EnvRel X.K A H ρ σ->StoreOk X.w X.K A H S->f ρ S=gV (ws,S')->∀Q:Jy V->Hp->Prop,(∀vs H',Ek X A H S' ws vs H'->Q vs H')->t σ H Q):GA X es f:=
 λpos pins s σ H Q I ⟨A,ρ,S,w,S',er,so,e1,hq⟩=>h pos pins s σ H Q I (hf σ H A ρ S w S' er so e1 Q hq)
theorem GS.of {st:Mg}{t:TS}{f:FS}(h:PS X st t)(hf:∀(σ:L2.St) (H:Hp) (A:Jy JK) (ρ:Fm) (S:aa) (o:Out) (S':aa),EnvRel X.K A H ρ σ->StoreOk X.w X.K A H S->f ρ S=gV (o,S')->∀D:Ends,Imp (EndS X A H o S') D->t D σ H):GS X st f:=
 λpins s σ H D I ⟨A,ρ,S,o,S',er,so,e1,hq⟩=>h pins s σ H D I (hf σ H A ρ S o S' er so e1 D hq)
theorem GSs.of {st:Jy Mg}{t:TS}{f:FS}(h:PSs X st t)(hf:∀(σ:L2.St) (H:Hp) (A:Jy JK) (ρ:Fm) (S:aa) (o:Out) (S':aa),EnvRel X.K A H ρ σ->StoreOk X.w X.K A H S->f ρ S=gV (o,S')->∀D:Ends,Imp (EndS X A H o S') D->t D σ H):GSs X st f:=
 λpins s σ H D I ⟨A,ρ,S,o,S',er,so,e1,hq⟩=>h pins s σ H D I (hf σ H A ρ S o S' er so e1 D hq)
theorem EndV.after {A A1:Jy JK}{H H1:Hp}{S':aa}{w:W}{v:V}{H':Hp}(e:Ext X.K A H A1 H1)(h:EndV X.w X.K A1 H1 S' w v H'):EndV X.w X.K A H S' w v H':=by
 obtain⟨A',x,y,z⟩:=h;exact⟨A',e.trans x,y,z⟩
theorem EndB.after {A A1:Jy JK}{H H1:Hp}{S':aa}{k b:Kc}{H':Hp}(e:Ext X.K A H A1 H1)(h:EndB X A1 H1 S' k b H'):EndB X A H S' k b H':=by
 obtain⟨h1,A',x,y⟩:=h;exact⟨h1,A',e.trans x,y⟩
theorem EndS.after {A A1:Jy JK}{H H1:Hp}{S':aa}{o:Out}(e:Ext X.K A H A1 H1):Imp (EndS X A1 H1 o S') (EndS X A H o S'):=
 ⟨λ_ _ ⟨ρ',A',a,b,c,d⟩=>⟨ρ',A',a,e.trans b,c,d⟩,λ_ _ ⟨ρ',A',a,b,c,d⟩=>⟨ρ',A',a,e.trans b,c,d⟩,λ_ _ ⟨ρ',A',a,b,c,d⟩=>⟨ρ',A',a,e.trans b,c,d⟩,λ_ _ ⟨ρ',A',a,b,c,d⟩=>⟨ρ',A',a,e.trans b,c,d⟩⟩
noncomputable def fC (w:W):FE:=λ_ S=>gV (w,S)
noncomputable def fV (i:JF):FE:=λρ S=>match ρ[i]? with
 | some (gV w)=>gV (w,S)
 | _=>td
theorem qM {e:J9}{v:V}{w:W}(h:PE X e (tC v))(r:∀A H,Rel X.K A H w v):GE X e (fC w):=
 GE.of h λσ H A ρ S w' S' er so e Q hq=>by cases e; exact hq _ _ (.here so (r A H))
theorem Iw {i:JF}{e:J9}(h:PE X e (FB i)):GE X e (fV i):=GE.of h λσ H A ρ S w S' er so e Q hq=>by
 unfold fV at e;split at e
 ·rename_i w' hw;cases e;obtain⟨v,h1,h2⟩:=er.2 i _ hw;exact⟨v,h1,hq _ _ (.here so h2)⟩
 ·cases e
noncomputable def Bt (g:W->W->aa->JE (W×aa))(fa fb:FE):FE:=λρ S=>match fa ρ S with
 | some (x,S1)=>match fb ρ S1 with
  | some (y,S2)=>g x y S2
  | none=>td
 | none=>td
theorem Hz {fa fb:FE}{g:W->W->aa->JE (W×aa)}{ρ:Fm}{S:aa}{r:W×aa}(e:Bt g fa fb ρ S=gV r):∃x S1 y S2,fa ρ S=gV (x,S1)/\fb ρ S1=gV (y,S2)/\g x y S2=gV r:=by
 unfold Bt at e;split at e
 ·rename_i x S1 h1;split at e
  ·rename_i y S2 h2;exact⟨x,S1,y,S2,h1,h2,e⟩
  ·cases e
 ·cases e
theorem jf {fa fb:FE}{ρ:Fm}{S S1 S2:aa}{x y:W}{σ:L2.St}{H:Hp}{A:Jy JK}{R:V->V->Hp->Prop}(er:EnvRel X.K A H ρ σ)(so:StoreOk X.w X.K A H S)(h1:fa ρ S=gV (x,S1))(h2:fb ρ S1=gV (y,S2))
  (h:∀a b H2 A2,Ext X.K A H A2 H2->StoreOk X.w X.K A2 H2 S2->Rel X.K A2 H2 x a->Rel X.K A2 H2 y b->R a b H2):tE X fa σ H λa H1=>tE X fb σ H1 λb H2=>R a b H2:=by
 refine⟨A,ρ,S,x,S1,er,so,h1,λa H1 ⟨A1,e1,o1,r1⟩=>?_⟩
 refine⟨A1,ρ,S1,y,S2,er.mono e1,o1,h2,λb H2 ⟨A2,e2,o2,r2⟩=>?_⟩
 exact h a b H2 A2 (e1.trans e2) o2 (r1.mono e2) r2
theorem LOp.opr {f:JB->JB->Rv JB}{g:W->W->aa->JE (W×aa)}(h:LOp X f g):OpR X f (λa b H Q=>∃A S x y w S',StoreOk X.w X.K A H S/\Rel X.K A H x a/\Rel X.K A H y b/\g x y S=gV (w,S')/\∀v H',EndV X.w X.K A H S' w v H'->Q v H'):=by
 intro pins s σ H a b u v Q I ru rv ⟨A,S,x,y,w,S',so,rx,ry,e,hq⟩;exact cu (h pins s σ H A S x y a b u v w S' I so rx ru ry rv e) λu' s' ⟨v',H',A',I',r',e1,o1,z1⟩=>⟨v',H',I',r',hq v' H' ⟨A',e1,o1,z1⟩⟩
theorem C3 {a b:J9}{op:Py}{pos:L0}{fa fb:FE}{g:W->W->aa->JE (W×aa)}(ho:LOp X (binaryOp op) g)(ha:GE X a fa)(hb:GE X b fb):GE X (.BinOp a op b pos) (Bt g fa fb):=
 GE.of (FX ho.opr ha hb) λσ H A ρ S w S' er so e Q hq=>by
  obtain⟨x,S1,y,S2,h1,h2,h3⟩:=Hz e;exact jf er so h1 h2 λa b H2 A2 e2 o2 r1 r2=>⟨A2,S2,x,y,w,S',o2,r1,r2,h3,λv H' z=>hq v H' (z.after e2)⟩
noncomputable def yf (fa:FE):FE:=λρ S=>match fa ρ S with
 | some (.int i,S1)=>gV (.int (-i),S1)
 | _=>td
theorem yg {a:J9}{pos:L0}{fa:FE}(ha:GE X a fa):GE X (.UnaryOp .USub a pos) (yf fa):=
 GE.of (FY DX ha) λσ H A ρ S w S' er so e Q hq=>by
  unfold yf at e;split at e
  ·rename_i i S1 h1;cases e;refine⟨A,ρ,S,_,_,er,so,h1,λv H1 ⟨A1,e1,o1,r1⟩=>?_⟩
   cases r1;exact⟨_,rfl,hq _ _ ⟨A1,e1,o1,.int⟩⟩
  ·cases e
noncomputable def Bu (o:COp)(fa fb:FE):FE:=Bt (cv o) fa fb
theorem El {a b:J9}{o:COp}{pos:L0}{fa fb:FE}(hu:X.A.units+iI < cLine)(ha:GE X a fa)(hb:GE X b fb)(hm:behindInMarks o.py b=false):GE X (.Compare a [o.py] [b] pos) (Bu o fa fb):=
 GE.of (AH (qC hu o).opr ha hb hm) λσ H A ρ S w S' er so e Q hq=>by
  obtain⟨x,S1,y,S2,h1,h2,h3⟩:=Hz e;exact jf er so h1 h2 λa b H2 A2 e2 o2 r1 r2=>⟨A2,S2,x,y,w,S',o2,r1,r2,h3,λv H' z=>hq v H' (z.after e2)⟩
noncomputable def yh (f:FE):FT:=λρ S=>match f ρ S with
 | some (.bl k,S')=>gV (k,S')
 | _=>td
theorem Em {a b:J9}{o:COp}{pos:L0}{fa fb:FE}(hu:X.A.units+iI < cLine)(ha:GE X a fa)(hb:GE X b fb)(hm:behindInMarks o.py b=false):GT X (.Compare a [o.py] [b] pos) (yh (Bu o fa fb)):=
 GT.of (AI (qC hu o).opr ha hb hm) λσ H A ρ S k S' er so e Q hq=>by
  unfold yh at e;split at e
  ·rename_i k' S'' h0;cases e;obtain⟨x,S1,y,S2,h1,h2,h3⟩:=Hz h0;refine jf er so h1 h2 λa b H2 A2 e2 o2 r1 r2=>⟨A2,S2,x,y,_,_,o2,r1,r2,h3,λv H' ⟨A',z1,z2,z3⟩=>?_⟩
   cases z3;exact⟨k,rfl,hq _ _ ⟨rfl,A',e2.trans z1,z2⟩⟩
  ·cases e
noncomputable def ic (f:FE):FT:=λρ S=>match f ρ S with
 | some (w,S')=>(ff S' w).map λk=>(k,S')
 | none=>td
theorem dt {e:J9}{f:FE}(h:GE X e f)(he:∀whole,isTrue e X.env whole=(do let v <- whole; standAt e.pos; holding [v] (truthy v))):GT X e (ic f):=by
 intro pins s σ H Q I ⟨A,ρ,S,k,S',er,so,e1,hq⟩;unfold ic at e1;split at e1
 ·rename_i w S1 h1;rw[JC]at e1;obtain⟨k',ek,e2⟩:=e1;cases e2;refine isTrue_plain (cu (h pins s σ H (EndV X.w X.K A H _ w) I ⟨A,ρ,S,w,_,er,so,h1,λ_ _ z=>z⟩) λv s1 ⟨x,H1,I1,r1,A1,e1,o1,z1⟩=>?_) (he _)
  exact Iu I1 o1 z1 r1 ek λs' I'=>⟨H1,I',hq _ _ ⟨rfl,A1,e1,o1⟩⟩
 ·cases e1
noncomputable def yi (f g:FT):FT:=λρ S=>match f ρ S with
 | some (true,S1)=>g ρ S1
 | some (false,S1)=>gV (false,S1)
 | none=>td
noncomputable def Gj (f g:FT):FT:=λρ S=>match f ρ S with
 | some (true,S1)=>gV (true,S1)
 | some (false,S1)=>g ρ S1
 | none=>td
noncomputable def Bv (f:FT):FT:=λρ S=>match f ρ S with
 | some (k,S1)=>gV (!k,S1)
 | none=>td
theorem yj {f g:FT}{σ:L2.St}{H:Hp}{A:Jy JK}{ρ:Fm}{S:aa}{k:Kc}{S':aa}(er:EnvRel X.K A H ρ σ)(so:StoreOk X.w X.K A H S)(e:yi f g ρ S=gV (k,S'))(Q:Kc->Hp->Prop)(hq:∀b H',EndB X A H S' k b H'->Q b H') :
  FC (tT X f) (tT X g) σ H Q:=by
 unfold yi at e;split at e
 ·rename_i S1 h1;refine⟨A,ρ,S,true,S1,er,so,h1,λb H1 ⟨z0,A1,z1,z2⟩=>?_⟩
  subst z0;rw[Kd rfl];exact⟨A1,ρ,S1,k,S',er.mono z1,z2,e,λb H' q=>hq b H' (q.after z1)⟩
 ·rename_i S1 h1;cases e;refine⟨A,ρ,S,false,_,er,so,h1,λb H1 ⟨z0,A1,z1,z2⟩=>?_⟩
  subst z0;rw[Ku J5];exact hq _ _ ⟨rfl,A1,z1,z2⟩
 ·cases e
theorem Bw {f g:FT}{σ:L2.St}{H:Hp}{A:Jy JK}{ρ:Fm}{S:aa}{k:Kc}{S':aa}(er:EnvRel X.K A H ρ σ)(so:StoreOk X.w X.K A H S)(e:Gj f g ρ S=gV (k,S'))(Q:Kc->Hp->Prop)(hq:∀b H',EndB X A H S' k b H'->Q b H') :
  Jd (tT X f) (tT X g) σ H Q:=by
 unfold Gj at e;split at e
 ·rename_i S1 h1;cases e;refine⟨A,ρ,S,true,_,er,so,h1,λb H1 ⟨z0,A1,z1,z2⟩=>?_⟩
  subst z0;rw[Kd rfl];exact hq _ _ ⟨rfl,A1,z1,z2⟩
 ·rename_i S1 h1;refine⟨A,ρ,S,false,S1,er,so,h1,λb H1 ⟨z0,A1,z1,z2⟩=>?_⟩
  subst z0;rw[Ku J5];exact⟨A1,ρ,S1,k,S',er.mono z1,z2,e,λb H' q=>hq b H' (q.after z1)⟩
 ·cases e
theorem Bx {a:J9}{pos:L0}{f:FT}(h:GT X a f):GW X (.BoolOp .And [a] pos) f:=Ay h
theorem En {a:J9}{pos:L0}{f:FT}(h:GT X a f):GW X (.BoolOp .Or [a] pos) f:=Dz h
theorem Eo {a b:J9}{r:Jy J9}{pos:L0}{f g:FT}(h:GT X a f)(h2:GW X (.BoolOp .And (b::r) pos) g):GW X (.BoolOp .And (a::b::r) pos) (yi f g):=
 GW.of (DA h h2) λσ H A ρ S k S' er so e Q hq=>yj er so e Q hq
theorem Gk {a b:J9}{r:Jy J9}{pos:L0}{f g:FT}(h:GT X a f)(h2:GW X (.BoolOp .Or (b::r) pos) g):GW X (.BoolOp .Or (a::b::r) pos) (Gj f g):=
 GW.of (FD h h2) λσ H A ρ S k S' er so e Q hq=>Bw er so e Q hq
theorem Er {a:J9}{pos:L0}{f:FT}(h:GT X a f):GT X (.UnaryOp .Not a pos) (Bv f):=
 GT.of (DB h) λσ H A ρ S k S' er so e Q hq=>by
  unfold Bv at e;split at e
  ·rename_i k1 S1 h1;cases e;refine⟨A,ρ,S,k1,_,er,so,h1,λb H1 ⟨z0,A1,z1,z2⟩=>?_⟩
   subst z0;exact hq _ _ ⟨rfl,A1,z1,z2⟩
  ·cases e
noncomputable def um (f g:FE):FE:=λρ S=>match f ρ S with
 | some (.bl true,S1)=>g ρ S1
 | some (.bl false,S1)=>gV (.bl false,S1)
 | _=>td
noncomputable def By (f g:FE):FE:=λρ S=>match f ρ S with
 | some (.bl true,S1)=>gV (.bl true,S1)
 | some (.bl false,S1)=>g ρ S1
 | _=>td
noncomputable def uq (f:FE):FE:=λρ S=>match f ρ S with
 | some (.bl k,S1)=>gV (.bl (!k),S1)
 | _=>td
theorem Et {a:J9}{op:RV}{pos:L0}{f:FE}(h:GE X a f):GE X (.BoolOp op [a] pos) f:=DC h
theorem Eu {a b:J9}{r:Jy J9}{pos:L0}{f g:FE}(h:GE X a f)(h2:GE X (.BoolOp .And (b::r) pos) g):GE X (.BoolOp .And (a::b::r) pos) (um f g):=
 GE.of (DD h h2) λσ H A ρ S w S' er so e Q hq=>by
  unfold um at e;split at e
  ·rename_i S1 h1;refine⟨A,ρ,S,_,S1,er,so,h1,λv H1 ⟨A1,z1,z2,z3⟩=>?_⟩
   cases z3;refine⟨true,rfl,?_⟩;rw[Kd rfl];exact⟨A1,ρ,S1,w,S',er.mono z1,z2,e,λb H' q=>hq b H' (q.after z1)⟩
  ·rename_i S1 h1;cases e;refine⟨A,ρ,S,_,_,er,so,h1,λv H1 ⟨A1,z1,z2,z3⟩=>?_⟩
   cases z3;refine⟨false,rfl,?_⟩;rw[Ku J5];exact hq _ _ ⟨A1,z1,z2,.bl⟩
  ·cases e
theorem Gm {a b:J9}{r:Jy J9}{pos:L0}{f g:FE}(h:GE X a f)(h2:GE X (.BoolOp .Or (b::r) pos) g):GE X (.BoolOp .Or (a::b::r) pos) (By f g):=
 GE.of (FK h h2) λσ H A ρ S w S' er so e Q hq=>by
  unfold By at e;split at e
  ·rename_i S1 h1;cases e;refine⟨A,ρ,S,_,_,er,so,h1,λv H1 ⟨A1,z1,z2,z3⟩=>?_⟩
   cases z3;refine⟨true,rfl,?_⟩;rw[Kd rfl];exact hq _ _ ⟨A1,z1,z2,.bl⟩
  ·rename_i S1 h1;refine⟨A,ρ,S,_,S1,er,so,h1,λv H1 ⟨A1,z1,z2,z3⟩=>?_⟩
   cases z3;refine⟨false,rfl,?_⟩;rw[Ku J5];exact⟨A1,ρ,S1,w,S',er.mono z1,z2,e,λb H' q=>hq b H' (q.after z1)⟩
  ·cases e
theorem Ev {a:J9}{pos:L0}{f:FE}(h:GE X a f):GE X (.UnaryOp .Not a pos) (uq f):=
 GE.of (DE h) λσ H A ρ S w S' er so e Q hq=>by
  unfold uq at e;split at e
  ·rename_i k1 S1 h1;cases e;refine⟨A,ρ,S,_,_,er,so,h1,λb H1 ⟨A1,z1,z2,z3⟩=>?_⟩
   cases z3;exact⟨_,rfl,hq _ _ ⟨A1,z1,z2,.bl⟩⟩
  ·cases e
noncomputable def Bz (c:FT)(f g:FE):FE:=λρ S=>match c ρ S with
 | some (true,S1)=>f ρ S1
 | some (false,S1)=>g ρ S1
 | none=>td
theorem Ew {c a b:J9}{pos:L0}{fc:FT}{f g:FE}(hc:GT X c fc)(ha:GE X a f)(hb:GE X b g):GE X (.IfExp c a b pos) (Bz fc f g):=
 GE.of (xj hc ha hb) λσ H A ρ S w S' er so e Q hq=>by
  unfold Bz at e;split at e
  ·rename_i S1 h1;refine⟨A,ρ,S,_,S1,er,so,h1,λb H1 ⟨z0,A1,z1,z2⟩=>?_⟩
   subst z0;rw[Kd rfl];exact⟨A1,ρ,S1,w,S',er.mono z1,z2,e,λb H' q=>hq b H' (q.after z1)⟩
  ·rename_i S1 h1;refine⟨A,ρ,S,_,S1,er,so,h1,λb H1 ⟨z0,A1,z1,z2⟩=>?_⟩
   subst z0;rw[Ku J5];exact⟨A1,ρ,S1,w,S',er.mono z1,z2,e,λb H' q=>hq b H' (q.after z1)⟩
  ·cases e
noncomputable def jR:FA:=λ_ S=>gV ([],S)
noncomputable def eT (f:FE)(g:FA):FA:=λρ S=>match f ρ S with
 | some (w,S1)=>match g ρ S1 with
  | some (ws,S2)=>gV (w::ws,S2)
  | none=>td
 | none=>td
theorem Ex:GA X [] jR:=GA.of xr λσ H A ρ S ws S' er so e Q hq=>by cases e; exact hq _ _ ⟨A,.refl,so,.nil⟩
theorem BA {e:J9}{es:Jy J9}{f:FE}{g:FA}(h:GE X e f)(h2:GA X es g)(hs:starEach (e::es) X.env=(false,eval e X.env)::starEach es X.env):GA X (e::es) (eT f g):=
 GA.of (oN h h2 hs) λσ H A ρ S ws S' er so e Q hq=>by
  unfold eT at e;split at e
  ·rename_i w S1 h1;split at e
   ·rename_i ws2 S2 h2;cases e;refine⟨A,ρ,S,w,S1,er,so,h1,λv H1 ⟨A1,z1,z2,z3⟩=>?_⟩
    refine⟨A1,ρ,S1,ws2,_,er.mono z1,z2,h2,λvs H2 ⟨A2,y1,y2,y3⟩=>?_⟩
    exact hq _ _ ⟨A2,z1.trans y1,y2,.cons (z3.mono y1) y3⟩
   ·cases e
  ·cases e
noncomputable def yk (f:FA):FE:=λρ S=>match f ρ S with
 | some (ws,S1)=>sy S1 ws
 | none=>td
noncomputable def ym (f:FA):FE:=λρ S=>match f ρ S with
 | some (ws,S1)=>mX S1 ws
 | none=>td
theorem yn {es:Jy J9}{k:JF}{pos:L0}{f:FA}(h:GA X es f):GE X (.Tuple es k pos) (yk f):=
 GE.of (D0 h) λσ H A ρ S w S' er so e Q hq=>by
  unfold yk at e;split at e
  ·rename_i ws S1 h1;obtain⟨hl,rfl,rfl⟩:=tV e;refine⟨A,ρ,S,ws,_,er,so,h1,λvs H1 ⟨A1,z1,z2,z3⟩=>⟨by rw[<- z3.length]; exact hl,λp hp=>?_⟩⟩
   exact hq _ _ (EndV.after z1 (.tup z2 z3 hp))
  ·cases e
theorem yo {es:Jy J9}{pos:L0}{f:FA}(h:GA X es f):GE X (.List es pos) (ym f):=
 GE.of (D2 h) λσ H A ρ S w S' er so e Q hq=>by
  unfold ym at e;split at e
  ·rename_i ws S1 h1;obtain⟨hl,rfl,rfl⟩:=lm e;refine⟨A,ρ,S,ws,_,er,so,h1,λvs H1 ⟨A1,z1,z2,z3⟩=>⟨by rw[<- z3.length]; exact hl,λp hp=>?_⟩⟩
   exact hq _ _ (EndV.after z1 (.lst z2 z3 hp))
  ·cases e
noncomputable def kM (g:Jy W->aa->JE (W×aa))(f:FA):FE:=λρ S=>match f ρ S with
 | some (ws,S1)=>g ws S1
 | none=>td
theorem LCall.callr {v:JB}{g:Jy W->aa->JE (W×aa)}(h:LCall X v g):CallR X v (λvs H Q=>∃A S ws w S',StoreOk X.w X.K A H S/\RelL X.K A H ws vs/\g ws S=gV (w,S')/\∀v H',EndV X.w X.K A H S' w v H'->Q v H'):=by
 intro pins s σ H vs us Q I rv ⟨A,S,ws,w,S',so,rl,e,hq⟩;exact cu (h pins s σ H A S ws vs us w S' I so rl rv e) λu' s' ⟨v',H',A',I',r',e1,o1,z1⟩=>⟨v',H',I',r',hq v' H' ⟨A',e1,o1,z1⟩⟩
theorem oh {g:Jy W->aa->JE (W×aa)}{f:FA}{σ:L2.St}{H:Hp}{A:Jy JK}{ρ:Fm}{S:aa}{w:W}{S':aa}(er:EnvRel X.K A H ρ σ)(so:StoreOk X.w X.K A H S)(e:kM g f ρ S=gV (w,S'))(Q:VK)(hq:∀v H',EndV X.w X.K A H S' w v H'->Q v H') :
  tA X f σ H λvs H1=>∃A S ws w S',StoreOk X.w X.K A H1 S/\RelL X.K A H1 ws vs/\g ws S=gV (w,S')/\∀v H',EndV X.w X.K A H1 S' w v H'->Q v H':=by
 unfold kM at e;split at e
 ·rename_i ws S1 h1;exact⟨A,ρ,S,ws,S1,er,so,h1,λvs H1 ⟨A1,z1,z2,z3⟩=>⟨A1,S1,ws,w,S',z2,z3,e,λv H' q=>hq v H' (q.after z1)⟩⟩
 ·cases e
theorem ur {id:K8}{x:JZ}{e:J9}{es:Jy J9}{p pos:L0}{f:FA}{g:Jy W->aa->JE (W×aa)}(hc:LCall X (.builtin id) g)(hg:Gl X x)(hm:X.mg x=td)(hv:bootBuiltins x=gV (.builtin id))(ha:GA X (e::es) f)
  (hn:x≠"__name__") (hdb:(x==("__debug__" : JZ))=false) (hs:starEach (e::es) X.env=(false,eval e X.env)::starEach es X.env) (hpl:(backTo pos (starEach es X.env)).any (·.1)=false):GE X (.Call (.Name x p) (e::es) [] pos) (kM g f):=
 GE.of (qk hc.callr hg hm hv ha hn hdb hs hpl) λσ H A ρ S w S' er so e Q hq=>oh er so e Q hq
theorem ut {id:K8}{x:JZ}{e:J9}{es:Jy J9}{p pos:L0}{f:FA}{g:Jy W->aa->JE (W×aa)}(hc:LCall X (.type id) g)(hg:Gl X x)(hm:X.mg x=td)(hv:bootBuiltins x=gV (.type id))(ha:GA X (e::es) f)
  (hn:x≠"__name__") (hdb:(x==("__debug__" : JZ))=false) (hs:starEach (e::es) X.env=(false,eval e X.env)::starEach es X.env) (hpl:(backTo pos (starEach es X.env)).any (·.1)=false):GE X (.Call (.Name x p) (e::es) [] pos) (kM g f):=
 GE.of (vx hc.callr hg hm hv ha hn hdb hs hpl) λσ H A ρ S w S' er so e Q hq=>oh er so e Q hq
end
noncomputable def tyOk (T:K8)(S:aa):W->Kc
 | .str _=>T == "str"
 | .tup _=>T == "tuple"
 | .ref i=>(T == "list" && (iH S i).isSome)||(T == "dict" && (kW S i).isSome)
 | _=>false
noncomputable def Fq (T:K8)(g:W->Jy W->aa->JE (W×aa))(fo:FE)(f:FA):FE:=λρ S=>match fo ρ S with
 | some (x,S1)=>if tyOk T S1 x then match f ρ S1 with
  | some (ws,S2)=>g x ws S2
  | none=>td
  else td
 | none=>td
noncomputable def Ix (fa fb:FE):FE:=Bt kK fa fb
noncomputable abbrev FO:=Fm->aa->JE (JE JL×aa)
noncomputable def Ey:FO:=λ_ S=>gV (td,S)
noncomputable def uu (f:FE):FO:=λρ S=>match f ρ S with
 | some (.int i,S1)=>gV (gV i,S1)
 | _=>td
noncomputable def Gn (fa:FE)(fl fh:FO):FE:=λρ S=>match fa ρ S with
 | some (x,S1)=>match fl ρ S1 with
  | some (lo,S2)=>match fh ρ S2 with
   | some (hi,S3)=>sB x lo hi S3
   | none=>td
  | none=>td
 | none=>td
section
variable{X:Cx}
theorem LMeth.mtr {id:K8}{g:W->Jy W->aa->JE (W×aa)}(h:LMeth X id g):MtR X id (λa vs H Q=>∃A S x ws w S',StoreOk X.w X.K A H S/\Rel X.K A H x a/\RelL X.K A H ws vs/\g x ws S=gV (w,S')/\∀v H',EndV X.w X.K A H S' w v H'->Q v H'):=by
 intro pins s σ H a vs u us Q I ru rv ⟨A,S,x,ws,w,S',so,rx,rl,e,hq⟩;exact cu (h pins s σ H A S x a u ws vs us w S' I so rx ru rl rv e) λu' s' ⟨v',H',A',I',r',e1,o1,z1⟩=>⟨v',H',I',r',hq v' H' ⟨A',e1,o1,z1⟩⟩
theorem Ez {pins:Jy (JK×Ll)}{σ:L2.St}{s:JD}{H:Hp}{a:JK}{xs:Jy V}(I:Inv X pins σ H s)(h:SqT X.K H a xs):s.TypeIs (.ref a) "tuple"/\∃o,s.heap.get? a=gV o/\o.dict=td:=by
 rcases h with h|⟨o,its,n,hk,hc,hd,_⟩
 ·obtain⟨z,its,r,p⟩:=h.ok I.hok;exact⟨p.typeIs,z.2⟩
 ·exact⟨⟨o,I.kIn a o hk,hc⟩,o,I.kIn a o hk,hd⟩
theorem tyOk.is {pins:Jy (JK×Ll)}{σ:L2.St}{s:JD}{A:Jy JK}{H:Hp}{S:aa}{T:K8}{x:W}{a:V}{v:JB}(I:Inv X pins σ H s)(so:StoreOk X.w X.K A H S)(r:Rel X.K A H x a)(rv:RelV a v)(h:tyOk T S x=true) :
  s.TypeIs v T/\∀b,v=.ref b->∃ob,s.heap.get? b=gV ob/\ob.dict=td:=by
 cases r with
 | str=>exact xB I rv (show Io X.K T (.str _) H from eq_of_beq h)
 | tup hq r1=>
  obtain⟨h1,h2⟩:=Ez I hq;have e:=eq_of_beq (show(T == "tuple")=true from h)
  subst e;obtain rfl:v=Ky _:=rv;exact⟨h1,λb e=>by cases e; exact h2⟩
 | ref ea=>
  simp only[tyOk,LP,JH]at h;rcases h with⟨h1,h2⟩|⟨h1,h2⟩
  ·obtain⟨xs,hx⟩:=KR.mp h2;obtain⟨vs,h3,_⟩:=dq so hx ea;exact xB I rv (show Io X.K T (.ref _) H from .inl ⟨eq_of_beq h1,vs,h3⟩)
  ·obtain⟨kvs,hx⟩:=KR.mp h2;obtain⟨xs,rd,_⟩:=gL so hx ea;obtain⟨_,_,_,o,es,ep,q1,q2,q3,q4⟩:=dk I rd;have e:=eq_of_beq h1;subst e;obtain rfl:v=Ky _:=rv;exact⟨⟨o,q1,q2.1⟩,λb e=>by cases e; exact⟨o,q1,q2.2.1⟩⟩
 | _=>cases h
theorem ol {o e:J9}{es:Jy J9}{name:JZ}{apos cpos:L0}{T id:K8}{g:W->Jy W->aa->JE (W×aa)}{fo:FE}{f:FA}(pa:PlainAttrs T)(slot:Slot T name id)(hty:typeOf (.builtin id)=pure (.type "method_descriptor"))(hm:LMeth X id g)
  (ho:GE X o fo) (ha:GA X (e::es) f) (hbase:attributeBase o name X.env (eval o X.env)=eval o X.env)
  (hfew:((backTo cpos (starEach (e::es) X.env)).all (λx=>!x.1)&&(backToKw cpos (keywordEach [] X.env)).all (λx=>x.1.isSome)
   && decide ((e::es).length+([]:Jy Qt).length+(if ([]:Jy Qt).isEmpty then 0 else 1) < 30))=true)
  (hline:(apos.endLine==cpos.line)=true) (hs:starEach (e::es) X.env=(false,eval e X.env)::starEach es X.env) (hplain:(backTo cpos (starEach es X.env)).any (·.1)=false) :
  GE X (.Call (.Attribute o name apos) (e::es) [] cpos) (Fq T g fo f):=by
 intro pins s σ H Q I ⟨A,ρ,S,w,S',er,so,e,hq⟩;unfold Fq at e;split at e
 ·rename_i x S1 h1;split at e
  ·rename_i ht;split at e
   ·rename_i ws S2 h2;refine wpAny_Call_method_late hbase hfew hline rfl (cu (ho pins s σ H (EndV X.w X.K A H S1 x) I ⟨A,ρ,S,_,_,er,so,h1,λ_ _ z=>z⟩) λv s1 ⟨a,H1,I1,r1,A1,e1,o1,z1⟩=>?_)
    obtain⟨t1,t2⟩:=tyOk.is I1 o1 z1 r1 ht;refine⟨T,id,pa,slot,hty,t1,t2,?_⟩;have hA:=ha cpos pins s1 σ H1 (Ek X A1 H1 S2 ws) I1 ⟨A1,ρ,S1,ws,S2,er.mono e1,o1,h2,λ_ _ z=>z⟩
    rw[hs]at hA ⊢;refine Calls.callWith_builtin (by show(false||(backTo cpos (starEach es X.env)).any (·.1))=false; rw[hplain] <;> rfl) (Calls.evalArgs_plain ?_)
    refine cu hA λus s2 ⟨vs,H2,I2,r2,A2,e2,o2,z2⟩=>?_
    refine cu (hm pins s2 σ H2 A2 S2 x a v ws vs us w S' I2 o2 (z1.mono e2) r1 z2 r2 e) λu' s' ⟨v',H',A',I',r',e3,o3,z3⟩=>?_
    exact⟨v',H',I',r',hq v' H' ⟨A',(e1.trans e2).trans e3,o3,z3⟩⟩
   ·cases e
  ·cases e
 ·cases e
theorem LIx.ixr {g:W->W->aa->JE (W×aa)}(h:LIx X g):IxR X (λa b H Q=>∃A S x y w S',StoreOk X.w X.K A H S/\Rel X.K A H x a/\Rel X.K A H y b/\g x y S=gV (w,S')/\∀v H',EndV X.w X.K A H S' w v H'->Q v H'):=by
 intro value slice pins s σ H a b u v Q I ru rv ⟨A,S,x,y,w,S',so,rx,ry,e,hq⟩ hs;exact cu (h value slice pins s σ H A S x y a b u v w S' I so rx ru ry rv e hs) λu' s' ⟨v',H',A',I',r',e1,o1,z1⟩=>⟨v',H',I',r',hq v' H' ⟨A',e1,o1,z1⟩⟩
theorem Go {a b:J9}{pos:L0}{fa fb:FE}(hu:X.A.units+10 < cLine)(ha:GE X a fa)(hb:GE X b fb)(hs:oQ b):GE X (.Subscript a b pos) (Ix fa fb):=
 GE.of (Ga (Iv hu).ixr ha hb hs) λσ H A ρ S w S' er so e Q hq=>by
  obtain⟨x,S1,y,S2,h1,h2,h3⟩:=Hz e;exact jf er so h1 h2 λa b H2 A2 e2 o2 r1 r2=>⟨A2,S2,x,y,w,S',o2,r1,r2,h3,λv H' z=>hq v H' (z.after e2)⟩
noncomputable def tO (X:Cx)(f:FO):TO:=λσ H Q=>∃A ρ S k S',EnvRel X.K A H ρ σ/\StoreOk X.w X.K A H S/\f ρ S=gV (k,S')/\∀H' A',Ext X.K A H A' H'->StoreOk X.w X.K A' H' S'->Q k H'
noncomputable abbrev GO (X:Cx)(e:JE J9)(f:FO):Prop:=PO X e (tO X f)
theorem BB:GO X td Ey:=λpins s σ H Q I ⟨A,ρ,S,k,S',er,so,e,hq⟩=>by
 cases e;exact AN pins s σ H Q I (hq H A .refl so)
theorem BC {e:J9}{f:FE}(h:GE X e f):GO X (gV e) (uu f):=λpins s σ H Q I ⟨A,ρ,S,k,S',er,so,e,hq⟩=>by
 unfold uu at e;split at e
 ·rename_i i S1 h1;cases e;refine AO h pins s σ H Q I ⟨A,ρ,S,_,_,er,so,h1,λv H1 ⟨A1,z1,z2,z3⟩=>?_⟩
  cases z3;exact⟨i,rfl,hq H1 A1 z1 z2⟩
 ·cases e
theorem LSl.slr {g:W->JE JL->JE JL->aa->JE (W×aa)}(h:LSl X g):F9 X (λa lo hi H Q=>∃A S x w S',StoreOk X.w X.K A H S/\Rel X.K A H x a/\g x lo hi S=gV (w,S')/\∀v H',EndV X.w X.K A H S' w v H'->Q v H'):=by
 intro pins s σ H a v vl vu lo hi sl Q I rv hs pl pu ⟨A,S,x,w,S',so,rx,e,hq⟩;obtain⟨T,id,h1,h2,h3⟩:=h pins s σ H A S x a v vl vu lo hi sl w S' I so rx rv hs pl pu e;exact⟨T,id,h1,h2,cu h3 λu' s' ⟨v',H',A',I',r',e1,o1,z1⟩=>⟨v',H',I',r',hq v' H' ⟨A',e1,o1,z1⟩⟩⟩
theorem Gp {a:J9}{lo hi:JE J9}{p2 pos:L0}{fa:FE}{fl fh:FO}(ha:GE X a fa)(hl:GO X lo fl)(hh:GO X hi fh):GE X (.Subscript a (.Slice lo hi td p2) pos) (Gn fa fl fh):=
 GE.of (xz Jt.slr ha hl hh) λσ H A ρ S w S' er so e Q hq=>by
  unfold Gn at e;split at e
  ·rename_i x S1 h1;split at e
   ·rename_i l S2 h2;split at e
    ·rename_i h S3 h3;refine⟨A,ρ,S,x,S1,er,so,h1,λv H1 ⟨A1,z1,z2,z3⟩=>?_⟩
     refine⟨A1,ρ,S1,l,S2,er.mono z1,z2,h2,λH2 A2 y1 y2=>?_⟩
     refine⟨A2,ρ,S2,h,S3,er.mono (z1.trans y1),y2,h3,λH3 A3 x1 x2=>?_⟩
     exact⟨A3,S3,x,w,S',x2,(z3.mono y1).mono x1,e,λv H' q=>hq v H' (q.after ((z1.trans y1).trans x1))⟩
    ·cases e
   ·cases e
  ·cases e
noncomputable abbrev FF:=Jy W->aa->JE (W×aa)
noncomputable def yp (wd:Kv)(K:JP)(n:JF)(g:FF):Sp:=λvs H Q _=>∃A S ws w S',StoreOk wd K A H S/\RelL K A H ws vs/\ws.length=n/\g ws S=gV (w,S')/\∀v H',EndV wd K A H S' w v H'->Q v H'
noncomputable def qN (n:JF)(g:FF)(f:FA):FE:=λρ S=>match f ρ S with
 | some (ws,S1)=>if ws.length=n then g ws S1 else td
 | none=>td
theorem qO {n:JF}{g:FF}{f:FA}{σ:L2.St}{H:Hp}{A:Jy JK}{ρ:Fm}{S:aa}{w:W}{S':aa}{E:XK}(er:EnvRel X.K A H ρ σ)(so:StoreOk X.w X.K A H S)(e:qN n g f ρ S=gV (w,S'))(Q:VK)(hq:∀v H',EndV X.w X.K A H S' w v H'->Q v H') :
  xu (yp X.w X.K n g) [] E (tA X f) σ H Q:=by
 unfold qN at e;split at e
 ·rename_i ws S1 h1;split at e
  ·rename_i hl;refine⟨A,ρ,S,ws,S1,er,so,h1,λvs H1 ⟨A1,z1,z2,z3⟩=>?_⟩
   show yp X.w X.K n g (vs++[]) H1 Q E;rw[K6];exact⟨A1,S1,ws,w,S',z2,z3,hl,e,λv H' q=>hq v H' (q.after z1)⟩
  ·cases e
 ·cases e
theorem EA {k n:JF}{fa:JK}{fd:LX}{ps:Jy JZ}{g:FF}{x:JZ}{e:J9}{es:Jy J9}{p pos:L0}{f:FA}(F:FnOk X.prog X.w X.K X.mg X.base w6 k fa fd ps (yp X.w X.K n g))(hr:Room k X.A)(hg:Gl X x)(hm:X.mg x=gV (.ref fa))(hk:Lg X.K (.ref fa)=true)
  (hb:Binds X.K fd ps []) (ha:GA X (e::es) f) (hdb:(x==("__debug__" : JZ))=false) (he:starEach (e::es) X.env=(false,eval e X.env)::starEach es X.env) (hpl:(backTo pos (starEach es X.env)).any (·.1)=false) :
  GE X (.Call (.Name x p) (e::es) [] pos) (qN n g f):=
 GE.of (AJ F hr hg hm hk hb .nil CW ha hdb he hpl) λσ H A ρ S w S' er so e Q hq=>qO er so e Q hq
theorem BE {k n:JF}{fa:JK}{fd:LX}{ps:Jy JZ}{g:FF}{x:JZ}{p pos:L0}(F:FnOk X.prog X.w X.K X.mg X.base w6 k fa fd ps (yp X.w X.K n g))(hr:Room k X.A)(hg:Gl X x)(hm:X.mg x=gV (.ref fa))(hk:Lg X.K (.ref fa)=true)
  (hb:Binds X.K fd ps []) (hdb:(x==("__debug__" : JZ))=false):GE X (.Call (.Name x p) [] [] pos) (qN n g jR):=
 GE.of (xw F hr hg hm hk hb .nil CW hdb) λσ H A ρ S w S' er so e Q hq=>by
  obtain⟨A1,S1,ws,w1,S1',a1,a2,a3,a4,a5⟩:=qO (f:=jR) (E:=E0) er so e Q hq |> λ⟨A,ρ,S,ws,S',b1,b2,b3,b4⟩=>b4 [] H (by cases b3; exact⟨A,.refl,b2,.nil⟩)
  exact⟨A1,S1,ws,w1,S1',a1,a2,a3,a4,a5⟩
theorem BF:GSs X [] (λρ S=>gV (.nx ρ,S)):=GSs.of Az λσ H A ρ S o S' er so e D hd=>by cases e; exact hd.nx _ _ ⟨ρ,A,rfl,.refl,so,er⟩
noncomputable def BG (f g:FS):FS:=λρ S=>match f ρ S with
 | some (.nx ρ',S1)=>g ρ' S1
 | some (.rt w,S1)=>gV (.rt w,S1)
 | some (.bk ρ',S1)=>gV (.bk ρ',S1)
 | some (.ct ρ',S1)=>gV (.ct ρ',S1)
 | none=>td
theorem yq {st:Mg}{sts:Jy Mg}{f g:FS}(h:GS X st f)(h2:GSs X sts g):GSs X (st::sts) (BG f g):=GSs.of (xm h h2) λσ H A ρ S o S' er so e D hd=>by
 unfold BG at e;split at e
 ·rename_i ρ1 S1 h1;refine⟨A,ρ,S,_,_,er,so,h1,⟨λσ' H' ⟨ρ',A',e1,e2,e3,e4⟩=>?_,λv H' ⟨w,A',e1,_⟩=>(by cases e1),λv H' ⟨w,A',e1,_⟩=>(by cases e1),λv H' ⟨w,A',e1,_⟩=>(by cases e1)⟩⟩
  cases e1;exact⟨A',_,S1,o,S',e4,e3,e,(EndS.after e2).trans hd⟩
 ·rename_i w S1 h1;cases e;exact⟨A,ρ,S,_,_,er,so,h1,⟨λσ' H' ⟨w,A',e1,_⟩=>(by cases e1),hd.rt,hd.bk,hd.ct⟩⟩
 ·rename_i w S1 h1;cases e;exact⟨A,ρ,S,_,_,er,so,h1,⟨λσ' H' ⟨w,A',e1,_⟩=>(by cases e1),hd.rt,hd.bk,hd.ct⟩⟩
 ·rename_i w S1 h1;cases e;exact⟨A,ρ,S,_,_,er,so,h1,⟨λσ' H' ⟨w,A',e1,_⟩=>(by cases e1),hd.rt,hd.bk,hd.ct⟩⟩
 ·cases e
noncomputable def BH (f:FE):FS:=λρ S=>match f ρ S with
 | some (_,S1)=>gV (.nx ρ,S1)
 | none=>td
theorem Gq {e:J9}{pos:L0}{f:FE}(h:GE X e f)(hs:swapsWith e td pos.line X.env=pure false):GS X (.Expr e pos) (BH f):=GS.of (AB h hs) λσ H A ρ S o S' er so e D hd=>by
 unfold BH at e;split at e
 ·rename_i w S1 h1;cases e;exact⟨A,ρ,S,w,_,er,so,h1,λv H1 ⟨A1,z1,z2,z3⟩=>hd.nx _ _ ⟨ρ,A1,rfl,z1,z2,er.mono z1⟩⟩
 ·cases e
noncomputable def yr:FS:=λρ S=>gV (.nx ρ,S)
theorem EB {x:JZ}{j:JF}{pos pos':L0}:GS X (.Expr (.Constant (.str x) j pos) pos') yr:=GS.of DG λσ H A ρ S o S' er so e D hd=>by cases e; exact hd.nx _ _ ⟨ρ,A,rfl,.refl,so,er⟩
theorem BI {pos:L0}:GS X (.Pass pos) yr:=GS.of AA λσ H A ρ S o S' er so e D hd=>by cases e; exact hd.nx _ _ ⟨ρ,A,rfl,.refl,so,er⟩
theorem yt {pos:L0}:GS X (.Break pos) (λρ S=>gV (.bk ρ,S)):=GS.of xn λσ H A ρ S o S' er so e D hd=>by cases e; exact hd.bk _ _ ⟨ρ,A,rfl,.refl,so,er⟩
theorem BJ {pos:L0}:GS X (.Continue pos) (λρ S=>gV (.ct ρ,S)):=GS.of qh λσ H A ρ S o S' er so e D hd=>by cases e; exact hd.ct _ _ ⟨ρ,A,rfl,.refl,so,er⟩
noncomputable def BK (f:FE):FS:=λρ S=>match f ρ S with
 | some (w,S1)=>gV (.rt w,S1)
 | none=>td
theorem EC {e:J9}{pos:L0}{f:FE}(h:GE X e f):GS X (.Return (gV e) pos) (BK f):=GS.of (DH h) λσ H A ρ S o S' er so e D hd=>by
 unfold BK at e;split at e
 ·rename_i w S1 h1;cases e;exact⟨A,ρ,S,w,_,er,so,h1,λv H1 ⟨A1,z1,z2,z3⟩=>hd.rt _ _ ⟨w,A1,rfl,z1,z2,z3⟩⟩
 ·cases e
theorem BL {pos:L0}:GS X (.Return td pos) (λρ S=>gV (.rt .non,S)):=GS.of AC λσ H A ρ S o S' er so e D hd=>by cases e; exact hd.rt _ _ ⟨_,A,rfl,.refl,so,.non⟩
noncomputable def BM (c:FT)(f g:FS):FS:=λρ S=>match c ρ S with
 | some (true,S1)=>f ρ S1
 | some (false,S1)=>g ρ S1
 | none=>td
theorem Gr {c:J9}{a b:Jy Mg}{pos:L0}{fc:FT}{f g:FS}(hc:GT X c fc)(ha:GSs X a f)(hb:GSs X b g):GS X (.If c a b pos) (BM fc f g):=GS.of (FP hc ha hb) λσ H A ρ S o S' er so e D hd=>by
 unfold BM at e;split at e
 ·rename_i S1 h1;refine⟨A,ρ,S,_,S1,er,so,h1,λb H1 ⟨z0,A1,z1,z2⟩=>?_⟩
  subst z0;rw[Kd rfl];exact⟨A1,ρ,S1,o,S',er.mono z1,z2,e,(EndS.after z1).trans hd⟩
 ·rename_i S1 h1;refine⟨A,ρ,S,_,S1,er,so,h1,λb H1 ⟨z0,A1,z1,z2⟩=>?_⟩
  subst z0;rw[Ku J5];exact⟨A1,ρ,S1,o,S',er.mono z1,z2,e,(EndS.after z1).trans hd⟩
 ·cases e
noncomputable abbrev FG:=W->Fm->aa->JE (Fm×aa)
noncomputable def tG (X:Cx)(f:FG):TG:=λv σ H Q=>∃A ρ S w ρ' S',EnvRel X.K A H ρ σ/\StoreOk X.w X.K A H S/\Rel X.K A H w v/\f w ρ S=gV (ρ',S')/\∀σ' H' A',Ext X.K A H A' H'->StoreOk X.w X.K A' H' S'->EnvRel X.K A' H' ρ' σ'->Q σ' H'
noncomputable abbrev GG (X:Cx)(tg:J9)(f:FG):Prop:=PG X tg (tG X f)
noncomputable def BN (i:JF):FG:=λw ρ S=>gV (ρ.set i (gV w),S)
theorem uw {i:JF}{x:JZ}{pos:L0}(hN:X.N.Nodup)(hi:X.N[i]?=gV x)(hx:Aw X.env.scope x)(hf:X.fn x=true\/X.env.scope.names.lookup x=gV .local):GG X (.Name x pos) (BN i):=by
 intro pins s σ H v u Q I r ⟨A,ρ,S,w,ρ',S',er,so,rw',e,hq⟩;cases e;exact tN hN hi hx hf pins s σ H v u Q I r (hq _ _ A .refl so (er.set rw' i))
noncomputable def d7:Jy JF->Jy W->Fm->JE Fm
 | [],[],ρ=>gV ρ
 | i::is,w::ws,ρ=>d7 is ws (ρ.set i (gV w))
 | _,_,_=>td
noncomputable def Fs (is:Jy JF):FG:=λw ρ S=>match w with
 | .tup ws=>(d7 is ws ρ).map λρ'=>(ρ',S)
 | _=>td
theorem vS:∀ {ts:Jy J9} {is:Jy JF},(∀x∈ts,∃y p,x=.Name y p)->N8 (λ(t:J9) (i:JF)=>∃x p,t=OU x p/\X.N[i]?=gV x/\Aw X.env.scope x/\(X.fn x=true\/X.env.scope.names.lookup x=gV .local)) ts is->X.N.Nodup->
  FQ X ts (λvs σ H Q=>∃A ρ ws ρ' S,EnvRel X.K A H ρ σ/\StoreOk X.w X.K A H S/\RelL X.K A H ws vs/\d7 is ws ρ=gV ρ'/\∀σ',EnvRel X.K A H ρ' σ'->Q σ' H):=by
 intro ts
 induction ts with
 | nil=>
  intro is _ h hN;cases h;intro pins s σ H vs us Q I r ⟨A,ρ,ws,ρ',S,er,so,rl,e,hq⟩;cases rl with
  | nil=>cases e; exact AD pins s σ H [] us Q I r ⟨rfl,hq _ er⟩
  | cons _ _=>cases e
 | cons t ts ih=>
  intro is hs h hN;cases h with
  | cons h1 h2=>
   obtain⟨x,p,rfl,hi,hl,hf⟩:=h1;have:=ih (λy hy=>hs y (K1 _ hy)) h2 hN
   intro pins s σ H vs us Q I r ⟨A,ρ,ws,ρ',S,er,so,rl,e,hq⟩;cases rl with
   | nil=>cases e
   | cons r1 r2=>
    refine xo (tN hN hi hl hf) this rfl pins s σ H _ us Q I r ⟨_,_,rfl,?_⟩;exact⟨A,_,_,ρ',S,er.set r1 _,so,r2,e,hq⟩
theorem ED {ts:Jy J9}{is:Jy JF}{k:JF}{pos:L0}(hc:X.calm=true)(hs:∀x∈ts,∃y p,x=.Name y p)(h:N8 (λ(t:J9) (i:JF)=>∃x p,t=OU x p/\X.N[i]?=gV x/\Aw X.env.scope x/\(X.fn x=true\/X.env.scope.names.lookup x=gV .local)) ts is)(hN:X.N.Nodup)
  (hn:(assignEach ts X.env).length=ts.length) (hst:(assignEach ts X.env).findIdx? (·.1)=td):GG X (.Tuple ts k pos) (Fs is):=by
 intro pins s σ H v u Q I r ⟨A,ρ,S,w,ρ',S',er,so,rw',e,hq⟩;unfold Fs at e;split at e
 ·rw[JC]at e;obtain⟨ρ1,e1,e2⟩:=e;cases e2;cases rw' with
  | tup h1 r1=>
   have hl:∀(is:Jy JF) (ws:Jy W) (ρ ρ':Fm),d7 is ws ρ=gV ρ'->is.length=ws.length:=by
    intro is
    induction is with
    | nil=>intro ws ρ ρ' e; cases ws <;> first|rfl|cases e
    | cons i is ih=>intro ws ρ ρ' e; cases ws <;> first|cases e|(simp; exact ih _ _ _ e)
   exact DL hc (vS hs h hN) hn hst pins s σ H _ u Q I r ⟨_,_,rfl,h1,by rw[<- r1.length,<- hl _ _ _ _ e1,<- NT h],A,ρ,_,_,_,er,so,r1,e1,λσ' z=>hq _ _ A .refl so z⟩
 ·cases e
noncomputable def BO (fo fi:FE):FG:=λw ρ S=>match fo ρ S with
 | some (o,S1)=>match fi ρ S1 with
  | some (i,S2)=>match jd o i w S2 with
   | some S3=>gV (ρ,S3)
   | none=>td
  | none=>td
 | none=>td
theorem LSet.pset {g:W->W->W->aa->JE aa}(h:LSet X g):DK X (λao ai av H Q=>∃A S o i w S',StoreOk X.w X.K A H S/\Rel X.K A H o ao/\Rel X.K A H i ai/\Rel X.K A H w av/\g o i w S=gV S'/\∀H' A',Ext X.K A H A' H'->StoreOk X.w X.K A' H' S'->Q H'):=by
 intro pins s σ H ao ai av uo ui uv Q I ro ri rv ⟨A,S,o,i,w,S',so,r1,r2,r3,e,hq⟩;exact cu (h pins s σ H A S o i w ao ai av uo ui uv S' I so r1 ro r2 ri r3 rv e) λ_ s' ⟨H',A',I',e1,o1⟩=>⟨H',I',hq H' A' e1 o1⟩
theorem EE {o i:J9}{pos:L0}{fo fi:FE}(hu:X.A.units+10 < cLine)(ho:GE X o fo)(hi:GE X i fi)(ha:∀v,assign (.Subscript o i pos) X.env v=(do
   let ov <- holding [v] (eval o X.env)
   let iv <- holding [v,ov] (eval i X.env)
   standAt pos
   holding [v,ov,iv] (setItem ov iv v)
   release [v,ov,iv] [])):GG X (.Subscript o i pos) (BO fo fi):=by
 intro pins s σ H v u Q I r ⟨A,ρ,S,w,ρ',S',er,so,rw',e,hq⟩;unfold BO at e;split at e
 ·rename_i o' S1 h1;split at e
  ·rename_i i' S2 h2;split at e
   ·rename_i S3 h3;cases e;refine DM ho hi (Gf hu).pset ha pins s σ H v u Q I r ?_;refine⟨A,ρ,S,o',S1,er,so,h1,λa H1 ⟨A1,e1,o1,r1⟩=>?_⟩
    refine⟨A1,ρ,S1,i',S2,er.mono e1,o1,h2,λb H2 ⟨A2,e2,o2,r2⟩=>?_⟩
    exact⟨A2,S2,o',i',w,_,o2,r1.mono e2,r2,rw'.mono (e1.trans e2),h3,λH' A' z1 z2=>hq σ H' A' ((e1.trans e2).trans z1) z2 (er.mono ((e1.trans e2).trans z1))⟩
   ·cases e
  ·cases e
 ·cases e
noncomputable def lT (f:FE)(g:FG):FS:=λρ S=>match f ρ S with
 | some (w,S1)=>match g w ρ S1 with
  | some (ρ',S2)=>gV (.nx ρ',S2)
  | none=>td
 | none=>td
theorem sJ {tg e:J9}{pos:L0}{f:FE}{g:FG}(h:GE X e f)(hg:GG X tg g)(hs:swapsWithSole [tg] e pos.line X.env=pure false)(hw:swappedStores [tg] e X.env=pure td)(h1:(assignEach [tg] X.env).map (·.2)=[assign tg X.env]) :
  GS X (.Assign [tg] e pos) (lT f g):=GS.of (DN h hg hs hw h1) λσ H A ρ S o S' er so e D hd=>by
 unfold lT at e;split at e
 ·rename_i w S1 h1;split at e
  ·rename_i ρ1 S2 h2;cases e;refine⟨A,ρ,S,w,S1,er,so,h1,λv H1 ⟨A1,z1,z2,z3⟩=>?_⟩
   exact⟨A1,ρ,S1,w,ρ1,_,er.mono z1,z2,z3,h2,λσ' H' A' y1 y2 y3=>hd.nx _ _ ⟨ρ1,A',rfl,z1.trans y1,y2,y3⟩⟩
  ·cases e
 ·cases e
noncomputable def BP (i j:JF)(f:FA):FS:=λρ S=>match f ρ S with
 | some ([x,y],S1)=>gV (.nx ((ρ.set i (gV x)).set j (gV y)),S1)
 | _=>td
theorem EF {i j:JF}{x y:JZ}{a b:J9}{f:FA}{px py pt pos:L0}{kt k2:JF}{pt2:L0}(hc:X.calm=true)(hN:X.N.Nodup)(hi:X.N[i]?=gV x)(hj:X.N[j]?=gV y)(hij:i≠j)
  (hx:X.env.scope.names.lookup x=gV .local) (hy:X.env.scope.names.lookup y=gV .local) (ha:GA X [a,b] f)
  (hw:swappedStores [.Tuple [.Name x px,.Name y py] kt pt] (.Tuple [a,b] k2 pt2) X.env=pure (gV [x,y]))
  (hs:swapsWithSole [.Tuple [.Name x px,.Name y py] kt pt] (.Tuple [a,b] k2 pt2) pos.line X.env=pure false) :
  GS X (.Assign [.Tuple [.Name x px,.Name y py] kt pt] (.Tuple [a,b] k2 pt2) pos) (BP i j f):=GS.of (DO hc hN hi hj hij hx hy ha hw hs) λσ H A ρ S o S' er so e D hd=>by
 unfold BP at e;split at e
 ·rename_i x y S1 h1;cases e;refine⟨A,ρ,S,_,_,er,so,h1,λvs H1 ⟨A1,z1,z2,z3⟩=>?_⟩
  cases z3 with
  | cons r1 t=>
   cases t with
   | cons r2 t=>
    cases t;exact⟨_,_,rfl,hd.nx _ _ ⟨_,A1,rfl,z1,z2,((er.mono z1).set r1 i).set r2 j⟩⟩
 ·cases e
noncomputable def pq (c:FT)(b:FS):JF->FS
 | 0,_,_=>td
 | n+1,ρ,S=>match c ρ S with
  | some (true,S1)=>match b ρ S1 with
   | some (.nx ρ',S2)=>pq c b n ρ' S2
   | some (.ct ρ',S2)=>pq c b n ρ' S2
   | some (.bk ρ',S2)=>gV (.nx ρ',S2)
   | some (.rt w,S2)=>gV (.rt w,S2)
   | none=>td
  | some (false,S1)=>gV (.nx ρ,S1)
  | none=>td
theorem yu {c:J9}{body:Jy Mg}{pos:L0}{fc:FT}{fb:FS}(n:JF)(hp:OT (model X.prog X.w) X.A X.env X.xe)(hc:GT X c fc)(hb:GSs X body fb):GS X (.While c body [] pos) (pq fc fb n):=GS.of (xp hp hc hb) λσ H A ρ S o S' er so e D hd=>by
 refine⟨λm σ1 H1=>∃A1 ρ1 S1,Ext X.K A H A1 H1/\EnvRel X.K A1 H1 ρ1 σ1/\StoreOk X.w X.K A1 H1 S1/\pq fc fb m ρ1 S1=gV (o,S'),⟨n,A,ρ,S,.refl,er,so,e⟩,?_⟩
 rintro m σ1 H1 ⟨A1,ρ1,S1,e1,er1,so1,w1⟩;cases m with
 | zero=>cases w1
 | succ m=>
  simp only[pq]at w1;split at w1
  ·rename_i S2 h1;refine⟨A1,ρ1,S1,_,S2,er1,so1,h1,λb H2 ⟨z0,A2,z1,z2⟩=>?_⟩
   subst z0;rw[Kd rfl];refine⟨λσ3 H3=>∃A3 ρ3 S3,Ext X.K A H A3 H3/\EnvRel X.K A3 H3 ρ3 σ3/\StoreOk X.w X.K A3 H3 S3/\pq fc fb m ρ3 S3=gV (o,S'),λσ' H' h=>⟨m,Mm _,h⟩,?_⟩
   split at w1
   ·rename_i ρ3 S3 h3;refine⟨A2,ρ1,S2,_,S3,er1.mono z1,z2,h3,⟨λσ' H' ⟨ρ',A',y0,y1,y2,y3⟩=>?_,λv H' ⟨w,A',y0,_⟩=>(by cases y0),λv H' ⟨w,A',y0,_⟩=>(by cases y0),λv H' ⟨w,A',y0,_⟩=>(by cases y0)⟩⟩
    cases y0;exact⟨A',_,S3,(e1.trans z1).trans y1,y3,y2,w1⟩
   ·rename_i ρ3 S3 h3;refine⟨A2,ρ1,S2,_,S3,er1.mono z1,z2,h3,⟨λv H' ⟨w,A',y0,_⟩=>(by cases y0),λv H' ⟨w,A',y0,_⟩=>(by cases y0),λv H' ⟨w,A',y0,_⟩=>(by cases y0),λσ' H' ⟨ρ',A',y0,y1,y2,y3⟩=>?_⟩⟩
    cases y0;exact⟨A',_,S3,(e1.trans z1).trans y1,y3,y2,w1⟩
   ·rename_i ρ3 S3 h3;cases w1;refine⟨A2,ρ1,S2,_,_,er1.mono z1,z2,h3,⟨λv H' ⟨w,A',y0,_⟩=>(by cases y0),λv H' ⟨w,A',y0,_⟩=>(by cases y0),λσ' H' ⟨ρ',A',y0,y1,y2,y3⟩=>?_,λv H' ⟨w,A',y0,_⟩=>(by cases y0)⟩⟩
    cases y0;exact hd.nx _ _ ⟨_,A',rfl,(e1.trans z1).trans y1,y2,y3⟩
   ·rename_i w3 S3 h3;cases w1;refine⟨A2,ρ1,S2,_,_,er1.mono z1,z2,h3,⟨λv H' ⟨w,A',y0,_⟩=>(by cases y0),λv H' ⟨w,A',y0,y1,y2,y3⟩=>?_,λv H' ⟨w,A',y0,_⟩=>(by cases y0),λv H' ⟨w,A',y0,_⟩=>(by cases y0)⟩⟩
    cases y0;exact hd.rt _ _ ⟨_,A',rfl,(e1.trans z1).trans y1,y2,y3⟩
   ·cases w1
  ·rename_i S2 h1;cases w1;refine⟨A1,ρ1,S1,_,_,er1,so1,h1,λb H2 ⟨z0,A2,z1,z2⟩=>?_⟩
   subst z0;rw[Ku J5];exact hd.nx _ _ ⟨_,A2,rfl,e1.trans z1,z2,er1.mono z1⟩
  ·cases w1
end
inductive MI where
 | its (ws:Jy W)
 | live (r:JF)
 | zl (r q:JF)
noncomputable def Gs (xs ys:Jy W):Jy W:=JR (λx y=>.tup [x,y]) xs ys
noncomputable def MI.at (S:aa)(i:JF):MI->JE (JE W)
 | .its ws=>gV ws[i]?
 | .live r=>match iH S r with
  | some xs=>gV xs[i]?
  | none=>td
 | .zl r q=>match iH S r,iH S q with
  | some xs,gV ys=>gV (Gs xs ys)[i]?
  | _,_=>td
noncomputable def MI.len (S:aa):MI->JE JF
 | .its ws=>gV ws.length
 | .live r=>(iH S r).map (·.length)
 | .zl r q=>match iH S r,iH S q with
  | some xs,gV ys=>gV (Gs xs ys).length
  | _,_=>td
noncomputable abbrev FI:=Fm->aa->JE (MI×aa)
structure MIt (wd:Kv)(K:JP)(mi:MI)(J:It)(A0:Jy JK)(H0:Hp):Prop where
 go:∀A H S i w,Ext K A0 H0 A H->StoreOk wd K A H S->mi.at S i=gV (gV w)->J.go i H/\∀x H',J.yld i H x H'->Ext K A H A H'/\StoreOk wd K A H' S/\Rel K A H' w x
 stop:∀A H S i,Ext K A0 H0 A H->StoreOk wd K A H S->mi.at S i=gV td->J.stop i H
noncomputable def tI (X:Cx)(f:FI):TI:=λσ H R=>∃A ρ S mi S',EnvRel X.K A H ρ σ/\StoreOk X.w X.K A H S/\f ρ S=gV (mi,S')/\∀J H' A',Ext X.K A H A' H'->StoreOk X.w X.K A' H' S'->MIt X.w X.K mi J A' H'->R J H'
noncomputable abbrev GI (X:Cx)(tg iter:J9)(f:FI):Prop:=PI X tg iter (tI X f)
noncomputable def BQ (f:FE):FI:=λρ S=>match f ρ S with
 | some (.tup ws,S1)=>gV (.its ws,S1)
 | some (.ref r,S1)=>match iH S1 r with
  | some _=>gV (.live r,S1)
  | none=>td
 | _=>td
noncomputable def dJ (lo:JL)(n:JF):Jy W:=(JN n).map λ(k:JF)=>.int (lo+(k:JL))
noncomputable def sK (f:FA):FI:=λρ S=>match f ρ S with
 | some ([.int j],S1)=>if -(2 ^ 62)<=j/\j < 2 ^ 62 then gV (.its (dJ 0 j.toNat),S1)else td
 | _=>td
noncomputable def iRng2 (f:FA):FI:=λρ S=>match f ρ S with
 | some ([.int i,.int j],S1)=>if -(2 ^ 62)<=i/\i < 2 ^ 62/\-(2 ^ 62)<=j/\j < 2 ^ 62 then gV (.its (dJ i (j - i).toNat),S1)else td
 | _=>td
noncomputable def gM (mi:MI)(g:FG)(b:FS):JF->JF->FS
 | 0,i,ρ,S=>match mi.at S i with
  | some td=>gV (.nx ρ,S)
  | _=>td
 | n+1,i,ρ,S=>match mi.at S i with
  | some (gV w)=>match g w ρ S with
   | some (ρ1,S1)=>match b ρ1 S1 with
    | some (.nx ρ2,S2)=>gM mi g b n (i+1) ρ2 S2
    | some (.ct ρ2,S2)=>gM mi g b n (i+1) ρ2 S2
    | some (.bk ρ2,S2)=>gV (.nx ρ2,S2)
    | some (.rt w,S2)=>gV (.rt w,S2)
    | none=>td
   | none=>td
  | _=>td
noncomputable def yv (fi:FI)(g:FG)(b:FS):FS:=λρ S=>match fi ρ S with
 | some (mi,S1)=>match mi.len S1 with
  | some n=>gM mi g b n 0 ρ S1
  | none=>td
 | none=>td
section
variable{X:Cx}
theorem BR {A:Jy JK}{H:Hp}{ws:Jy W}{a:JK}{vs:Jy V}(h:SqT X.K H a vs)(r:RelL X.K A H ws vs):MIt X.w X.K (.its ws) (Fo X.K a) A H:=by
 refine⟨λA' H' S i w e so hi=>?_,λA' H' S i e so hi=>?_⟩
 ·simp only[MI.at,KG]at hi;obtain⟨v,h1,h2⟩:=(r.mono e).get hi;refine⟨⟨vs,v,e.tp _ _ h,h1⟩,λx H2 ⟨z1,z2⟩=>?_⟩
  subst z1;have:=z2 vs (e.tp _ _ h);rw[h1]at this; cases this
  exact⟨.refl,so,h2⟩
 ·simp only[MI.at,KG]at hi;refine⟨vs,e.tp _ _ h,?_⟩;rw[<- r.length];exact LF.mp hi
theorem BS {A:Jy JK}{H:Hp}{r:JF}{a:JK}(ea:A[r]?=gV a):MIt X.w X.K (.live r) (HR X.K a) A H:=by
 refine⟨λA' H' S i w e so hi=>?_,λA' H' S i e so hi=>?_⟩
 ·simp only[MI.at]at hi;split at hi
  ·rename_i xs hx;simp only[KG]at hi;obtain⟨vs,h1,r1⟩:=dq so hx (e.ad _ _ ea);obtain⟨v,h2,h3⟩:=r1.get hi;refine⟨⟨vs,v,h1,h2⟩,λx H2 ⟨z1,z2⟩=>?_⟩
   subst z1;have:=z2 vs h1;rw[h2]at this; cases this
   exact⟨.refl,so,h3⟩
  ·cases hi
 ·simp only[MI.at]at hi;split at hi
  ·rename_i xs hx;simp only[KG]at hi;obtain⟨vs,h1,r1⟩:=dq so hx (e.ad _ _ ea);refine⟨vs,h1,?_⟩;rw[<- r1.length];exact LF.mp hi
  ·cases hi
theorem eU {lo:JL}{n i:JF}:(dJ lo n)[i]?=if i < n then gV (.int (lo+i))else td:=by
 unfold dJ;rw[JJ]
 by_cases h:i < n
 ·rw[Kd h,LQ h]; rfl
 ·rw[Ku h,LF.mpr (by simp; omega)]; rfl
theorem uy {A:Jy JK}{H:Hp}{lo:JL}{n:JF}:MIt X.w X.K (.its (dJ lo n)) (FV lo n) A H:=by
 refine⟨λA' H' S i w e so hi=>?_,λA' H' S i e so hi=>?_⟩
 ·simp only[MI.at,KG]at hi;rw[eU]at hi;split at hi
  ·cases hi;refine⟨by assumption,λx H2 ⟨z1,z2⟩=>?_⟩
   subst z1 z2;exact⟨.refl,so,.int⟩
  ·cases hi
 ·simp only[MI.at,KG]at hi;rw[eU]at hi;split at hi
  ·cases hi
  ·show n<=i;omega
theorem qP {tg:J9}{pins:Jy (JK×Ll)}{σ:L2.St}{H1:Hp}{s1:JD}{R:It->Hp->Prop}{a:JK}{xs:Jy V}{v:JB}(I1:Inv X pins σ H1 s1)(r1:RelV (.ref a) v)(hq:SqL X.K H1 a xs)(q:R (HR X.K a) H1) :
  wpAny (model X.prog X.w) X.A (pyIter v) (Hu X pins σ tg R) X.xe s1:=by
 cases r1;obtain⟨its,rv,p,hz⟩:=I1.list hq;refine NP p.isList ?_;refine⟨s1.heap.objs.size,[s1.heap.objs.size],_,_,H1,rfl,I1.kept (t':=s1.toks) λb o e=>JI _ e,vn a _,⟨_,J1 _ rfl,rfl,rfl⟩,λb hb=>?_,q⟩
 have e:b=s1.heap.objs.size:=by simpa using hb
 subst e;exact I1.fpOk (JO _) (I1.hok.fresh (JO _))
theorem sL {tg:J9}{pins:Jy (JK×Ll)}{σ:L2.St}{H1:Hp}{s1:JD}{R:It->Hp->Prop}{a:JK}{xs:Jy V}{v:JB}(I1:Inv X pins σ H1 s1)(r1:RelV (.ref a) v)(hq:SqT X.K H1 a xs)(q:R (Fo X.K a) H1) :
  wpAny (model X.prog X.w) X.A (pyIter v) (Hu X pins σ tg R) X.xe s1:=by
 cases r1;obtain⟨its,rv,p,hz⟩:=I1.tuple hq;refine Pl (show s1.heap.IsTuple a its.toArray from p) ?_
 refine⟨s1.heap.objs.size,[s1.heap.objs.size],_,_,H1,rfl,I1.kept (t':=s1.toks) λb o e=>JI _ e,sg a _,⟨_,J1 _ rfl,rfl,rfl⟩,λb hb=>?_,q⟩
 have e:b=s1.heap.objs.size:=by simpa using hb
 subst e;exact I1.fpOk (JO _) (I1.hok.fresh (JO _))
theorem BU {tg a:J9}{f:FA}{p pos:L0}(hg:Gl X "range")(hm:X.mg "range" = td)(ha:GA X [a] f)(hs:starEach [a] X.env=[(false,eval a X.env)]):GI X tg (.Call (.Name "range" p) [a] [] pos) (sK f):=by
 intro pins s σ H R I ⟨A,ρ,S,mi,S',er,so,e,hq⟩;unfold sK at e;split at e
 ·rename_i j S1 h1;split at e
  ·rename_i hj;cases e;refine vo hg hm ha hs pins s σ H R I ⟨A,ρ,S,_,_,er,so,h1,λvs H1 ⟨A1,z1,z2,z3⟩=>?_⟩
   cases z3 with
   | cons r1 t=>
    cases t;cases r1;exact⟨j,rfl,hj.1,hj.2,hq _ _ A1 z1 z2 uy⟩
  ·cases e
 ·cases e
theorem BV {tg a b:J9}{f:FA}{p pos:L0}(hg:Gl X "range")(hm:X.mg "range" = td)(ha:GA X [a,b] f)(hs:starEach [a,b] X.env=[(false,eval a X.env),(false,eval b X.env)])(hs2:starEach [b] X.env=[(false,eval b X.env)]):GI X tg (.Call (.Name "range" p) [a,b] [] pos) (iRng2 f):=by
 intro pins s σ H R I ⟨A,ρ,S,mi,S',er,so,e,hq⟩;unfold iRng2 at e;split at e
 ·rename_i i j S1 h1;split at e
  ·rename_i hj;cases e;refine vp hg hm ha hs hs2 pins s σ H R I ⟨A,ρ,S,_,_,er,so,h1,λvs H1 ⟨A1,z1,z2,z3⟩=>?_⟩
   cases z3 with
   | cons r1 t=>
    cases t with
    | cons r2 t=>
     cases t;cases r1;cases r2;exact⟨i,j,rfl,hj,hq _ _ A1 z1 z2 uy⟩
  ·cases e
 ·cases e
theorem EG {tg l:J9}{f:FE}(h:GE X l f):GI X tg l (BQ f):=by
 intro pins s σ H R I ⟨A,ρ,S,mi,S',er,so,e,hq⟩;unfold BQ at e;split at e
 ·rename_i ws S1 h1;cases e;refine cu (h pins s σ H (EndV X.w X.K A H _ (.tup ws)) I ⟨A,ρ,S,_,_,er,so,h1,λ_ _ z=>z⟩) λv s1 ⟨x,H1,I1,r1,A1,e1,o1,z1⟩=>?_
  cases z1 with
  | tup hq1 rl=>
   refine sL I1 r1 hq1 (hq _ _ A1 e1 o1 (BR hq1 rl))
 ·rename_i r S1 h1;split at e
  ·rename_i ys hy;cases e;refine cu (h pins s σ H (EndV X.w X.K A H _ (.ref r)) I ⟨A,ρ,S,_,_,er,so,h1,λ_ _ z=>z⟩) λv s1 ⟨x,H1,I1,r1,A1,e1,o1,z1⟩=>?_
   cases z1 with
   | ref ea=>
    obtain⟨vs,hl,_⟩:=dq o1 hy ea;exact qP I1 r1 hl (hq _ _ A1 e1 o1 (BS ea))
  ·cases e
 ·cases e
theorem EH {tg iter:J9}{body:Jy Mg}{pos:L0}{fi:FI}{g:FG}{fb:FS}(hp:OT (model X.prog X.w) X.A X.env X.xe)(hc:X.calm=true)(hi:GI X tg iter fi)(hg:GG X tg g)(hb:GSs X body fb)
  (hs:∀x,foldedSetIterable iter X.env x=pure x):GS X (.For tg iter body [] pos) (yv fi g fb):=GS.of (DQ hp hc hi hg hb hs) λσ H A ρ S o S' er so e D hd=>by
 unfold yv at e;split at e
 ·rename_i mi S1 h1;split at e
  ·rename_i n hn;refine⟨A,ρ,S,mi,S1,er,so,h1,λJ H1 A1 z1 z2 mit=>?_⟩
   refine⟨λi m σ2 H2=>∃A2 ρ2 S2,Ext X.K A1 H1 A2 H2/\EnvRel X.K A2 H2 ρ2 σ2/\StoreOk X.w X.K A2 H2 S2/\gM mi g fb m i ρ2 S2=gV (o,S'),⟨n,A1,ρ,S1,.refl,er.mono z1,z2,e⟩,?_⟩
   rintro i m σ2 H2 ⟨A2,ρ2,S2,e2,er2,so2,w2⟩;cases m with
   | zero=>
    dsimp only[gM]at w2;split at w2
    ·rename_i hs;cases w2;exact .inl ⟨mit.stop A2 H2 _ i e2 so2 hs,hd.nx _ _ ⟨_,A2,rfl,z1.trans e2,so2,er2⟩⟩
    ·cases w2
   | succ m=>
    dsimp only[gM]at w2;split at w2
    ·rename_i w hw;obtain⟨go,yl⟩:=mit.go A2 H2 S2 i w e2 so2 hw;refine .inr ⟨go,λσ3 H3=>∃A3 ρ3 S3,Ext X.K A1 H1 A3 H3/\EnvRel X.K A3 H3 ρ3 σ3/\StoreOk X.w X.K A3 H3 S3/\gM mi g fb m (i+1) ρ3 S3=gV (o,S'),λσ' H' h=>⟨m,Mm _,h⟩,λx H3 hy=>?_⟩
     obtain⟨x1,x2,x3⟩:=yl x H3 hy;split at w2
     ·rename_i ρ3 S3 h3;refine⟨A2,ρ2,S2,w,ρ3,S3,er2.mono x1,x2,x3,h3,λσ4 H4 A4 y1 y2 y3=>?_⟩
      have ex:Ext X.K A1 H1 A4 H4:=(e2.trans x1).trans y1;split at w2
      ·rename_i ρ5 S5 h5;refine⟨A4,ρ3,S3,_,S5,y3,y2,h5,⟨λσ' H' ⟨ρ',A',u0,u1,u2,u3⟩=>?_,λv H' ⟨w,A',y0,_⟩=>(by cases y0),λv H' ⟨w,A',y0,_⟩=>(by cases y0),λv H' ⟨w,A',y0,_⟩=>(by cases y0)⟩⟩
       cases u0;exact⟨A',_,S5,ex.trans u1,u3,u2,w2⟩
      ·rename_i ρ5 S5 h5;refine⟨A4,ρ3,S3,_,S5,y3,y2,h5,⟨λv H' ⟨w,A',y0,_⟩=>(by cases y0),λv H' ⟨w,A',y0,_⟩=>(by cases y0),λv H' ⟨w,A',y0,_⟩=>(by cases y0),λσ' H' ⟨ρ',A',u0,u1,u2,u3⟩=>?_⟩⟩
       cases u0;exact⟨A',_,S5,ex.trans u1,u3,u2,w2⟩
      ·rename_i ρ5 S5 h5;cases w2;refine⟨A4,ρ3,S3,_,_,y3,y2,h5,⟨λv H' ⟨w,A',y0,_⟩=>(by cases y0),λv H' ⟨w,A',y0,_⟩=>(by cases y0),λσ' H' ⟨ρ',A',u0,u1,u2,u3⟩=>?_,λv H' ⟨w,A',y0,_⟩=>(by cases y0)⟩⟩
       cases u0;exact hd.nx _ _ ⟨_,A',rfl,(z1.trans ex).trans u1,u2,u3⟩
      ·rename_i w5 S5 h5;cases w2;refine⟨A4,ρ3,S3,_,_,y3,y2,h5,⟨λv H' ⟨w,A',y0,_⟩=>(by cases y0),λv H' ⟨w,A',u0,u1,u2,u3⟩=>?_,λv H' ⟨w,A',y0,_⟩=>(by cases y0),λv H' ⟨w,A',y0,_⟩=>(by cases y0)⟩⟩
       cases u0;exact hd.rt _ _ ⟨_,A',rfl,(z1.trans ex).trans u1,u2,u3⟩
      ·cases w2
     ·cases w2
    ·cases w2
  ·cases e
 ·cases e
end
section
variable{prog:Ki}{w:Kv}{B:Ks}{E:JB->JD->Prop}{s:JD}
theorem BW {d:JK}{es:KD LO}{ep:JF}{Q:JB->JD->Prop}(hd:(d==sysModules)=false)(hm:RawD d es ep s.heap)(hfit:(es.size:JL) < 2 ^ 63)
  (h:Q (.int es.size (s.toks+1)) { s with toks:=s.toks+1+1 }):wpAny (model prog w) B (call (.builtin "len") [.ref d]) Q E s:=by
 have hT:=hm.type;obtain⟨o,ho,hc,hdat⟩:=id hm;refine NK kind_len plain_len entry_len (args_len1 _) ?_;unfold Og.«len»;refine JA (m:=oneArg "len" _) (JM ?_);refine JA (m:=callSpecial? (.ref d) (LS "__len__")) (KU (name:=LS "__len__") hT F.slot_dict_len (La F.slot_dict_len hT F.entry_dict_len ?_ (F.args_dict_len_1 _)));show wpAny _ _ (dictSize d >>= _) _ _ s;unfold dictSize;refine JA (JA (M3 ho hdat (JM ?_)));show wpAny _ _ (QT d >>= _) _ _ s;refine JA (wpAny_pendingCount_other hd ?_);refine wpAny_ret_mkInt ?_;rw[Nat.add_zero];show wpAny _ _ _ _ _ { s with toks:=s.toks+1 }
 refine JA (Lk (JM ?_));refine JA (Nl ?_);show wpAny _ _ (if ((es.size:JF):JL) < 0 then _ else _) _ _ _
 rw[Ku (by omega)]
 show wpAny _ _ (if ((es.size:JF):JL)>=2 ^ 63 then _ else _) _ _ _
 rw[Ku (by omega)]
 exact JA (Ql (JM ⟨_,rfl,h⟩))
end
section
variable{X:Cx}{pins:Jy (JK×Ll)}{σ:L2.St}{H:Hp}{s:JD}{A:Jy JK}{S:aa}
theorem sM:LCall X (.builtin "len") sH:=by
 intro pins s σ H A S xs vs us w S' I so rl rv e
 by_cases hd:∃i kvs,xs=[.ref i]/\kW S i=gV kvs
 ·obtain⟨i,kvs,rfl,hk⟩:=hd;simp only[sH,hk]at e;cases e;cases rl with
  | cons r t=>
   cases t;cases rv with
   | cons ru rv2=>
    cases rv2;cases r with
    | ref ea=>
     obtain⟨xs,rd,kr⟩:=gL so hk ea;have d:=dk I rd;obtain⟨es,ep,raw,he⟩:=d.raw;obtain rfl:_=Ky _:=ru;have hl:es.size=xs.length:=by rw[<- Kr,he,Jz]
     have hz:=d.1;have hs:sizeLine=16777216:=KL;refine BW d.2.1 raw (by omega) ⟨.int kvs.length,H,A,I.tok _,⟨_,by rw[kr.length,hl]⟩,.refl,so,.int⟩
 ·have:sH xs S=sC xs S:=by
   unfold sH;split
   ·rename_i i;split
    ·rename_i kvs hk;exact absurd ⟨i,kvs,rfl,hk⟩ hd
    ·rfl
   ·rfl
  rw[this]at e;exact vF pins s σ H A S xs vs us w S' I so rl rv e
noncomputable def Jg (S:aa):W->JE K8
 | .non=>gV "NoneType"|.bl _=>gV "bool"|.int _=>gV "int"|.str _=>gV "str"|.tup _=>gV "tuple"
 | .ref i=>match iH S i with
  | some _=>gV "list"
  | none=>(kW S i).map λ_=>"dict"
noncomputable def uz:Jy K8:=["bool","int","str","tuple","list","dict"]
noncomputable def EI (S:aa)(x:W)(c:K8):JE Kc:=match Jg S x with
 | some t=>if uz.contains c then gV (t==c||(t == "bool" && c == "int"))else td
 | none=>td
theorem iK {K:JP}{t c:K8}(ht:t∈["NoneType","bool","int","str","tuple","list","dict"])(hc:c∈uz):PySem.W.kitOne K (.type t) (.type c)=gV (t==c||(t == "bool" && c == "int")):=by
 simp only[uz,Ke,KM,Mc]at ht hc;rcases ht with rfl|rfl|rfl|rfl|rfl|rfl|rfl <;> rcases hc with rfl|rfl|rfl|rfl|rfl|rfl <;> rfl
theorem yw:CallR X (.builtin "isinstance") (λvs H Q=>∃A S x v c b,vs=[v,.ty c]/\StoreOk X.w X.K A H S/\Rel X.K A H x v/\EI S x c=gV b/\Q (.bl b) H):=by
 intro pins s σ H vs us Q I rv ⟨A,S,x,v,c,b,e1,so,rx,e2,hq⟩;subst e1;cases rv with
 | cons r1 rv2=>cases rv2 with
  | cons r2 rv3=>
   cases rv3;obtain rfl:_=MB c:=r2;unfold EI at e2;split at e2
   ·rename_i t ht;split at e2
    ·rename_i hc;cases e2;have hc':c∈uz:=by simpa using hc
     have fin:∀tk,EP X pins σ Q (.bool (t==c||(t == "bool" && c == "int"))) { s with toks:=tk }:=λtk=>⟨.bl _,H,I.tok _,rfl,hq⟩
     cases rx with
     | non=>cases ht; cases(show _=KN from r1); exact L7 PySem.W.kitx_none I.kIn Ng (iK (by simp) hc') (λz=>nomatch z) fin
     | bl=>cases ht; cases(show _=MA _ from r1); exact L7 PySem.W.kitx_bool I.kIn Ng (iK (by simp) hc') (λz=>nomatch z) fin
     | int=>cases ht; obtain⟨t',q⟩:=(show ∃t,_=N1 _ t from r1); cases q; exact L7 PySem.W.kitx_int I.kIn Ng (iK (by simp) hc') (λz=>nomatch z) fin
     | str=>cases ht; obtain⟨t',q⟩:=(show ∃t,_=M9 _ t from r1); cases q; exact L7 PySem.W.kitx_str I.kIn Ng (iK (by simp) hc') (λz=>nomatch z) fin
     | tup h1 r1'=>
      cases ht;obtain⟨its,rv,⟨o,q1,q2,_⟩,hz⟩:=I.tuple h1;cases(show _=Ky _ from r1)
      exact L7 PySem.W.kitx_tuple I.kIn ⟨o,q1,q2⟩ (iK (by simp) hc') (λz=>nomatch z) fin
     | ref ea=>
      cases(show _=Ky _ from r1)
      simp only[Jg]at ht;split at ht
      ·rename_i ws hw;cases ht;obtain⟨vs,h1,_⟩:=dq so hw ea;obtain⟨its,rv,p,hz⟩:=I.list h1;obtain⟨o,q1,q2,_⟩:=p.isList;exact L7 PySem.W.kitx_list I.kIn ⟨o,q1,q2⟩ (iK (by simp) hc') (λz=>nomatch z) fin
      ·rw[JC]at ht;obtain⟨kvs,hk,rfl⟩:=ht;obtain⟨xs,rd,kr⟩:=gL so hk ea;obtain⟨es,ep,⟨o,q1,q2,_⟩,he⟩:=(dk I rd).raw;exact L7 PySem.W.kitx_dict I.kIn ⟨o,q1,q2.1⟩ (iK (by simp) hc') (λz=>nomatch z) fin
    ·cases e2
   ·cases e2
noncomputable def yy (c:K8)(f:FE):FE:=λρ S=>match f ρ S with
 | some (x,S1)=>(EI S1 x c).map λb=>(.bl b,S1)
 | none=>td
theorem EJ {cn:JZ}{c:K8}{e:J9}{p p2 pos:L0}{f:FE}(hg:Gl X "isinstance")(hm:X.mg "isinstance" = td)(hg2:Gl X cn)(hm2:X.mg cn=td)(hv2:bootBuiltins cn=gV (.type c))(hn2:cn≠"__name__")(hd2:(cn==("__debug__" : JZ))=false)
  (he:GE X e f) (hs:starEach [e,.Name cn p2] X.env=(false,eval e X.env)::starEach [.Name cn p2] X.env):GE X (.Call (.Name "isinstance" p) [e,.Name cn p2] [] pos) (yy c f):=
 GE.of (qk (yw) hg hm rfl (oN he (oN (Ax (v:=.ty c) hg2 hm2 hv2 rfl hn2 hd2) xr) hs) (by decide) (by decide) hs rfl) λσ H A ρ S w S' er so e Q hq=>by
  unfold yy at e;split at e
  ·rename_i x1 S1 h1;rw[JC]at e;obtain⟨b,e1,e2⟩:=e;cases e2;exact⟨A,ρ,S,x1,_,er,so,h1,λv H1 ⟨A1,z1,z2,z3⟩=>⟨A1,_,x1,v,c,b,rfl,z2,z3,e1,hq _ _ ⟨A1,z1,z2,.bl⟩⟩⟩
  ·cases e
end
noncomputable def d8:Jy (T×W)->Jy W->JE (Jy (T×W))
 | kvs,[]=>gV kvs
 | kvs,k::v::ws=>match ib k with
  | some t=>d8 (fg kvs t v) ws
  | none=>td
 | _,[_]=>td
noncomputable def C4:FE:=λ_ S=>gV (.ref S.length,S++[.dic []])
noncomputable def qQ (f:FA):FE:=λρ S=>match f ρ (S++[.dic []])with
 | some (ws,S1)=>match S1[S.length]? with
  | some (.dic [])=>match d8 [] ws with
   | some kvs=>gV (.ref S.length,S1.set S.length (.dic kvs))
   | none=>td
  | _=>td
 | none=>td
section
variable (K:JP) (A:Jy JK) (H:Hp)
inductive RelP:Jy W->Jy (V×V)->Prop
 | nil:RelP [] []
 | cons {k v:W} {a b:V} {ws:Jy W} {ps:Jy (V×V)}:Rel K A H k a->Rel K A H v b->RelP ws ps->RelP (k::v::ws) ((a,b)::ps)
end
theorem RelP.mono {K:JP}{A A':Jy JK}{H H':Hp}(e:Ext K A H A' H'){ws:Jy W}{ps:Jy (V×V)}(h:RelP K A H ws ps):RelP K A' H' ws ps:=by
 induction h with
 | nil=>exact .nil
 | cons a b c ih=>exact .cons (a.mono e) (b.mono e) ih
section
variable{X:Cx}{pins:Jy (JK×Ll)}{σ:L2.St}{H:Hp}{s:JD}{A:Jy JK}{S:aa}
noncomputable def Iy (X:Cx)(A:Jy JK)(H:Hp)(S':aa)(ws:Jy W):Jy (V×V)->Hp->Prop:=λps H'=>∃A',Ext X.K A H A' H'/\StoreOk X.w X.K A' H' S'/\RelP X.K A' H' ws ps
noncomputable def Gu (X:Cx)(pos:L0)(keys:Jy (JE J9))(values:Jy J9)(f:FA):Prop:=
 ∀(pins:Jy (JK×Ll)) (s:JD) (σ:L2.St) (H:Hp) (A:Jy JK) (ρ:Fm) (S:aa) (ws:Jy W) (S':aa),Inv X pins σ H s->EnvRel X.K A H ρ σ->StoreOk X.w X.K A H S->f ρ S=gV (ws,S')->
  wpAny (model X.prog X.w) X.A (evalPairs (pairTrees keys values X.env pos)) (λvs s'=>∃ps H',Inv X pins σ H' s'/\VV ps vs/\Iy X A H S' ws ps H') X.xe s
theorem BX {pos:L0}:Gu X pos [] [] jR:=λpins s σ H A ρ S ws S' I er so e=>by
 cases e;exact pairTrees_nil_walk ⟨[],H,I,.nil,A,.refl,so,.nil⟩
theorem yz {pos:L0}{k v:J9}{ks:Jy (JE J9)}{vs:Jy J9}{fk fv:FE}{f:FA}(hk:GE X k fk)(hv:GE X v fv)(hr:Gu X pos ks vs f):Gu X pos (gV k::ks) (v::vs) (eT fk (eT fv f)):=λpins s σ H A ρ S ws S' I er so e=>by
 unfold eT at e;split at e
 ·rename_i w1 S1 h1;split at e
  ·rename_i w2 S2 h2;cases e;split at h2
   ·rename_i w3 S3 h3;split at h2
    ·rename_i w4 S4 h4;cases h2;refine pairTrees_cons_walk (cu (hk pins s σ H (EndV X.w X.K A H S1 w1) I ⟨A,ρ,S,_,_,er,so,h1,λ_ _ z=>z⟩) λu s1 ⟨x,H1,I1,r1,A1,e1,o1,z1⟩=>
      cu (hv pins s1 σ H1 (EndV X.w X.K A1 H1 S3 w3) I1 ⟨A1,ρ,S1,_,_,er.mono e1,o1,h3,λ_ _ z=>z⟩) λu2 s2 ⟨x2,H2,I2,r2,A2,e2,o2,z2⟩=>
      cu (hr pins s2 σ H2 A2 ρ S3 _ _ I2 (er.mono (e1.trans e2)) o2 h4) λvs' s3 ⟨ps,H3,I3,rel,A3,e3,o3,z3⟩=>?_)
     exact⟨(x,x2)::ps,H3,I3,.cons ⟨r1,r2⟩ rel,A3,e1.trans (e2.trans e3),o3,.cons (z1.mono (e2.trans e3)) (z2.mono e3) z3⟩
    ·cases h2
   ·cases h2
  ·cases e
 ·cases e
theorem om {r:JF}{d:JK}{E:JB->JD->Prop}(hu:X.A.units+10 < cLine):∀(vs:Jy (JB×JB)) (ps:Jy (V×V)) (ws:Jy W) (kvs kvs':Jy (T×W)) (s:JD) (H:Hp) (S:aa) (Q:PUnit->JD->Prop),
  Inv X pins σ H s->StoreOk X.w X.K A H S->pb S r=gV kvs->A[r]?=gV d->RelP X.K A H ws ps->VV ps vs->d8 kvs ws=gV kvs'->kvs.length+vs.length<=30->
  (∀s' H',Inv X pins σ H' s'->Ext X.K A H A H'->StoreOk X.w X.K A H' (S.set r (.dic kvs'))->Q Pk s')->
  wpAny (model X.prog X.w) X.A (forIn vs Pk λ(x:JB×JB) (_:PUnit)=>(do dictSet d x.1 x.2; pure (Lq Pk):Rv (ForInStep PUnit))) Q E s
 | [],_,_,kvs,kvs',s,H,S,Q,I,so,hr,ea,rp,vv,e,hl,hq=>by
  cases vv;cases rp;cases e;rw[QN];refine JM (hq s H I .refl ?_);have hS:=jc hr;have:S.set r (.dic kvs)=S:=by
   apply PR;intro j;rw[Lz];split
   ·rename_i e; subst e
    split
    ·exact hS.symm
    ·rename_i h; exact absurd (JU.mp hS).1 h
   ·rfl
  rw[this]; exact so
 | (ku,vu)::vs,_,_,kvs,kvs',s,H,S,Q,I,so,hr,ea,rp,vv,e,hl,hq=>by
  cases vv with
  | cons hv vv2=>
   cases rp with
   | @cons wk wv va vb ws2 ps2 rk rv' rp2=>
    simp only[d8]at e;split at e
    ·rename_i t ht;rw[Oq];obtain⟨xs,hH,kr⟩:=ue so hr ea;have dd0:=dk I (.inl hH);have dd:=dd0.dict I kr;obtain⟨bk,e1,e2,rkk⟩:=jb ht rk hv.1;have e2:ku=Ky bk:=e2;subst e2;obtain⟨q1,q2,q3⟩:=eH ht;rw[Kk]at hl;have hz:xs.length<=sizeLine:=dd0.1;refine JA (JA (wpAny_dictSet_heap (hsz:=hz) (show X.A.units+bX < cLine by unfold bX; omega) (jO I rkk q3) dd λh' dd' hs=>JM ?_))
     have kr':=kr.put q2 q3 rkk rv' hv.2;have hz':(storedH xs t bk vu).length<=sizeLine:=by
      rw[<- kr'.length];have h2:=dy kvs t wv;rw[KL];omega
     have dn:DicAt X.w d (storedH xs t bk vu) h':=.of hz' dd0.2.1 dd';obtain⟨so',ex⟩:=so.writeO (jc hr) rfl ea (u:=eO X.w d (storedH xs t bk vu)) (n:=.dic (fg kvs t wv)) ⟨_,bM,kr'.mono (dS (.ext hH))⟩;have I':Inv X pins σ (cH H d (eO X.w d (storedH xs t bk vu))) { s with heap:=h',toks:=s.toks+(dE X.prog X.w).draws t }:=oU I (by rw[hH]; exact Ng) hs (let ⟨q,_,_,hq,_⟩:=dd'; ⟨q,hq⟩) dn.ok
     have hl':(S.set r (.dic (fg kvs t wv)))[r]?=gV (.dic (fg kvs t wv)):=by
      rw[Lz,Kd rfl,Kd (JU.mp (jc hr)).1]
     refine om hu vs _ _ (fg kvs t wv) kvs' _ _ _ Q I' so' (by unfold pb; rw[hl']) ea (rp2.mono ex) vv2 e (by have:=dy kvs t wv; omega) λs' H' I2 ex2 so2=>?_
     rw[List.set_set]at so2;exact hq s' H' I2 (ex.trans ex2) so2
    ·cases e
theorem BY {pos:L0}:GE X (.Dict [] [] pos) C4:=λpins s σ H Q I ⟨A,ρ,S,w,S',er,so,e,hq⟩=>by
 cases e;have hn:=I.hok.fresh (JO s.heap.objs.size);have dn:DicAt X.w s.heap.objs.size [] (s.heap.push { cls:=.type "dict",data:=.dict #[] }):=⟨LJ _,Nt.mpr (Ne.symm (Kj I.big)),ON,_,#[],0,J1 _ rfl,⟨rfl,rfl,rfl⟩,rfl,rfl⟩;refine wpAny_Dict_empty ⟨.ref s.heap.objs.size,_,I.laid (a:=s.heap.objs.size) (o:=eO X.w s.heap.objs.size []) (t':=s.toks) (λ_ _ q=>JI _ q) (JO _) dn.ok,rfl,hq _ _ ⟨A++[s.heap.objs.size],eP hn,so.pushO hn ⟨[],bM,.nil⟩,.ref ?_⟩⟩
 rw[<- so.len]; simp
theorem BZ {pos:L0}{keys:Jy (JE J9)}{values:Jy J9}{f:FA}(hu:X.A.units+10 < cLine)(h:Gu X pos keys values f)(hall:keys.all (·.isSome)=true)(hl:keys.length=values.length)(h0:keys≠[])(h15:keys.length<=15):GE X (.Dict keys values pos) (qQ f):=by
 intro pins s σ H Q I ⟨A,ρ,S,w,S',er,so,e,hq⟩;unfold qQ at e;split at e
 ·rename_i ws S1 h1;split at e
  ·rename_i hS1;split at e
   ·rename_i kvs hp;cases e;have hn:=I.hok.fresh (JO s.heap.objs.size);have dn:DicAt X.w s.heap.objs.size [] (s.heap.push { cls:=.type "dict",data:=.dict #[] }):=⟨LJ _,Nt.mpr (Ne.symm (Kj I.big)),ON,_,#[],0,J1 _ rfl,⟨rfl,rfl,rfl⟩,rfl,rfl⟩;have I1:=I.laid (a:=s.heap.objs.size) (o:=eO X.w s.heap.objs.size []) (h':=s.heap.push { cls:=.type "dict",data:=.dict #[] }) (t':=s.toks) (λ_ _ q=>JI _ q) (JO _) dn.ok
    have ex0:Ext X.K A H (A++[s.heap.objs.size]) (cH H s.heap.objs.size (eO X.w s.heap.objs.size [])):=eP hn;have so0:StoreOk X.w X.K (A++[s.heap.objs.size]) (cH H s.heap.objs.size (eO X.w s.heap.objs.size [])) (S++[.dic []]):=so.pushO hn ⟨[],bM,.nil⟩;have hlen:=pairTrees_length keys values X.env pos hall hl;have hne:pairTrees keys values X.env pos≠[]:=λhe=>by
     rw[he]at hlen;exact h0 (Mn.mp hlen.symm)
    rw[arm_eval_Dict,zip_pairTrees keys values X.env pos hall hl,dictDisplay_pairs _ hne (by omega)]
    refine JA (Ni (JA ?_));unfold subDict;refine JA (wpAny_alloc ?_);refine JA (Lk ?_);rw[Kd (by omega)]
    refine JA (Lu (wpAny_evalPairs_len (h pins _ σ _ _ ρ _ _ _ I1 (er.mono ex0) so0 h1)) (λvs s₁ h₁=>?_) λ_ _ e=>e)
    obtain⟨hvl,ps,H2,I2,vv,A2,ex2,so2,rp⟩:=h₁;refine Lk ?_;have ea:A2[S.length]?=gV s.heap.objs.size:=ex2.ad _ _ (by rw[<- so.len]; simp)
    refine JA (om hu vs ps ws [] kvs s₁ H2 S1 _ I2 so2 (by unfold pb; rw[hS1]) ea rp vv hp (by rw[Lp]; omega) λs' H' I3 ex3 so3=>?_)
    exact JM (JM (JM ⟨.ref s.heap.objs.size,H',I3,rfl,hq _ _ ⟨A2,ex0.trans (ex2.trans ex3),so3,.ref ea⟩⟩))
   ·cases e
  ·cases e
 ·cases e
end
noncomputable def Jh (wd:Kv)(a:JK)(o:Ll)(xs:Jy (T×JK×JB)):It:=
 ⟨λi H=>H a=gV (.frz o (eO wd a xs))/\i < xs.length,λi H x H'=>H'=H/\∃q,xs[i]?=gV q/\x=.ref q.2.1,λi H=>H a=gV (.frz o (eO wd a xs))/\xs.length<=i⟩
theorem vT {P:Ki}{w:Kv}{K:JP}{tg:J9}(a it:JK){o:Ll}{es:KD LO}{ep:JF}{xs:Jy (T×JK×JB)}(hx:o.ExactDict)(hd:o.data=.dict es ep)(he:es.toList=xs.map (xH w)) :
  Turn P w K tg (Jh w a o xs) [it] it (λi h=>h.IsKeyIter it a i es.size ep) where
 mem:=by simp
 obj:=λi h st b hb=>by
  have e:b=it:=by simpa using hb
  subst e;obtain⟨o,e,c,d⟩:=st;exact⟨o,e,λv z=>by rw[d]at z; cases z⟩
 keep:=λi h h' st k=>st.at λo e=>k it (by simp) o e
 item:=by
  intro X hP hw hK hc i pins s σ H E I hf st hg;subst hP hw hK;obtain⟨hH,hi⟩:=hg;have ho:s.heap.get? a=gV o:=(show ObjOk X.prog X.w H s.heap a (.frz o (eO X.w a xs))from I.hok a _ hH).1
  have hl:es.size=xs.length:=by rw[<- Kr,he,Jz]
  have hi':i < es.size:=by omega
  obtain⟨f0,f1,f2,f3,f4,f5⟩:=hf it (by simp)
  have hk:es[i].key=.ref (xs[i]).2.1:=by
   have:es.toList[i]?=gV (xH X.w xs[i]):=by rw[he,JJ,JX hi]; rfl
   rw[Lm,ML hi']at this;have:=K5 this;rw[this]; rfl
  refine qE st ⟨o,ho,hx,hd⟩ hi' λh' st' sb=>?_
  have I1:Inv X pins σ H { s with heap:=h' }:=I.turned (t':=s.toks) (λb o hb e=>(sb.2 b hb).trans e) f0 f1 f3 f4 f5
  obtain⟨o',e,c,d⟩:=id st';exact⟨_,rfl,tP (s:={ s with heap:=h' }) e c d (by decide) ⟨.ref (xs[i]).2.1,H,I1,hk,⟨rfl,xs[i],JX hi,rfl⟩,st',λb hb=>(hf b hb).1⟩⟩
 done:=by
  intro X hP hw hK hc i pins s σ H E I hf st hg;subst hP hw hK;obtain⟨hH,hi⟩:=hg;have ho:s.heap.get? a=gV o:=(show ObjOk X.prog X.w H s.heap a (.frz o (eO X.w a xs))from I.hok a _ hH).1
  have hl:es.size=xs.length:=by rw[<- Kr,he,Jz]
  obtain⟨f0,f1,f2,f3,f4,f5⟩:=hf it (by simp)
  exact ug (I.ok.hd hc) st ⟨o,ho,hx,hd⟩ (by omega) λh' eb=>⟨rfl,I.turned (t':=s.toks) (λb o hb e=>eb b o hb e) f0 f1 f3 f4 f5⟩
 self:=λ_ _ _ _ _ st h=>OJ st h
noncomputable def gA (f:FE):FI:=λρ S=>match f ρ S with
 | some (.tup ws,S1)=>gV (.its ws,S1)
 | some (.ref r,S1)=>match iH S1 r with
  | some _=>gV (.live r,S1)
  | none=>match kW S1 r with
   | some kvs=>gV (.its (kvs.map λp=>p.1.w),S1.set r (.frd kvs))
   | none=>td
 | _=>td
section
variable{X:Cx}{pins:Jy (JK×Ll)}{σ:L2.St}{H:Hp}{s:JD}{A:Jy JK}{S:aa}
theorem yA {a:JK}{o:Ll}{kvs:Jy (T×W)}{xs:Jy (T×JK×JB)}(hH:H a=gV (.frz o (eO X.w a xs)))(kr:KRel X.K A H kvs xs):MIt X.w X.K (.its (kvs.map λp=>p.1.w)) (Jh X.w a o xs) A H:=by
 refine⟨λA' H' S i w e so hi=>?_,λA' H' S i e so hi=>?_⟩
 ·simp only[MI.at,KG]at hi;obtain⟨v,h1,h2⟩:=((kr.mono e).keysL).get hi;rw[JJ,JC]at h1;obtain⟨q,q1,q2⟩:=h1;refine⟨⟨e.fz _ _ _ hH,(JU.mp q1).1⟩,λx H2 ⟨z1,q',z2,z3⟩=>?_⟩
  subst z1 z3;rw[q1]at z2; cases z2
  exact⟨.refl,so,by rw[q2]; exact h2⟩
 ·simp only[MI.at,KG]at hi;refine⟨e.fz _ _ _ hH,?_⟩;have:=LF.mp hi;rw[Jz,kr.length]at this;exact this
theorem B0 {tg l:J9}{f:FE}(h:GE X l f):GI X tg l (gA f):=by
 intro pins s σ H R I ⟨A,ρ,S,mi,S',er,so,e,hq⟩
 by_cases hd:∃r S1 kvs,f ρ S=gV (.ref r,S1)/\iH S1 r=td/\kW S1 r=gV kvs
 ·obtain⟨r,S1,kvs,h1,h2,h3⟩:=hd;simp only[gA,h1,h2,h3]at e;cases e;refine cu (h pins s σ H (EndV X.w X.K A H S1 (.ref r)) I ⟨A,ρ,S,_,_,er,so,h1,λ_ _ z=>z⟩) λv s1 ⟨x,H1,I1,r1,A1,e1,o1,z1⟩=>?_
  cases z1 with
  | @ref _ a ea=>
   obtain rfl:v=Ky a:=r1;have fz:∃o xs H2,Inv X pins σ H2 s1/\Ext X.K A1 H1 A1 H2/\StoreOk X.w X.K A1 H2 (S1.set r (.frd kvs))/\H2 a=gV (.frz o (eO X.w a xs))/\KRel X.K A1 H2 kvs xs:=by
    unfold kW at h3;split at h3
    ·rename_i k hk;cases h3;obtain⟨xs,hH,kr⟩:=o1.obj r _ a hk ea;have d:=dk I1 (.inl hH);obtain⟨_,_,_,o,es,ep,q1,q2,q3,q4⟩:=id d;obtain⟨so',ex⟩:=o1.writeO hk rfl ea (u:=.frz o (eO X.w a xs)) (n:=.frd kvs) ⟨o,xs,bM,kr.mono (dS (.ext hH))⟩;exact⟨o,xs,_,oU (h':=s1.heap) (t':=s1.toks) (ob:=.frz o (eO X.w a xs)) I1 (by rw[hH]; exact Ng) (R5 _ _) ⟨o,q1⟩ ⟨q1,d.ok⟩,ex,so',bM,kr.mono ex⟩
    ·rename_i k hk;cases h3;obtain⟨o,xs,hH,kr⟩:=o1.obj r _ a hk ea;have:S1.set r (.frd kvs)=S1:=by
      apply PR;intro j;rw[Lz];split
      ·rename_i e; subst e
       split
       ·exact hk.symm
       ·rename_i h; exact absurd (JU.mp hk).1 h
      ·rfl
     rw[this];exact⟨o,xs,H1,I1,.refl,o1,hH,kr⟩
    ·cases h3
   obtain⟨o,xs,H2,I2,ex,so2,hH,kr⟩:=fz;have d:=dk I2 (.inr ⟨o,hH⟩);have ho:s1.heap.get? a=gV o:=(show ObjOk X.prog X.w H2 s1.heap a (.frz o (eO X.w a xs))from I2.hok a _ hH).1
   obtain⟨_,hsm,_,o',es,ep,q1,q2,q3,q4⟩:=id d;rw[ho]at q1;cases q1;refine qD hsm ⟨o,ho,q2,q3⟩ ?_;refine⟨s1.heap.objs.size,[s1.heap.objs.size],_,_,H2,rfl,I2.kept (t':=s1.toks) λb o e=>JI _ e,vT a _ q2 q3 q4,⟨_,J1 _ rfl,rfl,rfl⟩,λb hb=>?_,hq _ _ A1 (e1.trans ex) so2 (yA hH kr)⟩
   have e:b=s1.heap.objs.size:=by simpa using hb
   subst e;exact I2.fpOk (JO _) (I2.hok.fresh (JO _))
 ·have:gA f ρ S=BQ f ρ S:=by
   unfold gA BQ;cases hf:f ρ S with
   | none=>rfl
   | some p=>
    obtain⟨w,S1⟩:=p;cases w with
    | ref r=>
     cases h2:iH S1 r with
     | some _=>simp only[h2]
     | none=>
      cases h3:kW S1 r with
      | none=>simp only[h2,h3]
      | some kvs=>exact absurd ⟨r,S1,kvs,hf,h2,h3⟩ hd
    | _=>rfl
  rw[this]at e;exact EG h pins s σ H R I ⟨A,ρ,S,mi,S',er,so,e,hq⟩
end
noncomputable def cx (mi:MI)(g:FG)(c:FT)(f:FE):JF->JF->Fm->aa->JE (Jy W×aa)
 | 0,i,_,S=>match mi.at S i with
  | some td=>gV ([],S)
  | _=>td
 | n+1,i,ρ,S=>match mi.at S i with
  | some (gV w)=>match g w ρ S with
   | some (ρ1,S1)=>match c ρ1 S1 with
    | some (true,S2)=>match f ρ1 S2 with
     | some (y,S3)=>match cx mi g c f n (i+1) ρ1 S3 with
      | some (ys,S4)=>gV (y::ys,S4)
      | none=>td
     | none=>td
    | some (false,S2)=>cx mi g c f n (i+1) ρ1 S2
    | none=>td
   | none=>td
  | _=>td
noncomputable def gD (cap:Jy (JE JF))(ρ:Fm):Fm:=cap.map λo=>match o with
 | some j=>(ρ[j]?).join
 | none=>td
noncomputable def lU (fi:FI)(g:FG)(c:FT)(f:FE)(cap:Jy (JE JF)):FE:=λρ S=>match fi ρ S with
 | some (mi,S1)=>match mi.len S1 with
  | some n=>match cx mi g c f n 0 (gD cap ρ) S1 with
   | some (ys,S2)=>mX S2 ys
   | none=>td
  | none=>td
 | none=>td
noncomputable def C5:FT:=λ_ S=>gV (true,S)
noncomputable def mU (X:Cx)(scope:Mx)(cl:Jy (JZ×JK))(C:JK)(N:Jy JZ)(s0:JD)(H0:Hp)(ex:Jy JK):Cx:=
 { X with env:=compEnvC scope cl C X.env,N:=N,s₀:=s0,H₀:=H0,outer:=X.stack,stack:=X.stack,ex:=ex,fn:=λ_=>false,pn:=[],xe:=λ_ _=>KZ }
structure CompOk (X:Cx)(scope:Mx)(cl:Jy (JZ×JK))(N:Jy JZ)(cap:Jy (JE JF)):Prop where
 clos:closureFor scope X.env=pure cl
 kind:scope.kind=.function
 names:∀y∈scope.names,y.2=.local->scope.names.lookup y.1=gV .local
 nocell:∀y∈scope.names,y.2≠.cell
 sub:∀x c,cl.lookup x=gV c->X.env.cells.lookup x=gV c
 has:∀x,((relabel scope X.env).names.lookup x=gV .cell\/(relabel scope X.env).names.lookup x=gV .free)->∃c,cl.lookup x=gV c
 len:cap.length=N.length
 cap:∀(i j:JF) (x:JZ),cap[i]?=gV (gV j)->N[i]?=gV x->X.N[j]?=gV x/\(X.env.kindOf x=gV .cell\/X.env.kindOf x=gV .free)/\((relabel scope X.env).names.lookup x=gV .cell\/(relabel scope X.env).names.lookup x=gV .free)
theorem ie {prog:Ki}{w:Kv}{A:Ks}{R:P3->JD->Prop}{s:JD}{elt target iter:J9}{ifs:Jy J9}{scope:Mx}{pos:L0}{it acc:JB}{env:Pu}(I:JF->JD->Prop)
    (turn:∀n s,I n s->wpAny (model prog w) A (pyNext it) (λr s₁=>match r with
      | none=>R (.ok .next) s₁
      | some v=>wpAny (model prog w) A (letOwnedTupleGo target it v) (λ_ s₁=>wpAny (model prog w) A (assign target env v) (λ_ s₂=>
          wpAny (model prog w) A (forIn ifs true λc r=>if r=true then do let ok <- isTrue c env (eval c env); pure (Lq ok)else pure (Lq r)) (λok s₃=>
            if ok=true then wpAny (model prog w) A (eval elt env) (λx s₄=>
              wpAny (model prog w) A (call (.builtin "list.append") [acc,x]) (λ_ s₅=>∃m,m < n/\I m s₅) (λ_ _=>KZ) s₄) (λ_ _=>KZ) s₃
            else ∃m,m < n/\I m s₃) (λ_ _=>KZ) s₂) (λ_ _=>KZ) s₁) (λ_ _=>KZ) s₁) (λ_ _=>KZ) s)
    (n:JF) (h:I n s) :
    codeAny (model prog w) A (.compLoop (.ListComp elt [⟨target,iter,ifs,0⟩] scope pos) 0 it acc env) R s:=by
  refine codeAny_loop rfl I (λn s hI=>?_) n h
  show wpAny _ A ((compTurn (.ListComp elt [⟨target,iter,ifs,0⟩] scope pos) 0 it acc env).onRaise (λx=>do noteFrame x env; theTreesLotGoes x)) _ _ s
  refine wpAny_noted ?_;rw[compTurn_list];refine JA (Ni (JA (Lu (turn n s hI) (λr s₁ h₁=>?_) λ_ _ h'=>h'.elim)))
  cases r with
  | none=>exact JM h₁
  | some v=>
    refine JA (Lu h₁ (λ_ s₁ h₁=>?_) λ_ _ h'=>h'.elim)
    refine JA (Lu h₁ (λ_ s₂ h₂=>JA (Lu h₂ (λok s₃ h₃=>?_) λ_ _ h'=>h'.elim)) λ_ _ h'=>h'.elim)
    cases ok with
    | false=>exact JM ⟨rfl,h₃⟩
    | true=>
      exact JA (JA (Lu h₃ (λx s₄ h₄=>JA (Lu h₄ (λ_ s₅ h₅=>JM (JM ⟨rfl,h₅⟩)) λ_ _ h'=>h'.elim)) λ_ _ h'=>h'.elim))
section
variable{X:Cx}{pins:Jy (JK×Ll)}{σ:L2.St}{H:Hp}{s:JD}
theorem Inv.adopt {D:JK}{o:HO}(I:Inv X pins σ H s)(hn:H D=td)(h1:D∈X.ex\/X.s₀.heap.objs.size<=D)(hL:D≠X.env.locals)(h2:∀x c,X.env.cells.lookup x=gV c->c≠D)(h3:∀p∈X.pn++pins,p.1≠D)
  (new:ObjOk X.prog X.w (cH H D o) s.heap D o):Inv X pins σ (cH H D o) s:=by
 have nit:∀b u,H b=gV u->b≠D:=λb u e z=>by rw[z,hn]at e; cases e
 have key:Inv X pins σ (cH H D o) { s with heap:=s.heap,gens:=s.gens,drawn:=s.drawn,toks:=s.toks }:=by
  refine I.step (g':=s.gens) (d':=s.drawn) (t':=s.toks) (h':=s.heap) (ch:=[D]) (λb hb=>?_) (λb o _ _ hc e _=>e) (λb o _ _ hc e _=>⟨o.slots,e⟩) (λb o hc e n=>?_)
   (λb o hc e=>⟨o,e⟩) (λb xs e=>?_) (λb o xs e=>?_) (λb ps e=>⟨#[],?_⟩) (λm hm=>hm) (λb u e=>?_) I.bare
  ·have e:b=D:=by simpa using hb
   subst e;exact⟨h1,hL,h2,h3⟩
  ·rw[bc (λz=>hc (by simp[z]))]; exact n
  ·rw[bc (nit b _ e)]; exact e
  ·rw[bc (nit b _ e)]; exact e
  ·rw[bc (nit b _ e),e]; simp
  ·by_cases hb:b=D
   ·subst hb; rw[bM]at e; cases e; exact new
   ·rw[bc hb]at e;refine(I.hok b u e).stay (λc v hc q=>q) (λc q=>?_) λc xs q=>?_
    ·rw[bc (nit c _ q)]; exact q
    ·rw[bc (nit c _ q)]; exact q
 exact key
theorem EK {scope:Mx}{cl:Jy (JZ×JK)}{N:Jy JZ}{cap:Jy (JE JF)}{C:JK}{s0:JD}{ex:Jy JK}(I:Inv X pins σ H s)(ck:CompOk X scope cl N cap)(hs:s.heap.objs.size<=s0.heap.objs.size)(hC:s0.heap.objs.size<=C)
  (hk:∀b o,s.heap.get? b=gV o->s0.heap.get? b=gV o) (hex:∀b∈ex,(b≠C)/\(∀x c,X.env.cells.lookup x=gV c->c≠b)/\(∀o,X.base.get? b≠gV o)/\b∉sf X.stack) :
  (mU X scope cl C N s0 H ex).Ok where
 mod:=I.ok.mod
 kind:=ck.kind
 glob:=I.ok.glob
 blt:=I.ok.blt
 above:=hC
 inj:=λx y c h1 h2=>I.ok.inj x y c (ck.sub x c h1) (ck.sub y c h2)
 has:=λx h=>ck.has x h
 cab:=λx c h=>by cases h
 hd:=I.ok.hd
 frames:=I.ok.frames
 stk:=.inl rfl
 exf:=λb hb=>⟨(hex b hb).1,λx c h=>(hex b hb).2.1 x c (ck.sub x c h)⟩
 bs:=λb o e=>⟨hk b o (I.bk b o e),(I.bs b o e).2⟩
 bsz:=J8 (J8 I.ok.bsz I.sz) hs
 noex:=λb o e hb=>(hex b hb).2.2.1 o e
 exfs:=λb hb=>(hex b hb).2.2.2
 funs:=I.stack.of_keeps λb o e _=>⟨o,hk b o e,rfl⟩
 frf:=I.stkFree
structure BlockOk (X:Cx)(scope:Mx)(cl:Jy (JZ×JK))(N:Jy JZ)(tg elt:J9)(ifs:Jy J9)(g:FG)(c:FT)(f:FE):Prop where
 tgt:∀C s0 H0 ex,GG (mU X scope cl C N s0 H0 ex) tg g
 tst:∀C s0 H0 ex pins s σ H Q,Inv (mU X scope cl C N s0 H0 ex) pins σ H s->tT (mU X scope cl C N s0 H0 ex) c σ H Q->
  wpAny (model X.prog X.w) X.A (forIn ifs true λc r=>if r=true then do let ok <- isTrue c (compEnvC scope cl C X.env) (eval c (compEnvC scope cl C X.env)); pure (Lq ok)else pure (Lq r)) (TP (mU X scope cl C N s0 H0 ex) pins σ Q) (λ_ _=>KZ) s
 elt:∀C s0 H0 ex,GE (mU X scope cl C N s0 H0 ex) elt f
theorem pr {prog:Ki}{w:Kv}{B:Ks}{s:JD}{E:JB->JD->Prop}{Q:JB->JD->Prop}{D:JK}{its:Jy JB}{n:JF}{u:JB}(e:s.heap.get? D=gV { cls:=.type "list",data:=.seq its.toArray n })(hz:its.length < sizeLine)
  (h:∀h' n',h'.get? D=gV { cls:=.type "list",data:=.seq (its++[u]).toArray n' }->(∀b o,b≠D->s.heap.get? b=gV o->h'.get? b=gV o)->Q .none { s with heap:=h' }) :
  wpAny (model prog w) B (call (.builtin "list.append") [.ref D,u]) Q E s:=by
 refine Nd F.slot_list_append ⟨_,e,rfl⟩ F.entry_list_append (F.args_list_append_2 _ _) (PH D its.toArray n u (by rw[JV]; omega)) ⟨e,?_⟩
 have q:=P7 e (λa=>a.push u)
 have e2:its.toArray.push u=(its++[u]).toArray:=by simp
 rw[e2]at q;exact h _ _ q (λb o hb ho=>(KP s.heap (Lh λa=>a.push u) (Ne.symm hb)).trans ho)
theorem on {scope:Mx}{cl:Jy (JZ×JK)}{N:Jy JZ}{cap:Jy (JE JF)}{tg elt iter:J9}{ifs:Jy J9}{g:FG}{c:FT}{f:FE}{pos:L0}{A:Jy JK}{ρ:Fm}{S S':aa}{mi:MI}{n:JF}{ws:Jy W}{E:JB->JD->Prop}
  {it:JK} {fp:Jy JK} {tn:JF->KH->Prop} {J:It} {RR:JB->JK->P3->JD->Prop}
  (I:Inv X pins σ H s) (hc:X.calm=true) (er:EnvRel X.K A H ρ σ) (so:StoreOk X.w X.K A H S) (ck:CompOk X scope cl N cap) (bk:BlockOk X scope cl N tg elt ifs g c f)
  (T:Turn X.prog X.w X.K tg J fp it tn) (t0:tn 0 s.heap) (hfp:∀b∈fp,jI X pins H b) (mit:MIt X.w X.K mi J A H) (e:cx mi g c f n 0 (gD cap ρ) S=gV (ws,S')) (hz:ws.length<=sizeLine)
  (fin:∀D C s' H' A' vs m,s'.heap.Ns C m->H' D=td->D≠C->C≠X.env.locals->C∉X.fs->H' C=td->X.s₀.heap.objs.size<=C->(∀x c,X.env.cells.lookup x=gV c->c≠C)->(∀p∈X.pn++pins,p.1≠C)->
   Inv X pins σ (cH H' D (.lst vs)) s'->Ext X.K A H A' H'->StoreOk X.w X.K A' H' S'->RelL X.K A' H' ws vs->RR (.ref D) C (.ok .next) s') :
  wpAny (model X.prog X.w) X.A (newList []) (λacc s₃=>wpAny (model X.prog X.w) X.A (newFunctionEnv scope X.env.globals cl [] X.env.qual td .none (gV X.env)) (λcenv s₄=>
   codeAny (model X.prog X.w) X.A (.compStart (.ListComp elt [⟨tg,iter,ifs,0⟩] scope pos) 0 (.ref it) acc { cenv with scope:=relabel scope X.env }) (RR acc cenv.locals) s₄) E s₃) E s:=by
 refine KI (wpAny_newFunctionEnv ck.nocell (by intro y hy; simp at hy) (λh₁ hns₁ hsb₁=>?_) ck.kind)
 dsimp only at hns₁ hsb₁ ⊢;generalize hH2:s.heap.push { cls:=.type "list",dict:=td,data:=.seq ([]:Jy JB).toArray }=h2 at hns₁ hsb₁ ⊢;have hCs:h2.objs.size=s.heap.objs.size+1:=by rw[<- hH2,QP]
 have k2:∀b o,s.heap.get? b=gV o->h2.get? b=gV o:=λb o z=>hH2 ▸ JI _ z
 have lt2:∀b o,h2.get? b=gV o->b < h2.objs.size:=λb o z=>J2 z
 have k1:∀b o,h2.get? b=gV o->h₁.get? b=gV o:=λb o z=>hsb₁.extBut b o (Kj (lt2 b o z)) (JI _ z)
 have hD2:h2.get? s.heap.objs.size=gV { cls:=.type "list",data:=.seq ([]:Jy JB).toArray }:=hH2 ▸ J1 _ rfl;have hDC:s.heap.objs.size≠h2.objs.size:=by rw[hCs]; omega
 have fresh:∀a,s.heap.objs.size<=a->H a=td:=λa ha=>I.hok.fresh ha
 have cellLt:∀x c,X.env.cells.lookup x=gV c->c < s.heap.objs.size:=λx c z=>let ⟨_,q⟩:=I.cell x c z; q.lt
 have fpLt:∀b∈fp,b < s.heap.objs.size:=λb hb=>let ⟨_,q,_⟩:=T.obj 0 s.heap t0 b hb; J2 q
 have stkLt:∀b∈sf X.stack,b < s.heap.objs.size:=λb hb=>let ⟨_,o,q,_⟩:=I.stack.mem hb; J2 q
 have baseLt:∀b o,X.base.get? b=gV o->b < s.heap.objs.size:=λb o z=>J2 (I.bk b o z)
 have fpStk:∀b∈fp,b∉sf X.stack:=λb hb z=>by
  rcases Ke.mp (I.stkSub b z)with q|q
  ·exact(hfp b hb).2.1 q
  ·exact(hfp b hb).2.2.1 q
 have fpBase:∀b∈fp,∀o,X.base.get? b≠gV o:=λb hb o z=>by
  rcases(hfp b hb).2.2.2.1 with q|q
  ·exact I.ok.noex b o z q
  ·exact absurd (Kg (J2 (I.ok.bs b o z).1) q) (KQ _)
 have ltC:∀ {b:JK},b < s.heap.objs.size->b≠h2.objs.size:=λhb=>by rw[hCs]; exact Kj (Nat.lt_succ_of_lt hb)
 let s3:JD:={ s with heap:=h2 }
 have ok':(mU X scope cl h2.objs.size N s3 H (fp++[s.heap.objs.size])).Ok:=by
  refine EK I ck (show s.heap.objs.size<=h2.objs.size by rw[hCs]; omega) (JO _) k2 λb hb=>?_
  rcases Ko.mp hb with hb|hb
  ·exact⟨ltC (fpLt b hb),(hfp b hb).2.2.2.2.1,fpBase b hb,fpStk b hb⟩
  ·have eb:b=s.heap.objs.size:=by simpa using hb
   subst eb;exact⟨hDC,λx c z=>Kj (cellLt x c z),λo z=>KQ _ (baseLt _ o z),λz=>KQ _ (stkLt _ z)⟩
 obtain⟨m0,hn0,hl0⟩:=I.loc;have I0:Inv (mU X scope cl h2.objs.size N s3 H (fp++[s.heap.objs.size])) [] (cap.map λo=>match o with|some j=>(σ[j]?).join|none=>td) H { s3 with heap:=h₁,toks:=s3.toks+([]:Jy (JZ×JB)).length }:=by
  refine⟨ok',rfl,I.bare,Un.kept k1,⟨_,hns₁,λi x v e1 e2 e3=>?_⟩,λx cc z=>?_,fresh _ (show s.heap.objs.size<=h2.objs.size by rw[hCs]; exact ME _),λx cc z=>I.freeC x cc (ck.sub x cc z),λp hp=>absurd hp (by simp[mU]),(I.hok.kept k2).kept k1,by rw[Jz]; exact ck.len⟩
  ·rw[JJ]at e2;cases q:cap[i]? with
   | none=>rw[q]at e2; cases e2
   | some oj=>
    rw[q]at e2;cases oj with
    | none=>cases e2
    | some j=>
     obtain⟨z1,z2,z3⟩:=ck.cap i j x q e1;have e2':(σ[j]?).join=gV v:=by simpa using e2
     have e2'':σ[j]?=gV (gV v):=by
      cases r:σ[j]? with
      | none=>rw[r]at e2'; cases e2'
      | some y=>rw[r]at e2'; exact congrArg gV e2'
     obtain⟨u,ru,lk⟩:=hl0 j x v z1 e2'' (by
      rcases z2 with z|z
      ·exact .inr (.inl z)
      ·exact .inr (.inr z))
     refine⟨u,ru,?_⟩;rcases lk with⟨zk,_⟩|⟨_,cc,zc,zi⟩
     ·rcases z2 with z|z <;> (rw[zk]at z; cases z)
     ·obtain⟨c2,hc2⟩:=ck.has x z3;have:=ck.sub x c2 hc2;rw[zc]at this; cases this
      refine .inr ⟨z3,cc,hc2,?_⟩;obtain⟨o,ho,hd⟩:=zi;exact⟨o,k1 _ _ (k2 _ _ ho),hd⟩
  ·obtain⟨v,o,ho,hd⟩:=I.cell x cc (ck.sub x cc z);exact⟨v,o,k1 _ _ (k2 _ _ ho),hd⟩
 have er0:EnvRel X.K A H (gD cap ρ) (cap.map λo=>match o with|some j=>(σ[j]?).join|none=>td):=by
  refine⟨by simp[gD],λi w q=>?_⟩
  unfold gD at q;rw[JJ]at q ⊢;cases r:cap[i]? with
  | none=>rw[r]at q; cases q
  | some oj=>
   rw[r]at q;cases oj with
   | none=>cases q
   | some j=>
    have q':(ρ[j]?).join=gV w:=by simpa using q
    have q'':ρ[j]?=gV (gV w):=by
     cases z:ρ[j]? with
     | none=>rw[z]at q'; cases q'
     | some y=>rw[z]at q'; exact congrArg gV q'
    obtain⟨v,z1,z2⟩:=er.2 j w q'';exact⟨v,by simp[z1],z2⟩
 have t1:tn 0 h₁:=T.keep 0 s.heap h₁ t0 λb hb o z=>k1 b o (k2 b o z)
 have fpOk':∀ {H':Hp} {pp:Jy (JK×Ll)},(∀b∈fp,H' b=td)->(∀p∈pp,p.1=s.heap.objs.size)->∀b∈fp,jI (mU X scope cl h2.objs.size N s3 H (fp++[s.heap.objs.size])) pp H' b:=λhn hp b hb=>
  ⟨hn b hb,ltC (fpLt b hb),fpStk b hb,.inl (Lv _ hb),λx cc z=>(hfp b hb).2.2.2.2.1 x cc (ck.sub x cc z),λp hpp=>by
   rw[hp p (by simpa [mU]using hpp)]
   exact(Kj (fpLt b hb)).symm⟩
 have DinEx:s.heap.objs.size∈fp++[s.heap.objs.size]:=Km _ (by simp)
 have cellD:∀x c,cl.lookup x=gV c->c≠s.heap.objs.size:=λx cc z=>Kj (cellLt x cc (ck.sub x cc z))
 have fpD:∀b∈fp,b≠s.heap.objs.size:=λb hb=>Kj (fpLt b hb)
 have theEnd:∀s' σ' H' A' vs its nn,Inv (mU X scope cl h2.objs.size N s3 H (fp++[s.heap.objs.size])) [] σ' H' s'->s'.heap.get? s.heap.objs.size=gV { cls:=.type "list",data:=.seq its nn }->∀(hits:∃l:Jy JB,its=l.toArray/\Vals vs l),H' s.heap.objs.size=td->Ext X.K A H A' H'->StoreOk X.w X.K A' H' S'->RelL X.K A' H' ws vs->
   RR (.ref s.heap.objs.size) h2.objs.size (.ok .next) s':=by
  intro s' σ' H' A' vs its nn I' hD hits hDn ex so' rl;obtain⟨l,rfl,rv⟩:=hits;obtain⟨m,hn,_⟩:=id I'.loc;have un:Un (sf X.stack) (fp++[s.heap.objs.size]) H H' s.heap s'.heap:=(Un.kept k2).trans I'.base;have hch:∀b∈fp++[s.heap.objs.size],(b∈X.ex\/X.s₀.heap.objs.size<=b)/\b≠X.env.locals/\(∀x c,X.env.cells.lookup x=gV c->c≠b)/\∀p∈X.pn++pins,p.1≠b:=λb hb=>by
   rcases Ko.mp hb with hb|hb
   ·exact⟨(hfp b hb).2.2.2.1,(hfp b hb).2.1,(hfp b hb).2.2.2.2.1,(hfp b hb).2.2.2.2.2⟩
   ·have eb:b=s.heap.objs.size:=by simpa using hb
    subst eb;exact⟨.inr I.sz,(Kj I.lt).symm,λx cc z=>Kj (cellLt x cc z),λp hp=>Kj (J2 (I.pin p hp).1)⟩
  have I2:Inv X pins σ H' s':=I.call' (show s'.os=s.os from I'.os) un I'.hok I'.bare hch
  have I3:Inv X pins σ (cH H' s.heap.objs.size (.lst vs)) s':=Inv.adopt I2 hDn (hch _ DinEx).1 (hch _ DinEx).2.1 (hch _ DinEx).2.2.1 (hch _ DinEx).2.2.2 ⟨by rw[<- rl.length]; exact hz,l,nn,rv,hD⟩
  have hCle:s.heap.objs.size<=h2.objs.size:=by rw[hCs]; exact ME _
  exact fin _ _ s' H' A' vs m hn hDn hDC (Mp (Kg I.lt hCle)) (I.nofs hCle) I'.free (J8 I.sz hCle) (λx cc z=>Kj (Kg (cellLt x cc z) hCle))
   (λp hp=>Kj (Kg (J2 (I.pin p hp).1) hCle)) I3 ex so' rl
 have loop:∀s4:JD,s4={ s3 with heap:=h₁,toks:=s3.toks+([]:Jy (JZ×JB)).length }->
   codeAny (model X.prog X.w) X.A (.compLoop (.ListComp elt [⟨tg,iter,ifs,0⟩] scope pos) 0 (.ref it) (.ref s.heap.objs.size) (compEnvC scope cl h2.objs.size X.env)) (RR (.ref s.heap.objs.size) h2.objs.size) s4:=by
  rintro s4 rfl;refine ie (λk s5=>∃i σ5 H5 A5 ρ5 S5 done its nn vs ys,Inv (mU X scope cl h2.objs.size N s3 H (fp++[s.heap.objs.size])) [] σ5 H5 s5/\tn i s5.heap/\(∀b∈fp,H5 b=td)/\s5.heap.get? s.heap.objs.size=gV { cls:=.type "list",data:=.seq (its:Jy JB).toArray nn }/\H5 s.heap.objs.size=td/\Vals vs its/\
   Ext X.K A H A5 H5/\EnvRel X.K A5 H5 ρ5 σ5/\StoreOk X.w X.K A5 H5 S5/\RelL X.K A5 H5 done vs/\ws=done++ys/\cx mi g c f k i ρ5 S5=gV (ys,S')) ?_ n
   ⟨0,_,H,A,_,S,[],[],0,[],ws,I0,t1,λb hb=>(hfp b hb).1,k1 _ _ hD2,fresh _ (JO _),.nil,.refl,er0,so,.nil,rfl,e⟩
  rintro k s5 ⟨i,σ5,H5,A5,ρ5,S5,done,its,nn,vs,ys,I5,t5,f5,d5,n5,v5,e5,er5,so5,rl5,hw5,w5⟩;have pinD:Inv (mU X scope cl h2.objs.size N s3 H (fp++[s.heap.objs.size])) [(s.heap.objs.size,{ cls:=.type "list",data:=.seq its.toArray nn })] σ5 H5 s5:=I5.pins_of λp hp=>by
   have hp':p=(s.heap.objs.size,{ cls:=.type "list",data:=.seq its.toArray nn }):=by simpa using hp
   subst hp';exact⟨d5,n5,hDC,λz=>KQ _ (stkLt _ z),λv z=>by cases z⟩
  have oneD:∀p∈[(s.heap.objs.size,({ cls:=.type "list",data:=.seq its.toArray nn }:Ll))],p.1=s.heap.objs.size:=λp hp=>by
   have hp':p=(s.heap.objs.size,{ cls:=.type "list",data:=.seq its.toArray nn }):=by simpa using hp
   rw[hp']
  cases k with
  | zero=>
   dsimp only[cx]at w5;split at w5
   ·rename_i hst;cases w5;rw[K6]at hw5;subst hw5;refine cu (T.done (mU X scope cl h2.objs.size N s3 H (fp++[s.heap.objs.size])) rfl rfl rfl hc i _ s5 σ5 H5 _ pinD (fpOk' f5 oneD) t5 (mit.stop A5 H5 _ i e5 so5 hst)) λr s6 ⟨hr,I6⟩=>?_
    subst hr;have p6:=I6.pin _ (Km _ (J0.mpr rfl));exact theEnd s6 σ5 H5 A5 vs _ nn (I6.pins_of λp hp=>absurd hp (by simp)) p6.1 ⟨its,rfl,v5⟩ n5 e5 so5 rl5
   ·cases w5
  | succ k=>
   dsimp only[cx]at w5;split at w5
   ·rename_i w hw;obtain⟨go,yl⟩:=mit.go A5 H5 S5 i w e5 so5 hw;refine cu (T.item (mU X scope cl h2.objs.size N s3 H (fp++[s.heap.objs.size])) rfl rfl rfl hc i _ s5 σ5 H5 _ pinD (fpOk' f5 oneD) t5 go) λr s6 ⟨u,hr,h6⟩=>?_
    subst hr;refine cu h6 λ_ s7 ⟨x,H7,I7,r7,y7,t7,f7⟩=>?_
    obtain⟨x1,x2,x3⟩:=yl x H7 y7;have I7':=I7.pinned (fpOk' f7 oneD) (T.obj _ _ t7);split at w5
    ·rename_i ρ8 S8 h8;refine cu (bk.tgt _ _ _ _ _ s7 σ5 H7 x u (λσ' H'=>∃A',Ext X.K A5 H5 A' H'/\StoreOk X.w X.K A' H' S8/\EnvRel X.K A' H' ρ8 σ') I7' r7 ⟨A5,ρ5,S5,w,ρ8,S8,er5.mono x1,x2,x3,h8,λσ' H' A' q1 q2 q3=>⟨A',x1.trans q1,q2,q3⟩⟩) λ_ s8 ⟨σ8,H8,I8,A8,e58,so8,er8⟩=>?_
     have e8:Ext X.K A H A8 H8:=e5.trans e58;have pD:∀ {σ':L2.St} {H':Hp} {s':JD},Inv (mU X scope cl h2.objs.size N s3 H (fp++[s.heap.objs.size])) ([(s.heap.objs.size,{ cls:=.type "list",data:=.seq its.toArray nn })]++jJ fp s7.heap) σ' H' s'->s'.heap.get? s.heap.objs.size=gV { cls:=.type "list",data:=.seq its.toArray nn }/\H' s.heap.objs.size=td:=λI'=>
      let q:=I'.pin _ (Km _ (Lv _ (J0.mpr rfl)))
      ⟨q.1,q.2.1⟩
     have pF:∀ {σ':L2.St} {H':Hp} {s':JD},Inv (mU X scope cl h2.objs.size N s3 H (fp++[s.heap.objs.size])) ([(s.heap.objs.size,{ cls:=.type "list",data:=.seq its.toArray nn })]++jJ fp s7.heap) σ' H' s'->(∀b∈fp,H' b=td)/\∀b∈fp,∀o,s7.heap.get? b=gV o->s'.heap.get? b=gV o:=λI'=>
      ⟨λb hb=>by
       obtain⟨o,eo,_⟩:=T.obj _ _ t7 b hb;exact(I'.pin (b,o) (Km _ (Km _ (gb hb eo)))).2.1,
       λb hb o eo=>(I'.pin (b,o) (Km _ (Km _ (gb hb eo)))).1⟩
     split at w5
     ·rename_i S9 h9;refine cu (bk.tst _ _ _ _ _ s8 σ8 H8 (λb H'=>b=true/\∃A',Ext X.K A8 H8 A' H'/\StoreOk X.w X.K A' H' S9) I8 ⟨A8,ρ8,S8,true,S9,er8,so8,h9,λb H' ⟨z0,A',z1,z2⟩=>⟨z0,A',z1,z2⟩⟩) λb s9 ⟨H9,I9,z0,A9,e9,so9⟩=>?_
      subst z0;rw[Kd rfl];split at w5
      ·rename_i y S10 h10;split at w5
       ·rename_i ys' S4 h11;cases w5;refine cu (bk.elt _ _ _ _ _ s9 σ8 H9 (EndV X.w X.K A9 H9 S10 y) I9 ⟨A9,ρ8,S9,y,S10,er8.mono e9,so9,h10,λ_ _ z=>z⟩) λu10 s10 ⟨v10,H10,I10,r10,A10,e10,so10,rl10⟩=>?_
        obtain⟨d10,n10⟩:=pD I10;obtain⟨f10,k10⟩:=pF I10;have hlen:its.length < sizeLine:=by
         have l1:=v5.length;have l2:=rl5.length;rw[hw5,JG,Kk]at hz;omega
        refine pr d10 hlen λh' n' hd' hk'=>?_
        have Ib:Inv (mU X scope cl h2.objs.size N s3 H (fp++[s.heap.objs.size])) [] σ8 H10 { s10 with heap:=h' }:=by
         have Ia:Inv (mU X scope cl h2.objs.size N s3 H (fp++[s.heap.objs.size])) [] σ8 H10 s10:=I10.pins_of λp hp=>absurd hp (by simp)
         exact Ia.turned (t':=s10.toks) (it:=s.heap.objs.size) hk' n10 hDC (.inl DinEx) cellD (λp hp=>absurd hp (by simp[mU]))
        refine⟨k,Mm k,i+1,σ8,H10,A10,ρ8,S10,done++[y],its++[u10],n',vs++[v10],ys',Ib,?_,f10,hd',n10,v5.append (.cons r10 .nil),(e8.trans e9).trans e10,(er8.mono e9).mono e10,so10,?_,?_,h11⟩
        ·exact T.keep (i+1) s7.heap h' t7 λb hb o eo=>hk' b o (fpD b hb) (k10 b hb o eo)
        ·exact(rl5.mono ((e58.trans e9).trans e10)).append (.cons rl10 .nil)
        ·rw[hw5,My]; rfl
       ·cases w5
      ·cases w5
     ·rename_i S9 h9;refine cu (bk.tst _ _ _ _ _ s8 σ8 H8 (λb H'=>b=false/\∃A',Ext X.K A8 H8 A' H'/\StoreOk X.w X.K A' H' S9) I8 ⟨A8,ρ8,S8,false,S9,er8,so8,h9,λb H' ⟨z0,A',z1,z2⟩=>⟨z0,A',z1,z2⟩⟩) λb s9 ⟨H9,I9,z0,A9,e9,so9⟩=>?_
      subst z0;rw[Ku J5];obtain⟨d9,n9⟩:=pD I9;obtain⟨f9,k9⟩:=pF I9;refine⟨k,Mm k,i+1,σ8,H9,A9,ρ8,S9,done,its,nn,vs,ys,I9.pins_of λp hp=>absurd hp (by simp),T.keep (i+1) s7.heap _ t7 k9,f9,d9,n9,v5,e8.trans e9,er8.mono e9,so9,rl5.mono (e58.trans e9),hw5,w5⟩
     ·cases w5
    ·cases w5
   ·cases w5
 exact codeAny_compStart_list (loop _ rfl) (T.self X.A 0 _ _ _ t1 (loop _ rfl))
theorem qR {fi:FI}{g:FG}{c:FT}{f:FE}{cap:Jy (JE JF)}{ρ:Fm}{S:aa}{w:W}{S':aa}(e:lU fi g c f cap ρ S=gV (w,S')) :
  ∃mi S1 n ys S2,fi ρ S=gV (mi,S1)/\mi.len S1=gV n/\cx mi g c f n 0 (gD cap ρ) S1=gV (ys,S2)/\ys.length<=sizeLine/\w=.ref S2.length/\S'=S2++[.lst ys]:=by
 unfold lU at e;split at e
 ·rename_i mi S1 h1;split at e
  ·rename_i n h2;split at e
   ·rename_i ys S2 h3;obtain⟨h4,h5,h6⟩:=lm e;exact⟨mi,S1,n,ys,S2,h1,h2,h3,h4,h5,h6⟩
   ·cases e
  ·cases e
 ·cases e
theorem B1 {scope:Mx}{N:Jy JZ}{cap:Jy (JE JF)}{tg elt iter:J9}{ifs:Jy J9}{fi:FI}{g:FG}{c:FT}{f:FE}{pos:L0}(hc:X.calm=true)(hi:GI X tg iter fi)(hck:X.Ok->∃cl,CompOk X scope cl N cap/\BlockOk X scope cl N tg elt ifs g c f)
  (hs:∀x,foldedSetIterable iter X.env x=pure x):GE X (.ListComp elt [⟨tg,iter,ifs,0⟩] scope pos) (lU fi g c f cap):=by
 intro pins s σ H Q I ⟨A,ρ,S,w,S',er,so,e,hq⟩;obtain⟨mi,S1,n,ys,S2,h1,h2,h3,h4,rfl,rfl⟩:=qR e;obtain⟨cl,ck,bk⟩:=hck I.ok;rw[eval_ListComp];refine NZ (use:=td) rfl hs ck.clos ck.kind ck.names (cu (hi pins s σ H (λJ H'=>∃A',Ext X.K A H A' H'/\StoreOk X.w X.K A' H' S1/\MIt X.w X.K mi J A' H') I ⟨A,ρ,S,mi,S1,er,so,h1,λJ H' A' z1 z2 z3=>⟨A',z1,z2,z3⟩⟩) λv s1 q1=>cu q1 λitv s2 q2=>?_)
 obtain⟨it,fp,tn,J,H2,rfl,I2,T,t0,hfp,A2,e2,so2,mit⟩:=q2;refine on (RR:=λacc C=>compPost (model X.prog X.w) X.A X.xe td (EP X pins σ Q) acc C) I2 hc (er.mono e2) so2 ck bk T t0 hfp mit h3 h4 ?_
 intro D C s' H' A' vs m hn hDn hDC hCL hCf hCn hCs hCc hCp I3 ex so3 rl;refine⟨m,hn,λh' hs'=>?_⟩
 have I4:Inv X pins σ (cH H' D (.lst vs)) { s' with heap:=h' }:=I3.turned (t':=s'.toks) (it:=C) (λb o hb eo=>hs'.extBut b o hb eo) (by rw[bc (Ne.symm hDC)]; exact hCn) hCL (.inr hCs) hCc hCp
 exact⟨.ref D,_,I4,rfl,hq _ _ (EndV.after (e2.trans ex) (.lst so3 rl hDn))⟩
theorem sN {scope:Mx}{N:Jy JZ}{cap:Jy (JE JF)}{tg elt iter:J9}{ifs:Jy J9}{fi:FI}{g:FG}{c:FT}{f:FE}{pos py spos:L0}{y:JZ}{i:JF}(hc:X.calm=true)(hi:GI X tg iter fi)(hck:X.Ok->∃cl,CompOk X scope cl N cap/\BlockOk X scope cl N tg elt ifs g c f)
  (hs:∀x,foldedSetIterable iter X.env x=pure x) (hsw:swapsWith (.ListComp elt [⟨tg,iter,ifs,0⟩] scope pos) (gV (.Name y py)) spos.line X.env=pure true) (hN:X.N.Nodup) (hy:X.N[i]?=gV y) (hl:X.env.scope.names.lookup y=gV .local) :
  GS X (.Assign [.Name y py] (.ListComp elt [⟨tg,iter,ifs,0⟩] scope pos) spos) (lT (lU fi g c f cap) (BN i)):=by
 intro pins s σ H Dd I ⟨A,ρ,S,o,S',er,so,e,hd⟩;unfold lT at e;split at e
 ·rename_i w S0 h0;simp only[BN]at e;cases e;obtain⟨mi,S1,n,ys,S2,h1,h2,h3,h4,rfl,rfl⟩:=qR h0;obtain⟨cl,ck,bk⟩:=hck I.ok;rw[exec_Assign_Name_used _ _ _ _ hsw];refine JA (Ni (JA ?_));show wpAny _ X.A (do let _ <- comprehension (.ListComp elt [⟨tg,iter,ifs,0⟩] scope pos) scope X.env _ (newList []) false (eval iter X.env) (gV (assign (.Name y py) X.env))) _ _ s
  refine JA (Lu (NZ (use:=gV (assign (.Name y py) X.env)) (Q:=λ_ s'=>SP X pins Dd .next s') rfl hs ck.clos ck.kind ck.names
   (cu (hi pins s σ H (λJ H'=>∃A',Ext X.K A H A' H'/\StoreOk X.w X.K A' H' S1/\MIt X.w X.K mi J A' H') I ⟨A,ρ,S,mi,S1,er,so,h1,λJ H' A' z1 z2 z3=>⟨A',z1,z2,z3⟩⟩) λv s1 q1=>cu q1 λitv s2 q2=>?_)) (λ_ s' hq=>JM (JM hq)) λ_ _ e=>e)
  obtain⟨it,fp,tn,J,H2,rfl,I2,T,t0,hfp,A2,e2,so2,mit⟩:=q2;refine on (RR:=λacc C=>compPost (model X.prog X.w) X.A X.xe (gV (assign (.Name y py) X.env)) (λ_ s'=>SP X pins Dd .next s') acc C) I2 hc (er.mono e2) so2 ck bk T t0 hfp mit h3 h4 ?_
  intro D C s' H' A' vs m hn hDn hDC hCL hCf hCn hCs hCc hCp I3 ex so3 rl;obtain⟨oC,esC,epC,hoC,hdC,hrC⟩:=id hn;have I3':Inv X (pins++[(C,oC)]) σ (cH H' D (.lst vs)) s':=I3.pins_of λp hp=>by
   rcases Ko.mp hp with hp|hp
   ·exact I3.pin p (Km _ hp)
   ·have hp':p=(C,oC):=by simpa using hp
    subst hp';exact⟨hoC,by rw[bc (Ne.symm hDC)]; exact hCn,hCL,hCf,λv z=>by rw[hdC]at z; cases z⟩
  show wpAny _ X.A (assign (.Name y py) X.env (.ref D)) _ _ _;refine Pw (i4 I3' hN hy (.inl hl) (v:=.ref D) rfl (λs4 I4=>?_) (.inr hl))
  have pC:=I4.pin (C,oC) (Km _ (Km _ (J0.mpr rfl)));refine⟨m,⟨oC,esC,epC,pC.1,hdC,hrC⟩,λh' hs'=>?_⟩
  have I5:Inv X pins (σ.set i (gV (.ref D))) (cH H' D (.lst vs)) s4:=I4.pins_of λp hp=>I4.pin p (Km _ (Lv _ hp))
  have I6:Inv X pins (σ.set i (gV (.ref D))) (cH H' D (.lst vs)) { s4 with heap:=h' }:=I5.turned (t':=s4.toks) (it:=C) (λb o hb eo=>hs'.extBut b o hb eo) (by rw[bc (Ne.symm hDC)]; exact hCn) hCL (.inr hCs) hCc hCp
  obtain⟨Af,f1,f2,f3⟩:=EndV.after (e2.trans ex) (EndV.lst so3 rl hDn);exact⟨_,_,I6,hd.nx _ _ ⟨_,Af,rfl,f1,f2,(er.mono f1).set f3 i⟩⟩
 ·cases e
end
open PySem.Builtin.SmallTypes (nextOf)
section
variable{prog:Ki}{w:Kv}
structure Zit (prog:Ki)(w:Kv)(it:JK)(T:JF->KH->Prop)(C:KH->Prop)(i:JF)(U:JE (JB->Prop)):Prop where
 keep:∀j h h',T j h->(∀o,h.get? it=gV o->h'.get? it=gV o)->T j h'
 next:∀V,U=gV V->∀(B:Ks) (s:JD) (Q:JB->JD->Prop) (E:JB->JD->Prop),T i s.heap->C s.heap->(∀u h' tk,V u->T (i+1) h'->L8 it s.heap h'->Q u { s with heap:=h',toks:=tk })->wpAny (model prog w) B (nextOf (.ref it)) Q E s
 stop:U=td->∀(B:Ks) (s:JD) (Q:JB->JD->Prop) (E:JB->JD->Prop),B.handled=td->T i s.heap->C s.heap->(∀h' e,OH it s.heap h'->(∃o,h'.get? e=gV o/\o.cls=.type "StopIteration")->E (.ref e) { s with heap:=h' })->wpAny (model prog w) B (nextOf (.ref it)) Q E s
variable{B:Ks}{E:JB->JD->Prop}{s:JD}{z p q i1 i2:JK}{T1 T2:JF->KH->Prop}{C1 C2:KH->Prop}{i:JF}{a b:JB}
noncomputable def Zc (z q i1 i2:JK)(C:KH->Prop):Prop:=∀h h',C h->(∀c o,c≠z->c≠q->c≠i1->c≠i2->h.get? c=gV o->h'.get? c=gV o)->C h'
end
end Mi
namespace Mi
open PySem PySem.Spec PyProof.Rows L2
open PySem.Builtin.SmallTypes (nextOf)
noncomputable def sO (prog:Ki)(w:Kv)(v:JB)(o:Ll)(C:KH->Prop):Prop:=∀(B:Ks) (s:JD) (Q:JB->JD->Prop) (E:JB->JD->Prop),C s.heap->Q (.ref s.heap.objs.size) { s with heap:=s.heap.push o }->wpAny (model prog w) B (pyIter v) Q E s
end Mi
namespace Mi
open PySem PySem.Spec PyProof.Rows L2
open PySem.Builtin.SmallTypes (nextOf)
section
variable{prog:Ki}{w:Kv}{A:Ks}{E:JB->JD->Prop}{s:JD}
theorem Gv {it t:JK}{i:JF}{items:KD JB}{x:JB}{Q:JB->JD->Prop}(hit:s.heap.IsTupleIter it t i)(ht:s.heap.IsTuple t items)(hx:items[i]?=gV x)
  (hQ:∀h',h'.IsTupleIter it t (i+1)->L8 it s.heap h'->Q x { s with heap:=h' }):wpAny (model prog w) A (nextOf (.ref it)) Q E s:=by
 obtain⟨o,ho,hc,hd⟩:=id hit;obtain⟨ot,hot,_,nt,hdt⟩:=ht;unfold NL;refine JA (KU (name:=LS "__next__") hit.typeIs F.slot_tuple_iterator_next (La F.slot_tuple_iterator_next hit.typeIs F.entry_tuple_iterator_next ?_ (F.args_tuple_iterator_next_1 _)));show wpAny _ _ (field (.ref it) 0 >>= _) _ _ s;refine JA (LK ho hd (x:=.ref t) rfl ?_);show wpAny _ _ (if (Ky t==KN)=true then _ else _) _ _ s
 rw[Ku (show ¬ ((Ky t==KN)=true)from J5)]
 show wpAny _ _ (field (.ref it) 1 >>= _) _ _ s;refine JA (LK ho hd (x:=.int i 0) rfl (JA (MF hot hdt ?_)));simp only[JW,hx];refine JA (NC ho hd (by simp) (JM ⟨x,rfl,JM (hQ _ ⟨_,L3 _ ho (OC (MW hd _)),(PN ..).trans hc,?_⟩ (MN ..))⟩))
 rw[MW hd]; simp[rawInt]
theorem Gw {it t:JK}{i:JF}{items:KD JB}{Q:JB->JD->Prop}(hh:A.handled=td)(hit:s.heap.IsTupleIter it t i)(ht:s.heap.IsTuple t items)(hx:items[i]?=td)
  (hE:∀h' e,OH it s.heap h'->(∃o,h'.get? e=gV o/\o.cls=.type "StopIteration")->E (.ref e) { s with heap:=h' }):wpAny (model prog w) A (nextOf (.ref it)) Q E s:=by
 obtain⟨o,ho,hc,hd⟩:=id hit;obtain⟨ot,hot,_,nt,hdt⟩:=ht;unfold NL;refine JA (KU (name:=LS "__next__") hit.typeIs F.slot_tuple_iterator_next (La F.slot_tuple_iterator_next hit.typeIs F.entry_tuple_iterator_next ?_ (F.args_tuple_iterator_next_1 _)));show wpAny _ _ (field (.ref it) 0 >>= _) _ _ s;refine JA (LK ho hd (x:=.ref t) rfl ?_);show wpAny _ _ (if (Ky t==KN)=true then _ else _) _ _ s
 rw[Ku (show ¬ ((Ky t==KN)=true)from J5)]
 show wpAny _ _ (field (.ref it) 1 >>= _) _ _ s;refine JA (LK ho hd (x:=.int i 0) rfl (JA (MF hot hdt ?_)));simp only[JW,hx];refine JA (Pd (JA (NC ho hd (by simp) ?_)))
 show wpAny _ _ (newExc (.type "StopIteration") [] >>= _) _ _ _;refine JA ?_;simp only[newExc,newTuple];refine JA (KI ?_ (by size_fits))
 refine JA (m:=firstArgMember _ _) (OI (a:=KN) (by first|rfl|(simp only[firstArgMember]; rfl)) (KI ?_ (by size_fits)))
 simp only[raiseNew];refine JA (Q9 ?_)
 first|rw[show A.in1.handled=td from hh]|rw[hh]
 exact JA (JM (RD (hE _ _ (((MN ..).extBut.push _).push _) ⟨_,J1 _ rfl,rfl⟩)))
end
inductive Zs where|tup (a:JK)|lst (a:JK)|txt (x:JZ)
noncomputable def Zs.T (it:JK):Zs->JF->KH->Prop
 | .tup a,i,h=>h.IsTupleIter it a i
 | .lst a,i,h=>h.IsListIter it a i
 | .txt x,i,h=>∃t,h.IsStrIter it "str_ascii_iterator" x t i\/h.IsStrIter it "str_iterator" x t i
noncomputable def Zs.at (K:JP)(H:Hp)(i:JF)(v:V):Zs->Prop
 | .tup a=>∃xs,SqT K H a xs/\xs[i]?=gV v
 | .lst a=>∃xs,SqL K H a xs/\xs[i]?=gV v
 | .txt x=>∃c,x.cps[i]?=gV c/\v=.str ⟨[c].toArray⟩
noncomputable def Zs.out (K:JP)(H:Hp)(i:JF):Zs->Prop
 | .tup a=>∃xs,SqT K H a xs/\xs.length<=i
 | .lst a=>∃xs,SqL K H a xs/\xs.length<=i
 | .txt x=>x.cps.size<=i
theorem Zs.keep {S:Zs}{it:JK}{j:JF}{h h':KH}(t:S.T it j h)(k:∀o,h.get? it=gV o->h'.get? it=gV o):S.T it j h':=by
 cases S with
 | tup a=>exact t.at k
 | lst a=>exact t.at k
 | txt x=>
  obtain⟨tk,t⟩:=t;exact⟨tk,t.imp (λ⟨o,e,r⟩=>⟨o,k _ e,r⟩) λ⟨o,e,r⟩=>⟨o,k _ e,r⟩⟩
section
variable{X:Cx}{pins:Jy (JK×Ll)}{σ:L2.St}{H:Hp}{s:JD}
theorem yB (I:Inv X pins σ H s){a b:JK}{o:Ll}(h:X.K.lookup a=gV o)(f:jI X pins H b):a≠b:=λz=>by
 subst z;have hb:=I.ok.mod.kin a o h;rcases f.2.2.2.1 with q|q
 ·exact I.ok.noex a o hb q
 ·exact absurd (Kg (J2 (I.ok.bs a o hb).1) q) (KQ _)
end
end Mi
namespace Mi
open PySem PySem.Spec PyProof.Rows L2
open PySem.Builtin.SmallTypes (nextOf)
section
variable{X:Cx}{pins:Jy (JK×Ll)}{σ:L2.St}{H:Hp}{s:JD}{h':KH}
theorem yC {a b:JK}{u:HO}(h:Rd H a u)(f:H b=td):a≠b:=λz=>by
 subst z;rcases h with h|⟨o,h⟩ <;> (rw[f]at h; cases h)
theorem Inv.turnedL {t':JF}{ch:Jy JK}(I:Inv X pins σ H s)(k:∀b o,b∉ch->s.heap.get? b=gV o->h'.get? b=gV o)(hf:∀b∈ch,jI X pins H b):Inv X pins σ H { s with heap:=h',toks:=t' }:=by
 have nit:∀b u,H b=gV u->b∉ch:=λb u e z=>by have:=(hf b z).1; rw[e]at this; cases this
 refine I.step (g':=s.gens) (d':=s.drawn) (ch:=ch) (λb hb=>?_) (λb o _ _ hc e _=>k b o hc e) (λb o _ _ hc e _=>⟨o.slots,k b o hc e⟩) (λ_ _ _ _ n=>n) (λb o hc e=>⟨o,k b o hc e⟩) (λ_ _ e=>e) (λ_ _ _ e=>e) (λb ps e=>⟨#[],by rw[e]; simp⟩) (λm hm=>?_) (λb u e=>?_) I.bare
 ·obtain⟨_,f1,_,f3,f4,f5⟩:=hf b hb;exact⟨f3,f1,f4,f5⟩
 ·obtain⟨o,es,ep,ho,r⟩:=hm;exact⟨o,es,ep,k _ o (λz=>(hf _ z).2.1 rfl) ho,r⟩
 ·refine(I.hok b u e).stay (λc v hc q=>k c v ?_ q) (λ_ q=>q) λ_ _ q=>q
  rcases hc with z|z
  ·rw[z]; exact nit b u e
  ·exact nit c _ z
theorem Zs.zit {S:Zs}{it z q i1 i2:JK}{i:JF}{U:JE V}(I:Inv X pins σ H s)(hf:∀b∈[z,q,i1,i2],jI X pins H b)(g:match U with|some v=>S.at X.K H i v|none=>S.out X.K H i) :
  ∃C,Zit X.prog X.w it (S.T it) C i (U.map λv u=>RelV v u)/\C s.heap/\Zc z q i1 i2 C:=by
 have zc:∀(a:JK) (P:KH->Prop),(∀h h',P h->(∀o,h.get? a=gV o->h'.get? a=gV o)->P h')->(∀b∈[z,q,i1,i2],a≠b)->Zc z q i1 i2 P:=λa P hP hn h h' p k=>
  hP h h' p λo e=>k a o (hn z (by simp)) (hn q (by simp)) (hn i1 (by simp)) (hn i2 (by simp)) e
 have sep:∀ {a:JK} {u:HO} {o:Ll} {b:JK},(Rd H a u\/X.K.lookup a=gV o)->b∈[z,q,i1,i2]->a≠b:=λh hb=>h.elim (λr=>yC r (hf _ hb).1) λr=>yB I r (hf _ hb)
 cases S with
 | tup a=>
  obtain⟨xs,hq,hx⟩ : ∃xs,SqT X.K H a xs/\(match U with|some v=>xs[i]?=gV v|none=>xs.length<=i):=by
   cases U <;> exact g
  obtain⟨its,rv,p,_⟩:=I.tuple hq;have hne:∀b∈[z,q,i1,i2],a≠b:=λb hb=>by
   rcases hq with r|⟨o,_,_,r,_⟩
   ·exact yC r (hf b hb).1
   ·exact yB I r (hf b hb)
  refine⟨λh=>h.IsTuple a its.toArray,⟨λj h h' t k=>Zs.keep (S:=.tup a) t k,λV hV B s2 Q E t c hQ=>?_,λhU B s2 Q E hh t c hE=>?_⟩,p,zc a _ (λh h' ⟨o,e,r⟩ k=>⟨o,k _ e,r⟩) hne⟩
  ·cases U with
   | none=>cases hV
   | some v=>
    cases hV;obtain⟨u,hu,ru⟩:=rv.get hx;exact Gv t c (x:=u) (by simpa using hu) λh' t' sb=>hQ u h' s2.toks ru t' sb
  ·cases U with
   | some v=>cases hU
   | none=>
    have:=L2.Vals.length rv;have hx':xs.length<=i:=hx;exact Gw hh t c (by simp; omega) hE
 | lst a=>
  obtain⟨xs,hq,hx⟩ : ∃xs,SqL X.K H a xs/\(match U with|some v=>xs[i]?=gV v|none=>xs.length<=i):=by
   cases U <;> exact g
  obtain⟨its,rv,p,_⟩:=I.list hq;have hne:∀b∈[z,q,i1,i2],a≠b:=λb hb=>by
   rcases hq with r|⟨o,_,_,r,_⟩
   ·exact yC r (hf b hb).1
   ·exact yB I r (hf b hb)
  refine⟨λh=>h.IsList a its.toArray,⟨λj h h' t k=>Zs.keep (S:=.lst a) t k,λV hV B s2 Q E t c hQ=>?_,λhU B s2 Q E hh t c hE=>?_⟩,p.isList,zc a _ (λh h' ⟨o,e,r⟩ k=>⟨o,k _ e,r⟩) hne⟩
  ·cases U with
   | none=>cases hV
   | some v=>
    cases hV;obtain⟨u,hu,ru⟩:=rv.get hx;exact wpAny_nextOf_list_item t c (x:=u) (by simpa using hu) λh' t' sb=>hQ u h' s2.toks ru t' sb
  ·cases U with
   | some v=>cases hU
   | none=>
    have:=L2.Vals.length rv;have hx':xs.length<=i:=hx;exact wpAny_nextOf_list_end hh t c (by simp; omega) hE
 | txt x=>
  refine⟨λ_=>Qv,⟨λj h h' t k=>Zs.keep (S:=.txt x) t k,λV hV B s2 Q E t _ hQ=>?_,λhU B s2 Q E hh t _ hE=>?_⟩,trivial,λ_ _ _ _=>trivial⟩
  ·cases U with
   | none=>cases hV
   | some v=>
    cases hV;obtain⟨c,hc,rfl⟩ : ∃c,x.cps[i]?=gV c/\v=.str ⟨[c].toArray⟩:=g;obtain⟨tk,t|t⟩:=t
    ·exact wpAny_nextOf_ascii_item t hc λh' t' sb=>hQ _ h' _ ⟨_,rfl⟩ ⟨tk,.inl t'⟩ sb
    ·exact wpAny_nextOf_wide_item t hc λh' t' sb=>hQ _ h' _ ⟨_,rfl⟩ ⟨tk,.inr t'⟩ sb
  ·cases U with
   | some v=>cases hU
   | none=>
    have hx:x.cps[i]?=td:=by simpa using(show x.cps.size<=i from g)
    obtain⟨tk,t|t⟩:=t
    ·exact wpAny_nextOf_ascii_end hh t hx hE
    ·exact wpAny_nextOf_wide_end hh t hx hE
end
noncomputable def Zs.is (K:JP)(H:Hp)(i:JF)(v:V):Zs->Prop
 | .tup a=>∀xs,SqT K H a xs->xs[i]?=gV v
 | .lst a=>∀xs,SqL K H a xs->xs[i]?=gV v
 | .txt x=>∃c,x.cps[i]?=gV c/\v=.str ⟨[c].toArray⟩
theorem Zs.at_is {S:Zs}{X:Cx}{pins:Jy (JK×Ll)}{σ:L2.St}{H:Hp}{s:JD}{i:JF}{v:V}(I:Inv X pins σ H s)(h:S.at X.K H i v):S.is X.K H i v:=by
 cases S with
 | tup a=>obtain⟨xs,hq,hx⟩:=h; exact λys hy=>by rw[I.tuple_inj hy hq]; exact hx
 | lst a=>obtain⟨xs,hq,hx⟩:=h; exact λys hy=>by rw[I.list_inj hy hq]; exact hx
 | txt x=>exact h
end Mi
namespace Mi
open PySem PySem.Spec PyProof.Rows L2
noncomputable def Iz:W->JE (Jy W)
 | .tup xs=>gV xs
 | .str x=>gV (x.cps.toList.map λc=>.str ⟨[c].toArray⟩)
 | _=>td
section
variable{X:Cx}{pins:Jy (JK×Ll)}{σ:L2.St}{H:Hp}{s:JD}{A:Jy JK}
noncomputable def ZRel (K:JP)(A:Jy JK)(H:Hp)(xs:Jy W):Zs->Prop
 | .tup a=>∃vs,SqT K H a vs/\RelL K A H xs vs
 | .lst a=>KZ
 | .txt x=>xs=x.cps.toList.map λc=>.str ⟨[c].toArray⟩
theorem ZRel.mono {K:JP}{A A':Jy JK}{H H':Hp}{xs:Jy W}{S:Zs}(e:Ext K A H A' H')(h:ZRel K A H xs S):ZRel K A' H' xs S:=by
 cases S with
 | tup a=>obtain⟨vs,h1,h2⟩:=h; exact⟨vs,e.tp _ _ h1,h2.mono e⟩
 | lst a=>exact h
 | txt x=>exact h
theorem ZRel.at {K:JP}{xs:Jy W}{S:Zs}{i:JF}{w:W}(h:ZRel K A H xs S)(hi:xs[i]?=gV w):∃v,S.at K H i v/\Rel K A H w v:=by
 cases S with
 | tup a=>obtain⟨vs,h1,h2⟩:=h; obtain⟨v,h3,h4⟩:=h2.get hi; exact⟨v,⟨vs,h1,h3⟩,h4⟩
 | lst a=>exact h.elim
 | txt x=>
  have h:xs=x.cps.toList.map λc=>.str ⟨[c].toArray⟩:=h
  subst h;rw[JJ,JC]at hi;obtain⟨c,hc,rfl⟩:=hi;exact⟨.str ⟨[c].toArray⟩,⟨c,by rw[<- Lm]; exact hc,rfl⟩,.str⟩
theorem ZRel.is {K:JP}{xs:Jy W}{S:Zs}{i:JF}{w:W}{v:V}(h:ZRel K A H xs S)(hi:xs[i]?=gV w)(z:S.is K H i v):Rel K A H w v:=by
 obtain⟨v',h1,h2⟩:=h.at hi;cases S with
 | tup a=>
  obtain⟨vs,q,e⟩:=h1;have:=z vs q;rw[e]at this; cases this
  exact h2
 | lst a=>exact h.elim
 | txt x=>
  obtain⟨c,e,rfl⟩:=h1;obtain⟨c',e',rfl⟩:=z;rw[e]at e'; cases e'
  exact h2
theorem ZRel.out {K:JP}{xs:Jy W}{S:Zs}{i:JF}(h:ZRel K A H xs S)(hi:xs.length<=i):S.out K H i:=by
 cases S with
 | tup a=>obtain⟨vs,h1,h2⟩:=h; exact⟨vs,h1,by rw[<- h2.length]; exact hi⟩
 | lst a=>exact h.elim
 | txt x=>
  have h:xs=x.cps.toList.map λc=>.str ⟨[c].toArray⟩:=h
  subst h;show x.cps.size<=i
  simpa using hi
theorem B2 {x:W}{v:V}{u:JB}{xs:Jy W}(I:Inv X pins σ H s)(r:Rel X.K A H x v)(ru:RelV v u)(e:Iz x=gV xs) :
  ∃(S:Zs) (o:Ll) (C:KH->Prop),ZRel X.K A H xs S/\sO X.prog X.w u o C/\C s.heap/\(∀h o,C h->C (h.push o))/\o.isFreed=false/\∀it h,h.get? it=gV o->S.T it 0 h:=by
 cases r with
 | @tup ws a vs hq rl=>
  cases e;obtain⟨its,rv,p,_⟩:=I.tuple hq;obtain rfl:u=Ky a:=ru;exact⟨.tup a,{ cls:=.type "tuple_iterator",data:=.fields [.ref a,.int 0 0].toArray },λh=>h.IsTuple a its.toArray,⟨vs,hq,rl⟩,λB s Q E c hQ=>Pl c hQ,p,λh o ⟨ot,e,r⟩=>⟨ot,JI _ e,r⟩,rfl,λit h e=>⟨_,e,rfl,rfl⟩⟩
 | @str x=>
  cases e;obtain⟨t,rfl⟩:=ru;cases ha:x.cps.all (· < 128)with
  | false=>exact⟨.txt x,{ cls:=.type "str_iterator",data:=.fields [.str x t,.int 0 0].toArray },λ_=>Qv,rfl,λB s Q E _ hQ=>wpAny_pyIter_wide ha hQ,trivial,λ_ _ _=>trivial,rfl,λit h e=>⟨t,.inr ⟨_,e,rfl,rfl⟩⟩⟩
  | true=>exact⟨.txt x,{ cls:=.type "str_ascii_iterator",data:=.fields [.str x t,.int 0 0].toArray },λ_=>Qv,rfl,λB s Q E _ hQ=>wpAny_pyIter_ascii ha hQ,trivial,λ_ _ _=>trivial,rfl,λit h e=>⟨t,.inl ⟨_,e,rfl,rfl⟩⟩⟩
 | _=>cases e
end
open PySem.Builtin.SmallTypes (nextOf)
section
variable{prog:Ki}{w:Kv}{B:Ks}{E:JB->JD->Prop}{s:JD}{e it:JK}{T:JF->KH->Prop}{C:KH->Prop}{i:JF}{old:JB}
structure EnAt (h0 h:KH)(e it:JK)(fs:KD JB)(T:KH->Prop):Prop where
 here:h.get? e=gV { cls:=.type "enumerate",dict:=td,data:=.fields fs,slots:=#[] }
 turn:T h
 kept:∀b o,b≠e->b≠it->h0.get? b=gV o->h.get? b=gV o
theorem EnAt.put {h0:KH}{fs:KD JB}{T:KH->Prop}{k:JF}{v:JB}{Q:Unit->JD->Prop}(x:EnAt h0 s.heap e it fs T)(hne:e≠it)(kT:∀h h',T h->(∀o,h.get? it=gV o->h'.get? it=gV o)->T h')(hk:k < fs.size)
  (q:∀h',EnAt h0 h' e it (fs.setIfInBounds k v) T->L8 e s.heap h'->Q () { s with heap:=h' }):wpAny (model prog w) B (setField (.ref e) k v) Q E s:=
 wpAny_setField_rec x.here hk λh' y sb=>q h' ⟨y,kT _ _ x.turn λo z=>sb.extBut _ _ (Ne.symm hne) z,λb o h1 h2 z=>sb.extBut b o h1 (x.kept b o h1 h2 z)⟩ sb
theorem oo {U:JE (JB->Prop)}{Q:JB->JD->Prop}(Z:Zit prog w it T C i U)(hh:B.handled=td)(he:RW s.heap e it (i:JL) old)(t:T i s.heap)(c:C s.heap)(hne:e≠it)
  (hI:∀V,U=gV V->∀u h' tk tk0,V u->IsEnumOut h' e it ((i:JL)+1) u s.heap.objs.size->T (i+1) h'->h'.get? s.heap.objs.size=gV { cls:=.type "tuple",data:=.seq [.int i tk0,u].toArray }->
   (∀b o,b≠e->b≠it->s.heap.get? b=gV o->h'.get? b=gV o)->Q (.ref s.heap.objs.size) { s with heap:=h',toks:=tk })
  (hE:U=td->∀h' x,OH it s.heap h'->(∃o,h'.get? x=gV o/\o.cls=.type "StopIteration")->E (.ref x) { s with heap:=h' }) :
  wpAny (model prog w) B (Og.«enumerate.__next__» ⟨[.ref e],[]⟩) (λfin s'=>∃v,fin=.done (.ret v)/\Q v s') E s:=by
 obtain⟨hp,g,d,tk,os⟩:=s;show wpAny _ _ (field (.ref e) 2 >>= _) _ _ _;refine JA (LK he rfl (x:=.ref it) rfl (JA ?_));cases U with
 | none=>exact Z.stop rfl _ _ _ _ hh t c λh' x a b=>hE rfl h' x a b
 | some V=>
  refine Z.next V rfl _ _ _ _ t c λu ha tka hu ta sba=>?_
  have kT:=Z.keep (i+1);have xa:EnAt hp ha e it [.none,.bool false,.ref it,rawInt i,.none,old].toArray (T (i+1)):=⟨(sba.2 e hne).trans he,ta,λb o _ h2 z=>sba.extBut b o h2 z⟩
  have za:ha.objs.size=hp.objs.size:=sba.1;clear sba ta;show wpAny _ _ (field (.ref e) 3 >>= _) _ _ ⟨ha,g,d,tka,os⟩;refine JA (LK xa.here rfl (x:=rawInt i) rfl ?_);show wpAny _ _ (field (.ref e) 4 >>= _) _ _ ⟨ha,g,d,tka,os⟩;refine JA (LK xa.here rfl (x:=.none) rfl ?_);show wpAny _ _ (mkInt i >>= _) _ _ ⟨ha,g,d,tka,os⟩;refine JA (Ql (JA (xa.put (s:=⟨ha,g,d,tka+1,os⟩) hne kT (by simp) λhb xb sb1=>JA (xb.put (s:=⟨hb,g,d,tka+1,os⟩) hne kT (by simp) λhc xc sb2=>JA (QM ?_)))))
  have zc:hc.objs.size=hp.objs.size:=by rw[sb2.1,<- za]; exact sb1.1
  have hel:hp.objs.size≠e:=Mp (J2 he);have new:=J1 hc (o:={ cls:=.type "tuple",data:=.seq [.int i tka,u].toArray }) rfl;have xd:EnAt hp (hc.push { cls:=.type "tuple",data:=.seq [.int i tka,u].toArray }) e it [.none,.bool false,.ref it,rawInt ((i:JL)+1),.none,old].toArray (T (i+1)):=⟨JI _ xc.here,kT _ _ xc.turn λo z=>JI _ z,λb o h1 h2 z=>JI _ (xc.kept b o h1 h2 z)⟩
  rw[zc]at new;show wpAny _ _ (MR (.ref e) >>= _) _ _ ⟨hc.push _,g,d,tka+1,os⟩;rw[zc];generalize hc.push { cls:=.type "tuple",data:=.seq [.int i tka,u].toArray }=hd at new xd ⊢;clear zc sb2 xc sb1 xb hb xa za;refine JA ?_;unfold MR;refine JA (LK xd.here rfl (x:=.none) rfl (JM ?_));simp only[L1];refine JA (Pd (JA (LK xd.here rfl (x:=old) rfl (JA (xd.put (s:=⟨hd,g,d,tka+1,os⟩) hne kT (by simp) λh1 x1 s1=>JA ?_)))))
  unfold OX;refine JA (x1.put (s:=⟨h1,g,d,tka+1,os⟩) hne kT (by simp) λh2 x2 s2=>x2.put (s:=⟨h2,g,d,tka+1,os⟩) hne kT (by simp) λh3 x3 s3=>JA (Nl (JM ⟨_,rfl,hI V rfl u h3 (tka+1) tka hu x3.here x3.turn ?_ x3.kept⟩)))
  exact s3.extBut _ _ hel (s2.extBut _ _ hel (s1.extBut _ _ hel new))
variable{v:JB}{o:Ll}
theorem qS (h1:sO prog w v o C) :
  MeetsIn prog w (Og.«enumerate.__new__» ⟨[.type "enumerate",v],[]⟩) (λ_ R s=>C s.heap/\R (.ok (.ret (.ref (s.heap.push o).objs.size))) { s with heap:=(s.heap.push o).push { cls:=.type "enumerate",data:=.fields [.none,.bool false,.ref s.heap.objs.size,rawInt 0,.none,.none].toArray } }):=
 .of_wp λA R s h=>by
  obtain⟨hp,g,d,tk,os⟩:=s;obtain⟨c,h⟩:=h;have hsub:=sub_enumerate;have d1:∀(B:Ks) (Q:JB->JD->Prop) (E:JB->JD->Prop),Q (.ref hp.objs.size) ⟨hp.push o,g,d,tk,os⟩->wpAny (model prog w) B (pyIter v) Q E ⟨hp,g,d,tk,os⟩:=λB Q E q=>h1 B ⟨hp,g,d,tk,os⟩ Q E c q
  wp_walk
  refine wpAny_stack_any λst=>JM ?_
  split
  ·rename_i c _ _ _ _ _;cases(c==MB "enumerate")
   ·wp_walk using d1 _ _ _
    exact⟨_,rfl,h⟩
   ·wp_walk using d1 _ _ _
    exact⟨_,rfl,h⟩
  ·wp_walk using d1 _ _ _
   exact⟨_,rfl,h⟩
theorem vU {Q:JB->JD->Prop}(h1:sO prog w v o C)(c:C s.heap)(n1:o.isFreed=false)
  (h:∀h',RW h' (s.heap.objs.size+1) s.heap.objs.size 0 .none->h'.get? s.heap.objs.size=gV o->(∀b o,s.heap.get? b=gV o->h'.get? b=gV o)->Q (.ref (s.heap.objs.size+1)) { s with heap:=h' }) :
  wpAny (model prog w) B (call (.type "enumerate") [v]) Q E s:=by
 refine callType_newIn F.called_enumerate (by decide) (F.typeCall_enumerate_1 _) (F.newCall_enumerate_1 _) (λobj=>F.args_object_init_2 obj _) F.entry_enumerate_new (qS h1) ⟨c,?_⟩
 have hz:(s.heap.push o).objs.size=s.heap.objs.size+1:=QP ..;show _/\_;rw[hz];have he:RW ((s.heap.push o).push { cls:=.type "enumerate",data:=.fields [.none,.bool false,.ref s.heap.objs.size,rawInt 0,.none,.none].toArray }) (s.heap.objs.size+1) s.heap.objs.size 0 .none:=by
  have:=J1 (s.heap.push o) (o:={ cls:=.type "enumerate",data:=.fields [.none,.bool false,.ref s.heap.objs.size,rawInt 0,.none,.none].toArray }) rfl;rw[hz]at this; exact this
 exact⟨⟨_,he,rfl⟩,h _ he (JI _ (J1 _ n1)) λb o x=>JI _ (JI _ x)⟩
end
noncomputable def Ji (K:JP)(S1:Zs):It:=
 ⟨λi H=>∃x,S1.at K H i x,λi H v H'=>∃p x,S1.is K H i x/\v=.ref p/\H p=td/\H'=cH H p (.tup [.int i,x]),λi H=>S1.out K H i⟩
theorem vV {P:Ki}{w:Kv}{K:JP}{els:Jy J9}{k0:JF}{tp:L0}{S1:Zs}{z i1:JK}(D:z≠i1) :
  Turn P w K (.Tuple els k0 tp) (Ji K S1) [z,i1] z (λi h=>(∃old,RW h z i1 i old)/\S1.T i1 i h) where
 mem:=by simp
 obj:=λi h ⟨⟨old,a⟩,d⟩ b' hb=>by
  have it:∀ {S:Zs} {it:JK},S.T it i h->∃o,h.get? it=gV o/\∀v,o.data≠.cell v:=λ{S it} t=>by
   cases S with
   | tup a=>obtain⟨o,e,_,d⟩:=t; exact⟨o,e,λv z=>by rw[d]at z; cases z⟩
   | lst a=>obtain⟨o,e,_,d⟩:=t; exact⟨o,e,λv z=>by rw[d]at z; cases z⟩
   | txt x=>obtain⟨tk,⟨o,e,_,d⟩|⟨o,e,_,d⟩⟩:=t <;> exact⟨o,e,λv z=>by rw[d]at z; cases z⟩
  simp only[Ke,KM,Mc]at hb;rcases hb with rfl|rfl
  ·exact⟨_,a,λv z=>by cases z⟩
  ·exact it d
 keep:=λi h h' ⟨⟨old,a⟩,d⟩ k=>⟨⟨old,k z (by simp) _ a⟩,Zs.keep d (k i1 (by simp))⟩
 item:=by
  intro X hP hw hK hc i pins s σ H E I hf st hg;subst hP hw hK;obtain⟨x,g1⟩:=hg;obtain⟨⟨old,a⟩,d⟩:=st;have hf4:∀b∈[z,z,i1,i1],jI X pins H b:=λb hb=>hf b (by simp only[Ke,KM,Mc]at hb ⊢; rcases hb with h|h|h|h <;> simp[h])
  obtain⟨C1,Z1,c1,k1⟩:=Zs.zit (it:=i1) (U:=gV x) I hf4 g1;have hT:s.TypeIs (.ref z) "enumerate":=⟨_,a,rfl⟩;unfold pyNext;refine JA (NX (KU (name:=LS "__next__") hT F.slot_enumerate_next (La F.slot_enumerate_next hT F.entry_enumerate_next ?_ (F.args_enumerate_next_1 _))));refine oo Z1 (I.ok.hd hc) a d c1 D (λV e1 u g tk tk0 r1 zg t1 ng kp=>?_) (λz=>by cases z)
  cases e1;refine JM ⟨_,rfl,?_⟩;refine wpAny_letOwnedTupleGo_enum (s:={ s with heap:=g,toks:=tk }) zg λg' zg' sb=>?_
  have N0:H s.heap.objs.size=td:=I.hok.fresh (JO _);have lt:∀ {b:JK},b∈[z,i1]->s.heap.objs.size≠b:=λ{b} hb=>by
   have:∃o,s.heap.get? b=gV o:=by
    have it:∀ {S:Zs} {it:JK},S.T it i s.heap->∃o,s.heap.get? it=gV o:=λ{S it} t=>by
     cases S with
     | tup a=>obtain⟨o,e,_⟩:=t; exact⟨o,e⟩
     | lst a=>obtain⟨o,e,_⟩:=t; exact⟨o,e⟩
     | txt x=>obtain⟨tk,⟨o,e,_⟩|⟨o,e,_⟩⟩:=t <;> exact⟨o,e⟩
    simp only[Ke,KM,Mc]at hb;rcases hb with rfl|rfl
    ·exact⟨_,a⟩
    ·exact it d
   obtain⟨o,e⟩:=this;exact Mp (J2 e)
  have up:∀b o,b∉[z,i1]->s.heap.get? b=gV o->g'.get? b=gV o:=λb o hb e=>by
   simp only[Ke,KM,Mc,Rp]at hb;exact sb.extBut _ _ hb.1 (kp b o hb.1 hb.2 e)
  have I1:Inv X pins σ H { s with heap:=g',toks:=tk }:=Mi.Inv.turnedL I up hf
  have ng':g'.get? s.heap.objs.size=gV { cls:=.type "tuple",data:=.seq [.int i tk0,u].toArray }:=sb.extBut _ _ (lt (by simp)) ng
  have I2:Inv X pins σ (cH H s.heap.objs.size (.tup [.int i,x])) { s with heap:=g',toks:=tk }:=by
   refine Mi.Inv.adopt I1 N0 (.inr I.sz) (Mp I.lt) (λw c e=>?_) (λp hp=>?_) ⟨⟨by show 2<=sizeLine; decide,⟨_,ng',rfl⟩⟩,[.int i tk0,u],.cons ⟨_,rfl⟩ (.cons r1 .nil),⟨_,ng',rfl,0,rfl⟩⟩
   ·obtain⟨v,q⟩:=I.cell w c e;exact Kj q.lt
   ·exact Kj (J2 (I.pin p hp).1)
  refine⟨.ref s.heap.objs.size,_,I2,rfl,⟨s.heap.objs.size,x,Zs.at_is I g1,rfl,N0,rfl⟩,⟨⟨_,zg'⟩,Zs.keep t1 λo e=>sb.extBut _ _ (Ne.symm D) e⟩,λb hb=>?_⟩
  rw[bc (Ne.symm (lt hb))];exact(hf b hb).1
 done:=by
  intro X hP hw hK hc i pins s σ H E I hf st hg;subst hP hw hK;obtain⟨⟨old,a⟩,d⟩:=st;have hf4:∀b∈[z,z,i1,i1],jI X pins H b:=λb hb=>hf b (by simp only[Ke,KM,Mc]at hb ⊢; rcases hb with h|h|h|h <;> simp[h])
  obtain⟨C1,Z1,c1,k1⟩:=Zs.zit (it:=i1) (U:=td) I hf4 hg;have hT:s.TypeIs (.ref z) "enumerate":=⟨_,a,rfl⟩;unfold pyNext;refine JA (NX (KU (name:=LS "__next__") hT F.slot_enumerate_next (La F.slot_enumerate_next hT F.entry_enumerate_next ?_ (F.args_enumerate_next_1 _))));refine oo Z1 (I.ok.hd hc) a d c1 D (λV e1=>by cases e1) λ_ h' e k ⟨o,ho,hc⟩=>?_
  exact JA (N4 (T:="StopIteration") (b:=true) ⟨o,ho,hc⟩ QK (JM ⟨rfl,Mi.Inv.turnedL (t':=s.toks) I (λb o hb e=>by
    simp only[Ke,KM,Mc,Rp]at hb;exact k b o hb.2 e) hf⟩))
 self:=λ_ _ _ _ _ st h=>by obtain⟨⟨old,a⟩,_⟩:=st; exact PU a h
noncomputable def pv (xs:Jy W):Jy W:=xs.zipIdx.map λp=>.tup [.int (p.2:JF),p.1]
theorem qT {xs:Jy W}{i:JF}{w:W}(h:(pv xs)[i]?=gV w):∃x,xs[i]?=gV x/\w=.tup [.int i,x]:=by
 unfold pv at h;rw[JJ,List.getElem?_zipIdx,Option.map_map,JC]at h;obtain⟨x,h1,rfl⟩:=h;exact⟨x,h1,by simp⟩
noncomputable def B3 (f:FA):FI:=λρ S=>match f ρ S with
 | some ([x],S1)=>match Iz x with
  | some xs=>gV (.its (pv xs),S1)
  | none=>td
 | _=>td
section
variable{X:Cx}{pins:Jy (JK×Ll)}{σ:L2.St}{H:Hp}{s:JD}{A:Jy JK}
theorem yD {S1:Zs}{xs:Jy W}(z1:ZRel X.K A H xs S1):MIt X.w X.K (.its (pv xs)) (Ji X.K S1) A H:=by
 refine⟨λA' H' S i w e so hi=>?_,λA' H' S i e so hi=>?_⟩
 ·simp only[MI.at,KG]at hi;obtain⟨x,e1,rfl⟩:=qT hi;obtain⟨v,g1,r1⟩:=(z1.mono e).at e1;refine⟨⟨v,g1⟩,λp H2 ⟨a,v',q1,hp,hn,hH⟩=>?_⟩
  subst hp hH;have ex:Ext X.K A' H' A' (cH H' a (.tup [.int i,v'])):=dS (.inl hn);exact⟨ex,so.lay hn,.tup (.of bM) (.cons .int (.cons (((z1.mono e).is e1 q1).mono ex) .nil))⟩
 ·simp only[MI.at,KG,LF,pv,Jz,List.length_zipIdx]at hi;exact(z1.mono e).out hi
theorem vW:bootBuiltins "enumerate" = gV (.type "enumerate"):=rfl
theorem B4 {els:Jy J9}{k0:JF}{tp:L0}{a:J9}{f:FA}{p pos:L0}(hg:Gl X "enumerate")(hm:X.mg "enumerate" = td)(ha:GA X [a] f)(hs:starEach [a] X.env=[(false,eval a X.env)]) :
  GI X (.Tuple els k0 tp) (.Call (.Name "enumerate" p) [a] [] pos) (B3 f):=by
 intro pins s σ H R I ⟨A,ρ,S,mi,S',er,so,e,hq⟩;unfold B3 at e;split at e
 ·rename_i x S1 h1;split at e
  ·rename_i xs e1;cases e;refine Call_ (jH I hg hm vW (LR (cu (ha pos pins s σ H _ I ⟨A,ρ,S,_,_,er,so,h1,λ_ _ z=>z⟩) λus s1 ⟨vs,H1,I1,r1,A1,z1,z2,z3⟩=>?_) (by rw[hs]; rfl) (by rfl)))
   cases z3 with
   | cons ra t=>
    cases t;cases r1 with
    | cons ua t=>
     cases t;obtain⟨Sa,oa,Ca,za,ia,ca,ka,na,ta⟩:=B2 I1 ra ua e1;refine vU ia ca na λh' hz g1 kp=>?_
     have I2:Inv X pins σ H1 { s1 with heap:=h' }:=I1.kept (t':=s1.toks) kp
     refine PU (s:={ s1 with heap:=h' }) hz ?_
     refine⟨s1.heap.objs.size+1,_,_,_,H1,rfl,I2,vV (S1:=Sa) (i1:=s1.heap.objs.size) (by simp),⟨⟨_,hz⟩,ta _ _ g1⟩,λb hb=>?_,hq _ _ A1 z1 z2 (yD za)⟩
     have hb':s1.heap.objs.size<=b:=by
      simp only[Ke,KM,Mc]at hb;rcases hb with rfl|rfl
      ·exact Nat.le_add_right _ _
      ·exact JO _
     exact I1.fpOk hb' (I1.hok.fresh hb')
  ·cases e
 ·cases e
end
end Mi
namespace Mi
open PySem PySem.Spec PyProof.Rows L2
noncomputable def Ft (g1 g2:Jy W->aa->JE (W×aa))(xs:Jy W)(S:aa):JE (W×aa):=match g1 xs S with
 | some r=>gV r
 | none=>g2 xs S
theorem yE {X:Cx}{f:JB}{g1 g2:Jy W->aa->JE (W×aa)}(h1:LCall X f g1)(h2:LCall X f g2):LCall X f (Ft g1 g2):=by
 intro pins s σ H A S xs vs us w S' I so rl rv e;unfold Ft at e;split at e
 ·rename_i r hr;cases e;exact h1 pins s σ H A S xs vs us w S' I so rl rv hr
 ·exact h2 pins s σ H A S xs vs us w S' I so rl rv e
inductive Bi where|len|list|tuple|int|sorted|range|all|min
 deriving Mz
noncomputable def Bi.fn:Bi->Jy W->aa->JE (W×aa)
 | .len=>sH|.list=>Ft kJ n0|.tuple=>lS|.int=>Ge|.sorted=>je|.range=>o7|.all=>Gi|.min=>Bs
noncomputable def Bi.name:Bi->JZ
 | .len=>"len"|.list=>"list"|.tuple=>"tuple"|.int=>"int"|.sorted=>"sorted"|.range=>"range"|.all=>"all"|.min=>"min"
inductive Me where|append|extend|join|pop|get|index
 deriving Mz
noncomputable def Me.fn:Me->W->Jy W->aa->JE (W×aa)
 | .append=>i8|.extend=>i9|.join=>xS|.pop=>Eg|.get=>uf|.index=>ja
noncomputable def Me.name:Me->JZ
 | .append=>"append"|.extend=>"extend"|.join=>"join"|.pop=>"pop"|.get=>"get"|.index=>"index"
noncomputable def Me.ty:Me->K8
 | .append=>"list"|.extend=>"list"|.join=>"str"|.pop=>"list"|.get=>"dict"|.index=>"tuple"
inductive Tg where
 | nm (i:JF)|tp (is:Jy JF)
set_option genSizeOf false in
set_option genInjectivity false in
mutual
inductive E where
 | c (w:W)|v (i:JF)
 | op (o:BOp) (a b:E)
 | cmp (o:COp) (a b:E)
 | and (a b:E)|or (a b:E)|not (a:E)
 | own (f:JZ) (n:JF) (es:Es)|bi (b:Bi) (es:Es)|me (m:Me) (o:E) (es:Es)
 | ix (a b:E)|sl (a:E) (lo hi:Ep)|tup (es:Es)|lst (es:Es)
 | isi (c:K8) (a:E)
 | neg (a:E)|dnew|disp (es:Es)|ite (t a b:E)
 | comp (elt:E) (tg:Tg) (it:Ie) (cs:Es) (cap:Jy (JE JF))
inductive Es where
 | nil|cons (e:E) (es:Es)
inductive Ep where
 | no|yes (e:E)
inductive Ie where
 | seq (e:E)|rng (es:Es)|rng2 (es:Es)|enu (es:Es)
end
set_option genSizeOf false in
set_option genInjectivity false in
mutual
inductive Sm where
 | set (i:JF) (e:E)|asg (is:Jy JF) (e:E)|par (i j:JF) (es:Es)|put (o k e:E)
 | ex (e:E)|ret (e:E)|retN|pass|brk|cont|bad
 | ite (t:E) (a b:Ss)|whl (t:E) (b:Ss)|loop (tg:Tg) (it:Ie) (b:Ss)
inductive Ss where
 | nil|cons (s:Sm) (ss:Ss)
end
noncomputable def gd:Tg->FG
 | .nm i=>BN i
 | .tp is=>Fs is
section
variable (Φ:JZ->FF)
mutual
noncomputable def aP:E->FE
 | .c w=>fC w
 | .v i=>fV i
 | .op o a b=>Bt (iZ o) (aP a) (aP b)
 | .cmp o a b=>Bu o (aP a) (aP b)
 | .and a b=>um (aP a) (aP b)
 | .or a b=>By (aP a) (aP b)
 | .not a=>uq (aP a)
 | .own f n es=>qN n (Φ f) (dN es)
 | .bi b es=>kM b.fn (dN es)
 | .me m o es=>Fq m.ty m.fn (aP o) (dN es)
 | .ix a b=>Ix (aP a) (aP b)
 | .sl a lo hi=>Gn (aP a) (uA lo) (uA hi)
 | .tup es=>yk (dN es)
 | .lst es=>ym (dN es)
 | .isi c a=>yy c (aP a)
 | .neg a=>yf (aP a)
 | .dnew=>C4
 | .disp es=>qQ (dN es)
 | .ite t a b=>Bz (dL t) (aP a) (aP b)
 | .comp elt tg it cs cap=>lU (lV it) (gd tg) (B5 cs) (aP elt) cap
noncomputable def dL:E->FT
 | .cmp o a b=>yh (Bu o (aP a) (aP b))
 | .and a b=>yi (dL a) (dL b)
 | .or a b=>Gj (dL a) (dL b)
 | .not a=>Bv (dL a)
 | .c w=>ic (fC w)
 | .v i=>ic (fV i)
 | .op o a b=>ic (Bt (iZ o) (aP a) (aP b))
 | .own f n es=>ic (qN n (Φ f) (dN es))
 | .bi b es=>ic (kM b.fn (dN es))
 | .me m o es=>ic (Fq m.ty m.fn (aP o) (dN es))
 | .ix a b=>ic (Ix (aP a) (aP b))
 | .sl a lo hi=>ic (Gn (aP a) (uA lo) (uA hi))
 | .tup es=>ic (yk (dN es))
 | .lst es=>ic (ym (dN es))
 | .isi c a=>ic (yy c (aP a))
 | .neg a=>ic (yf (aP a))
 | .dnew=>λ_ _=>td
 | .disp _=>λ_ _=>td
 | .ite _ _ _=>λ_ _=>td
 | .comp _ _ _ _ _=>λ_ _=>td
noncomputable def dN:Es->FA
 | .nil=>jR
 | .cons e es=>eT (aP e) (dN es)
noncomputable def B5:Es->FT
 | .nil=>C5
 | .cons e .nil=>dL e
 | .cons _ (.cons _ _)=>λ_ _=>td
noncomputable def uA:Ep->FO
 | .no=>Ey
 | .yes e=>uu (aP e)
noncomputable def lV:Ie->FI
 | .seq e=>gA (aP e)
 | .rng es=>sK (dN es)
 | .rng2 es=>iRng2 (dN es)
 | .enu es=>B3 (dN es)
end
variable (fuel:JF)
mutual
noncomputable def gI:Sm->FS
 | .set i e=>lT (aP Φ e) (BN i)
 | .asg is e=>lT (aP Φ e) (Fs is)
 | .par i j es=>BP i j (dN Φ es)
 | .put o k e=>lT (aP Φ e) (BO (aP Φ o) (aP Φ k))
 | .ex e=>BH (aP Φ e)
 | .ret e=>BK (aP Φ e)
 | .retN=>λ_ S=>gV (.rt .non,S)
 | .pass=>yr
 | .brk=>λρ S=>gV (.bk ρ,S)
 | .cont=>λρ S=>gV (.ct ρ,S)
 | .bad=>λ_ _=>td
 | .ite t a b=>BM (dL Φ t) (gN a) (gN b)
 | .whl t b=>pq (dL Φ t) (gN b) fuel
 | .loop tg it b=>yv (lV Φ it) (gd tg) (gN b)
noncomputable def gN:Ss->FS
 | .nil=>λρ S=>gV (.nx ρ,S)
 | .cons s ss=>BG (gI s) (gN ss)
end
end
structure Gam where
 sc:Jy (JZ×Lx)
 N:Jy JZ
 fns:Jy (JZ×JF)
 blt:Jy JZ
 dfn:Kc
noncomputable def EL:JE Lx->Kc
 | some .local=>true|some .cell=>true|some .free=>true|_=>false
noncomputable def B6:JE Lx->Kc
 | some .cell=>true|some .free=>true|_=>false
noncomputable def gO (names outer:Jy (JZ×Lx)):Jy (JZ×Lx):=names.map λ(n,k)=>if (k==.free&&outer.lookup n==gV .cell)then(n,.cell)else(n,k)
noncomputable def slot (Γ:Gam)(x:JZ):JE JF:=if EL (Γ.sc.lookup x) && !(x==("__debug__" : JZ)) && !(x==("__classdict__" : JZ))then Γ.N.findIdx? (· == x)else td
noncomputable def uB:Py->JE BOp
 | .Add=>gV .add|.Sub=>gV .sub|.Mult=>gV .mul|.FloorDiv=>gV .fdiv|.Mod=>gV .mod|.Pow=>gV .pow|_=>td
noncomputable def uC:Rj->JE COp
 | .Eq=>gV .eq|.NotEq=>gV .ne|.Lt=>gV .lt|.LtE=>gV .le|.Gt=>gV .gt|.GtE=>gV .ge|.In=>gV .isin|.NotIn=>gV .notin|.Is=>gV .is|.IsNot=>gV .isnot
noncomputable def B7 (x:JZ):JE Bi:=[Bi.len,.list,.tuple,.int,.sorted,.range,.all,.min].find? λb=>b.name==x
noncomputable def B8 (x:JZ):JE Me:=[Me.append,.extend,.join,.pop,.get,.index].find? λb=>b.name==x
noncomputable def Gx (Γ:Gam)(x:JZ):Kc:=Γ.sc.lookup x==gV .globalImplicit && !(x==("__debug__" : JZ))
noncomputable def yF (x:JZ):JE K8:=if x==("bool" : JZ)then gV "bool" else if x==("int" : JZ)then gV "int" else if x==("str" : JZ)then gV "str" else if x==("tuple" : JZ)then gV "tuple" else if x==("list" : JZ)then gV "list" else if x==("dict" : JZ)then gV "dict" else td
noncomputable def uD:Jy (JE J9)->Jy J9->Jy J9
 | some k::ks,v::vs=>k::v::uD ks vs
 | _,_=>[]
noncomputable def B9 (Γ:Gam)(f:J9->JE E):Jy J9->JE E
 | [a,.Name c _]=>if Gx Γ c&&Γ.blt.contains c then match yF c,f a with
  | some cs,gV a'=>gV (.isi cs a')
  | _,_=>td
  else td
 | _=>td
noncomputable def g8:J9->Kc
 | .Name _ _=>true|.Constant _ _ _=>true|.Subscript _ _ _=>true|_=>false
noncomputable def nh (Γ:Gam)(x:JZ):Kc:=Γ.sc.lookup x==gV .globalImplicit && !(x==("__debug__" : JZ))
noncomputable def dP (Γ:Gam)(x:JZ):JE JF:=if (Γ.sc.lookup x==gV .local)||(Γ.dfn&&Γ.sc.lookup x==gV .cell)then Γ.N.findIdx? (· == x)else td
noncomputable def cA (f:J9->JE E)(es:Jy J9):JE Es:=es.foldr (λe acc=>match f e,acc with|some e',gV es'=>gV (.cons e' es')|_,_=>td) (gV .nil)
noncomputable def cB (f:J9->JE E)(op:RV):Jy J9->JE E
 | []=>td
 | [a]=>f a
 | a::b::dc=>match f a,cB f op (b::dc)with
  | some a',gV b'=>gV (match op with|.And=>.and a' b'|.Or=>.or a' b')
  | _,_=>td
noncomputable def cP (f:J9->JE E):JE J9->JE Ep
 | none=>gV .no
 | some e=>(f e).map .yes
noncomputable def isTup:J9->Kc
 | .Tuple _ _ _=>true
 | _=>false
noncomputable def cI (Γ:Gam)(f:J9->JE E)(tg:J9):J9->JE Ie
 | .Call (.Name x p) [a] [] q=>if x==("range" : JZ)&&nh Γ x&&Γ.blt.contains x then(cA f [a]).map .rng else if x==("enumerate" : JZ)&&nh Γ x&&Γ.blt.contains x&&isTup tg then(cA f [a]).map .enu else(f (.Call (.Name x p) [a] [] q)).map .seq
 | .Call (.Name x p) [a,b] [] q=>if x==("range" : JZ)&&nh Γ x&&Γ.blt.contains x then(cA f [a,b]).map .rng2 else(f (.Call (.Name x p) [a,b] [] q)).map .seq
 | e=>(f e).map .seq
noncomputable def Fu (Γ:Gam):Jy J9->JE (Jy JF)
 | []=>gV []
 | .Name x _::ts=>match dP Γ x,Fu Γ ts with
  | some i,gV is=>gV (i::is)
  | _,_=>td
 | _::_=>td
noncomputable def cT (Γ:Gam):J9->JE Tg
 | .Name x _=>(dP Γ x).map .nm
 | .Tuple ts _ _=>(Fu Γ ts).map .tp
 | _=>td
noncomputable def iB (names:Jy (JZ×Lx)):Jy JZ:=(names.filter λp=>p.2==.local||p.2==.free).map (·.1)
noncomputable def hG (Γ:Gam)(names:Jy (JZ×Lx)):Jy (JE JF):=(iB names).map λx=>if names.lookup x==gV .local then td else Γ.N.findIdx? (· == x)
noncomputable def yG (Γ:Gam)(scope:Mx):Kc:=
 (scope.kind==.function)&&scope.names.all (λy=>!(y.2==.local)||scope.names.lookup y.1==gV .local)&&scope.names.all (λy=>!(y.2==.cell)) &&
 scope.names.all (λy=>!(y.2==.free)||(B6 (Γ.sc.lookup y.1)&&scope.names.lookup y.1==gV .free&&(Γ.N.findIdx? (· == y.1)).isSome))&&decide (iB scope.names).Nodup
noncomputable def iC (Γ:Gam)(scope:Mx):Gam:={ Γ with sc:=gO scope.names Γ.sc,N:=iB scope.names,dfn:=false }
noncomputable def yH (f:J9->JE E)(keys:Jy (JE J9))(values:Jy J9):JE E:=
 if keys.isEmpty&&values.isEmpty then gV .dnew
 else if keys.all (·.isSome)&&decide (keys.length=values.length)&&decide (keys.length<=15)then(cA f (uD keys values)).map .disp else td
noncomputable def cE:JF->Gam->J9->JE E
 | 0,_,_=>td
 | n+1,Γ,e=>match e with
  | .Constant (.int i) _ _=>gV (.c (.int i))
  | .Constant (.str x) _ _=>gV (.c (.str x))
  | .Constant (.bool b) _ _=>gV (.c (.bl b))
  | .Constant .none _ _=>gV (.c .non)
  | .Name x _=>match slot Γ x with
   | some i=>gV (.v i)
   | none=>td
  | .BinOp a op b _=>match uB op,cE n Γ a,cE n Γ b with
   | some o,gV a',gV b'=>gV (.op o a' b')
   | _,_,_=>td
  | .UnaryOp .Not a _=>(cE n Γ a).map .not
  | .UnaryOp .USub a _=>(cE n Γ a).map .neg
  | .BoolOp op vs _=>cB (cE n Γ) op vs
  | .Compare a [op] [b] _=>match uC op,cE n Γ a,cE n Γ b with
   | some o,gV a',gV b'=>gV (.cmp o a' b')
   | _,_,_=>td
  | .IfExp t a b _=>match cE n Γ t,cE n Γ a,cE n Γ b with
   | some t',gV a',gV b'=>gV (.ite t' a' b')
   | _,_,_=>td
  | .Call (.Name f _) args [] _=>if nh Γ f then match Γ.fns.lookup f with
    | some k=>(cA (cE n Γ) args).map (.own f k)
    | none=>if f==("isinstance" : JZ)then(if Γ.blt.contains f then B9 Γ (cE n Γ) args else td)else match B7 f,args with
     | some b,a::as=>if Γ.blt.contains f then(cA (cE n Γ) (a::as)).map (.bi b)else td
     | _,_=>td
   else td
  | .Call (.Attribute o m apos) (a::as) [] cpos=>match B8 m,cE n Γ o,cA (cE n Γ) (a::as)with
   | some m',gV o',gV es=>if g8 o&&(apos.endLine==cpos.line)&&decide ((a::as).length < 29)then gV (.me m' o' es)else td
   | _,_,_=>td
  | .Subscript a (.Slice lo hi td _) _=>match cE n Γ a,cP (cE n Γ) lo,cP (cE n Γ) hi with
   | some a',gV lo',gV hi'=>gV (.sl a' lo' hi')
   | _,_,_=>td
  | .Subscript a b _=>match cE n Γ a,cE n Γ b with
   | some a',gV b'=>gV (.ix a' b')
   | _,_=>td
  | .Tuple es _ _=>(cA (cE n Γ) es).map .tup
  | .List es _=>(cA (cE n Γ) es).map .lst
  | .Dict keys values _=>yH (cE n Γ) keys values
  | .ListComp elt [⟨tg,iter,ifs,asy⟩] scope _=>if (asy==0)&&(yG Γ scope&&decide (ifs.length<=1))then
    match cI Γ (cE n Γ) tg iter,cT (iC Γ scope) tg,cA (cE n (iC Γ scope)) ifs,cE n (iC Γ scope) elt with
    | some it,gV t,gV cs,gV el=>gV (.comp el t it cs (hG Γ scope.names))
    | _,_,_,_=>td
   else td
  | _=>td
structure CtxOk (Φ:JZ->FF)(X:Cx)(Γ:Gam):Prop where
 names:X.env.scope.names=Γ.sc
 kind:X.env.scope.kind=.function
 N:X.N=Γ.N
 nd:Γ.N.Nodup
 calm:X.calm=true
 xe:X.xe=λ_ _=>KZ
 un:X.A.units+iI < cLine
 dfn:Γ.dfn=true->∀x,X.fn x=true
 blt:∀x∈Γ.blt,X.mg x=td
 fns:∀f n,Γ.fns.lookup f=gV n->∃k fa fd ps,FnOk X.prog X.w X.K X.mg X.base w6 k fa fd ps (yp X.w X.K n (Φ f))/\Room k X.A/\X.mg f=gV (.ref fa)/\Lg X.K (.ref fa)=true/\Binds X.K fd ps []
theorem bh {α:Type}{x:α}{P:Prop}(h:(td:JE α)=gV x):P:=nomatch h
noncomputable def iL:J9->Kc
 | .Starred _ _=>false
 | _=>true
theorem aJ {e:J9}{es:Jy J9}{env:Pu}(h:iL e=true):starEach (e::es) env=(false,eval e env)::starEach es env:=by
 cases e <;> first|rfl|cases h
theorem bN {env:Pu}{pos:L0}:∀ {es:Jy J9},es.all iL=true->(backTo pos (starEach es env)).any (·.1)=false
 | [],_=>rfl
 | e::es,h=>by
  rw[Kx,JH]at h;rw[aJ h.1];show(false||(backTo pos (starEach es env)).any (·.1))=false
  rw[bN h.2];rfl
theorem qU {env:Pu}{pos:L0}:∀ {es:Jy J9},es.all iL=true->(backTo pos (starEach es env)).all (λx=>!x.1)=true
 | [],_=>rfl
 | e::es,h=>by
  rw[Kx,JH]at h;rw[aJ h.1];show(true&&(backTo pos (starEach es env)).all (λx=>!x.1))=true
  rw[qU h.2];rfl
theorem jS {n:JF}{Γ:Gam}{e:J9}{e':E}(h:cE n Γ e=gV e'):iL e=true:=by
 cases n with
 | zero=>cases h
 | succ n=>cases e <;> first|rfl|(exact bh h)
theorem jg {f:J9->JE E}{e:J9}{es:Jy J9}{r:Es}(h:cA f (e::es)=gV r):∃e' es',f e=gV e'/\cA f es=gV es'/\r=.cons e' es':=by
 simp only[cA,Qr]at h;split at h
 ·rename_i e' es' h1 h2;cases h;exact⟨e',es',h1,h2,rfl⟩
 ·cases h
theorem dz {n:JF}{Γ:Gam}:∀ {es:Jy J9} {r:Es},cA (cE n Γ) es=gV r->es.all iL=true
 | [],_,_=>rfl
 | e::es,r,h=>by
  obtain⟨e',es',h1,h2,_⟩:=jg h;rw[Kx,jS h1,dz h2];rfl
theorem dX {N:Jy JZ}{x:JZ}{i:JF}(h:N.findIdx? (· == x)=gV i):N[i]?=gV x:=by
 obtain⟨hl,h1,_⟩:=L4.mp h;rw[JX hl];exact congrArg gV (eq_of_beq h1)
section
variable{Φ:JZ->FF}{X:Cx}{Γ:Gam}
theorem ls {e:J9}:GT X e (λ_ _=>td):=λpins s σ H Q I ⟨A,ρ,S,k,S',er,so,e1,hq⟩=>by cases e1
theorem yI {x:JZ}(h:EL (X.env.scope.names.lookup x)=true):HD X.env.scope x:=by
 unfold EL at h;split at h
 ·exact .inl (by assumption)
 ·exact .inr (.inl (by assumption))
 ·exact .inr (.inr (by assumption))
 ·cases h
theorem yJ (K:CtxOk Φ X Γ){x:JZ}{pos:L0}{i:JF}(h:slot Γ x=gV i):GE X (.Name x pos) (fV i):=by
 unfold slot at h;split at h
 ·rename_i hc;rw[JH,JH]at hc;obtain⟨⟨h1,h2⟩,h3⟩:=hc;refine Iw (Dy (by rw[K.N]; exact dX h) (yI (by rw[K.names]; exact h1)) (by simpa using h2) (by simpa using h3))
 ·cases h
theorem lW (K:CtxOk Φ X Γ){x:JZ}(h:nh Γ x=true):Gl X x/\(x==("__debug__" : JZ))=false:=by
 unfold nh at h;rw[JH]at h;refine⟨?_,by simpa using h.2⟩
 show X.env.scope.names.lookup x=_;rw[K.names];exact eq_of_beq h.1
theorem yK {o:Rj}{c:COp}(h:uC o=gV c):c.py=o:=by
 cases o <;> (simp only[uC,KG]at h; subst h; rfl)
theorem yL {o:Py}{c:BOp}(h:uB o=gV c):c.py=o:=by
 cases o <;> simp only[uB,KG]at h <;> first|(subst h; rfl)|cases h
theorem vX {x:JZ}{b:Bi}(h:B7 x=gV b):b.name=x:=by
 have:=Ow h;exact eq_of_beq this
theorem vY {x:JZ}{b:Me}(h:B8 x=gV b):b.name=x:=by
 have:=Ow h;exact eq_of_beq this
theorem ec {n:JF}(ih:∀ {e:J9} {e':E},cE n Γ e=gV e'->GE X e (aP Φ e')):∀ {es:Jy J9} {r:Es},cA (cE n Γ) es=gV r->GA X es (dN Φ r)
 | [],r,h=>by cases h; exact Ex
 | e::es,r,h=>by
  obtain⟨e',es',h1,h2,rfl⟩:=jg h;exact BA (ih h1) (ec ih h2) (aJ (jS h1))
theorem Gy (K:CtxOk Φ X Γ){n:JF}{f:JZ}{p pos:L0}{args:Jy J9}{k:JF}{r:Es}(hg:nh Γ f=true)(hf:Γ.fns.lookup f=gV k)(ha:cA (cE n Γ) args=gV r)(h:GA X args (dN Φ r)):GE X (.Call (.Name f p) args [] pos) (qN k (Φ f) (dN Φ r)):=by
 obtain⟨d,fa,fd,ps,F,hr,hm,hk,hb⟩:=K.fns f k hf;obtain⟨g1,g2⟩:=lW K hg;cases args with
 | nil=>cases ha; exact BE F hr g1 hm hk hb g2
 | cons a as=>
  have ns:=dz ha;rw[Kx,JH]at ns;exact EA F hr g1 hm hk hb h g2 (aJ ns.1) (bN ns.2)
theorem IA (K:CtxOk Φ X Γ){n:JF}{f:JZ}{p pos:L0}{a:J9}{as:Jy J9}{b:Bi}{r:Es}(hg:nh Γ f=true)(hb:B7 f=gV b)(hc:Γ.blt.contains f=true)(ha:cA (cE n Γ) (a::as)=gV r)(h:GA X (a::as) (dN Φ r)):GE X (.Call (.Name f p) (a::as) [] pos) (kM b.fn (dN Φ r)):=by
 obtain⟨g1,g2⟩:=lW K hg;have hm:X.mg f=td:=K.blt f (by simpa using hc)
 have ns:=dz ha;rw[Kx,JH]at ns;have e:=vX hb;subst e;have hu:X.A.units+12 < cLine:=by have:=K.un; have:iI=20:=rfl; omega
 have calm:∀ {f:JB} {g:Jy W->aa->JE (W×aa)},(X.A.handled=td->LCall X f g)->LCall X f g:=λh pins s σ H A S xs vs us w S' I=>h (I.ok.hd K.calm) pins s σ H A S xs vs us w S' I
 cases b with
 | len=>exact ur sM g1 hm PySem.boot_len h (by decide) g2 (aJ ns.1) (bN ns.2)
 | list=>exact ut (calm λhh=>yE (qy hh) (qL hh)) g1 hm rfl h (by decide) g2 (aJ ns.1) (bN ns.2)
 | tuple=>exact ut (calm po) g1 hm rfl h (by decide) g2 (aJ ns.1) (bN ns.2)
 | int=>exact ut vG g1 hm rfl h (by decide) g2 (aJ ns.1) (bN ns.2)
 | sorted=>exact ur (calm λhh=>pk hh hu) g1 hm rfl h (by decide) g2 (aJ ns.1) (bN ns.2)
 | range=>exact ut qx g1 hm rfl h (by decide) g2 (aJ ns.1) (bN ns.2)
 | all=>exact ur (calm vR) g1 hm rfl h (by decide) g2 (aJ ns.1) (bN ns.2)
 | min=>exact ur (calm λhh=>vP hh hu) g1 hm rfl h (by decide) g2 (aJ ns.1) (bN ns.2)
theorem yM {x:JZ}{c:K8}(h:yF x=gV c):bootBuiltins x=gV (.type c)/\x≠"__name__":=by
 unfold yF at h;split at h
 ·rename_i e; cases h; rw[eq_of_beq e]; exact⟨rfl,by decide⟩
 ·split at h
  ·rename_i e; cases h; rw[eq_of_beq e]; exact⟨rfl,by decide⟩
  ·split at h
   ·rename_i e; cases h; rw[eq_of_beq e]; exact⟨rfl,by decide⟩
   ·split at h
    ·rename_i e; cases h; rw[eq_of_beq e]; exact⟨rfl,by decide⟩
    ·split at h
     ·rename_i e; cases h; rw[eq_of_beq e]; exact⟨rfl,by decide⟩
     ·split at h
      ·rename_i e; cases h; rw[eq_of_beq e]; exact⟨rfl,by decide⟩
      ·cases h
theorem Gz (K:CtxOk Φ X Γ){n:JF}{f:JZ}{p pos:L0}{args:Jy J9}{r:E}(hg:nh Γ f=true)(hb:(f==("isinstance" : JZ))=true)(hc:Γ.blt.contains f=true)(ih:∀ {e:J9} {e':E},cE n Γ e=gV e'->GE X e (aP Φ e'))(h:B9 Γ (cE n Γ) args=gV r) :
  GE X (.Call (.Name f p) args [] pos) (aP Φ r)/\∃a c,r=.isi c a:=by
 obtain⟨g1,g2⟩:=lW K hg;have hm:X.mg f=td:=K.blt f (by simpa using hc)
 have e:=eq_of_beq hb;subst e;unfold B9 at h;split at h
 ·rename_i a c q;split at h
  ·rename_i hcc;rw[JH]at hcc;obtain⟨g3,g4⟩:=lW K (x:=c) hcc.1;have hm2:X.mg c=td:=K.blt c (by simpa using hcc.2)
   split at h
   ·rename_i cs a' h1 h2;cases h;obtain⟨b1,b2⟩:=yM h1;exact⟨EJ g1 hm g3 hm2 b1 b2 g4 (ih h2) (aJ (jS h2)),a',cs,rfl⟩
   ·cases h
  ·cases h
 ·cases h
theorem eI {o:J9}{name:JZ}{env:Pu}(h:g8 o=true):attributeBase o name env (eval o env)=eval o env:=by
 cases o <;> first|rfl|cases h
theorem uE {n:JF}{pos:L0}(ih:∀ {e:J9} {e':E},cE n Γ e=gV e'->GE X e (aP Φ e')):∀(keys:Jy (JE J9)) (values:Jy J9) {r:Es},keys.all (·.isSome)=true->keys.length=values.length->cA (cE n Γ) (uD keys values)=gV r->Gu X pos keys values (dN Φ r)
 | [],[],r,_,_,h=>by cases h; exact BX
 | [],_::_,r,_,hl,_=>by cases hl
 | _::_,[],r,_,hl,_=>by cases hl
 | none::_,_::_,r,ha,_,_=>by cases ha
 | some k::ks,v::vs,r,ha,hl,h=>by
  dsimp only[uD]at h;obtain⟨e1,es1,h1,h2,rfl⟩:=jg h;obtain⟨e2,es2,h3,h4,rfl⟩:=jg h2;rw[Kx,JH]at ha;exact yz (ih h1) (ih h3) (uE ih ks vs ha.2 (by simpa using hl) h4)
theorem IB (K:CtxOk Φ X Γ){n:JF}{m:JZ}{apos cpos:L0}{o a:J9}{as:Jy J9}{b:Me}{o':E}{r:Es}(hm:B8 m=gV b)(hr:g8 o=true)(hl:(apos.endLine==cpos.line)=true)(hn:(a::as).length < 29)(ho:GE X o (aP Φ o'))(ha:cA (cE n Γ) (a::as)=gV r)(h:GA X (a::as) (dN Φ r)) :
  GE X (.Call (.Attribute o m apos) (a::as) [] cpos) (Fq b.ty b.fn (aP Φ o') (dN Φ r)):=by
 have ns:=dz ha;have ns':=ns;rw[Kx,JH]at ns;have mV:((backTo cpos (starEach (a::as) X.env)).all (λx=>!x.1)&&(backToKw cpos (keywordEach [] X.env)).all (λx=>x.1.isSome)&&decide ((a::as).length+([]:Jy Qt).length+(if ([]:Jy Qt).isEmpty then 0 else 1) < 30))=true:=by
  rw[qU ns',Mk,JH];exact⟨rfl,LL (by simp only[Lp,List.isEmpty_nil,L1]; omega)⟩
 have e:=vY hm;subst e;cases b with
 | append=>exact ol MZ PySem.F.slot_list_append PySem.F.type_list_append oY ho h (eI hr) mV hl (aJ ns.1) (bN ns.2)
 | extend=>exact ol MZ PySem.F.slot_list_extend PySem.F.type_list_extend oZ ho h (eI hr) mV hl (aJ ns.1) (bN ns.2)
 | join=>exact ol PySem.F.plainAttrs_str PySem.F.slot_str_join PySem.F.type_str_join sD ho h (eI hr) mV hl (aJ ns.1) (bN ns.2)
 | pop=>exact ol MZ PySem.F.slot_list_pop PySem.F.type_list_pop vH ho h (eI hr) mV hl (aJ ns.1) (bN ns.2)
 | get=>exact ol PySem.F.plainAttrs_dict Oz PySem.F.type_dict_get (sE (by have:=K.un; have:iI=20:=rfl; omega)) ho h (eI hr) mV hl (aJ ns.1) (bN ns.2)
 | index=>exact ol PySem.F.plainAttrs_tuple NU PySem.F.type_tuple_index qv ho h (eI hr) mV hl (aJ ns.1) (bN ns.2)
theorem qV {n:JF}{Γ:Gam}{e:J9}{e':E}{op:Rj}(h:cE n Γ e=gV e'):behindInMarks op e=false:=by
 cases n with
 | zero=>cases h
 | succ n=>cases e <;> first|rfl|(exact bh h)
theorem sP {n:JF}{Γ:Gam}{e:J9}{e':E}(h:cE n Γ e=gV e'):oQ e:=by
 cases n with
 | zero=>cases h
 | succ n=>cases e <;> first|(intro o i; rfl)|(exact bh h)
theorem pz {n:JF}{Γ:Gam}{f:J9->JE E}{e:J9}{i:Ie}{env:Pu}{tg:J9}(hf:∀el k p,f (.Set el k p)=td)(h:cI Γ f tg e=gV i):∀x,foldedSetIterable e env x=pure x:=by
 intro x;cases e <;> first|rfl|(simp[cI,hf]at h)
theorem pA {n:JF}{op:RV}{pos:L0}(ih:∀ {e:J9} {e':E},cE n Γ e=gV e'->GE X e (aP Φ e')):∀ {vs:Jy J9} {r:E},cB (cE n Γ) op vs=gV r->GE X (.BoolOp op vs pos) (aP Φ r)
 | [],r,h=>by cases h
 | [a],r,h=>Et (ih h)
 | a::b::dc,r,h=>by
  simp only[cB]at h;split at h
  ·rename_i a' b' h1 h2;cases h;cases op with
   | And=>exact Eu (ih h1) (pA ih h2)
   | Or=>exact Gm (ih h1) (pA ih h2)
  ·cases h
theorem pB {n:JF}{op:RV}{pos:L0}(ih:∀ {e:J9} {e':E},cE n Γ e=gV e'->GT X e (dL Φ e')):∀ {vs:Jy J9} {r:E},cB (cE n Γ) op vs=gV r->GW X (.BoolOp op vs pos) (dL Φ r)
 | [],r,h=>by cases h
 | [a],r,h=>by
  cases op with
  | And=>exact Bx (ih h)
  | Or=>exact En (ih h)
 | a::b::dc,r,h=>by
  simp only[cB]at h;split at h
  ·rename_i a' b' h1 h2;cases h;cases op with
   | And=>exact Eo (ih h1) (pB ih h2)
   | Or=>exact Gk (ih h1) (pB ih h2)
  ·cases h
theorem yN {n:JF}(ih:∀ {e:J9} {e':E},cE n Γ e=gV e'->GE X e (aP Φ e')){o:JE J9}{p:Ep}(h:cP (cE n Γ) o=gV p):GO X o (uA Φ p):=by
 cases o with
 | none=>cases h; exact BB
 | some e=>
  simp only[cP,JC]at h;obtain⟨e',h1,rfl⟩:=h;exact BC (ih h1)
theorem sQ (K:CtxOk Φ X Γ){n:JF}(ih:∀ {e:J9} {e':E},cE n Γ e=gV e'->GE X e (aP Φ e')){tg e:J9}{i:Ie}(h:cI Γ (cE n Γ) tg e=gV i):GI X tg e (lV Φ i):=by
 have gen:(cE n Γ e).map Ie.seq=gV i->GI X tg e (lV Φ i):=λh=>by
  rw[JC]at h;obtain⟨e',h1,rfl⟩:=h;exact B0 (ih h1)
 unfold cI at h;split at h
 ·rename_i x p a pos;split at h
  ·rename_i hc;rw[JH,JH]at hc;obtain⟨⟨h1,h2⟩,h3⟩:=hc;have hx:=eq_of_beq h1;subst hx;rw[JC]at h;obtain⟨r,hr,rfl⟩:=h;have ns:=dz hr;rw[Kx,JH]at ns;exact BU (lW K h2).1 (K.blt _ (by simpa using h3)) (ec ih hr) (aJ ns.1)
  ·split at h
   ·rename_i hc;rw[JH,JH,JH]at hc;obtain⟨⟨⟨h1,h2⟩,h3⟩,h4⟩:=hc;have hx:=eq_of_beq h1;subst hx;rw[JC]at h;obtain⟨r,hr,rfl⟩:=h;have ns:=dz hr;rw[Kx,JH]at ns;cases tg with
    | Tuple els k0 tp=>exact B4 (lW K h2).1 (K.blt _ (by simpa using h3)) (ec ih hr) (aJ ns.1)
    | _=>cases h4
   ·exact gen h
 ·rename_i x p a b pos;split at h
  ·rename_i hc;rw[JH,JH]at hc;obtain⟨⟨h1,h2⟩,h3⟩:=hc;have hx:=eq_of_beq h1;subst hx;rw[JC]at h;obtain⟨r,hr,rfl⟩:=h;have ns:=dz hr;rw[Kx,Kx,JH,JH]at ns;exact BV (lW K h2).1 (K.blt _ (by simpa using h3)) (ec ih hr) (by rw[aJ ns.1,aJ ns.2.1]; rfl) (aJ ns.2.1)
  ·exact gen h
 ·exact gen h
theorem pE (K:CtxOk Φ X Γ){x:JZ}{i:JF}(h:dP Γ x=gV i):X.N[i]?=gV x/\Aw X.env.scope x/\(X.fn x=true\/X.env.scope.names.lookup x=gV .local):=by
 unfold dP at h;split at h
 ·rename_i hc;refine⟨by rw[K.N]; exact dX h,?_⟩
  unfold L2.Aw;rw[K.names];rw[LP,JH]at hc;rcases hc with hc|⟨hd,hc⟩
  ·have:=eq_of_beq hc;exact⟨.inl this,.inr this⟩
  ·exact⟨.inr (eq_of_beq hc),.inl (K.dfn hd x)⟩
 ·cases h
theorem qW (K:CtxOk Φ X Γ):∀ {ts:Jy J9} {is:Jy JF},Fu Γ ts=gV is->(∀x∈ts,∃y p,x=OU y p)/\N8 (λ(t:J9) (i:JF)=>∃x p,t=OU x p/\X.N[i]?=gV x/\Aw X.env.scope x/\(X.fn x=true\/X.env.scope.names.lookup x=gV .local)) ts is
 | [],is,h=>by cases h; exact⟨λx hx=>by simp at hx,.nil⟩
 | t::ts,is,h=>by
  cases t with
  | Name x p=>
   dsimp only[Fu]at h;split at h
   ·rename_i i is' h1 h2;cases h;obtain⟨a,b⟩:=qW K h2;exact⟨λy hy=>(Ke.mp hy).elim (λe=>⟨x,p,e⟩) (a y),.cons ⟨x,p,rfl,pE K h1⟩ b⟩
   ·cases h
  | _=>cases h
theorem iM {env:Pu}:∀ {ts:Jy J9},(∀x∈ts,∃y p,x=OU y p)->(assignEach ts env).length=ts.length/\(assignEach ts env).findIdx? (·.1)=td
 | [],_=>⟨rfl,rfl⟩
 | t::ts,h=>by
  obtain⟨y,p,rfl⟩:=h t Ls;obtain⟨a,b⟩:=iM (env:=env) λx hx=>h x (K1 _ hx)
  refine⟨by show(assignEach ts env).length+1=ts.length+1; rw[a],?_⟩
  show List.findIdx? (·.1) ((false,assign (.Name y p) env)::assignEach ts env)=td
  rw[List.findIdx?_cons,b];rfl
theorem uF (K:CtxOk Φ X Γ){tg:J9}{t:Tg}(h:cT Γ tg=gV t):GG X tg (gd t):=by
 have hN:X.N.Nodup:=by rw[K.N]; exact K.nd
 cases tg with
 | Name x p=>
  dsimp only[cT]at h; simp only[JC]at h
  obtain⟨i,h1,rfl⟩:=h;obtain⟨a,b,c⟩:=pE K h1;exact uw hN a b c
 | Tuple ts k p=>
  dsimp only[cT]at h; simp only[JC]at h
  obtain⟨is,h1,rfl⟩:=h;obtain⟨a,b⟩:=qW K h1;exact ED K.calm a b hN (iM a).1 (iM a).2
 | _=>cases h
end
noncomputable def fH (env:Pu):Jy (JZ×Lx)->Jy (JZ×JK)->Jy (JZ×JK)
 | [],cs=>cs
 | (n,k)::r,cs=>fH env r (if k==.free then(n,(env.cells.lookup n).getD 0)::cs else cs)
theorem jT {env:Pu}:∀(names:Jy (JZ×Lx)) (cs:Jy (JZ×JK)),(∀y∈names,y.2=.free->(env.cells.lookup y.1).isSome=true)->
  (forIn names cs λx r=>match x with|(name,kind)=>if (kind==MS)=true then do let a <- cellOf env name; pure (Lq ((name,a)::r))else pure (Lq r):Rv (Jy (JZ×JK)))=pure (fH env names cs)
 | [],cs,_=>by rw[QN]; rfl
 | (n,k)::r,cs,h=>by
  rw[Oq];have hr:=λy hy=>h y (K1 _ hy)
  by_cases hk:(k==MS)=true
  ·obtain⟨c,hc⟩:=KR.mp (h (n,k) Ls (eq_of_beq hk));have e1:cellOf env n=pure c:=by unfold cellOf; rw[hc]
   simp only[hk,L1,e1,pure_bind];rw[jT r _ hr];simp only[fH,hk,L1,hc,Qc]
  ·have hk':(k==MS)=false:=by simpa using hk
   simp only[hk',K9,L9,pure_bind];rw[jT r _ hr];simp only[fH,hk',K9,L9]
theorem kX {scope:Mx}{env:Pu}(h:∀y∈scope.names,y.2=.free->(env.cells.lookup y.1).isSome=true):closureFor scope env=pure (fH env scope.names []):=by
 have:=jT scope.names [] h;unfold closureFor;simp only[this,pure_bind]
theorem lX {env:Pu}:∀(names:Jy (JZ×Lx)) (cs:Jy (JZ×JK)),(∀y∈names,y.2=.free->(env.cells.lookup y.1).isSome=true)->(∀x c,cs.lookup x=gV c->env.cells.lookup x=gV c)->
  ∀x c,(fH env names cs).lookup x=gV c->env.cells.lookup x=gV c
 | [],cs,_,h,x,c,e=>h x c e
 | (n,k)::r,cs,hn,h,x,c,e=>by
  refine lX r _ (λy hy=>hn y (K1 _ hy)) (λx c e=>?_) x c e
  split at e
  ·rename_i hk;rw[Ly]at e;split at e
   ·rename_i hx;cases e;have:=eq_of_beq hx;subst this;obtain⟨c,hc⟩:=KR.mp (hn (x,k) Ls (eq_of_beq hk));rw[hc]; rfl
   ·exact h x c e
  ·exact h x c e
theorem kN {env:Pu}{x:JZ}:∀(names:Jy (JZ×Lx)) (cs:Jy (JZ×JK)),(∃c,cs.lookup x=gV c)->∃c,(fH env names cs).lookup x=gV c
 | [],cs,h=>h
 | (n,k)::r,cs,h=>by
  refine kN r _ ?_;split
  ·rw[Ly];split
   ·exact⟨_,rfl⟩
   ·exact h
  ·exact h
theorem lY {env:Pu}{x:JZ}:∀(names:Jy (JZ×Lx)) (cs:Jy (JZ×JK)),(x,MS)∈names->∃c,(fH env names cs).lookup x=gV c
 | [],cs,h=>by simp at h
 | (n,k)::r,cs,h=>by
  rcases Ke.mp h with e|h
  ·cases e;refine kN r _ ?_;simp[Ly]
  ·exact lY r _ h
theorem lZ {x:JZ}{k:Lx}:∀ {l:Jy (JZ×Lx)},l.lookup x=gV k->(x,k)∈l
 | [],h=>by simp at h
 | (n,j)::r,h=>by
  rw[Ly]at h;split at h
  ·rename_i hx;cases h;have:=eq_of_beq hx;subst this;exact Ls
  ·exact K1 _ (lZ h)
theorem fI {X:Cx}{Φ:JZ->FF}{Γ:Gam}(K:CtxOk Φ X Γ)(scope:Mx):(relabel scope X.env).names=gO scope.names Γ.sc:=by
 unfold relabel gO Oj;rw[K.kind,K.names];refine KJ λ⟨n,k⟩ _=>?_
 have e:(Pn==Pn)=true:=rfl;simp only[e,NV]
theorem eV {outer:Jy (JZ×Lx)}{x:JZ}:∀ {names:Jy (JZ×Lx)},(gO names outer).lookup x=(names.lookup x).map λk=>if (k==.free&&outer.lookup x==gV .cell)then .cell else k
 | []=>rfl
 | (n,k)::r=>by
  have ih:=eV (outer:=outer) (x:=x) (names:=r);show List.lookup x ((if (k==MS&&outer.lookup n==gV .cell)=true then(n,Sh)else(n,k))::gO r outer)=_
  cases hx:x==n with
  | true=>
   have:=eq_of_beq hx;subst this;simp only[Ly,KY,Kq];split <;> simp[Ly]
  | false=>
   simp only[Ly,hx];split <;> (simp only[Ly,hx]; exact ih)
section
variable{Φ:JZ->FF}{X:Cx}{Γ:Gam}
structure ScOk (Γ:Gam)(scope:Mx):Prop where
 kind:scope.kind=.function
 names:∀y∈scope.names,y.2=.local->scope.names.lookup y.1=gV .local
 nocell:∀y∈scope.names,y.2≠.cell
 free:∀y∈scope.names,y.2=.free->B6 (Γ.sc.lookup y.1)=true/\scope.names.lookup y.1=gV .free/\(Γ.N.findIdx? (· == y.1)).isSome=true
 nd:(iB scope.names).Nodup
theorem uG {scope:Mx}(h:yG Γ scope=true):ScOk Γ scope:=by
 unfold yG at h;rw[JH,JH,JH,JH]at h;obtain⟨⟨⟨⟨h1,h2⟩,h3⟩,h4⟩,h5⟩:=h;refine⟨eq_of_beq h1,λy hy e=>?_,λy hy e=>?_,λy hy e=>?_,K4 h5⟩
 ·have:=J3.mp h2 y hy;rw[e]at this
  simpa using this
 ·have:=J3.mp h3 y hy;rw[e]at this;simp at this
 ·have:=J3.mp h4 y hy;rw[e]at this;simp only[KY,O6,NW,JH]at this;exact⟨this.1.1,eq_of_beq this.1.2,this.2⟩
theorem uH {o:JE Lx}(h:B6 o=true):o=gV .cell\/o=gV .free:=by
 unfold B6 at h;split at h
 ·exact .inl rfl
 ·exact .inr rfl
 ·cases h
theorem oq (K:CtxOk Φ X Γ)(ok:X.Ok){scope:Mx}(sc:ScOk Γ scope):CompOk X scope (fH X.env scope.names []) (iB scope.names) (hG Γ scope.names):=by
 have cells:∀y∈scope.names,y.2=.free->(X.env.cells.lookup y.1).isSome=true:=λy hy e=>by
  have hk:=uH (sc.free y hy e).1;obtain⟨c,hc⟩:=ok.has y.1 (by unfold Oj; rw[K.names]; exact hk)
  rw[hc]; rfl
 have relab:∀x,((relabel scope X.env).names.lookup x=gV .cell\/(relabel scope X.env).names.lookup x=gV .free)->(x,MS)∈scope.names:=λx h=>by
  rw[fI K,eV]at h;cases q:scope.names.lookup x with
  | none=>rw[q]at h; rcases h with h|h <;> cases h
  | some k=>
   rw[q]at h;have hm:=lZ q;cases k with
   | free=>exact hm
   | cell=>exact absurd rfl (sc.nocell _ hm)
   | _=>rcases h with h|h <;> simp at h
 refine⟨kX cells,sc.kind,sc.names,sc.nocell,lX _ _ cells (λx c e=>by cases e),λx h=>lY _ _ (relab x h),by simp[hG],λi j x hi hx=>?_⟩
 unfold hG at hi;rw[JJ,hx]at hi;simp only[Kq,KG]at hi;split at hi
 ·cases hi
 ·rename_i hl;have hx2:x∈iB scope.names:=JT hx;unfold iB at hx2;obtain⟨⟨x',k⟩,hf,e⟩:=J4.mp hx2;obtain⟨hm,hk⟩:=KW.mp hf;have e':x'=x:=e;subst e';have hkf:k=.free:=by
   simp only[LP]at hk;rcases hk with hk|hk
   ·have:k=.local:=eq_of_beq hk;subst this;have:=sc.names (x',.local) hm rfl;rw[this]at hl;simp at hl
   ·exact eq_of_beq hk
  subst hkf;obtain⟨f1,f2,f3⟩:=sc.free _ hm rfl;refine⟨by rw[K.N]; exact dX hi,by unfold Oj; rw[K.names]; exact uH f1,?_⟩
  rw[fI K,eV,f2];simp only[Kq,KG,KY,Mk];split
  ·exact .inl rfl
  ·exact .inr rfl
theorem fQ (K:CtxOk Φ X Γ){scope:Mx}(sc:ScOk Γ scope)(C:JK)(s0:JD)(H0:Hp)(ex:Jy JK):CtxOk Φ (mU X scope (fH X.env scope.names []) C (iB scope.names) s0 H0 ex) (iC Γ scope) where
 names:=fI K scope
 kind:=sc.kind
 N:=rfl
 nd:=sc.nd
 calm:=K.calm
 xe:=rfl
 un:=K.un
 dfn:=λh=>by cases h
 blt:=K.blt
 fns:=K.fns
theorem qX {cs:Es}{n:JF}{ifs:Jy J9}{Γ:Gam}(hl:ifs.length<=1)(hc:cA (cE n Γ) ifs=gV cs){Y:Cx}(ih:∀ {e:J9} {e':E},cE n Γ e=gV e'->GT Y e (dL Φ e'))(hx:Y.xe=λ_ _=>KZ) :
  ∀pins s σ H Q,Inv Y pins σ H s->tT Y (B5 Φ cs) σ H Q->
  wpAny (model Y.prog Y.w) Y.A (forIn ifs true λc r=>if r=true then do let ok <- isTrue c Y.env (eval c Y.env); pure (Lq ok)else pure (Lq r)) (TP Y pins σ Q) (λ_ _=>KZ) s:=by
 intro pins s σ H Q I h
 match ifs,hl,hc with
 | [],_,hc=>
  cases hc;obtain⟨A,ρ,S,k,S',er,so,e,hq⟩:=h;cases e;exact wpAny_tests_nil ⟨H,I,hq _ _ ⟨rfl,A,.refl,so⟩⟩
 | [c],_,hc=>
  obtain⟨e',es',h1,h2,rfl⟩:=jg hc;cases h2;have:=ih h1 pins s σ H Q I h;rw[hx]at this;exact wpAny_tests_one this
theorem cM:∀(n:JF) {Γ:Gam} {X:Cx} {e:J9} {e':E},CtxOk Φ X Γ->cE n Γ e=gV e'->GE X e (aP Φ e')/\GT X e (dL Φ e'):=by
 intro n
 induction n with
 | zero=>intro Γ X e e' K h; cases h
 | succ n ih=>
  intro Γ X e e' K h;have ihE:∀ {e:J9} {e':E},cE n Γ e=gV e'->GE X e (aP Φ e'):=λq=>(ih K q).1
  have ihT:∀ {e:J9} {e':E},cE n Γ e=gV e'->GT X e (dL Φ e'):=λq=>(ih K q).2
  have hu10:X.A.units+10 < cLine:=by have:=K.un; have:iI=20:=rfl; omega
  cases e with
  | Constant c k p=>
   cases c <;> cases h
   all_goals first
    | exact⟨qM xg (λ_ _=>.non),dt (qM xg (λ_ _=>.non)) λ_=>rfl⟩
    | exact⟨qM CU (λ_ _=>.bl),dt (qM CU (λ_ _=>.bl)) λ_=>rfl⟩
    | exact⟨qM xf (λ_ _=>.int),dt (qM xf (λ_ _=>.int)) λ_=>rfl⟩
    | exact⟨qM xi (λ_ _=>.str),dt (qM xi (λ_ _=>.str)) λ_=>rfl⟩
  | Name x p=>
   replace h:(match slot Γ x with|some i=>gV (E.v i)|none=>td)=gV e':=h
   split at h
   ·rename_i i h1;cases h;exact⟨yJ K h1,dt (yJ K h1) λ_=>rfl⟩
   ·cases h
  | BinOp a op b p=>
   replace h:(match uB op,cE n Γ a,cE n Γ b with|some o,gV a',gV b'=>gV (E.op o a' b')|_,_,_=>td)=gV e':=h
   split at h
   ·rename_i o a' b' h1 h2 h3;cases h;have e:=yL h1;subst e;exact⟨C3 (tX o) (ihE h2) (ihE h3),dt (C3 (tX o) (ihE h2) (ihE h3)) λ_=>rfl⟩
   ·cases h
  | UnaryOp op a p=>
   cases op with
   | Not=>
    replace h:(cE n Γ a).map E.not=gV e':=h;rw[JC]at h;obtain⟨a',h1,rfl⟩:=h;exact⟨Ev (ihE h1),Er (ihT h1)⟩
   | USub=>
    replace h:(cE n Γ a).map E.neg=gV e':=h;rw[JC]at h;obtain⟨a',h1,rfl⟩:=h;exact⟨yg (ihE h1),dt (yg (ihE h1)) λ_=>rfl⟩
   | _=>exact bh h
  | BoolOp op vs p=>
   replace h:cB (cE n Γ) op vs=gV e':=h;exact⟨pA ihE h,(pB ihT h).pt⟩
  | Compare a ops cs p=>
   match ops,cs,h with
   | [op],[b],h=>
    replace h:(match uC op,cE n Γ a,cE n Γ b with|some o,gV a',gV b'=>gV (E.cmp o a' b')|_,_,_=>td)=gV e':=h
    split at h
    ·rename_i o a' b' h1 h2 h3;cases h;have e:=yK h1;subst e;exact⟨El K.un (ihE h2) (ihE h3) (qV h3),Em K.un (ihE h2) (ihE h3) (qV h3)⟩
    ·cases h
   | [],_,h=>exact bh h
   | [_],[],h=>exact bh h
   | [_],_::_::_,h=>exact bh h
   | _::_::_,_,h=>exact bh h
  | IfExp t a b p=>
   replace h:(match cE n Γ t,cE n Γ a,cE n Γ b with|some t',gV a',gV b'=>gV (E.ite t' a' b')|_,_,_=>td)=gV e':=h
   split at h
   ·rename_i t' a' b' h1 h2 h3;cases h;exact⟨Ew (ihT h1) (ihE h2) (ihE h3),ls⟩
   ·cases h
  | Call f args kws p=>
   cases kws with
   | cons _ _=>cases f <;> first|(exact bh h)|(cases args <;> (exact bh h))
   | nil=>
    cases f with
    | Name x q=>
     replace h:(if nh Γ x then match Γ.fns.lookup x with|some k=>(cA (cE n Γ) args).map (E.own x k)|none=>if x==("isinstance" : JZ)then(if Γ.blt.contains x then B9 Γ (cE n Γ) args else td)else match (generalizing:=false) B7 x,args with|some b,a::as=>if Γ.blt.contains x then(cA (cE n Γ) (a::as)).map (E.bi b)else td|_,_=>td else td)=gV e':=h
     split at h
     ·rename_i hg;split at h
      ·rename_i k hk;rw[JC]at h;obtain⟨r,hr,rfl⟩:=h;have g:=Gy (pos:=p) (p:=q) K hg hk hr (ec ihE hr);exact⟨g,dt g λ_=>rfl⟩
      ·split at h
       ·rename_i his;split at h
        ·rename_i hc;obtain⟨g,a',c',rfl⟩:=Gz (pos:=p) (p:=q) K hg his hc ihE h;exact⟨g,dt g λ_=>rfl⟩
        ·cases h
       ·split at h
        ·rename_i bb a as hb;split at h
         ·rename_i hc;rw[JC]at h;obtain⟨r,hr,rfl⟩:=h;have g:=IA (pos:=p) (p:=q) K hg hb hc hr (ec ihE hr);exact⟨g,dt g λ_=>rfl⟩
         ·cases h
        ·cases h
     ·cases h
    | Attribute o m q=>
     cases args with
     | nil=>exact bh h
     | cons a as=>
      replace h:(match B8 m,cE n Γ o,cA (cE n Γ) (a::as)with|some m',gV o',gV es=>if g8 o&&(q.endLine==p.line)&&decide ((a::as).length < 29)then gV (E.me m' o' es)else td|_,_,_=>td)=gV e':=h
      split at h
      ·rename_i m' o' es h1 h2 h3;split at h
       ·rename_i hc;rw[JH,JH,Kh]at hc;cases h;have g:=IB K (cpos:=p) (apos:=q) h1 hc.1.1 hc.1.2 hc.2 (ihE h2) h3 (ec ihE h3);exact⟨g,dt g λ_=>rfl⟩
       ·cases h
      ·cases h
    | _=>exact bh h
  | Subscript a b p=>
   have plain:(match cE n Γ a,cE n Γ b with|some a',gV b'=>gV (E.ix a' b')|_,_=>td)=gV e'->GE X (.Subscript a b p) (aP Φ e')/\GT X (.Subscript a b p) (dL Φ e'):=λh=>by
    split at h
    ·rename_i a' b' h1 h2;cases h;have g:=Go (pos:=p) hu10 (ihE h1) (ihE h2) (sP h2);exact⟨g,dt g λ_=>rfl⟩
    ·cases h
   cases b with
   | Slice lo hi st q=>
    cases st with
    | none=>
     replace h:(match cE n Γ a,cP (cE n Γ) lo,cP (cE n Γ) hi with|some a',gV lo',gV hi'=>gV (E.sl a' lo' hi')|_,_,_=>td)=gV e':=h
     split at h
     ·rename_i a' lo' hi' h1 h2 h3;cases h;have g:=Gp (pos:=p) (p2:=q) (ihE h1) (yN ihE h2) (yN ihE h3);exact⟨g,dt g λ_=>rfl⟩
     ·cases h
    | some z=>exact plain h
   | _=>exact plain h
  | Tuple es k p=>
   replace h:(cA (cE n Γ) es).map E.tup=gV e':=h;rw[JC]at h;obtain⟨r,h1,rfl⟩:=h;exact⟨yn (ec ihE h1),dt (yn (ec ihE h1)) λ_=>rfl⟩
  | List es p=>
   replace h:(cA (cE n Γ) es).map E.lst=gV e':=h;rw[JC]at h;obtain⟨r,h1,rfl⟩:=h;exact⟨yo (ec ihE h1),dt (yo (ec ihE h1)) λ_=>rfl⟩
  | Dict keys values p=>
   replace h:yH (cE n Γ) keys values=gV e':=h;unfold yH at h;split at h
   ·rename_i hc;cases h;rw[JH]at hc;have k0:keys=[]:=Qd.mp hc.1;have v0:values=[]:=Qd.mp hc.2;subst k0 v0;exact⟨BY,ls⟩
   ·rename_i hc0;split at h
    ·rename_i hc;rw[JH,JH,Kh,Kh]at hc;rw[JC]at h;obtain⟨r,hr,rfl⟩:=h;have h0:keys≠[]:=λz=>by
      subst z;have v0:values=[]:=Mn.mp hc.1.2.symm;subst v0;exact hc0 rfl
     exact⟨BZ (pos:=p) hu10 (uE ihE keys values hc.1.1 hc.1.2 hr) hc.1.1 hc.1.2 h0 hc.2,ls⟩
    ·cases h
  | ListComp elt gens scope p=>
   match gens,h with
   | [⟨tg,iter,ifs,asy⟩],h=>
    replace h:(if (asy==0)&&(yG Γ scope&&decide (ifs.length<=1))then match cI Γ (cE n Γ) tg iter,cT (iC Γ scope) tg,cA (cE n (iC Γ scope)) ifs,cE n (iC Γ scope) elt with|some it,gV t,gV cs,gV el=>gV (E.comp el t it cs (hG Γ scope.names))|_,_,_,_=>td else td)=gV e':=h
    split at h
    ·rename_i hc;rw[JH,JH,Kh]at hc;have e0:asy=0:=eq_of_beq hc.1;subst e0;replace hc:=hc.2;split at h
     ·rename_i it t cs el h1 h2 h3 h4;cases h;have sc:=uG hc.1;refine⟨B1 K.calm (sQ K ihE h1) (λok=>⟨_,oq K ok sc,?_⟩) (pz (n:=n) (λel k p=>by cases n <;> rfl) h1),ls⟩
      refine⟨λC s0 H0 ex=>uF (fQ K sc C s0 H0 ex) h2,λC s0 H0 ex pins s σ H Q I q=>?_,λC s0 H0 ex=>(ih (fQ K sc C s0 H0 ex) h4).1⟩
      exact qX hc.2 h3 (λz=>(ih (fQ K sc C s0 H0 ex) z).2) rfl pins s σ H Q I q
     ·cases h
    ·cases h
   | [],h=>exact bh h
   | ⟨_,_,_,_⟩::_::_,h=>exact bh h
  | _=>exact bh h
end
noncomputable abbrev cN:JF:=30
noncomputable def C6:J9->Kc
 | .Constant (.str _) _ _=>true
 | _=>false
noncomputable def jU:J9->Kc
 | .ListComp _ _ _ _=>true
 | _=>false
noncomputable def uI:J9->Kc
 | .Slice _ _ _ _=>true
 | _=>false
noncomputable def vZ (f:Mg->JE Sm)(ss:Jy Mg):JE Ss:=ss.foldr (λs acc=>match f s,acc with|some s',gV ss'=>gV (.cons s' ss')|_,_=>td) (gV .nil)
noncomputable def EM (Γ:Gam):Jy J9->J9->JE Sm
 | [.Name x px,.Name y py],.Tuple [a,b] _ _=>match Γ.N.findIdx? (· == x),Γ.N.findIdx? (· == y),cA (cE cN Γ) [a,b]with
  | some i,gV j,gV es=>if !(i==j)&&(Γ.sc.lookup x==gV .local)&&(Γ.sc.lookup y==gV .local)&&(py.line==px.line) && !([a,b].all (foldedForSure 8)) && !([a,b].all (constantsAlone 8))then gV (.par i j es)else td
  | _,_,_=>td
 | _,_=>td
noncomputable def cS:JF->Gam->Mg->JE Sm
 | 0,_,_=>td
 | n+1,Γ,st=>match st with
  | .Assign [.Name x _] e _=>match dP Γ x,cE cN Γ e with
   | some i,gV e'=>gV (.set i e')
   | _,_=>td
  | .Assign [.Tuple ts _ _] e _=>if isTup e then EM Γ ts e else if jU e then td else match Fu Γ ts,cE cN Γ e with
   | some is,gV e'=>gV (.asg is e')
   | _,_=>td
  | .Assign [.Subscript o k _] e _=>if uI k then td else match cE cN Γ o,cE cN Γ k,cE cN Γ e with
   | some o',gV k',gV e'=>gV (.put o' k' e')
   | _,_,_=>td
  | .Expr e _=>if C6 e then gV .pass else if jU e then td else(cE cN Γ e).map .ex
  | .Return (gV e) _=>(cE cN Γ e).map .ret
  | .Return td _=>gV .retN
  | .Pass _=>gV .pass
  | .Raise _ _ _=>gV .bad
  | .Break _=>gV .brk
  | .Continue _=>gV .cont
  | .If t a b _=>match cE cN Γ t,vZ (cS n Γ) a,vZ (cS n Γ) b with
   | some t',gV a',gV b'=>gV (.ite t' a' b')
   | _,_,_=>td
  | .While t b [] _=>match cE cN Γ t,vZ (cS n Γ) b with
   | some t',gV b'=>gV (.whl t' b')
   | _,_=>td
  | .For tg it b [] _=>match cT Γ tg,cI Γ (cE cN Γ) tg it,vZ (cS n Γ) b with
   | some t,gV i,gV b'=>gV (.loop t i b')
   | _,_,_=>td
  | _=>td
section
variable{Φ:JZ->FF}{X:Cx}{Γ:Gam}{fuel:JF}
theorem yO {f:Mg->JE Sm}{s:Mg}{ss:Jy Mg}{r:Ss}(h:vZ f (s::ss)=gV r):∃s' ss',f s=gV s'/\vZ f ss=gV ss'/\r=.cons s' ss':=by
 simp only[vZ,Qr]at h;split at h
 ·rename_i e' es' h1 h2;cases h;exact⟨e',es',h1,h2,rfl⟩
 ·cases h
theorem hW {n:JF}(ih:∀ {st:Mg} {s':Sm},cS n Γ st=gV s'->GS X st (gI Φ fuel s')):∀ {ss:Jy Mg} {r:Ss},vZ (cS n Γ) ss=gV r->GSs X ss (gN Φ fuel r)
 | [],r,h=>by cases h; exact BF
 | s::ss,r,h=>by
  obtain⟨s',ss',h1,h2,rfl⟩:=yO h;exact yq (ih h1) (hW ih h2)
theorem l4 {e:J9}{t:JE J9}{l:JF}{env:Pu}(h:jU e=false)(n:JF){Γ:Gam}{e':E}(hc:cE n Γ e=gV e'):swapsWith e t l env=pure false:=by
 cases n with
 | zero=>cases hc
 | succ n=>cases e <;> first|(exfalso; exact bh hc)|rfl|cases h
theorem sR (K:CtxOk Φ X Γ){n:JF}{elt:J9}{gens:Jy Comprehension}{scope:Mx}{p:L0}{e':E}(h:cE (n+1) Γ (.ListComp elt gens scope p)=gV e') :
  ∃tg iter ifs fi g c f cap,gens=[⟨tg,iter,ifs,0⟩]/\aP Φ e'=lU fi g c f cap/\GI X tg iter fi/\(X.Ok->∃cl,CompOk X scope cl (iB scope.names) cap/\BlockOk X scope cl (iB scope.names) tg elt ifs g c f)/\∀x,foldedSetIterable iter X.env x=pure x:=by
 match gens,h with
 | [⟨tg,iter,ifs,asy⟩],h=>
  replace h:(if (asy==0)&&(yG Γ scope&&decide (ifs.length<=1))then match cI Γ (cE n Γ) tg iter,cT (iC Γ scope) tg,cA (cE n (iC Γ scope)) ifs,cE n (iC Γ scope) elt with|some it,gV t,gV cs,gV el=>gV (E.comp el t it cs (hG Γ scope.names))|_,_,_,_=>td else td)=gV e':=h
  split at h
  ·rename_i hc;rw[JH,JH,Kh]at hc;have e0:asy=0:=eq_of_beq hc.1;subst e0;replace hc:=hc.2;split at h
   ·rename_i it t cs el h1 h2 h3 h4;cases h;have sc:=uG hc.1;refine⟨tg,iter,ifs,_,_,_,_,_,rfl,rfl,sQ K (λz=>(cM n K z).1) h1,λok=>⟨_,oq K ok sc,?_⟩,pz (n:=n) (λel k p=>by cases n <;> rfl) h1⟩
    refine⟨λC s0 H0 ex=>uF (fQ K sc C s0 H0 ex) h2,λC s0 H0 ex pins s σ H Q I q=>?_,λC s0 H0 ex=>(cM n (fQ K sc C s0 H0 ex) h4).1⟩
    exact qX hc.2 h3 (λz=>(cM n (fQ K sc C s0 H0 ex) z).2) rfl pins s σ H Q I q
   ·cases h
  ·cases h
 | [],h=>exact bh h
 | ⟨_,_,_,_⟩::_::_,h=>exact bh h
theorem GB (K:CtxOk Φ X Γ){x:JZ}{px pos:L0}{e:J9}{i:JF}{e':E}(hi:dP Γ x=gV i)(he:cE cN Γ e=gV e'):GS X (.Assign [.Name x px] e pos) (lT (aP Φ e') (BN i)):=by
 obtain⟨a,b,c⟩:=pE K hi;have hN:X.N.Nodup:=by rw[K.N]; exact K.nd
 have plain:swapsWith e (gV (.Name x px)) pos.line X.env=pure false->GS X (.Assign [.Name x px] e pos) (lT (aP Φ e') (BN i)):=λhs=>sJ (cM _ K he).1 (uw hN a b c) hs (by cases e <;> rfl) rfl
 cases hc:jU e with
 | false=>exact plain (l4 hc _ he)
 | true=>
  cases e with
  | ListComp elt gens scope p=>
   cases hsw:(X.env.blockKind==.function&&X.env.kindOf x==gV .local&&px.line==p.line && !(scope.names.any λ(n,k)=>n==x&&(k==.local||k==.cell)))with
   | false=>
    refine plain ?_;show(pure (X.env.blockKind==.function&&X.env.kindOf x==gV .local&&px.line==p.line && !(scope.names.any λ(n,k)=>n==x&&(k==.local||k==.cell))):Rv Kc)=pure false
    rw[hsw]
   | true=>
    have hsw':swapsWith (.ListComp elt gens scope p) (gV (.Name x px)) pos.line X.env=pure true:=by
     show(pure (X.env.blockKind==.function&&X.env.kindOf x==gV .local&&px.line==p.line && !(scope.names.any λ(n,k)=>n==x&&(k==.local||k==.cell))):Rv Kc)=pure true
     rw[hsw]
    rw[JH,JH,JH]at hsw;have hl:X.env.scope.names.lookup x=gV .local:=eq_of_beq hsw.1.1.2;obtain⟨tg,iter,ifs,fi,g,c',f,cap,rfl,e2,gi,hck,hs⟩:=sR K he;rw[e2];exact sN K.calm gi hck hs hsw' hN a hl
  | _=>cases hc
theorem qY (K:CtxOk Φ X Γ){x y:JZ}{px py pt pt2:L0}{kt k2:JF}{a b:J9}(hxy:x≠y)(hx:Γ.sc.lookup x=gV .local)(hy:Γ.sc.lookup y=gV .local)(hl:(py.line==px.line)=true)(h1:[a,b].all (foldedForSure 8)=false)(h2:[a,b].all (constantsAlone 8)=false)(hs:iL a=true)(hs2:iL b=true) :
  swappedStores [.Tuple [.Name x px,.Name y py] kt pt] (.Tuple [a,b] k2 pt2) X.env=pure (gV [x,y]):=by
 have kx:(X.env.kindOf x==gV .local)=true:=by unfold Oj; rw[K.names,hx]; rfl
 have ky:(X.env.kindOf y==gV .local)=true:=by unfold Oj; rw[K.names,hy]; rfl
 have bk:(X.env.blockKind != .function)=false:=by
  unfold Env.blockKind;rw[K.kind];rfl
 have hp:(px.line==px.line)=true:=by simp
 have ed:([x,y].eraseDups.length != [x,y].length)=false:=by
  have:(y==x)=false:=by simpa using Ne.symm hxy
  simp[OY,this]
 have kx':X.env.kindOf x=gV .local:=eq_of_beq kx;have ky':X.env.kindOf y=gV .local:=eq_of_beq ky;have hl':py.line=px.line:=eq_of_beq hl;have bk':X.env.blockKind=.function:=by simpa using bk
 have yx:(y==x)=false:=by simpa using Ne.symm hxy
 have h1':(foldedForSure 8 a&&foldedForSure 8 b)=false:=by simpa using h1
 have h2':(constantsAlone 8 a&&constantsAlone 8 b)=false:=by simpa using h2
 unfold swappedStores;simp only[LH,Rq,O5,MM,List.filterMap_nil,kx',ky',bk',List.head?_cons,Kq,Qc,Kk,Lp,Kx,Rr,NV,h1',h2'];refine Eq.trans (Ku ?_) (Eq.trans (Ku ?_) ?_)
 ·decide
 ·rw[LP];rintro(hh|hh)
  ·clear h1 h2 h1' h2';cases a <;> first|(cases hh; done)|(cases hs; done)
  ·clear h1 h2 h1' h2';cases b <;> first|(cases hh; done)|(cases hs2; done)
 ·dsimp only[Expr.pos]; simp[hl',yx,OY]
theorem Cb (fuel:JF)(K:CtxOk Φ X Γ):∀(n:JF) {st:Mg} {s':Sm},cS n Γ st=gV s'->GS X st (gI Φ fuel s'):=by
 have hN:X.N.Nodup:=by rw[K.N]; exact K.nd
 have own:OT (model X.prog X.w) X.A X.env X.xe:=by rw[K.xe]; exact Sb
 intro n
 induction n with
 | zero=>intro st s' h; cases h
 | succ n ih=>
  intro st s' h;cases st with
  | Expr e p=>
   replace h:(if C6 e then gV Sm.pass else if jU e then td else(cE cN Γ e).map Sm.ex)=gV s':=h
   split at h
   ·rename_i hd;cases h;cases e with
    | Constant c k q=>
     cases c with
     | str x=>exact EB
     | _=>cases hd
    | _=>cases hd
   ·split at h
    ·cases h
    ·rename_i hd hc;rw[JC]at h;obtain⟨e',h1,rfl⟩:=h;exact Gq (cM _ K h1).1 (l4 (by simpa using hc) _ h1)
  | Return o p=>
   cases o with
   | none=>cases h; exact BL
   | some e=>
    replace h:(cE cN Γ e).map Sm.ret=gV s':=h;rw[JC]at h;obtain⟨e',h1,rfl⟩:=h;exact EC (cM _ K h1).1
  | Pass p=>cases h; exact BI
  | Raise exc cause pos=>cases h; exact λpins s D σ H I ⟨A,ρ,S,o,S',er,so,e,hq⟩=>nomatch e
  | Break p=>cases h; exact yt
  | Continue p=>cases h; exact BJ
  | If t a b p=>
   replace h:(match cE cN Γ t,vZ (cS n Γ) a,vZ (cS n Γ) b with|some t',gV a',gV b'=>gV (Sm.ite t' a' b')|_,_,_=>td)=gV s':=h
   split at h
   ·rename_i t' a' b' h1 h2 h3;cases h;exact Gr (cM _ K h1).2 (hW ih h2) (hW ih h3)
   ·cases h
  | While t b o p=>
   cases o with
   | cons _ _=>exact bh h
   | nil=>
    replace h:(match cE cN Γ t,vZ (cS n Γ) b with|some t',gV b'=>gV (Sm.whl t' b')|_,_=>td)=gV s':=h
    split at h
    ·rename_i t' b' h1 h2;cases h;exact yu fuel own (cM _ K h1).2 (hW ih h2)
    ·cases h
  | For tg it b o p=>
   cases o with
   | cons _ _=>exact bh h
   | nil=>
    replace h:(match cT Γ tg,cI Γ (cE cN Γ) tg it,vZ (cS n Γ) b with|some t,gV i,gV b'=>gV (Sm.loop t i b')|_,_,_=>td)=gV s':=h
    split at h
    ·rename_i t i b' h1 h2 h3;cases h;exact EH own K.calm (sQ K (λz=>(cM _ K z).1) h2) (uF K h1) (hW ih h3) (pz (n:=cN) (λel k p=>rfl) h2)
    ·cases h
  | Assign ts e p=>
   match ts,h with
   | [],h=>exact bh h
   | a::_::_,h=>cases a <;> exact bh h
   | [t],h=>
    cases t with
    | Name x px=>
     replace h:(match dP Γ x,cE cN Γ e with|some i,gV e'=>gV (Sm.set i e')|_,_=>td)=gV s':=h
     split at h
     ·rename_i i e' h1 h2;cases h;exact GB K h1 h2
     ·cases h
    | Subscript o k q=>
     replace h:(if uI k then td else match cE cN Γ o,cE cN Γ k,cE cN Γ e with|some o',gV k',gV e'=>gV (Sm.put o' k' e')|_,_,_=>td)=gV s':=h
     split at h
     ·cases h
     ·rename_i hc;split at h
      ·rename_i o' k' e' h1 h2 h3;cases h;refine sJ (cM _ K h3).1 (EE (by have:=K.un; have:iI=20:=rfl; omega) (cM _ K h1).1 (cM _ K h2).1 ?_) (by cases e <;> rfl) (by cases e <;> rfl) rfl
       intro v;cases k <;> first|rfl|exact absurd rfl hc
      ·cases h
    | Tuple ts' k q=>
     have par:∀ {x y:JZ} {px py:L0} {a b:PySem.Expr} {k2:JF} {q2:L0},(match Γ.N.findIdx? (· == x),Γ.N.findIdx? (· == y),cA (cE cN Γ) [a,b]with
       | some i,gV j,gV es=>if !(i==j)&&(Γ.sc.lookup x==gV .local)&&(Γ.sc.lookup y==gV .local)&&(py.line==px.line) && !([a,b].all (foldedForSure 8)) && !([a,b].all (constantsAlone 8))then gV (Sm.par i j es)else td
       | _,_,_=>td)=gV s'->GS X (.Assign [.Tuple [.Name x px,.Name y py] k q] (.Tuple [a,b] k2 q2) p) (gI Φ fuel s'):=λ{x y px py a b k2 q2} h=>by
      split at h
      ·rename_i i j es h1 h2 h3;split at h
       ·rename_i hc;cases h;rw[JH,JH,JH,JH,JH]at hc;obtain⟨⟨⟨⟨⟨c1,c2⟩,c3⟩,c4⟩,c5⟩,c6⟩:=hc;have hij:i≠j:=by simpa using c1
        have ns:=dz h3;rw[Kx,Kx,JH,JH]at ns;have hi:X.N[i]?=gV x:=by rw[K.N]; exact dX h1
        have hj:X.N[j]?=gV y:=by rw[K.N]; exact dX h2
        refine EF K.calm hN hi hj hij (by rw[K.names]; exact eq_of_beq c2) (by rw[K.names]; exact eq_of_beq c3) (ec (λz=>(cM _ K z).1) h3) (qY K ?_ (eq_of_beq c2) (eq_of_beq c3) c4 (by rw[<- Le]; exact c5) (by rw[<- Le]; exact c6) ns.1 ns.2.1) rfl
        rintro rfl;rw[h1]at h2;cases h2;exact hij rfl
       ·cases h
      ·cases h
     replace h:(if isTup e then EM Γ ts' e else if jU e then td else match Fu Γ ts',cE cN Γ e with|some is,gV e'=>gV (Sm.asg is e')|_,_=>td)=gV s':=h
     split at h
     ·unfold EM at h;split at h
      ·exact par h
      ·cases h
     ·split at h
      ·cases h
      ·rename_i hc1 hc2;split at h
       ·rename_i is e' h1 h2;cases h;refine sJ (cM _ K h2).1 (uF (tg:=.Tuple ts' k q) (t:=.tp is) K (by simp[cT,h1])) (l4 (t:=gV (.Tuple ts' k q)) (l:=p.line) (env:=X.env) (by simpa using hc2) _ h2) ?_ rfl
        cases e <;> first|rfl|exact absurd rfl hc1
       ·cases h
    | _=>exact bh h
  | _=>exact bh h
end
structure Df where
 ps:Jy JZ
 N:Jy JZ
 body:Ss
noncomputable def gf (N:Jy JZ)(ws:Jy W):Fm:=ws.map gV++Kz (N.length - ws.length) td
noncomputable def ar (defs:Jy (JZ×Df))(fuel:JF):JF->JZ->FF
 | 0,_,_,_=>td
 | d+1,f,ws,S=>match defs.lookup f with
  | some df=>if ws.length=df.ps.length then match gN (ar defs fuel d) fuel df.body (gf df.N ws) S with
    | some (.rt w,S')=>gV (w,S')
    | some (.nx _,S')=>gV (.non,S')
    | _=>td
   else td
  | none=>td
structure Md where
 fns:Jy (JZ×JF)
 blt:Jy JZ
noncomputable def C7 (M:Md)(st:Mg)(N:Jy JZ):Gam:={ sc:=(ah st).names,N:=N,fns:=M.fns,blt:=M.blt,dfn:=true }
noncomputable def bO (M:Md)(st:Mg)(df:Df):Prop:=vZ (cS 20 (C7 M st df.N)) (dD st)=gV df.body
theorem ou {K:JP}{A:Jy JK}{H:Hp}{ws:Jy W}{vs:Jy V}{N:Jy JZ}(r:RelL K A H ws vs):EnvRel K A H (gf N ws) (gJ N vs):=by
 refine⟨by simp[gf,L2.gJ,r.length],λi w h=>?_⟩
 unfold gf at h;unfold L2.gJ
 by_cases hi:i < ws.length
 ·rw[Kn (by simpa using hi),JJ]at h
  rw[Kn (by rw[Jz,<- r.length]; exact hi),JJ]
  cases q:ws[i]? with
  | none=>rw[q]at h; cases h
  | some w'=>
   rw[q]at h;simp only[Kq,KG]at h;subst h;obtain⟨v,h1,h2⟩:=r.get q;exact⟨v,by rw[h1]; rfl,h2⟩
 ·rw[KF (by simpa using hi)]at h
  have:=JT h;simp at this
section
variable{P:Ki}{w:Kv}{K:JP}{mg:JZ->JE JB}{base:KH}
noncomputable def C8 (P:Ki)(w:Kv)(K:JP)(mg:JZ->JE JB)(base:KH)(M:Md)(defs:Jy (JZ×Df))(fuel d:JF):Prop:=
 ∀f n,M.fns.lookup f=gV n->∃fa fd ps,FnOk P w K mg base w6 d fa fd ps (yp w K n (ar defs fuel d f))/\mg f=gV (.ref fa)/\Lg K (.ref fa)=true/\Binds K fd ps []
structure MdOk (w:Kv)(K:JP)(mg:JZ->JE JB)(M:Md):Prop where
 blt:∀y∈M.blt,mg y=td
theorem C9 {M:Md}{defs:Jy (JZ×Df)}{fuel d:JF}{x qual:JZ}{st:Mg}{f:JK}{fd:LX}{df:Df}(F:Fun K x qual st f fd)(S:FnScope df.N df.ps (ah st))(hd:defs.lookup x=gV df)(hc:bO M st df)
  (hb:MdOk w K mg M) (prev:C8 P w K mg base M defs fuel d):FnOk P w K mg base w6 (d+1) f fd df.ps (yp w K df.ps.length (ar defs fuel (d+1) x)):=by
 refine F.ok S (λvs H Q E h=>?_) (λcdv A outer s H vs Q E hr h=>?_)
 ·obtain⟨A,S,ws,w',S',_,rl,hl,_⟩:=h;rw[<- rl.length]; exact hl
 ·obtain⟨A',St,ws,w',S',so,rl,hl,e,hq⟩:=h;have K':CtxOk (ar defs fuel d) (sm w6 P w K mg base df.N qual (ah st) f cdv A outer s H E).nox (C7 M st df.N):=by
   refine⟨rfl,S.kind,rfl,S.nd,rfl,rfl,?_,λ_ _=>rfl,hb.blt,λg n hg=>?_⟩
   ·have:=hr.un;show(A.deeper _).units+20 < cLine;omega
   ·obtain⟨fa,fd',ps',h1,h2,h3,h4⟩:=prev g n hg;exact⟨d,fa,fd',ps',h1,hr,h2,h3,h4⟩
  refine⟨tS _ (gN (ar defs fuel d) fuel df.body),hW (λz=>Cb fuel K' 20 z) hc,?_⟩
  simp only[ar,hd]at e;rw[Kd hl]at e;split at e
  ·rename_i w1 S1 h1;cases e;refine⟨A',gf df.N ws,St,_,_,ou rl,so,h1,⟨λσ' H' ⟨_,_,z,_⟩=>(by cases z),λv H' ⟨w2,A2,z0,z1,z2,z3⟩=>?_,λσ' H' ⟨_,_,z,_⟩=>(by cases z),λσ' H' ⟨_,_,z,_⟩=>(by cases z)⟩⟩
   cases z0;exact hq v H' ⟨A2,z1,z2,z3⟩
  ·rename_i ρ1 S1 h1;cases e;refine⟨A',gf df.N ws,St,_,_,ou rl,so,h1,⟨λσ' H' ⟨w2,A2,z0,z1,z2,z3⟩=>?_,λσ' H' ⟨_,_,z,_⟩=>(by cases z),λσ' H' ⟨_,_,z,_⟩=>(by cases z),λσ' H' ⟨_,_,z,_⟩=>(by cases z)⟩⟩
   exact hq _ H' ⟨A2,z1,z2,.non⟩
  ·cases e
theorem v6 {H:Hp}{a:JK}{ns:Jy JL}(hO:xE H)(hS:SqL K H a (ns.map V.int)):StoreOk w K [a] H [.fro (ns.map W.int)]/\RelL K [a] H [.ref 0] [.ref a]:=by
 have rl:∀ns:Jy JL,RelL K [a] H (ns.map W.int) (ns.map V.int):=by
  intro ns
  induction ns with
  | nil=>exact .nil
  | cons n ns ih=>exact .cons .int ih
 have fr:FroL K H a (ns.map V.int):=by
  rcases hS with(h|⟨o,h⟩)|h
  ·rcases hO a with z|⟨o,xs,z⟩ <;> (rw[z]at h; cases h)
  ·exact .inl ⟨o,h⟩
  ·exact .inr h
 refine⟨⟨rfl,λi j b o u e1 m1 e2 m2 _ _=>?_,λi o b e1 e2=>?_⟩,.cons (.ref rfl) .nil⟩
 ·cases i with
  | zero=>simp at e1; subst e1; cases m1
  | succ i=>simp at e1
 ·cases i with
  | zero=>
   simp at e1 e2;subst e1 e2;exact⟨_,fr,rl ns⟩
  | succ i=>simp at e1
theorem EN {g:FF}{H:Hp}{a:JK}{ns:Jy JL}(h:∃S',g [.ref 0] [.fro (ns.map W.int)]=gV (.bl true,S'))(hO:xE H)(hS:SqL K H a (ns.map V.int)):yp w K 1 g [.ref a] H (λv _=>v=.bl true) λ_ _ _=>KZ:=by
 obtain⟨S',e⟩:=h;obtain⟨so,rl⟩:=v6 hO hS;exact⟨[a],_,_,_,S',so,rl,rfl,e,λv H' ⟨A',z1,z2,z3⟩=>by cases z3; rfl⟩
end
noncomputable def Wp {α:Type}(o:JE α)(Q:α->Prop):Prop:=∃a,o=gV a/\Q a
theorem ac {α:Type}{a:α}{Q:α->Prop}:Wp (gV a) Q↔Q a:=⟨λ⟨b,e,h⟩=>(by cases e; exact h),λh=>⟨a,rfl,h⟩⟩
theorem ag {α:Type}{Q:α->Prop}:Wp (td:JE α) Q↔KZ:=⟨λ⟨b,e,h⟩=>(by cases e),λh=>h.elim⟩
theorem Wp.mono {α:Type}{o:JE α}{Q Q':α->Prop}(h:Wp o Q)(k:∀a,Q a->Q' a):Wp o Q':=let ⟨a,e,q⟩:=h; ⟨a,e,k a q⟩
theorem IC {α β:Type}{o:JE α}{f:α->β}{Q:β->Prop}:Wp (o.map f) Q↔Wp o λa=>Q (f a):=by cases o <;> simp[ac,ag]
section
variable{Φ:JZ->FF}{fuel:JF}{ρ:Fm}{S:aa}
noncomputable abbrev QW:=W×aa->Prop
theorem Ju {w:W}{Q:QW}:Wp (aP Φ (.c w) ρ S) Q↔Q (w,S):=by(dsimp only[aP]; simp[fC,ac,ag])
theorem Jj {i:JF}{Q:QW}:Wp (aP Φ (.v i) ρ S) Q↔∃w,ρ[i]?=gV (gV w)/\Q (w,S):=by
 (dsimp only[aP]; simp only[fV])
 rcases h:ρ[i]? with _|_|w <;> simp[ac,ag]
theorem yP {g:W->W->aa->JE (W×aa)}{a b:FE}{Q:QW}:Wp (Bt g a b ρ S) Q↔Wp (a ρ S) λp=>Wp (b ρ p.2) λq=>Wp (g p.1 q.1 q.2) Q:=by
 unfold Bt;rcases h:a ρ S with _|⟨x,S1⟩
 ·simp[ac,ag]
 ·rcases h2:b ρ S1 with _|⟨y,S2⟩ <;> simp[ac,ag,h2]
theorem ID {o:BOp}{a b:E}{Q:QW}:Wp (aP Φ (.op o a b) ρ S) Q↔Wp (aP Φ a ρ S) λp=>Wp (aP Φ b ρ p.2) λq=>Wp (iZ o p.1 q.1 q.2) Q:=by dsimp only[aP]; exact yP
theorem Da {o:COp}{a b:E}{Q:QW}:Wp (aP Φ (.cmp o a b) ρ S) Q↔Wp (aP Φ a ρ S) λp=>Wp (aP Φ b ρ p.2) λq=>Wp (cv o p.1 q.1 q.2) Q:=by dsimp only[aP]; exact yP
theorem IE {a b:E}{Q:QW}:Wp (aP Φ (.ix a b) ρ S) Q↔Wp (aP Φ a ρ S) λp=>Wp (aP Φ b ρ p.2) λq=>Wp (kK p.1 q.1 q.2) Q:=by dsimp only[aP]; exact yP
theorem GC {a b:E}{Q:QW}:Wp (aP Φ (.and a b) ρ S) Q↔Wp (aP Φ a ρ S) λp=>∃k,p.1=.bl k/\(k=true->Wp (aP Φ b ρ p.2) Q)/\(k=false->Q (.bl false,p.2)):=by
 (dsimp only[aP]; simp only[um])
 rcases h:aP Φ a ρ S with _|⟨x,S1⟩
 ·simp[ac,ag]
 ·cases x <;> simp[ac,ag]
  rename_i b; cases b <;> simp[ac,ag]
theorem IF {a b:E}{Q:QW}:Wp (aP Φ (.or a b) ρ S) Q↔Wp (aP Φ a ρ S) λp=>∃k,p.1=.bl k/\(k=true->Q (.bl true,p.2))/\(k=false->Wp (aP Φ b ρ p.2) Q):=by
 (dsimp only[aP]; simp only[By])
 rcases h:aP Φ a ρ S with _|⟨x,S1⟩
 ·simp[ac,ag]
 ·cases x <;> simp[ac,ag]
  rename_i b; cases b <;> simp[ac,ag]
theorem GD {a:E}{Q:QW}:Wp (aP Φ (.not a) ρ S) Q↔Wp (aP Φ a ρ S) λp=>∃k,p.1=.bl k/\Q (.bl (!k),p.2):=by
 (dsimp only[aP]; simp only[uq])
 rcases h:aP Φ a ρ S with _|⟨x,S1⟩
 ·simp[ac,ag]
 ·cases x <;> simp[ac,ag]
  rename_i k; cases k <;> simp
theorem GF {t a b:E}{Q:QW}:Wp (aP Φ (.ite t a b) ρ S) Q↔Wp (dL Φ t ρ S) λp=>(p.1=true->Wp (aP Φ a ρ p.2) Q)/\(p.1=false->Wp (aP Φ b ρ p.2) Q):=by
 (dsimp only[aP]; simp only[Bz])
 rcases h:dL Φ t ρ S with _|⟨x,S1⟩
 ·simp[ac,ag]
 ·cases x <;> simp[ac,ag]
theorem Db {f:JZ}{n:JF}{es:Es}{Q:QW}:Wp (aP Φ (.own f n es) ρ S) Q↔Wp (dN Φ es ρ S) λp=>p.1.length=n/\Wp (Φ f p.1 p.2) Q:=by
 (dsimp only[aP]; simp only[qN])
 rcases h:dN Φ es ρ S with _|⟨x,S1⟩
 ·simp[ac,ag]
 ·by_cases hl:x.length=n <;> simp[ac,ag,hl]
theorem GH {b:Bi}{es:Es}{Q:QW}:Wp (aP Φ (.bi b es) ρ S) Q↔Wp (dN Φ es ρ S) λp=>Wp (b.fn p.1 p.2) Q:=by
 (dsimp only[aP]; simp only[kM])
 rcases h:dN Φ es ρ S with _|⟨x,S1⟩ <;> simp[ac,ag]
theorem IG {m:Me}{o:E}{es:Es}{Q:QW}:Wp (aP Φ (.me m o es) ρ S) Q↔Wp (aP Φ o ρ S) λp=>tyOk m.ty p.2 p.1=true/\Wp (dN Φ es ρ p.2) λq=>Wp (m.fn p.1 q.1 q.2) Q:=by
 (dsimp only[aP]; simp only[Fq])
 rcases h:aP Φ o ρ S with _|⟨x,S1⟩
 ·simp[ac,ag]
 ·by_cases ht:tyOk m.ty S1 x=true
  ·rcases h2:dN Φ es ρ S1 with _|⟨y,S2⟩ <;> simp[ac,ag,ht,h2]
  ·simp[ac,ag,ht]
theorem IH {a:E}{lo hi:Ep}{Q:QW}:Wp (aP Φ (.sl a lo hi) ρ S) Q↔Wp (aP Φ a ρ S) λp=>Wp (uA Φ lo ρ p.2) λq=>Wp (uA Φ hi ρ q.2) λr=>Wp (sB p.1 q.1 r.1 r.2) Q:=by
 (dsimp only[aP]; simp only[Gn])
 rcases h:aP Φ a ρ S with _|⟨x,S1⟩
 ·simp[ac,ag]
 ·rcases h2:uA Φ lo ρ S1 with _|⟨y,S2⟩
  ·simp[ac,ag,h2]
  ·rcases h3:uA Φ hi ρ S2 with _|⟨z,S3⟩ <;> simp[ac,ag,h2,h3]
theorem II {Q:JE JL×aa->Prop}:Wp (uA Φ .no ρ S) Q↔Q (td,S):=by(dsimp only[uA]; simp[Ey,ac,ag])
theorem GJ {a:E}{Q:JE JL×aa->Prop}:Wp (uA Φ (.yes a) ρ S) Q↔Wp (aP Φ a ρ S) λp=>∃i,p.1=.int i/\Q (gV i,p.2):=by
 (dsimp only[uA]; simp only[uu])
 rcases h:aP Φ a ρ S with _|⟨x,S1⟩
 ·simp[ac,ag]
 ·cases x <;> simp[ac,ag]
theorem GK {es:Es}{Q:QW}:Wp (aP Φ (.tup es) ρ S) Q↔Wp (dN Φ es ρ S) λp=>p.1.length<=sizeLine/\Q (.tup p.1,p.2):=by
 (dsimp only[aP]; simp only[yk,sy])
 rcases h:dN Φ es ρ S with _|⟨x,S1⟩
 ·simp[ac,ag]
 ·by_cases hl:x.length<=sizeLine <;> simp[ac,ag,hl]
theorem GL {es:Es}{Q:QW}:Wp (aP Φ (.lst es) ρ S) Q↔Wp (dN Φ es ρ S) λp=>p.1.length<=sizeLine/\Q (.ref p.2.length,p.2++[.lst p.1]):=by
 (dsimp only[aP]; simp only[ym,mX])
 rcases h:dN Φ es ρ S with _|⟨x,S1⟩
 ·simp[ac,ag]
 ·by_cases hl:x.length<=sizeLine <;> simp[ac,ag,hl]
theorem Dc {c:K8}{a:E}{Q:QW}:Wp (aP Φ (.isi c a) ρ S) Q↔Wp (aP Φ a ρ S) λp=>∃k,EI p.2 p.1 c=gV k/\Q (.bl k,p.2):=by
 (dsimp only[aP]; simp only[yy])
 rcases h:aP Φ a ρ S with _|⟨x,S1⟩
 ·simp[ac,ag]
 ·cases h2:EI S1 x c <;> simp[ac,ag,h2]
  rename_i k; cases k <;> simp
theorem GM {a:E}{Q:QW}:Wp (aP Φ (.neg a) ρ S) Q↔Wp (aP Φ a ρ S) λp=>∃i,p.1=.int i/\Q (.int (-i),p.2):=by
 (dsimp only[aP]; simp only[yf])
 rcases h:aP Φ a ρ S with _|⟨x,S1⟩
 ·simp[ac,ag]
 ·cases x <;> simp[ac,ag]
theorem EO {es:Es}{Q:QW}:Wp (aP Φ (.disp es) ρ S) Q↔Wp (dN Φ es ρ (S++[.dic []])) λp=>p.2[S.length]?=gV (.dic [])/\∃kvs,d8 [] p.1=gV kvs/\Q (.ref S.length,p.2.set S.length (.dic kvs)):=by
 have e:aP Φ (.disp es) ρ S=qQ (dN Φ es) ρ S:=by dsimp only[aP]
 rw[e];unfold qQ;cases dN Φ es ρ (S++[.dic []])with
 | none=>simp[ag]
 | some p=>
  obtain⟨x,S1⟩:=p;simp only[ac];cases h2:S1[S.length]? with
  | none=>simp[ag]
  | some o=>
   cases o with
   | lst _=>simp[ag]
   | fro _=>simp[ag]
   | frd _=>simp[ag]
   | rng _ _=>simp[ag]
   | dic kvs=>
    cases kvs with
    | nil=>cases h3:d8 [] x <;> simp[ac,ag]
    | cons a b=>simp[ag]
theorem GN {Q:Jy W×aa->Prop}:Wp (dN Φ .nil ρ S) Q↔Q ([],S):=by(dsimp only[dN]; simp[jR,ac,ag])
theorem EQ {e:E}{es:Es}{Q:Jy W×aa->Prop}:Wp (dN Φ (.cons e es) ρ S) Q↔Wp (aP Φ e ρ S) λp=>Wp (dN Φ es ρ p.2) λq=>Q (p.1::q.1,q.2):=by
 (dsimp only[dN]; simp only[eT])
 rcases h:aP Φ e ρ S with _|⟨x,S1⟩
 ·simp[ac,ag]
 ·rcases h2:dN Φ es ρ S1 with _|⟨y,S2⟩ <;> simp[ac,ag,h2]
noncomputable abbrev QB:=Kc×aa->Prop
theorem GP {f:FE}{Q:QB}:Wp (yh f ρ S) Q↔Wp (f ρ S) λp=>∃k,p.1=.bl k/\Q (k,p.2):=by
 unfold yh;rcases h:f ρ S with _|⟨x,S1⟩
 ·simp[ac,ag]
 ·cases x <;> simp[ac,ag]
  rename_i k; cases k <;> simp
theorem uJ {f:FE}{Q:QB}:Wp (ic f ρ S) Q↔Wp (f ρ S) λp=>∃k,ff p.2 p.1=gV k/\Q (k,p.2):=by
 unfold ic;rcases h:f ρ S with _|⟨x,S1⟩
 ·simp[ac,ag]
 ·cases h2:ff S1 x <;> simp[ac,ag,h2]
  rename_i k; cases k <;> simp
theorem GQ {o:COp}{a b:E}{Q:QB}:Wp (dL Φ (.cmp o a b) ρ S) Q↔Wp (aP Φ (.cmp o a b) ρ S) λp=>∃k,p.1=.bl k/\Q (k,p.2):=by dsimp only[dL,aP]; exact GP
theorem GR {a b:E}{Q:QB}:Wp (dL Φ (.and a b) ρ S) Q↔Wp (dL Φ a ρ S) λp=>(p.1=true->Wp (dL Φ b ρ p.2) Q)/\(p.1=false->Q (false,p.2)):=by
 (dsimp only[dL]; simp only[yi])
 rcases h:dL Φ a ρ S with _|⟨x,S1⟩
 ·simp[ac,ag]
 ·cases x <;> simp[ac,ag]
theorem IJ {a b:E}{Q:QB}:Wp (dL Φ (.or a b) ρ S) Q↔Wp (dL Φ a ρ S) λp=>(p.1=true->Q (true,p.2))/\(p.1=false->Wp (dL Φ b ρ p.2) Q):=by
 (dsimp only[dL]; simp only[Gj])
 rcases h:dL Φ a ρ S with _|⟨x,S1⟩
 ·simp[ac,ag]
 ·cases x <;> simp[ac,ag]
theorem GU {a:E}{Q:QB}:Wp (dL Φ (.not a) ρ S) Q↔Wp (dL Φ a ρ S) λp=>Q (!p.1,p.2):=by
 (dsimp only[dL]; simp only[Bv])
 rcases h:dL Φ a ρ S with _|⟨x,S1⟩ <;> simp[ac,ag]
theorem Jv {i:JF}{Q:QB}:Wp (dL Φ (.v i) ρ S) Q↔Wp (aP Φ (.v i) ρ S) λp=>∃k,ff p.2 p.1=gV k/\Q (k,p.2):=by dsimp only[dL,aP]; exact uJ
theorem GV {f:JZ}{n:JF}{es:Es}{Q:QB}:Wp (dL Φ (.own f n es) ρ S) Q↔Wp (aP Φ (.own f n es) ρ S) λp=>∃k,ff p.2 p.1=gV k/\Q (k,p.2):=by dsimp only[dL,aP]; exact uJ
theorem IK {b:Bi}{es:Es}{Q:QB}:Wp (dL Φ (.bi b es) ρ S) Q↔Wp (aP Φ (.bi b es) ρ S) λp=>∃k,ff p.2 p.1=gV k/\Q (k,p.2):=by dsimp only[dL,aP]; exact uJ
theorem GX {c:K8}{a:E}{Q:QB}:Wp (dL Φ (.isi c a) ρ S) Q↔Wp (aP Φ (.isi c a) ρ S) λp=>∃k,ff p.2 p.1=gV k/\Q (k,p.2):=by dsimp only[dL,aP]; exact uJ
noncomputable abbrev QO:=Out×aa->Prop
theorem GY {Q:QO}:Wp (gN Φ fuel .nil ρ S) Q↔Q (.nx ρ,S):=by(dsimp only[gN]; simp[ac,ag])
theorem ER {s:Sm}{ss:Ss}{Q:QO}:Wp (gN Φ fuel (.cons s ss) ρ S) Q↔Wp (gI Φ fuel s ρ S) λp=>(∀ρ',p.1=.nx ρ'->Wp (gN Φ fuel ss ρ' p.2) Q)/\((∀ρ',p.1≠.nx ρ')->Q p):=by
 (dsimp only[gN]; simp only[BG])
 rcases h:gI Φ fuel s ρ S with _|⟨o,S1⟩
 ·simp[ac,ag]
 ·cases o <;> simp[ac,ag]
theorem yQ {f:FE}{g:FG}{Q:QO}:Wp (lT f g ρ S) Q↔Wp (f ρ S) λp=>Wp (g p.1 ρ p.2) λq=>Q (.nx q.1,q.2):=by
 unfold lT;rcases h:f ρ S with _|⟨x,S1⟩
 ·simp[ac,ag]
 ·rcases h2:g x ρ S1 with _|⟨y,S2⟩ <;> simp[ac,ag,h2]
theorem ES {i:JF}{e:E}{Q:QO}:Wp (gI Φ fuel (.set i e) ρ S) Q↔Wp (aP Φ e ρ S) λp=>Q (.nx (ρ.set i (gV p.1)),p.2):=by
 dsimp only[gI]; rw[yQ]; simp[BN,ac,ag]
theorem ET {is:Jy JF}{e:E}{Q:QO}:Wp (gI Φ fuel (.asg is e) ρ S) Q↔Wp (aP Φ e ρ S) λp=>∃ws ρ',p.1=.tup ws/\d7 is ws ρ=gV ρ'/\Q (.nx ρ',p.2):=by
 dsimp only[gI]; rw[yQ]
 constructor
 ·refine λh=>h.mono λp hp=>?_
  obtain⟨w,S1⟩:=p;obtain⟨q,h1,h2⟩:=hp;cases w with
  | tup ws=>
   simp only[Fs,JC]at h1;obtain⟨ρ',h3,rfl⟩:=h1;exact⟨ws,ρ',rfl,h3,h2⟩
  | _=>cases h1
 ·refine λh=>h.mono λp hp=>?_
  obtain⟨w,S1⟩:=p;obtain⟨ws,ρ',h0,h1,h2⟩:=hp;subst h0;exact⟨(ρ',S1),by simp[Fs,h1],h2⟩
theorem EU {i j:JF}{es:Es}{Q:QO}:Wp (gI Φ fuel (.par i j es) ρ S) Q↔Wp (dN Φ es ρ S) λp=>∃x y,p.1=[x,y]/\Q (.nx ((ρ.set i (gV x)).set j (gV y)),p.2):=by
 (dsimp only[gI]; simp only[BP])
 rcases h:dN Φ es ρ S with _|⟨x,S1⟩
 ·simp[ag]
 ·match x with
  | []=>simp[ac,ag]
  | [_]=>simp[ac,ag]
  | [a,b]=>
   simp only[ac];exact⟨λh=>⟨a,b,rfl,h⟩,λ⟨x,y,e,h⟩=>by cases e; exact h⟩
  | _::_::_::_=>simp[ac,ag]
theorem EV {o k e:E}{Q:QO}:Wp (gI Φ fuel (.put o k e) ρ S) Q↔Wp (aP Φ e ρ S) λp=>Wp (aP Φ o ρ p.2) λq=>Wp (aP Φ k ρ q.2) λr=>∃S',jd q.1 r.1 p.1 r.2=gV S'/\Q (.nx ρ,S'):=by
 dsimp only[gI]; rw[yQ]
 rcases h:aP Φ e ρ S with _|⟨x,S1⟩
 ·simp[ac,ag]
 ·simp only[ac];unfold BO;rcases h2:aP Φ o ρ S1 with _|⟨y,S2⟩
  ·simp[ac,ag]
  ·rcases h3:aP Φ k ρ S2 with _|⟨z,S3⟩
   ·simp[ac,ag,h3]
   ·cases h4:jd y z x S3 <;> simp[ac,ag,h3,h4]
theorem GZ {e:E}{Q:QO}:Wp (gI Φ fuel (.ex e) ρ S) Q↔Wp (aP Φ e ρ S) λp=>Q (.nx ρ,p.2):=by
 (dsimp only[gI]; simp only[BH])
 rcases h:aP Φ e ρ S with _|⟨x,S1⟩ <;> simp[ac,ag]
theorem EW {e:E}{Q:QO}:Wp (gI Φ fuel (.ret e) ρ S) Q↔Wp (aP Φ e ρ S) λp=>Q (.rt p.1,p.2):=by
 (dsimp only[gI]; simp only[BK])
 rcases h:aP Φ e ρ S with _|⟨x,S1⟩ <;> simp[ac,ag]
theorem EX {t:E}{a b:Ss}{Q:QO}:Wp (gI Φ fuel (.ite t a b) ρ S) Q↔Wp (dL Φ t ρ S) λp=>(p.1=true->Wp (gN Φ fuel a ρ p.2) Q)/\(p.1=false->Wp (gN Φ fuel b ρ p.2) Q):=by
 (dsimp only[gI]; simp only[BM])
 rcases h:dL Φ t ρ S with _|⟨x,S1⟩
 ·simp[ac,ag]
 ·cases x <;> simp[ac,ag]
end
section
variable{Φ:JZ->FF}{fuel:JF}{ρ:Fm}{S:aa}
noncomputable def yR (I:Fm->aa->Prop)(Q:QO)(o:Out×aa):Prop:=match o.1 with
 | .nx ρ'=>I ρ' o.2
 | .ct ρ'=>I ρ' o.2
 | .bk ρ'=>Q (.nx ρ',o.2)
 | .rt w=>Q (.rt w,o.2)
theorem jV {mi:MI}{g:FG}{b:FS}{xs:Jy W}{Q:QO}(I:JF->Fm->aa->Prop)(hat:∀i ρ S,I i ρ S->mi.at S i=gV xs[i]?)
  (hstep:∀i w ρ S,xs[i]?=gV w->I i ρ S->Wp (g w ρ S) λq=>Wp (b q.1 q.2) (yR (I (i+1)) Q)) (hend:∀ρ S,I xs.length ρ S->Q (.nx ρ,S)):∀(n i:JF) (ρ:Fm) (S:aa),i+n=xs.length->I i ρ S->Wp (gM mi g b n i ρ S) Q
 | 0,i,ρ,S,hl,hI=>by
  have e:mi.at S i=gV td:=by rw[hat i ρ S hI,OD (by omega)]
  simp only[gM,e];have hi:i=xs.length:=by omega
  exact ac.mpr (hend ρ S (hi ▸ hI))
 | n+1,i,ρ,S,hl,hI=>by
  have hi:i < xs.length:=by omega
  have e:mi.at S i=gV (gV xs[i]):=by rw[hat i ρ S hI,JX hi]
  obtain⟨⟨ρ1,S1⟩,h1,⟨o,S2⟩,h2,h3⟩:=hstep i xs[i] ρ S (JX hi) hI;simp only[gM,e,h1,h2];cases o with
  | nx ρ2=>exact jV I hat hstep hend n (i+1) ρ2 S2 (by omega) h3
  | ct ρ2=>exact jV I hat hstep hend n (i+1) ρ2 S2 (by omega) h3
  | bk ρ2=>exact ac.mpr h3
  | rt w=>exact ac.mpr h3
theorem G0 {fi:FI}{g:FG}{b:FS}{Q:QO}:Wp (yv fi g b ρ S) Q↔Wp (fi ρ S) λp=>∃n,p.1.len p.2=gV n/\Wp (gM p.1 g b n 0 ρ p.2) Q:=by
 unfold yv;rcases h:fi ρ S with _|⟨mi,S1⟩
 ·simp[ag]
 ·cases h2:mi.len S1 <;> simp[ac,ag,h2]
theorem eu {mi:MI}{g:FG}{c:FT}{f:FE}{xs:Jy W}{Q:Jy W×aa->Prop}(I:JF->Jy W->Fm->aa->Prop)(hat:∀i ys ρ S,I i ys ρ S->mi.at S i=gV xs[i]?)
  (hstep:∀i w ys ρ S,xs[i]?=gV w->I i ys ρ S->Wp (g w ρ S) λq=>Wp (c q.1 q.2) λk=>(k.1=true->Wp (f q.1 k.2) λy=>I (i+1) (ys++[y.1]) q.1 y.2)/\(k.1=false->I (i+1) ys q.1 k.2))
  (hend:∀ys ρ S,I xs.length ys ρ S->Q (ys,S)):∀(n i:JF) (ys:Jy W) (ρ:Fm) (S:aa),i+n=xs.length->I i ys ρ S->Wp (cx mi g c f n i ρ S) λp=>Q (ys++p.1,p.2)
 | 0,i,ys,ρ,S,hl,hI=>by
  have e:mi.at S i=gV td:=by rw[hat i ys ρ S hI,OD (by omega)]
  simp only[cx,e];refine ac.mpr ?_;have:i=xs.length:=by omega
  simpa using hend ys ρ S (this ▸ hI)
 | n+1,i,ys,ρ,S,hl,hI=>by
  have hi:i < xs.length:=by omega
  have e:mi.at S i=gV (gV xs[i]):=by rw[hat i ys ρ S hI,JX hi]
  obtain⟨⟨ρ1,S1⟩,h1,⟨k,S2⟩,h2,h3,h4⟩:=hstep i xs[i] ys ρ S (JX hi) hI;simp only[cx,e,h1,h2];cases k with
  | true=>
   obtain⟨⟨y,S3⟩,h5,h6⟩:=h3 rfl;simp only[h5];obtain⟨⟨zs,S4⟩,h7,h8⟩:=eu I hat hstep hend n (i+1) (ys++[y]) ρ1 S3 (by omega) h6
   simp only[h7];exact ac.mpr (by simpa using h8)
  | false=>exact eu I hat hstep hend n (i+1) ys ρ1 S2 (by omega) (h4 rfl)
theorem yS {elt:E}{tg:Tg}{it:Ie}{cs:Es}{cap:Jy (JE JF)}{Q:QW}:Wp (aP Φ (.comp elt tg it cs cap) ρ S) Q↔Wp (lV Φ it ρ S) λp=>∃n,p.1.len p.2=gV n/\Wp (cx p.1 (gd tg) (B5 Φ cs) (aP Φ elt) n 0 (gD cap ρ) p.2) λq=>q.1.length<=sizeLine/\Q (.ref q.2.length,q.2++[.lst q.1]):=by
 (dsimp only[aP]; simp only[lU,mX])
 rcases h:lV Φ it ρ S with _|⟨mi,S1⟩
 ·simp[ag]
 ·rcases h2:mi.len S1 with _|n
  ·simp[ac,ag,h2]
  ·rcases h3:cx mi (gd tg) (B5 Φ cs) (aP Φ elt) n 0 (gD cap ρ) S1 with _|⟨ys,S2⟩
   ·simp[ac,ag,h2,h3]
   ·by_cases hl:ys.length<=sizeLine <;> simp[ac,ag,h2,h3,hl]
theorem G1 {Q:QB}:Wp (B5 Φ .nil ρ S) Q↔Q (true,S):=by(dsimp only[B5]; simp[C5,ac])
theorem G2 {e:E}{Q:QB}:Wp (B5 Φ (.cons e .nil) ρ S) Q↔Wp (dL Φ e ρ S) Q:=by dsimp only[B5]; exact Iff.rfl
theorem IL {i:JF}{w:W}{Q:Fm×aa->Prop}:Wp (gd (.nm i) w ρ S) Q↔Q (ρ.set i (gV w),S):=by(dsimp only[gd]; simp[BN,ac])
theorem l7 {c:FT}{b:FS}{Q:QO}(I:JF->Fm->aa->Prop)(hstep:∀m ρ S,I m ρ S->Wp (c ρ S) λk=>(k.1=true->∃m',m=m'+1/\Wp (b ρ k.2) (yR (I m') Q))/\(k.1=false->Q (.nx ρ,k.2))) :
  ∀(n m:JF) (ρ:Fm) (S:aa),m < n->I m ρ S->Wp (pq c b n ρ S) Q
 | 0,m,ρ,S,h,_=>by omega
 | n+1,m,ρ,S,h,hI=>by
  obtain⟨⟨k,S1⟩,h1,h2,h3⟩:=hstep m ρ S hI;simp only[pq,h1];cases k with
  | false=>exact ac.mpr (h3 rfl)
  | true=>
   obtain⟨m',rfl,⟨o,S2⟩,h5,h6⟩:=h2 rfl;simp only[h5];cases o with
   | nx ρ2=>exact l7 I hstep n m' ρ2 S2 (by omega) h6
   | ct ρ2=>exact l7 I hstep n m' ρ2 S2 (by omega) h6
   | bk ρ2=>exact ac.mpr h6
   | rt w=>exact ac.mpr h6
theorem v8 {defs:Jy (JZ×Df)}{d:JF}{f:JZ}{ws:Jy W}{df:Df}{Q:QW}(h:defs.lookup f=gV df)(hl:ws.length=df.ps.length)
  (hb:Wp (gN (ar defs fuel d) fuel df.body (gf df.N ws) S) λp=>match p.1 with|.rt w=>Q (w,p.2)|.nx _=>Q (.non,p.2)|_=>KZ):Wp (ar defs fuel (d+1) f ws S) Q:=by
 obtain⟨⟨o,S1⟩,h1,h2⟩:=hb;simp only[ar,h,Kd hl,h1];cases o with
 | rt w=>exact ac.mpr h2
 | nx ρ=>exact ac.mpr h2
 | bk _=>exact h2.elim
 | ct _=>exact h2.elim
end
section
variable{S:aa}{Q:QW}
theorem eW {a b:JL}:iZ .add (.int a) (.int b) S=gV (.int (a+b),S):=rfl
theorem jh {a b:JL}:iZ .sub (.int a) (.int b) S=gV (.int (a - b),S):=rfl
theorem pG {c:JL->JL->Kc}{f:JL->JL->JL}{i j:JL}(h:c i j=true):Aq c f (.int i) (.int j) S=gV (.int (f i j),S):=by
 unfold Aq;dsimp only;rw[Kd h]
theorem qZ {a b:JL}(h : -(2 ^ 64) < b)(h2:b < 2 ^ 64):iZ .mul (.int a) (.int b) S=gV (.int (a*b),S):=pG (c:=vD) (f:=(· * ·)) (by
 unfold vD;simp only[LP,JH,Kh];exact .inr ⟨h,h2⟩)
theorem kO {a b:JL}(h:0 < b):iZ .mod (.int a) (.int b) S=gV (.int (a % b),S):=pG (c:=λ_ j=>decide (0 < j)) (f:=(· % ·)) (LL h)
theorem jW {a b:JL}(h:0 < b)(h2:b < 1073741824):iZ .fdiv (.int a) (.int b) S=gV (.int (a / b),S):=pG (c:=λ_ j=>AX j) (f:=(· / ·)) (by
 unfold AX;simp only[JH,Kh];exact⟨h,h2⟩)
theorem EY:iZ .pow (.int 10) (.int 18) S=gV (.int 1000000000000000000,S):=rfl
theorem c8 {xs ys:Jy W}(h:(xs++ys).length<=sizeLine):iZ .add (.tup xs) (.tup ys) S=gV (.tup (xs++ys),S):=by simp only[iZ,xJ,sy]; rw[Kd h]
theorem sS {i j:JF}{xs ys:Jy W}(h1:S[i]?=gV (.lst xs))(h2:S[j]?=gV (.lst ys))(h:(xs++ys).length<=sizeLine):iZ .add (.ref i) (.ref j) S=gV (.ref S.length,S++[.lst (xs++ys)]):=by
 simp only[iZ,xJ,qe,h1,h2,mX]; rw[Kd h]
theorem pH {a b:JL}:cv .eq (.int a) (.int b) S=gV (.bl (a==b),S):=rfl
theorem Cc {a b:JL}:cv .ne (.int a) (.int b) S=gV (.bl (!(a==b)),S):=rfl
theorem yT {a b:JL}:cv .lt (.int a) (.int b) S=gV (.bl (decide (a < b)),S):=rfl
theorem EZ {a b:JL}:cv .gt (.int a) (.int b) S=gV (.bl (decide (a > b)),S):=rfl
theorem IM {a b:JL}:cv .ge (.int a) (.int b) S=gV (.bl (decide (a>=b)),S):=rfl
theorem be {r:JF}{xs:Jy W}(h:S[r]?=gV (.lst xs)):iH S r=gV xs:=by simp[iH,h]
theorem Cd {r:JF}{xs:Jy W}(h:S[r]?=gV (.fro xs)):iH S r=gV xs:=by simp[iH,h]
theorem ey {r:JF}{xs:Jy W}(h:S[r]?=gV (.lst xs)):qe S r=gV xs:=by simp[qe,h]
theorem ji {r:JF}{xs:Jy W}(h:S[r]?=gV (.lst xs)):kW S r=td:=by simp[kW,h]
theorem cX {r:JF}{kvs:Jy (T×W)}(h:S[r]?=gV (.dic kvs)):kW S r=gV kvs:=by simp[kW,h]
theorem pI {r:JF}{kvs:Jy (T×W)}(h:S[r]?=gV (.dic kvs)):iH S r=td:=by simp[iH,h]
theorem Ce {r:JF}{kvs:Jy (T×W)}(h:S[r]?=gV (.frd kvs)):kW S r=gV kvs:=by simp[kW,h]
theorem atI_nat {α:Type}{xs:Jy α}{j:JF}{w:α}(h:xs[j]?=gV w):r9 xs (j:JL)=gV w:=by
 have hl:=(JU.mp h).1;unfold r9 wY;rw[Kd (JS j),Kd (by exact_mod_cast hl)]
 simpa using h
theorem pJ {α:Type}{xs:Jy α}{i:JL}{w:α}(h0:0<=i)(h:xs[i.toNat]?=gV w):r9 xs i=gV w:=by
 have:=atI_nat h
 rwa [Lc h0]at this
theorem yU {r:JF}{xs:Jy W}{i:JL}{w:W}(h:S[r]?=gV (.lst xs))(h0:0<=i)(hw:xs[i.toNat]?=gV w):kK (.ref r) (.int i) S=gV (w,S):=by
 show w8 (.ref r) (.int i) S=_;simp[w8,be h,pJ h0 hw]
theorem G3 {xs:Jy W}{i:JL}{w:W}(h0:0<=i)(hw:xs[i.toNat]?=gV w):kK (.tup xs) (.int i) S=gV (w,S):=by
 show w8 (.tup xs) (.int i) S=_;simp[w8,pJ h0 hw]
theorem G4 {x:JZ}{i:JL}{c:JF}(hz:x.length<=sizeLine)(h0:0<=i)(hw:x.cps.toList[i.toNat]?=gV c):kK (.str x) (.int i) S=gV (.str ⟨[c].toArray⟩,S):=by
 show w8 (.str x) (.int i) S=_;simp[w8,hz,pJ h0 hw]
theorem De {r:JF}{xs:Jy W}{i:JL}{w:W}(h:S[r]?=gV (.lst xs))(h0:0<=i)(hi:i.toNat < xs.length):jd (.ref r) (.int i) w S=gV (S.set r (.lst (xs.set i.toNat w))):=by
 show vE (.ref r) (.int i) w S=_;have:wY xs.length i=gV i.toNat:=by
  unfold wY;rw[Kd h0,Kd (by omega)]
 simp[vE,ey h,this]
theorem Dg {r:JF}{xs:Jy W}(h:S[r]?=gV (.lst xs)):sH [.ref r] S=gV (.int xs.length,S):=by
 simp[sH,ji h,sC,be h]
theorem yV {r:JF}{xs:Jy W}{y:W}(h:S[r]?=gV (.lst xs))(hl:xs.length < sizeLine):i8 (.ref r) [y] S=gV (.non,S.set r (.lst (xs++[y]))):=by
 simp[i8,ey h,hl]
theorem G5 {r:JF}{xs:Jy W}(h:S[r]?=gV (.lst xs)):lS [.ref r] S=gV (.tup xs,S):=by
 simp[lS,xT,h,lK,be h]
theorem dQ {r:JF}{xs:Jy W}(h:S[r]?=gV (.lst xs)):tyOk "list" S (.ref r)=true:=by simp[tyOk,be h]
theorem b9 {r:JF}{o o':O}(h:S[r]?=gV o):(S.set r o')[r]?=gV o':=by
 rw[Lz,Kd rfl,Kd (JU.mp h).1]
theorem bY {r j:JF}{o':O}(h:r≠j):(S.set r o')[j]?=S[j]?:=by rw[Lz,Ku h]
theorem ak {o:O}:(S++[o])[S.length]?=gV o:=by simp
theorem au {j:JF}{o u:O}(h:S[j]?=gV o):(S++[u])[j]?=gV o:=by rw[Kn (JU.mp h).1]; exact h
theorem cO {j:JF}{o:O}(h:S[j]?=gV o):j < S.length:=(JU.mp h).1
structure Kp (r:JF)(S S':aa):Prop where
 get:∀j o,j≠r->S[j]?=gV o->S'[j]?=gV o
 len:S.length<=S'.length
theorem Kp.refl {r:JF}{S:aa}:Kp r S S:=⟨λ_ _ _ h=>h,JO _⟩
theorem Kp.trans {r:JF}{S S' S'':aa}(a:Kp r S S')(b:Kp r S' S''):Kp r S S'':=⟨λj o n h=>b.get j o n (a.get j o n h),J8 a.len b.len⟩
theorem Kp.set {r:JF}{S:aa}{o:O}:Kp r S (S.set r o):=⟨λj u n h=>by rw[bY (Ne.symm n)]; exact h,by simp⟩
theorem Kp.push {r:JF}{S:aa}{o:O}:Kp r S (S++[o]):=⟨λj u n h=>au h,by simp⟩
theorem Kp.late {r t:JF}{S0 S:aa}{o:O}(a:Kp r S0 S)(h:S0.length<=t):Kp r S0 (S.set t o):=
 ⟨λj u n e=>by
  have:=cO e;rw[bY (by omega)]; exact a.get j u n e,by simpa using a.len⟩
end
noncomputable def wO {α:Type}(o:JE α)(Q:α->Prop):Prop:=match o with
 | some a=>Q a
 | none=>KZ
theorem de {α:Type}{o:JE α}{Q:α->Prop}(h:wO o Q):Wp o Q:=by
 cases o with
 | none=>exact h.elim
 | some a=>exact⟨a,rfl,h⟩
theorem G6 {α:Type}{o:JE α}{Q:α->Prop}(h:Wp o Q):wO o Q:=by
 obtain⟨a,rfl,q⟩:=h;exact q
theorem ab {α:Type}{o:JE α}{a:α}{Q:α->Prop}(e:o=gV a)(h:Q a):wO o Q:=by subst e; exact h
noncomputable def wB:W->(Kc->Prop)->Prop
 | .bl k,Q=>Q k
 | _,_=>KZ
noncomputable def wN:W->(JL->Prop)->Prop
 | .int k,Q=>Q k
 | _,_=>KZ
noncomputable def wU:W->(Jy W->Prop)->Prop
 | .tup k,Q=>Q k
 | _,_=>KZ
theorem uK {w:W}{Q:Kc->Prop}(h:wB w Q):∃k,w=.bl k/\Q k:=by cases w <;> first|exact h.elim|exact⟨_,rfl,h⟩
theorem Dh {w:W}{Q:JL->Prop}(h:wN w Q):∃k,w=.int k/\Q k:=by cases w <;> first|exact h.elim|exact⟨_,rfl,h⟩
theorem G7 {w:W}{Q:Jy W->Prop}(h:wU w Q):∃k,w=.tup k/\Q k:=by cases w <;> first|exact h.elim|exact⟨_,rfl,h⟩
noncomputable def w2:Jy W->(W->W->Prop)->Prop
 | [x,y],Q=>Q x y
 | _,_=>KZ
theorem G8 {xs:Jy W}{Q:W->W->Prop}(h:w2 xs Q):∃x y,xs=[x,y]/\Q x y:=by
 match xs,h with
 | [x,y],h=>exact⟨x,y,rfl,h⟩
noncomputable def wG:JE W->(W->Prop)->Prop
 | some w,Q=>Q w
 | none,_=>KZ
noncomputable def wV:Fm->JF->(W->Prop)->Prop
 | [],_,_=>KZ
 | o::_,0,Q=>wG o Q
 | _::ρ,n+1,Q=>wV ρ n Q
theorem yW {Q:W->Prop}:∀ {ρ:Fm} {i:JF},wV ρ i Q->∃w,ρ[i]?=gV (gV w)/\Q w
 | [],i,h=>h.elim
 | some w::ρ,0,h=>⟨w,rfl,h⟩
 | none::ρ,0,h=>h.elim
 | x::ρ,n+1,h=>by
  obtain⟨w,e2,q⟩:=yW (ρ:=ρ) (i:=n) h;exact⟨w,e2,q⟩
noncomputable def bx (Φ:JZ->FF)(f:JZ)(n:JF)(ws:Jy W)(S:aa):JE (W×aa):=if ws.length=n then Φ f ws S else td
section
variable (Φ:JZ->FF) (fuel:JF)
mutual
noncomputable def wE:E->Fm->aa->QW->Prop
 | .c w,_,S,Q=>Q (w,S)
 | .v i,ρ,S,Q=>wV ρ i λw=>Q (w,S)
 | .op o a b,ρ,S,Q=>wE a ρ S λp=>wE b ρ p.2 λq=>wO (iZ o p.1 q.1 q.2) Q
 | .cmp o a b,ρ,S,Q=>wE a ρ S λp=>wE b ρ p.2 λq=>wO (cv o p.1 q.1 q.2) Q
 | .and a b,ρ,S,Q=>wE a ρ S λp=>wB p.1 λk=>(k=true->wE b ρ p.2 Q)/\(k=false->Q (.bl false,p.2))
 | .or a b,ρ,S,Q=>wE a ρ S λp=>wB p.1 λk=>(k=true->Q (.bl true,p.2))/\(k=false->wE b ρ p.2 Q)
 | .not a,ρ,S,Q=>wE a ρ S λp=>wB p.1 λk=>Q (.bl (!k),p.2)
 | .own f n es,ρ,S,Q=>wA es ρ S λp=>wO (bx Φ f n p.1 p.2) Q
 | .bi b es,ρ,S,Q=>wA es ρ S λp=>wO (b.fn p.1 p.2) Q
 | .me m o es,ρ,S,Q=>wE o ρ S λp=>tyOk m.ty p.2 p.1=true/\wA es ρ p.2 λq=>wO (m.fn p.1 q.1 q.2) Q
 | .ix a b,ρ,S,Q=>wE a ρ S λp=>wE b ρ p.2 λq=>wO (kK p.1 q.1 q.2) Q
 | .sl a lo hi,ρ,S,Q=>wE a ρ S λp=>wP lo ρ p.2 λq=>wP hi ρ q.2 λr=>wO (sB p.1 q.1 r.1 r.2) Q
 | .tup es,ρ,S,Q=>wA es ρ S λp=>Q (.tup p.1,p.2)
 | .lst es,ρ,S,Q=>wA es ρ S λp=>Q (.ref p.2.length,p.2++[.lst p.1])
 | .isi c a,ρ,S,Q=>wE a ρ S λp=>wO (EI p.2 p.1 c) λk=>Q (.bl k,p.2)
 | .neg a,ρ,S,Q=>wE a ρ S λp=>wN p.1 λi=>Q (.int (-i),p.2)
 | .dnew,_,S,Q=>Q (.ref S.length,S++[.dic []])
 | .disp es,ρ,S,Q=>wA es ρ (S++[.dic []]) λp=>p.2[S.length]?=gV (.dic [])/\wO (d8 [] p.1) λkvs=>Q (.ref S.length,p.2.set S.length (.dic kvs))
 | .ite t a b,ρ,S,Q=>wT t ρ S λp=>(p.1=true->wE a ρ p.2 Q)/\(p.1=false->wE b ρ p.2 Q)
 | .comp elt tg it cs cap,ρ,S,Q=>Wp (aP Φ (.comp elt tg it cs cap) ρ S) Q
noncomputable def wT:E->Fm->aa->QB->Prop
 | .cmp o a b,ρ,S,Q=>wE a ρ S λp=>wE b ρ p.2 λq=>wO (cv o p.1 q.1 q.2) λr=>wB r.1 λk=>Q (k,r.2)
 | .and a b,ρ,S,Q=>wT a ρ S λp=>(p.1=true->wT b ρ p.2 Q)/\(p.1=false->Q (false,p.2))
 | .or a b,ρ,S,Q=>wT a ρ S λp=>(p.1=true->Q (true,p.2))/\(p.1=false->wT b ρ p.2 Q)
 | .not a,ρ,S,Q=>wT a ρ S λp=>Q (!p.1,p.2)
 | .isi c a,ρ,S,Q=>wE a ρ S λp=>wO (EI p.2 p.1 c) λk=>Q (k,p.2)
 | .c w,ρ,S,Q=>Wp (dL Φ (.c w) ρ S) Q
 | .v i,ρ,S,Q=>wV ρ i λw=>wO (ff S w) λk=>Q (k,S)
 | .op o a b,ρ,S,Q=>Wp (dL Φ (.op o a b) ρ S) Q
 | .own f n es,ρ,S,Q=>wA es ρ S λp=>wO (bx Φ f n p.1 p.2) λq=>wO (ff q.2 q.1) λk=>Q (k,q.2)
 | .bi b es,ρ,S,Q=>wA es ρ S λp=>wO (b.fn p.1 p.2) λq=>wO (ff q.2 q.1) λk=>Q (k,q.2)
 | .me m o es,ρ,S,Q=>Wp (dL Φ (.me m o es) ρ S) Q
 | .ix a b,ρ,S,Q=>Wp (dL Φ (.ix a b) ρ S) Q
 | .sl a lo hi,ρ,S,Q=>Wp (dL Φ (.sl a lo hi) ρ S) Q
 | .tup es,ρ,S,Q=>Wp (dL Φ (.tup es) ρ S) Q
 | .lst es,ρ,S,Q=>Wp (dL Φ (.lst es) ρ S) Q
 | .neg a,ρ,S,Q=>Wp (dL Φ (.neg a) ρ S) Q
 | .dnew,ρ,S,Q=>Wp (dL Φ .dnew ρ S) Q
 | .disp es,ρ,S,Q=>Wp (dL Φ (.disp es) ρ S) Q
 | .ite t a b,ρ,S,Q=>Wp (dL Φ (.ite t a b) ρ S) Q
 | .comp elt tg it cs cap,ρ,S,Q=>Wp (dL Φ (.comp elt tg it cs cap) ρ S) Q
noncomputable def wA:Es->Fm->aa->(Jy W×aa->Prop)->Prop
 | .nil,_,S,Q=>Q ([],S)
 | .cons e es,ρ,S,Q=>wE e ρ S λp=>wA es ρ p.2 λq=>Q (p.1::q.1,q.2)
noncomputable def wP:Ep->Fm->aa->(JE JL×aa->Prop)->Prop
 | .no,_,S,Q=>Q (td,S)
 | .yes a,ρ,S,Q=>wE a ρ S λp=>wN p.1 λi=>Q (gV i,p.2)
end
noncomputable def q8 (K:Fm->aa->Prop)(Q:QO)(p:Out×aa):Prop:=match p.1 with
 | .nx ρ=>K ρ p.2
 | o=>Q (o,p.2)
mutual
noncomputable def wS:Sm->Fm->aa->(Fm->aa->Prop)->QO->Prop
 | .set i e,ρ,S,K,_=>wE Φ e ρ S λp=>K (ρ.set i (gV p.1)) p.2
 | .asg is e,ρ,S,K,_=>wE Φ e ρ S λp=>wU p.1 λws=>wO (d7 is ws ρ) λρ'=>K ρ' p.2
 | .par i j es,ρ,S,K,_=>wA Φ es ρ S λp=>w2 p.1 λx y=>K ((ρ.set i (gV x)).set j (gV y)) p.2
 | .put o k e,ρ,S,K,_=>wE Φ e ρ S λp=>wE Φ o ρ p.2 λq=>wE Φ k ρ q.2 λr=>wO (jd q.1 r.1 p.1 r.2) λS'=>K ρ S'
 | .ex e,ρ,S,K,_=>wE Φ e ρ S λp=>K ρ p.2
 | .ret e,ρ,S,_,Q=>wE Φ e ρ S λp=>Q (.rt p.1,p.2)
 | .retN,_,S,_,Q=>Q (.rt .non,S)
 | .pass,ρ,S,K,_=>K ρ S
 | .brk,ρ,S,_,Q=>Q (.bk ρ,S)
 | .cont,ρ,S,_,Q=>Q (.ct ρ,S)
 | .bad,_,_,_,_=>KZ
 | .ite t a b,ρ,S,K,Q=>wT Φ t ρ S λp=>∀Q':QO,(∀ρ' S',K ρ' S'->Q' (.nx ρ',S'))->(∀o S',(∀ρ',o≠.nx ρ')->Q (o,S')->Q' (o,S'))->(p.1=true->Cg a ρ p.2 Q')/\(p.1=false->Cg b ρ p.2 Q')
 | .whl t b,ρ,S,K,Q=>Wp (gI Φ fuel (.whl t b) ρ S) (q8 K Q)
 | .loop tg it b,ρ,S,K,Q=>Wp (gI Φ fuel (.loop tg it b) ρ S) (q8 K Q)
noncomputable def Cg:Ss->Fm->aa->QO->Prop
 | .nil,ρ,S,Q=>Q (.nx ρ,S)
 | .cons s ss,ρ,S,Q=>wS s ρ S (λρ' S'=>Cg ss ρ' S' Q) Q
end
end
noncomputable def HA:Es->JF
 | .nil=>0
 | .cons _ es=>HA es+1
mutual
noncomputable def ee:E->Kc
 | .c _|.v _|.comp _ _ _ _ _|.dnew=>true
 | .op _ a b|.cmp _ a b|.and a b|.or a b|.ix a b=>ee a&&ee b
 | .ite a b c=>ee a&&ee b&&ee c
 | .neg a|.not a|.isi _ a=>ee a
 | .own _ n es=>HA es==n&&q9 es
 | .bi _ es|.disp es=>q9 es
 | .me _ o es=>ee o&&q9 es
 | .sl a lo hi=>ee a&&IN lo&&IN hi
 | .tup es|.lst es=>decide (HA es<=1000)&&q9 es
noncomputable def q9:Es->Kc
 | .nil=>true
 | .cons e es=>ee e&&q9 es
noncomputable def IN:Ep->Kc
 | .no=>true
 | .yes e=>ee e
end
mutual
noncomputable def Jk:Sm->Kc
 | .set _ e|.asg _ e|.ex e|.ret e=>ee e
 | .put o k e=>ee o&&ee k&&ee e
 | .par _ _ es=>q9 es
 | .ite t a b=>ee t&&gP a&&gP b
 | _=>true
noncomputable def gP:Ss->Kc
 | .nil=>true
 | .cons s ss=>Jk s&&gP ss
end
section
variable{Φ:JZ->FF}{fuel:JF}
theorem jj:∀ {es:Es} {ρ:Fm} {S S':aa} {ws:Jy W},dN Φ es ρ S=gV (ws,S')->ws.length=HA es
 | .nil,ρ,S,S',ws,h=>by dsimp only[dN]at h; cases h; rfl
 | .cons e es,ρ,S,S',ws,h=>by
  dsimp only[dN]at h;unfold eT at h;split at h
  ·split at h
   ·rename_i h2; cases h; rw[Kk,jj h2]; rfl
   ·cases h
  ·cases h
theorem yX {n:JF}(h:decide (n<=1000)=true):n<=sizeLine:=J8 (K4 h) (by rw[KL]; decide)
theorem dM {a b:Kc}(h:(a&&b)=true):a=true:=by cases a <;> first|rfl|cases h
theorem eX {a b:Kc}(h:(a&&b)=true):b=true:=by cases a <;> first|exact h|cases h
mutual
theorem bP:∀(e:E) {ρ:Fm} {S:aa} {Q:QW},ee e=true->wE Φ e ρ S Q->Wp (aP Φ e ρ S) Q
 | .c w,ρ,S,Q,k,h=>Ju.mpr h
 | .v i,ρ,S,Q,k,h=>Jj.mpr (yW h)
 | .op o a b,ρ,S,Q,k,h=>ID.mpr ((bP a (dM k) h).mono λp hp=>(bP b (eX k) hp).mono λq hq=>de hq)
 | .cmp o a b,ρ,S,Q,k,h=>Da.mpr ((bP a (dM k) h).mono λp hp=>(bP b (eX k) hp).mono λq hq=>de hq)
 | .and a b,ρ,S,Q,k,h=>GC.mpr ((bP a (dM k) h).mono λp hp=>let ⟨c,e,h1,h2⟩:=uK hp; ⟨c,e,λz=>bP b (eX k) (h1 z),h2⟩)
 | .or a b,ρ,S,Q,k,h=>IF.mpr ((bP a (dM k) h).mono λp hp=>let ⟨c,e,h1,h2⟩:=uK hp; ⟨c,e,h1,λz=>bP b (eX k) (h2 z)⟩)
 | .not a,ρ,S,Q,k,h=>GD.mpr ((bP a k h).mono λp hp=>uK hp)
 | .own f n es,ρ,S,Q,k,h=>Db.mpr (by
   obtain⟨⟨ws,S1⟩,e,hq⟩:=iD es (eX k) h;have hl:ws.length=n:=(jj e).trans (eq_of_beq (dM k));simp only[bx,Kd hl]at hq;exact⟨_,e,hl,de hq⟩)
 | .bi b es,ρ,S,Q,k,h=>GH.mpr ((iD es k h).mono λp hp=>de hp)
 | .me m o es,ρ,S,Q,k,h=>IG.mpr ((bP o (dM k) h).mono λp hp=>⟨hp.1,(iD es (eX k) hp.2).mono λq hq=>de hq⟩)
 | .ix a b,ρ,S,Q,k,h=>IE.mpr ((bP a (dM k) h).mono λp hp=>(bP b (eX k) hp).mono λq hq=>de hq)
 | .sl a lo hi,ρ,S,Q,k,h=>IH.mpr ((bP a (dM (dM k)) h).mono λp hp=>(Di lo (eX (dM k)) hp).mono λq hq=>(Di hi (eX k) hq).mono λr hr=>de hr)
 | .tup es,ρ,S,Q,k,h=>GK.mpr (by
   obtain⟨⟨ws,S1⟩,e,hq⟩:=iD es (eX k) h;exact⟨_,e,by rw[jj e]; exact yX (dM k),hq⟩)
 | .lst es,ρ,S,Q,k,h=>GL.mpr (by
   obtain⟨⟨ws,S1⟩,e,hq⟩:=iD es (eX k) h;exact⟨_,e,by rw[jj e]; exact yX (dM k),hq⟩)
 | .isi c a,ρ,S,Q,k,h=>Dc.mpr ((bP a k h).mono λp hp=>de hp)
 | .neg a,ρ,S,Q,k,h=>GM.mpr ((bP a k h).mono λp hp=>Dh hp)
 | .dnew,ρ,S,Q,k,h=>⟨_,rfl,h⟩
 | .disp es,ρ,S,Q,k,h=>EO.mpr ((iD es k h).mono λp hp=>⟨hp.1,let ⟨kvs,e,q⟩:=de hp.2; ⟨kvs,e,q⟩⟩)
 | .ite t a b,ρ,S,Q,k,h=>GF.mpr ((jk t (dM (dM k)) h).mono λp hp=>⟨λz=>bP a (eX (dM k)) (hp.1 z),λz=>bP b (eX k) (hp.2 z)⟩)
 | .comp elt tg it cs cap,ρ,S,Q,k,h=>h
theorem iD:∀(es:Es) {ρ:Fm} {S:aa} {Q:Jy W×aa->Prop},q9 es=true->wA Φ es ρ S Q->Wp (dN Φ es ρ S) Q
 | .nil,ρ,S,Q,k,h=>GN.mpr h
 | .cons e es,ρ,S,Q,k,h=>EQ.mpr ((bP e (dM k) h).mono λp hp=>iD es (eX k) hp)
theorem Di:∀(e:Ep) {ρ:Fm} {S:aa} {Q:JE JL×aa->Prop},IN e=true->wP Φ e ρ S Q->Wp (uA Φ e ρ S) Q
 | .no,ρ,S,Q,k,h=>II.mpr h
 | .yes a,ρ,S,Q,k,h=>GJ.mpr ((bP a k h).mono λp hp=>Dh hp)
theorem jk:∀(e:E) {ρ:Fm} {S:aa} {Q:QB},ee e=true->wT Φ e ρ S Q->Wp (dL Φ e ρ S) Q
 | .cmp o a b,ρ,S,Q,k,h=>GQ.mpr (Da.mpr ((bP a (dM k) h).mono λp hp=>(bP b (eX k) hp).mono λq hq=>(de hq).mono λr hr=>uK hr))
 | .and a b,ρ,S,Q,k,h=>GR.mpr ((jk a (dM k) h).mono λp hp=>⟨λz=>jk b (eX k) (hp.1 z),hp.2⟩)
 | .or a b,ρ,S,Q,k,h=>IJ.mpr ((jk a (dM k) h).mono λp hp=>⟨hp.1,λz=>jk b (eX k) (hp.2 z)⟩)
 | .not a,ρ,S,Q,k,h=>GU.mpr (jk a k h)
 | .isi c a,ρ,S,Q,k,h=>GX.mpr (Dc.mpr ((bP a k h).mono λp hp=>let ⟨b,e,q⟩:=de hp; ⟨b,e,b,rfl,q⟩))
 | .v i,ρ,S,Q,k,h=>Jv.mpr (Jj.mpr (let ⟨w,e,q⟩:=yW h; ⟨w,e,de q⟩))
 | .own f n es,ρ,S,Q,k,h=>GV.mpr (Db.mpr (by
   obtain⟨⟨ws,S1⟩,e,hq⟩:=iD es (eX k) h;have hl:ws.length=n:=(jj e).trans (eq_of_beq (dM k));simp only[bx,Kd hl]at hq;exact⟨_,e,hl,(de hq).mono λq hq=>de hq⟩))
 | .c w,ρ,S,Q,k,h=>h
 | .op o a b,ρ,S,Q,k,h=>h
 | .bi b es,ρ,S,Q,k,h=>IK.mpr (GH.mpr ((iD es k h).mono λp hp=>(de hp).mono λq hq=>de hq))
 | .me m o es,ρ,S,Q,k,h=>h
 | .ix a b,ρ,S,Q,k,h=>h
 | .sl a lo hi,ρ,S,Q,k,h=>h
 | .tup es,ρ,S,Q,k,h=>h
 | .lst es,ρ,S,Q,k,h=>h
 | .neg a,ρ,S,Q,k,h=>h
 | .dnew,ρ,S,Q,k,h=>h
 | .disp es,ρ,S,Q,k,h=>h
 | .ite t a b,ρ,S,Q,k,h=>h
 | .comp elt tg it cs cap,ρ,S,Q,k,h=>h
end
mutual
theorem G9:∀(s:Sm) {ρ:Fm} {S:aa} {K:Fm->aa->Prop} {Q:QO},Jk s=true->wS Φ fuel s ρ S K Q->Wp (gI Φ fuel s ρ S) (q8 K Q)
 | .set i e,ρ,S,K,Q,k,h=>ES.mpr (bP e k h)
 | .asg is e,ρ,S,K,Q,k,h=>ET.mpr ((bP e k h).mono λp hp=>let ⟨ws,e1,h1⟩:=G7 hp; let ⟨ρ',e2,h2⟩:=de h1; ⟨ws,ρ',e1,e2,h2⟩)
 | .par i j es,ρ,S,K,Q,k,h=>EU.mpr ((iD es k h).mono λp hp=>G8 hp)
 | .put o i e,ρ,S,K,Q,k,h=>EV.mpr ((bP e (eX k) h).mono λp hp=>(bP o (dM (dM k)) hp).mono λq hq=>(bP i (eX (dM k)) hq).mono λr hr=>de hr)
 | .ex e,ρ,S,K,Q,k,h=>GZ.mpr (bP e k h)
 | .ret e,ρ,S,K,Q,k,h=>EW.mpr (bP e k h)
 | .retN,ρ,S,K,Q,k,h=>⟨_,rfl,h⟩
 | .pass,ρ,S,K,Q,k,h=>⟨_,rfl,h⟩
 | .brk,ρ,S,K,Q,k,h=>⟨_,rfl,h⟩
 | .cont,ρ,S,K,Q,k,h=>⟨_,rfl,h⟩
 | .bad,ρ,S,K,Q,k,h=>h.elim
 | .ite t a b,ρ,S,K,Q,k,h=>EX.mpr ((jk t (dM (dM k)) h).mono λp hp=>by
   obtain⟨h1,h2⟩:=hp (q8 K Q) (λρ' S' z=>z) (λo S' hn z=>by cases o <;> first|exact z|exact absurd rfl (hn _))
   exact⟨λz=>jX a (eX (dM k)) (h1 z),λz=>jX b (eX k) (h2 z)⟩)
 | .whl t b,ρ,S,K,Q,k,h=>h
 | .loop tg it b,ρ,S,K,Q,k,h=>h
theorem jX:∀(ss:Ss) {ρ:Fm} {S:aa} {Q:QO},gP ss=true->Cg Φ fuel ss ρ S Q->Wp (gN Φ fuel ss ρ S) Q
 | .nil,ρ,S,Q,k,h=>GY.mpr h
 | .cons s ss,ρ,S,Q,k,h=>ER.mpr ((G9 s (dM k) h).mono λp hp=>by
   obtain⟨o,S1⟩:=p;cases o with
   | nx ρ'=>exact⟨λρ2 e=>by cases e; exact jX ss (eX k) hp,λz=>absurd rfl (z ρ')⟩
   | _=>exact⟨λρ2 e=>(by cases e),λ_=>hp⟩)
end
structure wZ (Φ:JZ->FF)(fuel:JF)(ss:Ss)(ρ:Fm)(S:aa)(Q:QO):Prop where
 out:Cg Φ fuel ss ρ S Q
theorem Ha {ss:Ss}{ρ:Fm}{S:aa}{Q:QO}:Cg Φ fuel ss ρ S Q=wZ Φ fuel ss ρ S Q:=propext ⟨λh=>⟨h⟩,λh=>h.out⟩
theorem E1 {defs:Jy (JZ×Df)}{d:JF}{f:JZ}{n:JF}{ws:Jy W}{df:Df}{S:aa}{Q:QW}(h:defs.lookup f=gV df)(hn:ws.length=n)(hl:ws.length=df.ps.length)(ok:gP df.body=true)
  (hb:∀Q':QO,(∀w S',Q (w,S')->Q' (.rt w,S'))->wZ (ar defs fuel d) fuel df.body (gf df.N ws) S Q'):wO (bx (ar defs fuel (d+1)) f n ws S) Q:=by
 unfold bx;rw[Kd hn];exact G6 (v8 h hl ((jX _ ok (hb (λp=>match p.1 with|.rt w=>Q (w,p.2)|_=>KZ) λw S' q=>q).out).mono λp hp=>by
  obtain⟨o,S1⟩:=p;cases o <;> first|exact hp|exact hp.elim))
end
section
variable{Φ:JZ->FF}{fuel:JF}{ρ:Fm}{S:aa}{K:Fm->aa->Prop}{Q:QO}
noncomputable def wb (Φ:JZ->FF)(fuel:JF)(b:Ss)(ρ:Fm)(S:aa)(I:Fm->aa->Prop)(Q:QO):Prop:=∀Q':QO,(∀ρ' S',I ρ' S'->Q' (.nx ρ',S'))->(∀w S',Q (.rt w,S')->Q' (.rt w,S'))->wZ Φ fuel b ρ S Q'
theorem iN {tg:Tg}{it:Ie}{b:Ss}{mi:MI}{S1:aa}{xs:Jy W}(I:JF->Fm->aa->Prop)(ok:gP b=true)(hi:lV Φ it ρ S=gV (mi,S1))(hat:∀i ρ S,I i ρ S->mi.at S i=gV xs[i]?)(hl:mi.len S1=gV xs.length)(h0:I 0 ρ S1)
  (hstep:∀(i:JF) (w:W) (ρ:Fm) (S:aa),xs[i]?=gV w->I i ρ S->wO (gd tg w ρ S) λq=>wb Φ fuel b q.1 q.2 (I (i+1)) Q) (hend:∀ρ S,I xs.length ρ S->K ρ S):Wp (gI Φ fuel (.loop tg it b) ρ S) (q8 K Q):=by
 rw[gI,G0];refine⟨_,hi,xs.length,hl,?_⟩;refine jV (Q:=q8 K Q) I hat (λi w ρ S h1 h2=>?_) (λρ S h=>hend ρ S h) _ 0 ρ S1 (by omega) h0
 exact(de (hstep i w ρ S h1 h2)).mono λq hq=>jX b ok (wZ.out (hq _ (λ_ _ h=>h) λ_ _ h=>h))
theorem c9 {e:E}{Q:QW}(ok:ee e=true)(h:wE Φ e ρ S Q):∃w S',aP Φ e ρ S=gV (w,S')/\Q (w,S'):=let ⟨⟨w,S'⟩,a,b⟩:=bP e ok h; ⟨w,S',a,b⟩
theorem cD {i0:JF}{e:E}{b:Ss}(j:JL)(I:JF->Fm->aa->Prop)(oe:ee e=true)(ok:gP b=true)(hj : -(2 ^ 62)<=j/\j < 2 ^ 62)(he:wE Φ e ρ S λp=>p.1=.int j/\I 0 ρ p.2)
  (hstep:∀(i:JF) (ρ:Fm) (S:aa),(i:JL) < j->I i ρ S->wb Φ fuel b (ρ.set i0 (gV (.int i))) S (I (i+1)) Q) (hend:∀ρ S,I j.toNat ρ S->K ρ S):Wp (gI Φ fuel (.loop (.nm i0) (.rng (.cons e .nil)) b) ρ S) (q8 K Q):=by
 obtain⟨w,S1,e1,rfl,h0⟩:=c9 oe he;have hl:(dJ 0 j.toNat).length=j.toNat:=by simp[dJ]
 refine iN (mi:=.its (dJ 0 j.toNat)) (S1:=S1) (xs:=dJ 0 j.toNat) I ok ?_ (λ_ _ _ _=>rfl) rfl h0 (λi w ρ S hw hI=>?_) λρ S hI=>hend ρ S (hl ▸ hI)
 ·simp only[lV,dN,eT,jR,sK,e1];rw[Kd hj]
 ·rw[eU]at hw;split at hw
  ·rename_i hk;cases hw;rw[Nx];exact hstep i ρ S (by omega) hI
  ·cases hw
theorem for_tup {tg:Tg}{e:E}{b:Ss}(xs:Jy W)(I:JF->Fm->aa->Prop)(oe:ee e=true)(ok:gP b=true)(he:wE Φ e ρ S λp=>p.1=.tup xs/\I 0 ρ p.2)
  (hstep:∀(i:JF) (w:W) (ρ:Fm) (S:aa),xs[i]?=gV w->I i ρ S->wO (gd tg w ρ S) λq=>wb Φ fuel b q.1 q.2 (I (i+1)) Q) (hend:∀ρ S,I xs.length ρ S->K ρ S):Wp (gI Φ fuel (.loop tg (.seq e) b) ρ S) (q8 K Q):=by
 obtain⟨w,S1,e1,rfl,h0⟩:=c9 oe he;exact iN (mi:=.its xs) (S1:=S1) I ok (by simp only[lV,gA,e1]) (λ_ _ _ _=>rfl) rfl h0 hstep hend
theorem lu {tg:Tg}{e:E}{b:Ss}(t:JF)(xs:Jy W)(I:JF->Fm->aa->Prop)(oe:ee e=true)(ok:gP b=true)(he:wE Φ e ρ S λp=>p.1=.ref t/\I 0 ρ p.2)(hat:∀i ρ S,I i ρ S->S[t]?=gV (.lst xs))
  (hstep:∀(i:JF) (w:W) (ρ:Fm) (S:aa),xs[i]?=gV w->I i ρ S->wO (gd tg w ρ S) λq=>wb Φ fuel b q.1 q.2 (I (i+1)) Q) (hend:∀ρ S,I xs.length ρ S->K ρ S):Wp (gI Φ fuel (.loop tg (.seq e) b) ρ S) (q8 K Q):=by
 obtain⟨w,S1,e1,rfl,h0⟩:=c9 oe he;exact iN (mi:=.live t) (S1:=S1) I ok (by simp only[lV,gA,e1,be (hat _ _ _ h0)]) (λi ρ S h=>by simp only[MI.at,be (hat _ _ _ h)]) (by simp only[MI.len,be (hat _ _ _ h0),Kq]) h0 hstep hend
theorem Hb {t:E}{b:Ss}(I:JF->Fm->aa->Prop)(m:JF)(ot:ee t=true)(ok:gP b=true)(hm:m < fuel)(h0:I m ρ S)
  (hstep:∀m ρ S,I m ρ S->wT Φ t ρ S λk=>(k.1=true->∃m',m=m'+1/\wb Φ fuel b ρ k.2 (I m') Q)/\(k.1=false->K ρ k.2)):Wp (gI Φ fuel (.whl t b) ρ S) (q8 K Q):=by
 rw[gI];refine l7 (Q:=q8 K Q) I (λm ρ S hI=>(jk t ot (hstep m ρ S hI)).mono λk hk=>⟨λz=>?_,λz=>hk.2 z⟩) fuel m ρ S hm h0
 obtain⟨m',e,h⟩:=hk.1 z;exact⟨m',e,jX b ok (wZ.out (h _ (λ_ _ h=>h) λ_ _ h=>h))⟩
noncomputable def wC (Φ:JZ->FF):Es->Fm->aa->QB->Prop
 | .nil,_,S,Q=>Q (true,S)
 | .cons e .nil,ρ,S,Q=>wT Φ e ρ S Q
 | .cons _ (.cons _ _),_,_,_=>KZ
theorem Dj {cs:Es}{Q:QB}(ok:q9 cs=true)(h:wC Φ cs ρ S Q):Wp (B5 Φ cs ρ S) Q:=by
 match cs,h,ok with
 | .nil,h,_=>exact G1.mpr h
 | .cons e .nil,h,ok=>exact G2.mpr (jk e (dM ok) h)
noncomputable def iO (Φ:JZ->FF)(elt:E)(cs:Es)(ρ:Fm)(S:aa)(G:W->Fm->aa->Prop)(N:Fm->aa->Prop):Prop:=wC Φ cs ρ S λk=>(k.1=true->wE Φ elt ρ k.2 λy=>G y.1 ρ y.2)/\(k.1=false->N ρ k.2)
theorem l8 {elt:E}{tg:Tg}{it:Ie}{cs:Es}{cap:Jy (JE JF)}{mi:MI}{S1:aa}{xs:Jy W}{Q:QW}(I:JF->Jy W->Fm->aa->Prop)(oe:ee elt=true)(oc:q9 cs=true)(hi:lV Φ it ρ S=gV (mi,S1))(hat:∀i ys ρ S,I i ys ρ S->mi.at S i=gV xs[i]?)(hl:mi.len S1=gV xs.length)(h0:I 0 [] (gD cap ρ) S1)
  (hstep:∀(i:JF) (w:W) (ys:Jy W) (ρ:Fm) (S:aa),xs[i]?=gV w->I i ys ρ S->wO (gd tg w ρ S) λq=>iO Φ elt cs q.1 q.2 (λy=>I (i+1) (ys++[y])) (I (i+1) ys))
  (hend:∀ys ρ S,I xs.length ys ρ S->ys.length<=sizeLine/\Q (.ref S.length,S++[.lst ys])):Wp (aP Φ (.comp elt tg it cs cap) ρ S) Q:=by
 rw[yS];refine⟨_,hi,xs.length,hl,?_⟩;refine(eu (xs:=xs) (Q:=λq=>q.1.length<=sizeLine/\Q (.ref q.2.length,q.2++[.lst q.1])) I hat (λi w ys ρ S h1 h2=>?_) hend xs.length 0 [] _ S1 (by omega) h0).mono λq hq=>by simpa using hq
 exact(de (hstep i w ys ρ S h1 h2)).mono λq hq=>(Dj oc hq).mono λk hk=>⟨λz=>bP elt oe (hk.1 z),hk.2⟩
theorem fA {elt e:E}{i0:JF}{cs:Es}{cap:Jy (JE JF)}{Q:QW}(j:JL)(I:JF->Jy W->Fm->aa->Prop)(oi:ee e=true)(oe:ee elt=true)(oc:q9 cs=true)(hj : -(2 ^ 62)<=j/\j < 2 ^ 62)(he:wE Φ e ρ S λp=>p.1=.int j/\I 0 [] (gD cap ρ) p.2)
  (hstep:∀(i:JF) (ys:Jy W) (ρ:Fm) (S:aa),(i:JL) < j->I i ys ρ S->iO Φ elt cs (ρ.set i0 (gV (.int i))) S (λy=>I (i+1) (ys++[y])) (I (i+1) ys))
  (hend:∀ys ρ S,I j.toNat ys ρ S->ys.length<=sizeLine/\Q (.ref S.length,S++[.lst ys])):Wp (aP Φ (.comp elt (.nm i0) (.rng (.cons e .nil)) cs cap) ρ S) Q:=by
 obtain⟨w,S1,e1,rfl,h0⟩:=c9 oi he;have hl:(dJ 0 j.toNat).length=j.toNat:=by simp[dJ]
 refine l8 (mi:=.its (dJ 0 j.toNat)) (S1:=S1) (xs:=dJ 0 j.toNat) I oe oc ?_ (λ_ _ _ _ _=>rfl) rfl h0 (λi w ys ρ S hw hI=>?_) λys ρ S hI=>hend ys ρ S (hl ▸ hI)
 ·simp only[lV,dN,eT,jR,sK,e1];rw[Kd hj]
 ·rw[eU]at hw;split at hw
  ·rename_i hk;cases hw;rw[Nx];exact hstep i ys ρ S (by omega) hI
  ·cases hw
theorem uL {elt e:E}{tg:Tg}{cs:Es}{cap:Jy (JE JF)}{Q:QW}(xs:Jy W)(I:JF->Jy W->Fm->aa->Prop)(oi:ee e=true)(oe:ee elt=true)(oc:q9 cs=true)(he:wE Φ e ρ S λp=>p.1=.tup xs/\I 0 [] (gD cap ρ) p.2)
  (hstep:∀(i:JF) (w:W) (ys:Jy W) (ρ:Fm) (S:aa),xs[i]?=gV w->I i ys ρ S->wO (gd tg w ρ S) λq=>iO Φ elt cs q.1 q.2 (λy=>I (i+1) (ys++[y])) (I (i+1) ys))
  (hend:∀ys ρ S,I xs.length ys ρ S->ys.length<=sizeLine/\Q (.ref S.length,S++[.lst ys])):Wp (aP Φ (.comp elt tg (.seq e) cs cap) ρ S) Q:=by
 obtain⟨w,S1,e1,rfl,h0⟩:=c9 oi he;exact l8 (mi:=.its xs) (S1:=S1) I oe oc (by simp only[lV,gA,e1]) (λ_ _ _ _ _=>rfl) rfl h0 hstep hend
theorem uM {elt e:E}{tg:Tg}{cs:Es}{cap:Jy (JE JF)}{Q:QW}(t:JF)(xs:Jy W)(I:JF->Jy W->Fm->aa->Prop)(oi:ee e=true)(oe:ee elt=true)(oc:q9 cs=true)(he:wE Φ e ρ S λp=>p.1=.ref t/\I 0 [] (gD cap ρ) p.2)(hat:∀i ys ρ S,I i ys ρ S->S[t]?=gV (.lst xs))
  (hstep:∀(i:JF) (w:W) (ys:Jy W) (ρ:Fm) (S:aa),xs[i]?=gV w->I i ys ρ S->wO (gd tg w ρ S) λq=>iO Φ elt cs q.1 q.2 (λy=>I (i+1) (ys++[y])) (I (i+1) ys))
  (hend:∀ys ρ S,I xs.length ys ρ S->ys.length<=sizeLine/\Q (.ref S.length,S++[.lst ys])):Wp (aP Φ (.comp elt tg (.seq e) cs cap) ρ S) Q:=by
 obtain⟨w,S1,e1,rfl,h0⟩:=c9 oi he;exact l8 (mi:=.live t) (S1:=S1) I oe oc (by simp only[lV,gA,e1,be (hat _ _ _ _ h0)]) (λi ys ρ S h=>by simp only[MI.at,be (hat _ _ _ _ h)]) (by simp only[MI.len,be (hat _ _ _ _ h0),Kq]) h0 hstep hend
theorem Ch {elt a:E}{tg:Tg}{cs:Es}{cap:Jy (JE JF)}{Q:QW}(xs:Jy W)(I:JF->Jy W->Fm->aa->Prop)(oa:ee a=true)(oe:ee elt=true)(oc:q9 cs=true)(he:wE Φ a ρ S λp=>Iz p.1=gV xs/\I 0 [] (gD cap ρ) p.2)
  (hstep:∀(i:JF) (x:W) (ys:Jy W) (ρ:Fm) (S:aa),xs[i]?=gV x->I i ys ρ S->wO (gd tg (.tup [.int i,x]) ρ S) λq=>iO Φ elt cs q.1 q.2 (λy=>I (i+1) (ys++[y])) (I (i+1) ys))
  (hend:∀ys ρ S,I xs.length ys ρ S->ys.length<=sizeLine/\Q (.ref S.length,S++[.lst ys])):Wp (aP Φ (.comp elt tg (.enu (.cons a .nil)) cs cap) ρ S) Q:=by
 obtain⟨x,S1,e1,h1,h0⟩:=c9 oa he;have hl:(pv xs).length=xs.length:=by simp[pv]
 refine l8 (mi:=.its (pv xs)) (S1:=S1) (xs:=pv xs) I oe oc (by simp only[lV,dN,eT,jR,B3,e1,h1]) (λ_ _ _ _ _=>rfl) rfl h0 (λi w ys ρ S hw hI=>?_) λys ρ S hI=>hend ys ρ S (hl ▸ hI)
 obtain⟨y,hy,rfl⟩:=qT hw;exact hstep i y ys ρ S hy hI
theorem st {s:Sm}{ss:Ss}(h:wS Φ fuel s ρ S (λρ' S'=>wZ Φ fuel ss ρ' S' Q) Q):wZ Φ fuel (.cons s ss) ρ S Q:=⟨by
 dsimp only[Cg];simp only[Ha];exact h⟩
theorem bW (h:Q (.nx ρ,S)):wZ Φ fuel .nil ρ S Q:=⟨h⟩
theorem ap {t:Kc}{a b:Ss}{Q Q0:QO}{K:Fm->aa->Prop}(ha:t=true->∀Q':QO,(∀ρ' S',K ρ' S'->Q' (.nx ρ',S'))->(∀w S',Q (.rt w,S')->Q' (.rt w,S'))->wZ Φ fuel a ρ S Q')(hb:t=false->∀Q':QO,(∀ρ' S',K ρ' S'->Q' (.nx ρ',S'))->(∀w S',Q (.rt w,S')->Q' (.rt w,S'))->wZ Φ fuel b ρ S Q') :
  ∀Q':QO,(∀ρ' S',K ρ' S'->Q' (.nx ρ',S'))->(∀o S',(∀ρ',o≠.nx ρ')->Q (o,S')->Q' (o,S'))->(t=true->Cg Φ fuel a ρ S Q')/\(t=false->Cg Φ fuel b ρ S Q'):=
 λQ' h1 h2=>⟨λe=>(ha e Q' h1 λw S'=>h2 (.rt w) S' (λ_ z=>nomatch z)).out,λe=>(hb e Q' h1 λw S'=>h2 (.rt w) S' (λ_ z=>nomatch z)).out⟩
end
noncomputable def eY:Ss:=
 (.cons (.ret (.lst (.cons (.bi .list (.cons (.v 0) .nil)) (.cons (.c (.int 0)) (.cons (.c (.int 0)) (.cons (.c (.int 1)) (.cons (.c (.int 0)) .nil)))))))
 .nil)
noncomputable def du:Ss:=
 (.cons (.ite (.and (.cmp .eq (.ix (.v 0) (.c (.int 2))) (.c (.int 0))) (.cmp .lt (.ix (.v 0) (.c (.int 1))) (.bi .len (.cons (.ix (.v 0) (.c (.int 0))) .nil)))) (.cons (.set 2 (.ix (.ix (.v 0) (.c (.int 0))) (.ix (.v 0) (.c (.int 1)))))
 (.cons (.put (.v 0) (.c (.int 1)) (.op .add (.ix (.v 0) (.c (.int 1))) (.c (.int 1))))
 (.cons (.ite (.cmp .ge (.v 2) (.op .pow (.c (.int 10)) (.c (.int 18)))) (.cons (.put (.v 0) (.c (.int 2)) (.v 2))
 .nil) (.cons (.put (.v 0) (.c (.int 3)) (.op .mod (.op .add (.op .add (.op .mul (.ix (.v 0) (.c (.int 3))) (.c (.int 40013))) (.op .mod (.v 2) (.c (.int 1000003)))) (.c (.int 1))) (.c (.int 2147483647))))
 .nil))
 .nil))) .nil)
 (.cons (.ite (.cmp .gt (.ix (.v 0) (.c (.int 2))) (.c (.int 0))) (.cons (.set 3 (.op .mod (.ix (.v 0) (.c (.int 2))) (.v 1)))
 (.cons (.put (.v 0) (.c (.int 2)) (.op .fdiv (.ix (.v 0) (.c (.int 2))) (.v 1)))
 (.cons (.ret (.v 3))
 .nil))) .nil)
 (.cons (.put (.v 0) (.c (.int 4)) (.op .add (.ix (.v 0) (.c (.int 4))) (.c (.int 1))))
 (.cons (.put (.v 0) (.c (.int 3)) (.op .mod (.op .add (.op .add (.op .mul (.ix (.v 0) (.c (.int 3))) (.c (.int 48271))) (.c (.int 12820163))) (.ix (.v 0) (.c (.int 4)))) (.c (.int 2147483647))))
 (.cons (.ret (.op .mod (.op .fdiv (.op .mod (.op .mul (.op .add (.op .mod (.ix (.v 0) (.c (.int 3))) (.c (.int 65521))) (.c (.int 1))) (.op .add (.op .fdiv (.ix (.v 0) (.c (.int 3))) (.c (.int 65521))) (.c (.int 7919)))) (.c (.int 1000003))) (.c (.int 7))) (.v 1)))
 .nil)))))
noncomputable def dU:Ss:=
 (.cons (.ite (.cmp .lt (.v 3) (.v 2)) (.cons (.ret (.ix (.ix (.ix (.v 1) (.v 2)) (.c (.int 1))) (.v 3)))
 .nil) .nil)
 (.cons (.ret (.ix (.ix (.ix (.v 0) (.c (.int 1))) (.ix (.ix (.ix (.v 1) (.v 3)) (.c (.int 1))) (.v 2))) (.c (.int 1))))
 .nil))
noncomputable def gh:Ss:=
 (.cons (.set 3 (.lst .nil))
 (.cons (.loop (.nm 4) (.rng (.cons (.bi .len (.cons (.v 2) .nil)) .nil)) (.cons (.set 5 (.ix (.v 2) (.v 4)))
 (.cons (.ex (.me .append (.v 3) (.cons (.tup (.cons (.ix (.ix (.v 1) (.v 5)) (.c (.int 0))) (.cons (.bi .tuple (.cons (.comp (.own "_law_between" 4 (.cons (.v 3) (.cons (.v 4) (.cons (.v 2) (.cons (.v 1) .nil))))) (.nm 1) (.seq (.sl (.v 2) .no (.yes (.v 4)))) .nil [td,td,gV 5,gV 0,gV 1]) .nil)) .nil))) .nil)))
 .nil)))
 (.cons (.ret (.bi .tuple (.cons (.v 3) .nil)))
 .nil)))
noncomputable def gQ:Ss:=
 (.cons (.ret (.lst (.cons (.tup (.cons (.c (.int 0)) (.cons (.c (.int 1)) (.cons (.c (.int 2)) .nil)))) (.cons (.tup (.cons (.c (.int 0)) (.cons (.c (.int 2)) (.cons (.c (.int 1)) .nil)))) (.cons (.tup (.cons (.c (.int 1)) (.cons (.c (.int 0)) (.cons (.c (.int 2)) .nil)))) (.cons (.tup (.cons (.c (.int 1)) (.cons (.c (.int 2)) (.cons (.c (.int 0)) .nil)))) (.cons (.tup (.cons (.c (.int 2)) (.cons (.c (.int 0)) (.cons (.c (.int 1)) .nil)))) (.cons (.tup (.cons (.c (.int 2)) (.cons (.c (.int 1)) (.cons (.c (.int 0)) .nil)))) .nil))))))))
 .nil)
noncomputable def eA:Ss:=
 (.cons (.ret (.bi .min (.cons (.comp (.own "_law_part" 3 (.cons (.v 2) (.cons (.v 3) (.cons (.v 1) .nil)))) (.nm 1) (.seq (.own "_law_turns" 0 .nil)) .nil [td,td,gV 0,gV 1]) .nil)))
 .nil)
noncomputable def fB:Ss:=
 (.cons (.set 2 (.ix (.lst (.cons (.lst (.cons (.tup (.cons (.c (.int 0)) .nil)) .nil)) (.cons (.lst (.cons (.tup (.cons (.c (.int 0)) (.cons (.c (.int 1)) .nil))) (.cons (.tup (.cons (.c (.int 1)) (.cons (.c (.int 0)) .nil))) .nil))) (.cons (.lst (.cons (.tup (.cons (.c (.int 0)) (.cons (.c (.int 1)) (.cons (.c (.int 2)) .nil)))) (.cons (.tup (.cons (.c (.int 1)) (.cons (.c (.int 0)) (.cons (.c (.int 2)) .nil)))) (.cons (.tup (.cons (.c (.int 0)) (.cons (.c (.int 2)) (.cons (.c (.int 1)) .nil)))) .nil)))) .nil)))) (.op .sub (.v 1) (.c (.int 1)))))
 (.cons (.ret (.ix (.v 2) (.own "_law_pick" 2 (.cons (.v 0) (.cons (.bi .len (.cons (.v 2) .nil)) .nil)))))
 .nil))
noncomputable def dW:Ss:=
 (.cons (.set 4 (.own "_law_names" 2 (.cons (.v 0) (.cons (.op .add (.v 1) (.bi .len (.cons (.v 2) .nil))) .nil))))
 (.cons (.set 5 (.bi .tuple (.cons (.comp (.tup (.cons (.ix (.v 4) (.op .add (.v 3) (.v 1))) (.cons (.ix (.v 2) (.v 1)) .nil))) (.nm 1) (.rng (.cons (.bi .len (.cons (.v 2) .nil)) .nil)) .nil [td,td,gV 2,gV 1,gV 4]) .nil)))
 (.cons (.ret (.tup (.cons (.sl (.v 4) .no (.yes (.v 1))) (.cons (.v 5) (.cons (.bi .tuple (.cons (.bi .sorted (.cons (.v 3) .nil)) .nil)) .nil)))))
 .nil)))
noncomputable def cY:Ss:=
 (.cons (.set 3 (.lst .nil))
 (.cons (.loop (.nm 4) (.rng (.cons (.c (.int 3)) .nil)) (.cons (.ex (.me .append (.v 3) (.cons (.tup (.cons (.own "_law_pick" 2 (.cons (.v 0) (.cons (.v 1) .nil))) (.cons (.bi .tuple (.cons (.comp (.own "_law_pick" 2 (.cons (.v 2) (.cons (.v 3) .nil))) (.nm 1) (.rng (.cons (.v 4) .nil)) .nil [td,td,gV 0,gV 2]) .nil)) .nil))) .nil)))
 .nil))
 (.cons (.ret (.bi .tuple (.cons (.v 3) .nil)))
 .nil)))
noncomputable def fD:Ss:=
 (.cons (.set 1 (.lst (.cons (.tup (.cons (.c (.int 1)) (.cons (.c (.int 1)) .nil))) (.cons (.tup (.cons (.c (.int 2)) (.cons (.c (.int 1)) .nil))) (.cons (.tup (.cons (.c (.int 3)) (.cons (.c (.int 1)) .nil))) (.cons (.tup (.cons (.c (.int 1)) (.cons (.c (.int 2)) .nil))) (.cons (.tup (.cons (.c (.int 1)) (.cons (.c (.int 2)) .nil))) (.cons (.tup (.cons (.c (.int 2)) (.cons (.c (.int 2)) .nil))) (.cons (.tup (.cons (.c (.int 2)) (.cons (.c (.int 2)) .nil))) (.cons (.tup (.cons (.c (.int 3)) (.cons (.c (.int 2)) .nil))) (.cons (.tup (.cons (.c (.int 1)) (.cons (.c (.int 3)) .nil))) (.cons (.tup (.cons (.c (.int 1)) (.cons (.c (.int 3)) .nil))) (.cons (.tup (.cons (.c (.int 2)) (.cons (.c (.int 3)) .nil))) .nil)))))))))))))
 (.cons (.ret (.ix (.v 1) (.own "_law_pick" 2 (.cons (.v 0) (.cons (.c (.int 11)) .nil)))))
 .nil))
noncomputable def dF:Ss:=
 (.cons (.asg [1,2] (.own "_law_sizes" 1 (.cons (.v 0) .nil)))
 (.cons (.set 3 (.own "_law_rule_of" 4 (.cons (.v 0) (.cons (.v 1) (.cons (.own "_law_backs" 2 (.cons (.v 0) (.cons (.v 2) .nil))) (.cons (.tup .nil) .nil))))))
 (.cons (.set 4 .dnew)
 (.cons (.loop (.nm 5) (.rng (.cons (.own "_law_pick" 2 (.cons (.v 0) (.cons (.c (.int 9)) .nil))) .nil)) (.cons (.put (.v 4) (.own "_law_figure" 2 (.cons (.v 3) (.cons (.own "_law_free_three" 3 (.cons (.v 0) (.cons (.v 1) (.cons (.v 2) .nil)))) .nil))) (.c (.bl true)))
 .nil))
 (.cons (.ret (.tup (.cons (.ix (.v 3) (.c (.int 0))) (.cons (.ix (.v 3) (.c (.int 1))) (.cons (.bi .tuple (.cons (.bi .sorted (.cons (.v 4) .nil)) .nil)) .nil)))))
 .nil)))))
noncomputable def cQ:Ss:=
 (.cons (.set 1 (.lst (.cons (.tup (.cons (.tup (.cons (.c (.int 1)) (.cons (.c (.int 0)) .nil))) (.cons (.disp (.cons (.tup (.cons (.c (.int 0)) (.cons (.c (.int 0)) .nil))) (.cons (.lst (.cons (.c (.int 0)) .nil)) .nil))) (.cons (.c (.int 3)) .nil)))) (.cons (.tup (.cons (.tup (.cons (.c (.int 0)) (.cons (.c (.int 2)) (.cons (.c (.int 1)) .nil)))) (.cons (.disp (.cons (.tup (.cons (.c (.int 1)) (.cons (.c (.int 1)) .nil))) (.cons (.lst (.cons (.c (.int 1)) .nil)) .nil))) (.cons (.c (.int 2)) .nil)))) (.cons (.tup (.cons (.tup (.cons (.c (.int 0)) (.cons (.c (.int 1)) .nil))) (.cons (.disp (.cons (.tup (.cons (.c (.int 1)) (.cons (.c (.int 1)) .nil))) (.cons (.lst (.cons (.c (.int 1)) .nil)) .nil))) (.cons (.c (.int 3)) .nil)))) .nil)))))
 (.cons (.ex (.me .append (.v 1) (.cons (.tup (.cons (.tup (.cons (.c (.int 0)) (.cons (.c (.int 1)) .nil))) (.cons (.disp (.cons (.tup (.cons (.c (.int 1)) (.cons (.c (.int 1)) .nil))) (.cons (.lst (.cons (.c (.int 1)) .nil)) (.cons (.tup (.cons (.c (.int 0)) (.cons (.c (.int 0)) .nil))) (.cons (.lst (.cons (.c (.int 1)) .nil)) .nil))))) (.cons (.c (.int 3)) .nil)))) .nil)))
 (.cons (.ex (.me .append (.v 1) (.cons (.tup (.cons (.tup (.cons (.c (.int 0)) (.cons (.c (.int 1)) .nil))) (.cons (.disp (.cons (.tup (.cons (.c (.int 1)) (.cons (.c (.int 1)) .nil))) (.cons (.lst .nil) .nil))) (.cons (.c (.int 1)) .nil)))) .nil)))
 (.cons (.ex (.me .append (.v 1) (.cons (.tup (.cons (.tup (.cons (.c (.int 0)) (.cons (.c (.int 2)) (.cons (.c (.int 1)) .nil)))) (.cons (.disp (.cons (.tup (.cons (.c (.int 0)) (.cons (.c (.int 0)) .nil))) (.cons (.lst (.cons (.c (.int 0)) .nil)) (.cons (.tup (.cons (.c (.int 0)) (.cons (.c (.int 1)) .nil))) (.cons (.lst (.cons (.c (.int 1)) .nil)) (.cons (.tup (.cons (.c (.int 1)) (.cons (.c (.int 0)) .nil))) (.cons (.lst (.cons (.c (.int 1)) .nil)) (.cons (.tup (.cons (.c (.int 1)) (.cons (.c (.int 1)) .nil))) (.cons (.lst (.cons (.c (.int 1)) .nil)) .nil))))))))) (.cons (.c (.int 2)) .nil)))) .nil)))
 (.cons (.ex (.me .append (.v 1) (.cons (.tup (.cons (.tup (.cons (.c (.int 1)) (.cons (.c (.int 0)) .nil))) (.cons .dnew (.cons (.c (.int 3)) .nil)))) .nil)))
 (.cons (.ex (.me .append (.v 1) (.cons (.tup (.cons (.tup (.cons (.c (.int 0)) (.cons (.c (.int 1)) (.cons (.c (.int 2)) .nil)))) (.cons (.disp (.cons (.tup (.cons (.c (.int 2)) (.cons (.c (.int 2)) .nil))) (.cons (.lst (.cons (.c (.int 2)) .nil)) (.cons (.tup (.cons (.c (.int 1)) (.cons (.c (.int 2)) .nil))) (.cons (.lst (.cons (.c (.int 1)) .nil)) (.cons (.tup (.cons (.c (.int 2)) (.cons (.c (.int 1)) .nil))) (.cons (.lst (.cons (.c (.int 1)) .nil)) (.cons (.tup (.cons (.c (.int 1)) (.cons (.c (.int 1)) .nil))) (.cons (.lst (.cons (.c (.int 1)) (.cons (.c (.int 2)) .nil))) .nil))))))))) (.cons (.c (.int 2)) .nil)))) .nil)))
 (.cons (.ex (.me .append (.v 1) (.cons (.tup (.cons (.tup (.cons (.c (.int 0)) (.cons (.c (.int 1)) (.cons (.c (.int 2)) .nil)))) (.cons (.disp (.cons (.tup (.cons (.c (.int 0)) (.cons (.c (.int 0)) .nil))) (.cons (.lst (.cons (.c (.int 0)) (.cons (.c (.int 1)) .nil))) .nil))) (.cons (.c (.int 2)) .nil)))) .nil)))
 (.cons (.ret (.ix (.v 1) (.own "_law_pick" 2 (.cons (.v 0) (.cons (.c (.int 9)) .nil)))))
 .nil))))))))
noncomputable def eB:Ss:=
 (.cons (.set 5 (.disp (.cons (.tup (.cons (.c (.int 1)) (.cons (.c (.int 0)) .nil))) (.cons (.v 2) (.cons (.tup (.cons (.c (.int 2)) (.cons (.c (.int 0)) .nil))) (.cons (.v 3) (.cons (.tup (.cons (.c (.int 2)) (.cons (.c (.int 1)) .nil))) (.cons (.v 4) .nil))))))))
 (.cons (.loop (.nm 6) (.seq (.bi .list (.cons (.v 5) .nil))) (.cons (.put (.v 5) (.tup (.cons (.ix (.v 6) (.c (.int 1))) (.cons (.ix (.v 6) (.c (.int 0))) .nil))) (.ix (.v 0) (.ix (.v 5) (.v 6))))
 .nil))
 (.cons (.loop (.tp [7,8,9]) (.seq (.own "_law_turns" 0 .nil)) (.cons (.ite (.cmp .notin (.ix (.v 5) (.tup (.cons (.v 7) (.cons (.v 9) .nil)))) (.me .get (.v 1) (.cons (.tup (.cons (.ix (.v 5) (.tup (.cons (.v 7) (.cons (.v 8) .nil)))) (.cons (.ix (.v 5) (.tup (.cons (.v 8) (.cons (.v 9) .nil)))) .nil))) (.cons (.lst (.cons (.ix (.v 5) (.tup (.cons (.v 7) (.cons (.v 9) .nil)))) .nil)) .nil)))) (.cons (.ret (.c (.bl true)))
 .nil) .nil)
 .nil))
 (.cons (.ret (.c (.bl false)))
 .nil))))
noncomputable def bZ:Ss:=
 (.cons (.set 3 (.bi .len (.cons (.v 1) .nil)))
 (.cons (.set 4 (.lst (.cons (.lst (.cons (.tup (.cons (.c (.int 0)) .nil)) .nil)) (.cons (.lst (.cons (.tup (.cons (.c (.int 0)) (.cons (.c (.int 1)) .nil))) (.cons (.tup (.cons (.c (.int 1)) (.cons (.c (.int 0)) .nil))) .nil))) .nil))))
 (.cons (.ex (.me .append (.v 4) (.cons (.lst (.cons (.tup (.cons (.c (.int 0)) (.cons (.c (.int 1)) (.cons (.c (.int 2)) .nil)))) (.cons (.tup (.cons (.c (.int 0)) (.cons (.c (.int 2)) (.cons (.c (.int 1)) .nil)))) (.cons (.tup (.cons (.c (.int 2)) (.cons (.c (.int 0)) (.cons (.c (.int 1)) .nil)))) (.cons (.tup (.cons (.c (.int 2)) (.cons (.c (.int 1)) (.cons (.c (.int 0)) .nil)))) .nil))))) .nil)))
 (.cons (.set 5 (.ix (.v 4) (.op .sub (.v 3) (.c (.int 1)))))
 (.cons (.ite (.cmp .eq (.v 1) (.tup (.cons (.c (.int 0)) (.cons (.c (.int 1)) (.cons (.c (.int 2)) .nil))))) (.cons (.set 5 (.own "_law_turns" 0 .nil))
 .nil) .nil)
 (.cons (.set 6 (.ix (.v 5) (.own "_law_pick" 2 (.cons (.v 0) (.cons (.bi .len (.cons (.v 5) .nil)) .nil)))))
 (.cons (.set 7 (.op .mul (.lst (.cons (.c (.int 0)) .nil)) (.v 3)))
 (.cons (.loop (.nm 8) (.rng (.cons (.v 3) .nil)) (.cons (.put (.v 7) (.ix (.v 6) (.v 8)) (.ix (.v 6) (.ix (.v 1) (.v 8))))
 .nil))
 (.cons (.set 9 .dnew)
 (.cons (.loop (.tp [10,11]) (.seq (.v 2)) (.cons (.put (.v 9) (.tup (.cons (.ix (.v 6) (.v 10)) (.cons (.ix (.v 6) (.v 11)) .nil))) (.comp (.ix (.v 2) (.v 1)) (.nm 1) (.seq (.ix (.v 2) (.tup (.cons (.v 10) (.cons (.v 11) .nil))))) .nil [td,td,gV 6]))
 .nil))
 (.cons (.ret (.tup (.cons (.bi .tuple (.cons (.v 7) .nil)) (.cons (.v 9) .nil))))
 .nil)))))))))))
noncomputable def cR:Ss:=
 (.cons (.set 1 (.own "_law_pick" 2 (.cons (.v 0) (.cons (.c (.int 7)) .nil))))
 (.cons (.ite (.cmp .eq (.v 1) (.c (.int 0))) (.cons (.ret (.own "_law_free_rule" 1 (.cons (.v 0) .nil)))
 .nil) .nil)
 (.cons (.ite (.cmp .eq (.v 1) (.c (.int 1))) (.cons (.ret (.own "_law_one_way_rule" 1 (.cons (.v 0) .nil)))
 .nil) .nil)
 (.cons (.asg [2,3,4] (.own "_law_laying_kind" 1 (.cons (.v 0) .nil)))
 (.cons (.set 5 (.op .add (.c (.int 1)) (.own "_law_pick" 2 (.cons (.v 0) (.cons (.v 4) .nil)))))
 (.cons (.asg [2,3] (.own "_law_numbered" 3 (.cons (.v 0) (.cons (.v 2) (.cons (.v 3) .nil)))))
 (.cons (.set 6 (.own "_law_rule_of" 4 (.cons (.v 0) (.cons (.v 5) (.cons (.v 2) (.cons (.tup .nil) .nil))))))
 (.cons (.set 7 .dnew)
 (.cons (.set 8 (.bi .len (.cons (.v 2) .nil)))
 (.cons (.loop (.nm 9) (.rng (.cons (.op .mul (.op .mul (.v 8) (.v 8)) (.v 8)) .nil)) (.cons (.par 10 11 (.cons (.op .mod (.v 9) (.v 8)) (.cons (.op .mod (.op .fdiv (.v 9) (.v 8)) (.v 8)) .nil)))
 (.cons (.set 12 (.op .fdiv (.op .fdiv (.v 9) (.v 8)) (.v 8)))
 (.cons (.ite (.own "_law_breaks" 5 (.cons (.v 2) (.cons (.v 3) (.cons (.v 10) (.cons (.v 11) (.cons (.v 12) .nil)))))) (.cons (.loop (.nm 13) (.seq (.own "_law_rising" 1 (.cons (.v 5) .nil))) (.cons (.set 14 (.tup (.cons (.tup (.cons (.ix (.v 13) (.c (.int 0))) (.cons (.tup .nil) .nil))) (.cons (.tup (.cons (.ix (.v 13) (.c (.int 1))) (.cons (.tup (.cons (.v 10) .nil)) .nil))) .nil))))
 (.cons (.put (.v 7) (.own "_law_figure" 2 (.cons (.v 6) (.cons (.op .add (.v 14) (.tup (.cons (.tup (.cons (.ix (.v 13) (.c (.int 2))) (.cons (.tup (.cons (.v 11) (.cons (.v 12) .nil))) .nil))) .nil))) .nil))) (.c (.bl true)))
 .nil)))
 .nil) .nil)
 .nil))))
 (.cons (.ret (.tup (.cons (.ix (.v 6) (.c (.int 0))) (.cons (.ix (.v 6) (.c (.int 1))) (.cons (.bi .tuple (.cons (.bi .sorted (.cons (.v 7) .nil)) .nil)) .nil)))))
 .nil)))))))))))
noncomputable def eC:Ss:=
 (.cons (.set 1 (.lst .nil))
 (.cons (.loop (.nm 2) (.rng (.cons (.v 0) .nil)) (.cons (.loop (.nm 3) (.rng2 (.cons (.v 2) (.cons (.v 0) .nil))) (.cons (.set 1 (.op .add (.v 1) (.comp (.tup (.cons (.v 2) (.cons (.v 3) (.cons (.v 1) .nil)))) (.nm 1) (.rng2 (.cons (.v 3) (.cons (.v 0) .nil))) .nil [td,td,gV 2,gV 3])))
 .nil))
 .nil))
 (.cons (.ret (.v 1))
 .nil)))
noncomputable def dm:Ss:=
 (.cons (.asg [1,2] (.own "_law_sizes" 1 (.cons (.v 0) .nil)))
 (.cons (.set 3 (.own "_law_rule_of" 4 (.cons (.v 0) (.cons (.v 1) (.cons (.own "_law_backs" 2 (.cons (.v 0) (.cons (.v 2) .nil))) (.cons (.tup .nil) .nil))))))
 (.cons (.set 5 (.comp (.v 1) (.nm 1) (.rng (.cons (.v 2) .nil)) (.cons (.cmp .eq (.ix (.ix (.ix (.v 2) (.c (.int 1))) (.v 1)) (.c (.int 1))) (.v 1)) .nil) [td,td,gV 3]))
 (.cons (.ite (.or (.cmp .eq (.v 5) (.lst .nil)) (.cmp .eq (.v 2) (.c (.int 1)))) (.cons (.ret (.v 3))
 .nil) .nil)
 (.cons (.set 6 (.ix (.v 5) (.own "_law_pick" 2 (.cons (.v 0) (.cons (.bi .len (.cons (.v 5) .nil)) .nil)))))
 (.cons (.set 7 .dnew)
 (.cons (.loop (.nm 4) (.rng (.cons (.own "_law_pick" 2 (.cons (.v 0) (.cons (.c (.int 9)) .nil))) .nil)) (.cons (.set 8 (.own "_law_free_three" 3 (.cons (.v 0) (.cons (.v 1) (.cons (.v 2) .nil)))))
 (.cons (.ite (.and (.cmp .ne (.ix (.ix (.ix (.v 8) (.c (.int 1))) (.c (.int 1))) (.c (.int 0))) (.v 6)) (.cmp .notin (.v 6) (.ix (.ix (.v 8) (.c (.int 2))) (.c (.int 1))))) (.cons (.put (.v 7) (.own "_law_figure" 2 (.cons (.v 3) (.cons (.v 8) .nil))) (.c (.bl true)))
 .nil) .nil)
 .nil)))
 (.cons (.ret (.tup (.cons (.ix (.v 3) (.c (.int 0))) (.cons (.ix (.v 3) (.c (.int 1))) (.cons (.bi .tuple (.cons (.bi .sorted (.cons (.v 7) .nil)) .nil)) .nil)))))
 .nil))))))))
noncomputable def cF:Ss:=
 (.cons (.set 1 (.op .add (.c (.int 1)) (.own "_law_pick" 2 (.cons (.v 0) (.cons (.c (.int 3)) .nil)))))
 (.cons (.set 2 (.comp (.tup (.cons (.tup (.cons (.v 1) (.cons (.tup .nil) .nil))) (.cons (.tup (.cons (.v 1) (.cons (.tup (.cons (.c (.int 0)) .nil)) .nil))) (.cons (.tup (.cons (.v 1) (.cons (.tup (.cons (.c (.int 0)) (.cons (.c (.int 0)) .nil))) .nil))) .nil)))) (.nm 1) (.rng (.cons (.v 1) .nil)) (.cons (.cmp .eq (.own "_law_pick" 2 (.cons (.v 2) (.cons (.c (.int 2)) .nil))) (.c (.int 0))) .nil) [td,td,gV 0]))
 (.cons (.ret (.own "_law_rule_of" 4 (.cons (.v 0) (.cons (.v 1) (.cons (.tup (.cons (.c (.int 0)) .nil)) (.cons (.v 2) .nil))))))
 .nil)))
noncomputable def bv:Ss:=
 (.cons (.set 1 (.own "_law_pick" 2 (.cons (.v 0) (.cons (.c (.int 3)) .nil))))
 (.cons (.ite (.cmp .eq (.v 1) (.c (.int 0))) (.cons (.ret (.own "_law_rule_of" 4 (.cons (.v 0) (.cons (.c (.int 1)) (.cons (.tup (.cons (.c (.int 0)) (.cons (.c (.int 1)) .nil))) (.cons (.comp (.tup (.cons (.tup (.cons (.c (.int 0)) (.cons (.tup .nil) .nil))) (.cons (.tup (.cons (.c (.int 0)) (.cons (.tup (.cons (.v 1) .nil)) .nil))) (.cons (.tup (.cons (.c (.int 0)) (.cons (.tup (.cons (.v 1) (.cons (.v 1) .nil))) .nil))) .nil)))) (.nm 1) (.rng (.cons (.c (.int 2)) .nil)) .nil [td,td]) .nil))))))
 .nil) .nil)
 (.cons (.ite (.cmp .eq (.v 1) (.c (.int 1))) (.cons (.set 2 (.own "_law_rule_of" 4 (.cons (.v 0) (.cons (.c (.int 2)) (.cons (.tup (.cons (.c (.int 0)) (.cons (.c (.int 1)) .nil))) (.cons (.tup .nil) .nil))))))
 (.cons (.set 3 .dnew)
 (.cons (.loop (.nm 4) (.seq (.own "_law_rising" 1 (.cons (.c (.int 2)) .nil))) (.cons (.loop (.tp [5,6,7]) (.seq (.lst (.cons (.tup (.cons (.c (.int 1)) (.cons (.c (.int 1)) (.cons (.c (.int 0)) .nil)))) (.cons (.tup (.cons (.c (.int 1)) (.cons (.c (.int 1)) (.cons (.c (.int 1)) .nil)))) (.cons (.tup (.cons (.c (.int 1)) (.cons (.c (.int 0)) (.cons (.c (.int 1)) .nil)))) (.cons (.tup (.cons (.c (.int 0)) (.cons (.c (.int 1)) (.cons (.c (.int 1)) .nil)))) .nil)))))) (.cons (.set 8 (.tup (.cons (.tup (.cons (.ix (.v 4) (.c (.int 0))) (.cons (.tup .nil) .nil))) (.cons (.tup (.cons (.ix (.v 4) (.c (.int 1))) (.cons (.tup (.cons (.v 5) .nil)) .nil))) .nil))))
 (.cons (.put (.v 3) (.own "_law_figure" 2 (.cons (.v 2) (.cons (.op .add (.v 8) (.tup (.cons (.tup (.cons (.ix (.v 4) (.c (.int 2))) (.cons (.tup (.cons (.v 6) (.cons (.v 7) .nil))) .nil))) .nil))) .nil))) (.c (.bl true)))
 .nil)))
 .nil))
 (.cons (.ret (.tup (.cons (.ix (.v 2) (.c (.int 0))) (.cons (.ix (.v 2) (.c (.int 1))) (.cons (.bi .tuple (.cons (.bi .sorted (.cons (.v 3) .nil)) .nil)) .nil)))))
 .nil)))) .nil)
 (.cons (.set 9 (.op .add (.c (.int 2)) (.own "_law_pick" 2 (.cons (.v 0) (.cons (.c (.int 2)) .nil)))))
 (.cons (.set 3 (.comp (.tup (.cons (.tup (.cons (.c (.int 0)) (.cons (.tup .nil) .nil))) (.cons (.tup (.cons (.v 1) (.cons (.tup (.cons (.c (.int 0)) .nil)) .nil))) (.cons (.tup (.cons (.op .sub (.v 2) (.c (.int 1))) (.cons (.tup (.cons (.c (.int 0)) (.cons (.c (.int 0)) .nil))) .nil))) .nil)))) (.nm 1) (.rng (.cons (.v 9) .nil)) .nil [td,td,gV 9]))
 (.cons (.ret (.own "_law_rule_of" 4 (.cons (.v 0) (.cons (.v 9) (.cons (.tup (.cons (.c (.int 0)) .nil)) (.cons (.sl (.v 3) .no (.yes (.op .add (.c (.int 1)) (.own "_law_pick" 2 (.cons (.v 0) (.cons (.v 9) .nil)))))) .nil))))))
 .nil))))))
noncomputable def Is (defs:Jy (JZ×Df))(f:JZ)(np nn:JF)(b:Ss):Prop:=∃df:Df,defs.lookup f=gV df/\df.ps.length=np/\df.N.length=nn/\df.body=b
theorem aB {defs:Jy (JZ×Df)}{fuel d:JF}{f:JZ}{np nn:JF}{b:Ss}{ws:Jy W}{S:aa}{Q:QW}(h:Is defs f np nn b)(hl:ws.length=np)(ok:gP b=true)
  (hb:∀Q':QO,(∀w S',Q (w,S')->Q' (.rt w,S'))->wZ (ar defs fuel d) fuel b (ws.map gV++Kz (nn - np) td) S Q'):wO (bx (ar defs fuel (d+1)) f np ws S) Q:=by
 obtain⟨df,h1,h2,h3,h4⟩:=h;subst h4;refine E1 h1 hl (hl.trans h2.symm) ok λQ' hR=>?_
 have:=hb Q' hR;unfold gf;rw[h3,hl];exact this
noncomputable def fE:Ss:=
 (.cons (.ret (.bi .tuple (.cons (.comp (.ix (.c (.str "abcdef")) (.v 1)) (.nm 1) (.rng (.cons (.v 1) .nil)) .nil [td,td]) .nil)))
 .nil)
structure Gen (defs:Jy (JZ×Df)):Prop where
 pick:Is defs ("_law_pick" : JZ) 2 4 du
 names:Is defs ("_law_names" : JZ) 2 2 fE
 between:Is defs ("_law_between" : JZ) 4 4 dU
 part:Is defs ("_law_part" : JZ) 3 6 gh
 turns:Is defs ("_law_turns" : JZ) 0 0 gQ
 figure:Is defs ("_law_figure" : JZ) 2 2 eA
 backs:Is defs ("_law_backs" : JZ) 2 3 fB
 rule_of:Is defs ("_law_rule_of" : JZ) 4 6 dW
 free_three:Is defs ("_law_free_three" : JZ) 3 5 cY
 sizes:Is defs ("_law_sizes" : JZ) 1 2 fD
 any_rule:Is defs ("_law_any_rule" : JZ) 1 6 dF
 laying_kind:Is defs ("_law_laying_kind" : JZ) 1 2 cQ
 breaks:Is defs ("_law_breaks" : JZ) 5 10 eB
 numbered:Is defs ("_law_numbered" : JZ) 3 12 bZ
 laying_rule:Is defs ("_law_laying_rule" : JZ) 1 15 cR
 rising:Is defs ("_law_rising" : JZ) 1 4 eC
 free_rule:Is defs ("_law_free_rule" : JZ) 1 9 dm
 one_way_rule:Is defs ("_law_one_way_rule" : JZ) 1 3 cF
structure FlA (S:aa)(r q:JF)(ns:Jy JL)(i c x n:JL):Prop where
 at_r:S[r]?=gV (.lst [.ref q,.int i,.int c,.int x,.int n])
 at_q:S[q]?=gV (.lst (ns.map W.int))
 lt:q < r
 i0:0<=i
 c0:0<=c
 x0:0<=x
 x1:x < 2147483647
theorem FlA.ne {S:aa}{r q:JF}{ns:Jy JL}{i c x n:JL}(h:FlA S r q ns i c x n):q≠r:=Kj h.lt
noncomputable def Fl (S:aa)(r:JF):Prop:=∃(q:JF) (ns:Jy JL) (i c x n:JL),FlA S r q ns i c x n
theorem FlA.put {S:aa}{r q:JF}{ns:Jy JL}{i c x n i' c' x' n':JL}(h:FlA S r q ns i c x n)(h1:0<=i')(h2:0<=c')(h3:0<=x')(h4:x' < 2147483647):FlA (S.set r (.lst [.ref q,.int i',.int c',.int x',.int n'])) r q ns i' c' x' n':=
 ⟨b9 h.at_r,by rw[bY (Ne.symm h.ne)]; exact h.at_q,h.lt,h1,h2,h3,h4⟩
theorem Fl.keep {S S':aa}{r:JF}(h:Fl S r)(h1:S'[r]?=S[r]?)(k:Kp r S S'):Fl S' r:=
 let ⟨q,ns,i,c,x,n,f⟩:=h; ⟨q,ns,i,c,x,n,by rw[h1]; exact f.at_r,k.get _ _ f.ne f.at_q,f.lt,f.i0,f.c0,f.x0,f.x1⟩
theorem Fl.lt {S:aa}{r:JF}(h:Fl S r):r < S.length:=let ⟨_,_,_,_,_,_,f⟩:=h; cO f.at_r
structure Ka (S S':aa):Prop where
 get:∀(j:JF) (o:O),S[j]?=gV o->S'[j]?=gV o
 len:S.length<=S'.length
theorem Ka.refl {S:aa}:Ka S S:=⟨λ_ _ h=>h,JO _⟩
theorem Ka.trans {S S' S'':aa}(a:Ka S S')(b:Ka S' S''):Ka S S'':=⟨λj o h=>b.get j o (a.get j o h),J8 a.len b.len⟩
theorem Ka.push {S:aa}{o:O}:Ka S (S++[o]):=⟨λj u h=>au h,by simp⟩
theorem Ka.late {t:JF}{S0 S:aa}{o:O}(a:Ka S0 S)(h:S0.length<=t):Ka S0 (S.set t o):=
 ⟨λj u e=>by have:=cO e; rw[bY (by omega)]; exact a.get j u e,by simpa using a.len⟩
theorem Ka.kp {S S':aa}(a:Ka S S')(r:JF):Kp r S S':=⟨λj o _ h=>a.get j o h,a.len⟩
theorem Fl.ka {S S':aa}{r:JF}(h:Fl S r)(k:Ka S S'):Fl S' r:=h.keep (by obtain⟨q,ns,i,c,x,n,f⟩:=h; rw[k.get _ _ f.at_r,f.at_r]) (k.kp r)
theorem Fl.own {S:aa}{r t:JF}{o:O}(h:Fl S r)(ht:r < t):Fl (S.set t o) r:=by
 obtain⟨q,ns,i,c,x,n,f⟩:=h;have:=f.lt;exact⟨q,ns,i,c,x,n,by rw[bY (by omega)]; exact f.at_r,by rw[bY (by omega)]; exact f.at_q,f.lt,f.i0,f.c0,f.x0,f.x1⟩
theorem eE {S:aa}{r:JF}{xs:Jy W}{i:JF}{w:W}{Q:QW}(h:S[r]?=gV (.lst xs))(hw:xs[i]?=gV w)(q:Q (w,S)):wO (kK (.ref r) (.int (i:JL)) S) Q:=ab (yU h (JS i) (by rw[JW]; exact hw)) q
theorem ow {S:aa}{r:JF}{xs:Jy W}{i:JF}{w:W}{Q:aa->Prop}(h:S[r]?=gV (.lst xs))(hi:Sk (i+1) xs.length=true)(q:Q (S.set r (.lst (xs.set i w)))):wO (jd (.ref r) (.int (i:JL)) w S) Q:=ab (De h (JS i) (by rw[JW]; exact Mw hi)) (by rw[JW]; exact q)
section
variable{defs:Jy (JZ×Df)}{fuel d:JF}{S:aa}{r:JF}{Q:QW}
theorem cV (hd:Is defs ("_law_pick" : JZ) 2 4 du){m:JL}(hf:Fl S r)(h0:0 < m)(h1:m < 1073741824)(k:∀v S',0<=v->v < m->Fl S' r->Kp r S S'->Q (.int v,S')) :
  wO (bx (ar defs fuel (d+1)) "_law_pick" 2 [.ref r,.int m] S) Q:=by
 obtain⟨q,ns,i,c,x,n,f⟩:=hf;refine aB hd rfl rfl λQ' hR=>?_
 replace k:∀v S',0<=v->v < m->Fl S' r->Kp r S S'->Q' (.rt (.int v),S'):=λv S' a b c e=>hR _ _ (k v S' a b c e)
 clear hR;show wZ _ _ du [gV (.ref r),gV (.int m),td,td] S Q';have dc:∀(S1:aa) (w2:JE W) (i1 c1 x1 n1:JL),FlA S1 r q ns i1 c1 x1 n1->Kp r S S1->wZ (ar defs fuel d) fuel (match du with|.cons _ ss=>ss|.nil=>.nil) [gV (.ref r),gV (.int m),w2,td] S1 Q':=by
  intro S1 w2 i1 c1 x1 n1 f1 k1;dsimp only[du];refine st ?_;dsimp only[wS,wT,wE,wV,wG];refine eE (i:=2) f1.at_r rfl ?_;dsimp only[EZ,wO,wB];refine ap (Q0:=Q') (λhg Q2 hn hr=>?_) (λhg Q2 hn hr=>?_)
  ·clear hn;refine st ?_;dsimp only[wS,wE,wV,wG];refine eE (i:=2) f1.at_r rfl (ab (kO h0) ?_);refine st ?_;dsimp only[wS,wE,wV,wG,JQ];refine eE (i:=2) f1.at_r rfl (ab (jW h0 h1) (ow (i:=2) f1.at_r rfl ?_));refine st ?_;dsimp only[wS,wE,wV,wG,JQ];exact hr _ _ (k _ _ (Mu _ (by omega)) (LZ _ h0) ⟨q,ns,i1,c1 / m,x1,n1,f1.put f1.i0 (Qs f1.c0 (by omega)) f1.x0 f1.x1⟩ (k1.trans .set))
  ·refine bW (hn _ _ ?_);clear hn hr;have f2:FlA (S1.set r (.lst [.ref q,.int i1,.int c1,.int x1,.int (n1+1)])) r q ns i1 c1 x1 (n1+1):=f1.put f1.i0 f1.c0 f1.x0 f1.x1;refine st ?_;dsimp only[wS,wE,wV,wG];refine eE (i:=4) f1.at_r rfl ?_;dsimp only[eW,wO];refine ow (i:=4) f1.at_r rfl ?_;refine st ?_;dsimp only[wS,wE,wV,wG,JQ];refine eE (i:=3) f2.at_r rfl (ab (qZ (by decide) (by decide)) ?_)
   dsimp only[eW,wO];refine eE (i:=4) f2.at_r rfl ?_;dsimp only[eW,wO];refine(ow (i:=3) f2.at_r rfl ?_);have f3:FlA ((S1.set r (.lst [.ref q,.int i1,.int c1,.int x1,.int (n1+1)])).set r (.lst [.ref q,.int i1,.int c1,.int ((x1*48271+12820163+(n1+1)) % 2147483647),.int (n1+1)])) r q ns i1 c1 ((x1*48271+12820163+(n1+1)) % 2147483647) (n1+1):=f2.put f1.i0 f1.c0 (Mu _ (by decide)) (LZ _ (by decide))
   dsimp only[JQ];generalize(x1*48271+12820163+(n1+1)) % 2147483647=y at f3 ⊢;have b1:y / 65521+7919 < 2 ^ 64:=by
    have:=f3.x1;have:=Int.ediv_le_self 65521 f3.x0;omega
   have b2 : -(2 ^ 64) < y / 65521+7919:=by
    have:=Qs f3.x0 (show(0:JL)<=65521 by decide)
    omega
   refine st ?_;dsimp only[wS,wE,wV,wG,JQ];refine eE (i:=3) f3.at_r rfl (ab (kO (by decide)) ?_)
   dsimp only[eW,wO];refine eE (i:=3) f3.at_r rfl ?_;dsimp only[eW,wO];refine ab (qZ b2 b1) ?_;refine ab (kO h0) ?_;exact k _ _ (Mu _ (by omega)) (LZ _ h0) ⟨q,ns,_,_,_,_,f3⟩ (k1.trans (Kp.set.trans .set))
 dsimp only[du]at dc ⊢;refine st ?_;dsimp only[wS,wT,wE,wV,wG,wA];refine eE (i:=2) f.at_r rfl ?_;dsimp only[pH,wO,wB];have skip:∀Q2:QO,(∀ρ' S',wZ (ar defs fuel d) fuel _ ρ' S' Q'->Q2 (.nx ρ',S'))->Q2 (.nx [gV (.ref r),gV (.int m),td,td],S):=λQ2 hn=>hn _ _ (dc S td i c x n f .refl)
 refine⟨λ_=>?_,λ_ Q2 hn hr=>⟨λz=>(by cases z),λ_=>(bW (skip Q2 hn)).out⟩⟩
 refine eE (i:=1) f.at_r rfl (eE (i:=0) f.at_r rfl (ab (Dg f.at_q) ?_));dsimp only[yT,wO,wB];refine ap (Q0:=Q') (λhl Q2 hn _=>?_) (λhg Q2 hn hr=>bW (skip Q2 hn))
 clear skip;have hl':i.toNat < ns.length:=by
  have:=K4 hl;rw[Jz]at this;have:=f.i0;omega
 have hcell:(ns.map W.int)[i.toNat]?=gV (.int ns[i.toNat]):=by simp[hl']
 generalize ns[i.toNat]=cell at hcell;have f1:FlA (S.set r (.lst [.ref q,.int (i+1),.int c,.int x,.int n])) r q ns (i+1) c x n:=f.put (by have:=f.i0; omega) f.c0 f.x0 f.x1
 refine st ?_;dsimp only[wS,wE,wV,wG];refine eE (i:=0) f.at_r rfl (eE (i:=1) f.at_r rfl (ab (yU f.at_q f.i0 hcell) ?_));refine st ?_;dsimp only[wS,wE,wV,wG,JQ];refine eE (i:=1) f.at_r rfl ?_;dsimp only[eW,wO];refine ow (i:=1) f.at_r rfl ?_;refine st ?_;dsimp only[wS,wT,wE,wV,wG,EY,IM,wO,wB];refine ap (Q0:=Q') (λhg Q3 hn3 _=>?_) (λhg Q3 hn3 _=>?_)
 ·refine st ?_;dsimp only[wS,wE,wV,wG];refine ow (i:=2) f1.at_r rfl (bW (hn3 _ _ (bW (hn _ _ ?_))));exact dc _ _ (i+1) cell x n (f1.put f1.i0 (by have:=K4 hg; omega) f.x0 f.x1) (Kp.set.trans .set)
 ·refine st ?_;dsimp only[wS,wE,wV,wG];refine eE (i:=3) f1.at_r rfl (ab (qZ (by decide) (by decide)) (ab (kO (by decide)) ?_))
  dsimp only[eW,wO];refine ow (i:=3) f1.at_r rfl (bW (hn3 _ _ (bW (hn _ _ ?_))));exact dc _ _ (i+1) c _ n (f1.put f1.i0 f.c0 (Mu _ (by decide)) (LZ _ (by decide))) (Kp.set.trans .set)
end
noncomputable def dr:JF->Ss->Ss
 | 0,ss=>ss
 | n+1,.cons _ ss=>dr n ss
 | _,.nil=>.nil
theorem bz {α:Type}{a:α}{Q:α->Prop}:wO (gV a) Q=Q a:=rfl
theorem bj {Φ:JZ->FF}{fuel:JF}{ρ:Fm}{S:aa}{Q:QO}{s:Sm}{ss:Ss}(h:∀K:Fm->aa->Prop,(∀ρ' S',wZ Φ fuel ss ρ' S' Q->K ρ' S')->wS Φ fuel s ρ S K Q):wZ Φ fuel (.cons s ss) ρ S Q:=st (h _ λ_ _ h=>h)
theorem Hc {Φ:JZ->FF}{fuel:JF}{ρ:Fm}{S:aa}{i:JF}{e:E}{K:Fm->aa->Prop}{Q:QO}(h:wE Φ e ρ S λp=>K (ρ.set i (gV p.1)) p.2):wS Φ fuel (.set i e) ρ S K Q:=h
theorem gR {n:JF}(h:Sk n 1000=true):n<=sizeLine:=J8 (Mw h) (by rw[KL]; decide)
theorem mV {n:JF}(h:n<=1000):n<=sizeLine:=J8 h (by rw[KL]; decide)
theorem ox {S:aa}{r:JF}{xs:Jy W}{i:JL}{w:W}{Q:QW}(h:S[r]?=gV (.lst xs))(h0:0<=i)(hw:xs[i.toNat]?=gV w)(q:Q (w,S)):wO (kK (.ref r) (.int i) S) Q:=ab (yU h h0 hw) q
theorem ae {S:aa}{xs:Jy W}{i:JL}{w:W}{Q:QW}(h0:0<=i)(hw:xs[i.toNat]?=gV w)(q:Q (w,S)):wO (kK (.tup xs) (.int i) S) Q:=ab (G3 h0 hw) q
theorem ma {S:aa}{r:JF}{xs:Jy W}{y:W}{Q:QW}(h:S[r]?=gV (.lst xs))(hl:xs.length < 1000)(q:Q (.non,S.set r (.lst (xs++[y])))):wO (Me.append.fn (.ref r) [y] S) Q:=ab (yV h (Kg hl (gR rfl))) q
theorem yY {S:aa}{r:JF}{xs:Jy W}{Q:QW}(h:S[r]?=gV (.lst xs))(q:Q (.int xs.length,S)):wO (Bi.len.fn [.ref r] S) Q:=ab (Dg h) q
theorem bH {S:aa}{xs:Jy W}{Q:QW}(q:Q (.int xs.length,S)):wO (Bi.len.fn [.tup xs] S) Q:=q
theorem gB {S:aa}{r:JF}{xs:Jy W}{Q:QW}(h:S[r]?=gV (.lst xs))(q:Q (.tup xs,S)):wO (Bi.tuple.fn [.ref r] S) Q:=ab (G5 h) q
section
variable{Φ:JZ->FF}{fuel:JF}{ρ:Fm}{S S1:aa}{K:Fm->aa->Prop}
theorem yZ {t:E}{a:Ss}{Q:QO}(ht:∀Q:QB,Q (false,S1)->wT Φ t ρ S Q)(h:K ρ S1):wS Φ fuel (.ite t a .nil) ρ S K Q:=by
 dsimp only[wS];exact ht _ λQ' h1 h2=>⟨λz=>(by cases z),λ_=>(bW (h1 _ _ h)).out⟩
theorem Hd {t:E}{a b:Ss}{Q:QO}(ht:∀Q:QB,Q (true,S1)->wT Φ t ρ S Q)(h:∀Q':QO,(∀ρ' S',K ρ' S'->Q' (.nx ρ',S'))->(∀w S',Q (.rt w,S')->Q' (.rt w,S'))->wZ Φ fuel a ρ S1 Q'):wS Φ fuel (.ite t a b) ρ S K Q:=by
 dsimp only[wS];exact ht _ λQ' h1 h2=>⟨λ_=>(h Q' h1 λw S' q=>h2 (.rt w) S' (λ_ z=>nomatch z) q).out,λz=>(by cases z)⟩
end
noncomputable def He (y:JZ):Prop:=∀c∈y.cps.toList,97<=c/\c<=122
noncomputable def Name (y:JZ):Prop:=1<=y.cps.toList.length/\y.cps.toList.length<=8/\He y
theorem pK {α:Type}{f:α->W}{xs:Jy α}{i:JF}(h:i < xs.length):∃x∈xs,(xs.map f)[i]?=gV (f x):=⟨xs[i],K7 _,by rw[JJ,JX h]; rfl⟩
theorem pL {α:Type}[Mz α]:∀(l m:Jy α),l.Nodup->(∀x∈l,x∈m)->l.length<=m.length
 | [],_,_,_=>LJ _
 | x::l,m,hn,hs=>by
  rw[Lo]at hn;have hx:x∈m:=hs x (.head _);have h1:=pL l (m.erase x) hn.2 λy hy=>(List.mem_erase_of_ne (λ(e:y=x)=>hn.1 (by rw[<- e]; exact hy))).mpr (hs y (.tail _ hy))
  rw[List.length_erase_of_mem hx]at h1;have:=M4 hx;rw[Kk]; omega
noncomputable def Ci (k:JF):JZ:=⟨[97+k].toArray⟩
theorem wc {k:JF}(h:k < 26):Name (Ci k):=⟨JO 1,(by decide:1<=8),λc hc=>by
 cases J0.mp (show c∈[97+k]from hc)
 omega⟩
noncomputable def sT:Jy JZ:=["marks","ways","bar","some","each","not","and","or","is"]
theorem fR {xs:Jy W}{k:JF}:qu xs td (gV (k:JL))=xs.take k:=by
 unfold qu;rw[HT.xx,HT.AL,List.drop_zero,Ro]
 by_cases h:k<=xs.length
 ·rw[Nat.min_eq_left h]
 ·rw[Nat.min_eq_right (by omega),Ol (JO _),Ol (by omega)]
section
variable{defs:Jy (JZ×Df)}{fuel d:JF}{S:aa}{r:JF}{Q:QW}
theorem y4:∀m,m<=6->(sT++(JN m).map Ci).Nodup:=λm hm=>by
 rcases(show m=0\/m=1\/m=2\/m=3\/m=4\/m=5\/m=6 by omega)with rfl|rfl|rfl|rfl|rfl|rfl|rfl <;> decide
theorem Cj:∀k:Fin 6,("abcdef" : JZ).cps.toList[k.val]?=gV (97+k.val):=by decide
theorem Ck (hfu:20 < fuel)(G:Gen defs){m:JF}(hf:Fl S r)(h1:m<=6)(k:∀(ys:Jy JZ) S',ys.length=m->(∀y∈ys,Name y)->(sT++ys).Nodup->Fl S' r->Kp r S S'->Q (.tup (ys.map W.str),S')) :
  wO (bx (ar defs fuel (d+4)) "_law_names" 2 [.ref r,.int m] S) Q:=by
 refine aB G.names rfl rfl λQ' hR=>?_
 show wZ _ _ fE [gV (.ref r),gV (.int m)] S Q';dsimp only[fE];refine st ?_;dsimp only[wS,wE,wA];refine fA (m:JL) (λi ys ρ2 S2=>(∃a1,ρ2=[td,a1])/\ys=((JN i).map Ci).map W.str/\S2=S) rfl rfl rfl (by omega) ⟨rfl,⟨td,rfl⟩,rfl,rfl⟩ ?_ ?_
 ·rintro i ys ρ2 S2 hi ⟨⟨a1,rfl⟩,rfl,rfl⟩;dsimp only[iO,wC,wE,wV,wG,JQ];refine⟨λ_=>ab (G4 (c:=97+i) (by decide) (JS i) ?_) ⟨⟨_,rfl⟩,?_,rfl⟩,λz=>by cases z⟩
  ·rw[JW]; exact Cj ⟨i,by omega⟩
  ·rw[KO,Kb,Kb]; rfl
 ·rintro ys ρ2 S2 ⟨_,rfl,rfl⟩;rw[JW];refine⟨mV (by rw[Jz,Jz,J6]; omega),gB ak (hR _ _ (k ((JN m).map Ci) _ (by rw[Jz,J6]) (λy hy=>?_) (y4 m h1) (hf.ka .push) .push))⟩
  obtain⟨i,hi,rfl⟩:=J4.mp hy;exact wc (by have:=JY.mp hi; omega)
end
noncomputable abbrev Pt:=JL×Jy JL
noncomputable abbrev Wd:=Jy Pt
noncomputable def aO (p:Pt):W:=.tup [.int p.1,.tup (p.2.map W.int)]
noncomputable def aK (u:Wd):W:=.tup (u.map aO)
noncomputable def rc (p:Pt):T:=.tup [.int p.1,.tup (p.2.map T.int)]
noncomputable def fM (u:Wd):T:=.tup (u.map rc)
theorem uN:∀xs:Jy JL,T.ws (xs.map T.int)=xs.map W.int
 | []=>rfl
 | x::xs=>by simp[T.ws,T.w,uN xs]
theorem Hf (p:Pt):(rc p).w=aO p:=by simp[rc,aO,T.w,T.ws,uN]
theorem y6:∀u:Wd,T.ws (u.map rc)=u.map aO
 | []=>rfl
 | p::u=>by simp[T.ws,Hf,y6 u]
theorem y8 (u:Wd):(fM u).w=aK u:=by simp[fM,aK,T.w,y6]
theorem Hg (u:Wd):W.t (aK u)=gV (fM u):=by rw[<- y8]; exact T.w_t _
theorem y9:∀us:Jy Wd,T.ws (us.map fM)=us.map aK
 | []=>rfl
 | u::us=>by simp[T.ws,y8,y9 us]
theorem Dk (us:Jy Wd):W.ts (us.map aK)=gV (us.map fM):=by rw[<- y9]; exact T.ws_ts _
theorem md:∀xs:Jy JL,T.depths (xs.map T.int)=0
 | []=>rfl
 | x::xs=>by simp[T.depths,T.depth,md xs]
theorem zb (p:Pt):(rc p).depth=2:=by simp[rc,T.depth,T.depths,md]
theorem oy:∀u:Wd,T.depths (u.map rc)<=2
 | []=>by simp[T.depths]
 | p::u=>by
  have:=oy u;simp only[Lb,T.depths,zb]; omega
theorem re (u:Wd):(fM u).depth<=3:=by
 have:=oy u;simp only[fM,T.depth]; omega
theorem jY:∀us:Jy Wd,T.depths (us.map fM)<=3
 | []=>by simp[T.depths]
 | u::us=>by
  have:=jY us;have:=re u;simp only[Lb,T.depths]; omega
theorem pM (u:Wd):ib (aK u)=gV (fM u):=by
 unfold ib;rw[Hg];show(if (fM u).isTup=true/\(fM u).depth<=bX then _ else _)=_
 rw[Kd ⟨rfl,by have:=re u; unfold bX; omega⟩]
mutual
noncomputable def rf:T->T->Kc
 | .int _,.int _=>true
 | .str _,.str _=>true
 | .tup xs,.tup ys=>jl xs ys
 | _,_=>false
noncomputable def jl:Jy T->Jy T->Kc
 | [],_=>true
 | _,[]=>true
 | x::xs,y::ys=>rf x y&&jl xs ys
end
mutual
theorem zd:∀x y:T,rf x y=true->(Bo x y).isSome=true
 | .int _,.int _,_=>rfl
 | .str _,.str _,_=>rfl
 | .tup xs,.tup ys,h=>by
  dsimp only[rf]at h;dsimp only[Bo];exact uO xs ys h
 | .int _,.str _,h|.int _,.tup _,h|.str _,.int _,h|.str _,.tup _,h|.tup _,.int _,h|.tup _,.str _,h=>by cases h
theorem uO:∀xs ys:Jy T,jl xs ys=true->(qG xs ys).isSome=true
 | [],[],_=>rfl
 | [],_::_,_=>rfl
 | _::_,[],_=>rfl
 | x::xs,y::ys,h=>by
  dsimp only[jl]at h; simp only[JH]at h
  dsimp only[qG];split
  ·exact uO xs ys h.2
  ·exact zd x y h.1
end
theorem rg:∀xs ys:Jy JL,jl (xs.map T.int) (ys.map T.int)=true
 | [],_=>rfl
 | _::_,[]=>rfl
 | x::xs,y::ys=>by dsimp only[Sf,jl,rf]; simp[rg xs ys]
theorem E2 (p q:Pt):rf (rc p) (rc q)=true:=by dsimp only[rc,rf,jl]; simp[rg]
theorem uP:∀u v:Wd,jl (u.map rc) (v.map rc)=true
 | [],_=>rfl
 | _::_,[]=>rfl
 | p::u,q::v=>by dsimp only[Sf,jl]; simp[E2,uP u v]
theorem E3 (u v:Wd):rf (fM u) (fM v)=true:=by dsimp only[fM,rf]; exact uP _ _
theorem oz (us:Jy Wd):lP (us.map fM)=true:=by
 unfold lP;rw[J3];intro x hx;obtain⟨u,_,rfl⟩:=J4.mp hx;rw[J3];intro y hy;obtain⟨v,_,rfl⟩:=J4.mp hy;exact zd _ _ (E3 u v)
theorem E4 (us:Jy Wd)(h:∀u∈us,u≠[]):(Bp (us.map fM)).isSome=true:=by
 unfold Bp;split
 ·rfl
 ·split
  ·rfl
  ·split
   ·rfl
   ·split
    ·rfl
    ·split
     ·rfl
     ·rename_i h5;exfalso;apply h5;rw[J3];intro x hx;obtain⟨u,hu,rfl⟩:=J4.mp hx;cases u with
      | nil=>exact absurd rfl (h [] hu)
      | cons p u=>rfl
noncomputable def cy (bs:Jy JL)(u:Wd)(i j:JF):JL:=if j < i then((u.getD i (0,[])).2).getD j 0 else bs.getD (((u.getD j (0,[])).2).getD i 0).toNat 0
noncomputable def aq (bs:Jy JL)(u:Wd)(ps:Jy JF):Wd:=(JN ps.length).map λk=>((u.getD (ps.getD k 0) (0,[])).1,(ps.take k).map λj=>cy bs u (ps.getD k 0) j)
noncomputable def aw:Jy (Jy JF):=[[0,1,2],[0,2,1],[1,0,2],[1,2,0],[2,0,1],[2,1,0]]
noncomputable def mf (bs:Jy JL)(u:Wd):Wd:=(aw.map (aq bs u)).getD (pi ((aw.map (aq bs u)).map fM)) []
noncomputable def aU (n:JZ)(b:JL):W:=.tup [.str n,.int b]
structure GoodW (a n:JF)(u:Wd):Prop where
 mark:∀(k:JF) (p:Pt),u[k]?=gV p->0<=p.1/\p.1 < a
 len:∀(k:JF) (p:Pt),u[k]?=gV p->p.2.length=k
 way:∀(k:JF) (p:Pt),u[k]?=gV p->∀w∈p.2,0<=w/\w < n
noncomputable def GoodB (bs:Jy JL):Prop:=bs=[0]\/bs=[0,1]\/bs=[1,0]\/bs=[0,1,2]\/bs=[1,0,2]\/bs=[0,2,1]
theorem GoodB.rng {bs:Jy JL}(h:GoodB bs):∀k:JF,k < bs.length->∃b:JL,bs[k]?=gV b/\0<=b/\b < bs.length:=by
 rcases h with rfl|rfl|rfl|rfl|rfl|rfl <;> intro k hk
 ·match k,hk with
  | 0,_=>exact⟨0,rfl,by decide,by decide⟩
 ·match k,hk with
  | 0,_=>exact⟨0,rfl,by decide,by decide⟩
  | 1,_=>exact⟨1,rfl,by decide,by decide⟩
 ·match k,hk with
  | 0,_=>exact⟨1,rfl,by decide,by decide⟩
  | 1,_=>exact⟨0,rfl,by decide,by decide⟩
 ·match k,hk with
  | 0,_=>exact⟨0,rfl,by decide,by decide⟩
  | 1,_=>exact⟨1,rfl,by decide,by decide⟩
  | 2,_=>exact⟨2,rfl,by decide,by decide⟩
 ·match k,hk with
  | 0,_=>exact⟨1,rfl,by decide,by decide⟩
  | 1,_=>exact⟨0,rfl,by decide,by decide⟩
  | 2,_=>exact⟨2,rfl,by decide,by decide⟩
 ·match k,hk with
  | 0,_=>exact⟨0,rfl,by decide,by decide⟩
  | 1,_=>exact⟨2,rfl,by decide,by decide⟩
  | 2,_=>exact⟨1,rfl,by decide,by decide⟩
theorem getD_some {α:Type}{xs:Jy α}{i:JF}{x d:α}(h:xs[i]?=gV x):xs.getD i d=x:=by simp[h]
theorem ay {α:Type}{xs:Jy α}{i:JF}{d:α}(h:i < xs.length):xs[i]?=gV (xs.getD i d):=by simp[h]
theorem jZ {ns:Jy JZ}{bs:Jy JL}{k:JF}{n:JZ}{b:JL}(h1:ns[k]?=gV n)(h2:bs[k]?=gV b):(JR aU ns bs)[k]?=gV (aU n b):=by
 rw[List.getElem?_zipWith,h1,h2]
noncomputable def az (ps:Jy JF):Jy W:=ps.map λ(p:JF)=>W.int (p:JL)
theorem uQ {ps:Jy JF}{k p:JF}(h:ps[k]?=gV p):(az ps)[k]?=gV (.int p):=by simp[az,h]
theorem cb (bs:Jy JL)(u:Wd)(ps:Jy JF):(aq bs u ps).length=ps.length:=by unfold aq; rw[Jz,J6]
theorem eh {u:Wd}{i:JF}(hi:i < u.length):(u.map aO)[((i:JF):JL).toNat]?=gV (aO (u.getD i (0,[]))):=by
 rw[JW,JJ,ay hi]; rfl
section
variable{defs:Jy (JZ×Df)}{fuel d:JF}{S:aa}{r:JF}{Q:QW}
theorem ze {Φ:JZ->FF}{m0 b0:W}{ns:Jy JZ}{bs:Jy JL}{a:JF}{u:Wd}{i j:JF}{Q:QO}(hb:GoodB bs)(hl:ns.length=bs.length)(hu:GoodW a bs.length u)(hi:i < u.length)(hj:j < u.length)(hij:i≠j)(k:Q (.rt (.int (cy bs u i j)),S)) :
  wZ Φ fuel dU [gV (.tup [m0,.tup (JR aU ns bs),b0]),gV (aK u),gV (.int i),gV (.int j)] S Q:=by
 have hpi:=ay (d:=(0,[])) hi;have hpj:=ay (d:=(0,[])) hj;unfold cy at k;dsimp only[dU];refine bj λK hK=>?_
 dsimp only[wS,wT,wE,wV,wG,yT,wO,wB,aK];refine ap (Q0:=Q) (λh Q2 _ hr=>?_) (λh Q2 hn _=>?_)
 ·have hji:j < i:=by have:=K4 h; omega
  rw[Kd hji]at k;have hw:j < (u.getD i (0,[])).2.length:=by rw[hu.len i _ hpi]; exact hji
  refine st ?_;dsimp only[wS,wE,wV,wG];refine ae (JS i) (eh hi) (ae (by decide) rfl (ae (JS j) ?_ (hr _ _ k)))
  rw[JW,JJ,ay (d:=0) hw]; rfl
 ·have hji:¬ j < i:=by have:=MX h; omega
  rw[Ku hji]at k;refine bW (hn _ _ (hK _ _ ?_));clear hn hK;have hw:i < (u.getD j (0,[])).2.length:=by rw[hu.len j _ hpj]; omega
  have hg:=ay (d:=0) hw;obtain⟨g1,g2⟩:=hu.way j _ hpj _ (JT hg);obtain⟨b,hb1,hb2,hb3⟩:=hb.rng ((u.getD j (0,[])).2.getD i 0).toNat (by omega)
  have hn:((u.getD j (0,[])).2.getD i 0).toNat < ns.length:=by omega
  rw[getD_some hb1]at k;refine st ?_;dsimp only[wS,wE,wV,wG];refine ae (by decide) rfl (ae (JS j) (eh hj) (ae (by decide) rfl (ae (JS i) ?_ (ae g1 (jZ (JX hn) hb1) (ae (by decide) rfl k)))))
  rw[JW,JJ,hg]; rfl
theorem we (G:Gen defs){m0 b0:W}{ns:Jy JZ}{bs:Jy JL}{a:JF}{u:Wd}{i j:JF}(hb:GoodB bs)(hl:ns.length=bs.length)(hu:GoodW a bs.length u)(hi:i < u.length)(hj:j < u.length)(hij:i≠j)(k:Q (.int (cy bs u i j),S)) :
  wO (bx (ar defs fuel (d+1)) "_law_between" 4 [.tup [m0,.tup (JR aU ns bs),b0],aK u,.int i,.int j] S) Q:=
 aB G.between rfl rfl λQ' hR=>ze hb hl hu hi hj hij (hR _ _ k)
theorem zf (G:Gen defs){m0 b0:W}{ns:Jy JZ}{bs:Jy JL}{a:JF}{u:Wd}{ps:Jy JF}(hb:GoodB bs)(hl:ns.length=bs.length)(hu:GoodW a bs.length u)(hps:∀p∈ps,p < u.length)(hnd:ps.Nodup)(hsz:ps.length < 1000)(k:∀S',Ka S S'->Q (aK (aq bs u ps),S')) :
  wO (bx (ar defs fuel (d+2)) "_law_part" 3 [.tup [m0,.tup (JR aU ns bs),b0],aK u,.tup (az ps)] S) Q:=by
 refine aB G.part rfl rfl λQ' hR=>?_
 replace k:∀S',Ka S S'->Q' (.rt (aK (aq bs u ps)),S'):=λS' a=>hR _ _ (k S' a)
 clear hR;show wZ _ _ gh [gV (.tup [m0,.tup (JR aU ns bs),b0]),gV (aK u),gV (.tup (az ps)),td,td,td] S Q';generalize hR0:W.tup [m0,.tup (JR aU ns bs),b0]=R;dsimp only[gh];refine st ?_;dsimp only[wS,wE,wA,JQ];refine bj λK hK=>?_
 have nl:(az ps).length=ps.length:=Jz ..;refine cD (ps.length:JL) (λk ρ S'=>∃a4 a5,ρ=[gV R,gV (aK u),gV (.tup (az ps)),gV (.ref S.length),a4,a5]/\S'[S.length]?=gV (.lst (((aq bs u ps).take k).map aO))/\Ka S S') rfl rfl (by omega) ?_ ?_ ?_
 ·dsimp only[wE,wA,wV,wG];refine bH ?_;rw[nl];exact⟨rfl,td,td,rfl,ak,.push⟩
 ·rintro i ρ S1 hi ⟨a4,a5,rfl,e1,k1⟩ Q2 hn _;clear hK;have hi':i < ps.length:=by omega
  have hp:ps[i]?=gV ps[i]:=JX hi';have hpu:ps[i] < u.length:=hps _ (K7 hi');refine st ?_;dsimp only[wS,wE,wV,wG,JQ];refine ae (JS i) (by rw[JW]; exact uQ hp) ?_
  refine st ?_;dsimp only[wS,wE,wA,wV,wG,JQ];refine⟨dQ e1,ae (JS _) (eh hpu) (ae (by decide) rfl ?_)⟩
  refine uL (az (ps.take i)) (λj ys ρ2 S2=>(∃a1,ρ2=[td,a1,gV (.int ps[i]),gV R,gV (aK u)])/\ys=((ps.take i).take j).map (λq=>W.int (cy bs u ps[i] q))/\Ka S1 S2) rfl rfl rfl ?_ ?_ ?_
  ·dsimp only[wE,wP,wV,wG,wN];refine ab (a:=(.tup (az (ps.take i)),S1)) ?_ ⟨rfl,⟨td,rfl⟩,rfl,.refl⟩;simp only[sB,fR];unfold az;rw[MT]
  ·rintro j w ys ρ2 S2 hw ⟨⟨a1,rfl⟩,rfl,k2⟩;have hjl:j < (ps.take i).length:=by
    have:=(JU.mp hw).1;unfold az at this
    rwa [Jz]at this
   have hq:(ps.take i)[j]?=gV (ps.take i)[j]:=JX hjl;cases(uQ hq).symm.trans hw;have hj:j < i:=by rw[Kf]at hjl; omega
   have eq:(ps.take i)[j]=ps[j]'(by omega):=M5
   generalize(ps.take i)[j]=q at hq eq ⊢;refine ab (show gd (.nm 1) (.int (q:JL)) [td,a1,gV (.int ps[i]),gV R,gV (aK u)] S2=gV ([td,gV (.int (q:JL)),gV (.int ps[i]),gV R,gV (aK u)],S2)from rfl) ?_
   dsimp only[iO,wC,wE,wA,wV,wG];subst hR0;refine⟨λ_=>we (d:=d) G hb hl hu hpu (by rw[eq]; exact hps _ (K7 _)) ?_ ⟨⟨_,rfl⟩,?_,k2⟩,λz=>by cases z⟩
   ·rw[eq];intro h;have:=(LV hnd).mp h;omega
   ·rw[Kt,hq];simp
  ·rintro ys ρ2 S2 ⟨_,rfl,k2⟩;rw[show(az (ps.take i)).length=(ps.take i).length from Jz ..,Kw]
   refine⟨mV (by rw[Jz,Kf]; omega),gB ak ?_⟩
   have e2:=au (u:=O.lst ((ps.take i).map λq=>W.int (cy bs u ps[i] q))) (k2.get _ _ e1)
   refine ma e2 (by rw[Jz,Kf]; omega) (bW (hn _ _ ⟨_,_,rfl,?_,((k1.trans k2).trans .push).late (JO _)⟩))
   rw[b9 e2];have ep:(aq bs u ps)[i]?=gV ((u.getD ps[i] (0,[])).1,(ps.take i).map λq=>cy bs u ps[i] q):=by
    unfold aq;rw[JJ,LQ hi',Kq,getD_some hp]
   rw[Kt,ep];simp[aO,NQ]
 ·rintro ρ S1 ⟨a4,a5,rfl,e1,k1⟩;rw[JW,<- cb bs u ps,Kw]at e1;refine hK _ _ (st ?_);dsimp only[wS,wE,wA,wV,wG];exact gB e1 (k _ k1)
theorem lv (G:Gen defs)(k:Q (.ref S.length,S++[.lst (aw.map λt=>W.tup (az t))])):wO (bx (ar defs fuel (d+1)) "_law_turns" 0 [] S) Q:=by
 refine aB G.turns rfl rfl λQ' hR=>?_
 dsimp only[gQ];refine st ?_;dsimp only[wS,wE,wA];exact hR _ _ k
theorem gk (bt:JF->JF->Kc):∀n:JF,argBest bt n<=n
 | 0=>JO _
 | n+1=>by have:=gk bt n; simp only[argBest]; split <;> omega
theorem jm (G:Gen defs){m0 b0:W}{ns:Jy JZ}{bs:Jy JL}{a:JF}{u:Wd}(hb:GoodB bs)(hl:ns.length=bs.length)(hu:GoodW a bs.length u)(h3:u.length=3)(k:∀S',Ka S S'->Q (aK (mf bs u),S')) :
  wO (bx (ar defs fuel (d+3)) "_law_figure" 2 [.tup [m0,.tup (JR aU ns bs),b0],aK u] S) Q:=by
 refine aB G.figure rfl rfl λQ' hR=>?_
 replace k:∀S',Ka S S'->Q' (.rt (aK (mf bs u)),S'):=λS' a=>hR _ _ (k S' a)
 clear hR;show wZ _ _ eA [gV (.tup [m0,.tup (JR aU ns bs),b0]),gV (aK u)] S Q';generalize hR0:W.tup [m0,.tup (JR aU ns bs),b0]=R;dsimp only[eA];refine st ?_;dsimp only[wS,wE,wA];refine uM S.length (aw.map λt=>W.tup (az t)) (λi ys ρ2 S2=>(∃a1,ρ2=[td,a1,gV R,gV (aK u)])/\ys=((aw.take i).map λt=>aK (aq bs u t))/\Ka (S++[.lst (aw.map λt=>W.tup (az t))]) S2) rfl rfl rfl ?_ ?_ ?_ ?_
 ·dsimp only[wE,wA];exact lv (d:=d+1) G ⟨rfl,⟨td,rfl⟩,rfl,.refl⟩
 ·rintro i ys ρ2 S2 ⟨_,_,k2⟩;exact k2.get _ _ ak
 ·rintro i w ys ρ2 S2 hw ⟨⟨a1,rfl⟩,rfl,k2⟩;rw[JJ,JC]at hw;obtain⟨t,ht,rfl⟩:=hw;have ht3:(∀p∈t,p < 3)/\t.Nodup/\t.length < 1000:=by
   have:∀t∈aw,(∀p∈t,p < 3)/\t.Nodup/\t.length < 1000:=by decide
   exact this t (JT ht)
  refine ab (show gd (.nm 1) (.tup (az t)) [td,a1,gV R,gV (aK u)] S2=gV ([td,gV (.tup (az t)),gV R,gV (aK u)],S2)from rfl) ?_
  dsimp only[iO,wC,wE,wA,wV,wG];subst hR0;refine⟨λ_=>zf (d:=d) G hb hl hu (λp hp=>by rw[h3]; exact ht3.1 p hp) ht3.2.1 ht3.2.2 λS3 k3=>⟨⟨_,rfl⟩,?_,k2.trans k3⟩,λz=>by cases z⟩
  rw[Kt,ht];simp
 ·rintro ys ρ2 S2 ⟨_,rfl,k2⟩;have e:((aw.take (aw.map λt=>W.tup (az t)).length).map λt=>aK (aq bs u t))=(aw.map (aq bs u)).map aK:=by
   rw[Jz,Kw,LI]; rfl
  rw[e];refine⟨gR rfl,ab (a:=(aK (mf bs u),S2++[.lst ((aw.map (aq bs u)).map aK)])) ?_ (k _ ((Ka.push.trans k2).trans .push))⟩;simp only[Bi.fn,Bs,be ak,Dk];rw[Kd ⟨by have:=jY (aw.map (aq bs u)); unfold fw; omega,oz _⟩]
  unfold mf;have hlt:pi ((aw.map (aq bs u)).map fM) < (aw.map (aq bs u)).length:=Po (gk _ _) (by decide:5 < 6)
  rw[JJ,ay (d:=[]) hlt];rfl
end
noncomputable def af (xs:Jy JL):Jy W:=xs.map W.int
noncomputable def jn (us:Jy Wd):Jy Wd:=fP (C0 (us.map fM)) [] us
theorem zh {α β:Type}{lt:JF->JF->Kc}{d:α}{d':β}{f:α->β}{us:Jy α}:fP lt d' (us.map f)=(fP lt d us).map f:=by
 unfold fP;rw[Jz];split
 ·rfl
 ·rw[LI];refine KJ λi hi=>?_
  have hl:i < us.length:=pj (by omega) i hi
  simp[hl]
theorem sU {S:aa}{x:W}{us:Jy Wd}(h:eS S x=gV (us.map aK))(h64:us.length < 64)(hne:∀u∈us,u≠[]):je [x] S=gV (.ref S.length,S++[.lst ((jn us).map aK)]):=by
 have ok:ph (us.map fM)=true:=by
  unfold ph;simp only[JH,LP,Kh,Jz];exact⟨⟨h64,by have:=jY us; unfold fw; omega⟩,.inr ⟨E4 us hne,oz us⟩⟩
 simp only[je,h,Dk];rw[Kd ok,zh (d:=[])];rfl
noncomputable def cU (ms ns:Jy JZ)(bs:Jy JL)(us:Jy Wd):W:=.tup [.tup (ms.map W.str),.tup (JR aU ns bs),.tup (us.map aK)]
structure GoodN (ms ns:Jy JZ):Prop where
 name:∀y∈ms++ns,Name y
 nd:(sT++(ms++ns)).Nodup
theorem GoodW.nil {a n:JF}:GoodW a n []:=⟨λk p h=>(by simp at h),λk p h=>(by simp at h),λk p h=>(by simp at h)⟩
theorem GoodW.snoc {a n:JF}{u:Wd}{m:JL}{ws:Jy JL}(h:GoodW a n u)(h1:0<=m/\m < a)(h2:ws.length=u.length)(h3:∀w∈ws,0<=w/\w < (n:JL)):GoodW a n (u++[(m,ws)]):=by
 have key:∀(k:JF) (p:Pt),(u++[(m,ws)])[k]?=gV p->u[k]?=gV p\/(k=u.length/\p=(m,ws)):=λk p e=>by
  rcases PL k u.length with hk|hk
  ·rw[Kn hk]at e; exact .inl e
  ·rw[KF hk]at e;have:k - u.length=0:=by
    have:=(JU.mp e).1;simp at this; omega
   rw[this]at e;cases e;exact .inr ⟨by omega,rfl⟩
 refine⟨λk p e=>?_,λk p e=>?_,λk p e=>?_⟩ <;> rcases key k p e with e|⟨rfl,rfl⟩
 ·exact h.mark k p e
 ·exact h1
 ·exact h.len k p e
 ·exact h2
 ·exact h.way k p e
 ·exact h3
theorem GoodB.inv {bs:Jy JL}(h:GoodB bs):∀k:JF,k < bs.length->bs.getD (bs.getD k 0).toNat 0=k:=by
 rcases h with rfl|rfl|rfl|rfl|rfl|rfl <;> decide
theorem GoodB.at {bs:Jy JL}(h:GoodB bs){x:JL}(h0:0<=x)(h1:x < bs.length):bs[x.toNat]?=gV (bs.getD x.toNat 0)/\0<=bs.getD x.toNat 0/\bs.getD x.toNat 0 < bs.length:=by
 obtain⟨b,h2,h3⟩:=h.rng x.toNat (by omega)
 rw[getD_some h2];exact⟨h2,h3⟩
theorem zj {S:aa}{x:W}{us:Jy Wd}{Q:QW}(h:eS S x=gV (us.map aK))(h64:us.length < 64)(hne:∀u∈us,u≠[])(q:Q (.ref S.length,S++[.lst ((jn us).map aK)])):wO (Bi.sorted.fn [x] S) Q:=by
 refine ab ?_ q;exact sU h h64 hne
noncomputable def zm:Jy (JF×JF):=[(1,1),(2,1),(3,1),(1,2),(1,2),(2,2),(2,2),(3,2),(1,3),(1,3),(2,3)]
theorem zn:∀p∈zm,1<=p.1/\p.1<=3/\1<=p.2/\p.2<=3/\p.1*p.2<=6:=by decide
noncomputable def mh:JF->Jy (Jy JL)
 | 1=>[[0]]
 | 2=>[[0,1],[1,0]]
 | _=>[[0,1,2],[1,0,2],[0,2,1]]
theorem zo:∀n:JF,1<=n->n<=3->(∀b∈mh n,GoodB b/\b.length=n)/\0 < (mh n).length/\(mh n).length<=3
 | 1,_,_=>⟨λb h=>by cases J0.mp h; exact⟨.inl rfl,rfl⟩,by decide,by decide⟩
 | 2,_,_=>⟨λb h=>by
   rcases Ke.mp h with rfl|h
   ·exact⟨.inr (.inl rfl),rfl⟩
   ·cases J0.mp h; exact⟨.inr (.inr (.inl rfl)),rfl⟩,by decide,by decide⟩
 | 3,_,_=>⟨λb h=>by
   rcases Ke.mp h with rfl|h
   ·exact⟨.inr (.inr (.inr (.inl rfl))),rfl⟩
   ·rcases Ke.mp h with rfl|h
    ·exact⟨.inr (.inr (.inr (.inr (.inl rfl)))),rfl⟩
    ·cases J0.mp h; exact⟨.inr (.inr (.inr (.inr (.inr rfl)))),rfl⟩,by decide,by decide⟩
 | 0,h,_=>absurd h (by decide)
 | n+4,_,h=>absurd h (by omega)
section
variable{defs:Jy (JZ×Df)}{fuel d:JF}{S:aa}{r:JF}{Q:QW}
theorem uR (G:Gen defs)(hf:Fl S r)(k:∀(a n:JF) S',1<=a->a<=3->1<=n->n<=3->a*n<=6->Fl S' r->Kp r S S'->Q (.tup [.int a,.int n],S')) :
  wO (bx (ar defs fuel (d+2)) "_law_sizes" 1 [.ref r] S) Q:=by
 refine aB G.sizes rfl rfl λQ' hR=>?_
 show wZ _ _ fD [gV (.ref r),td] S Q';dsimp only[fD];refine st ?_;dsimp only[wS,wE,wA,JQ];refine st ?_;dsimp only[wS,wE,wA,wV,wG];refine cV (d:=d) G.pick (hf.ka .push) (by decide) (by decide) λv S1 v0 v1 f1 k1=>?_
 have e:=k1.get _ _ (Mp hf.lt) ak;obtain⟨p,hp,ep⟩:=pK (f:=λp:JF×JF=>W.tup [.int p.1,.int p.2]) (xs:=zm) (i:=v.toNat) (by show v.toNat < 11; omega)
 obtain⟨a1,a3,n1,n3,an⟩:=zn p hp;exact ox e v0 ep (hR _ _ (k _ _ _ a1 a3 n1 n3 an f1 (Kp.push.trans k1)))
theorem uS (G:Gen defs){n:JF}(hf:Fl S r)(h1:1<=n)(h3:n<=3)(k:∀(bs:Jy JL) S',GoodB bs->bs.length=n->Fl S' r->Kp r S S'->Q (.tup (af bs),S')) :
  wO (bx (ar defs fuel (d+2)) "_law_backs" 2 [.ref r,.int n] S) Q:=by
 refine aB G.backs rfl rfl λQ' hR=>?_
 replace k:∀(bs:Jy JL) S',GoodB bs->bs.length=n->Fl S' r->Kp r S S'->Q' (.rt (.tup (af bs)),S'):=λz S' a b c e=>hR _ _ (k z S' a b c e)
 clear hR;show wZ _ _ fB [gV (.ref r),gV (.int n),td] S Q';dsimp only[fB];refine bj λK hK=>?_
 dsimp only[wS,wE,wA,wV,wG,JQ];dsimp only[jh,bz];obtain⟨hg,g0,g3⟩:=zo n h1 h3;have fin:∀(t:JF) (S1:aa),S.length<=t->S1[t]?=gV (.lst ((mh n).map λb=>.tup (af b)))->Ka S S1->K [gV (.ref r),gV (.int n),gV (.ref t)] S1:=by
  intro t S1 ht et ka;refine hK _ _ (st ?_);dsimp only[wS,wE,wA,wV,wG];refine yY et ?_;rw[Jz];refine cV (d:=d) G.pick (hf.ka ka) (by omega) (by omega) λv S2 v0 v1 f2 k2=>?_
  have e2:=k2.get _ _ (by have:=hf.lt; omega) et
  obtain⟨b,hb,eb⟩:=pK (f:=λb:Jy JL=>W.tup (af b)) (xs:=mh n) (i:=v.toNat) (by omega)
  exact ox e2 v0 eb (k b S2 (hg b hb).1 (hg b hb).2 f2 ((ka.kp r).trans k2))
 clear hK g0 g3 hg;rcases(show n=1\/n=2\/n=3 by omega)with rfl|rfl|rfl
 ·exact eE (i:=0) ak rfl (fin _ _ (JO _) (au (au (au ak))) (Ka.push.trans (Ka.push.trans (Ka.push.trans .push))))
 ·exact eE (i:=1) ak rfl (fin _ _ (by simp) (au (au ak)) (Ka.push.trans (Ka.push.trans (Ka.push.trans .push))))
 ·exact eE (i:=2) ak rfl (fin _ _ (by simp only[JG]; omega) (au ak) (Ka.push.trans (Ka.push.trans (Ka.push.trans .push))))
theorem hX (hfu:20 < fuel)(G:Gen defs){a:JF}{bs:Jy JL}{x:W}{us:Jy Wd}(hf:Fl S r)(ha:a<=3)(hb:bs.length<=3)(hx:∀S',Kp r S S'->eS S' x=gV (us.map aK))(h64:us.length < 64)(hne:∀u∈us,u≠[])
  (k:∀(ms ns:Jy JZ) S',ms.length=a->ns.length=bs.length->GoodN ms ns->Fl S' r->Kp r S S'->Q (cU ms ns bs (jn us),S')) :
  wO (bx (ar defs fuel (d+5)) "_law_rule_of" 4 [.ref r,.int a,.tup (af bs),x] S) Q:=by
 refine aB G.rule_of rfl rfl λQ' hR=>?_
 replace k:∀(ms ns:Jy JZ) S',ms.length=a->ns.length=bs.length->GoodN ms ns->Fl S' r->Kp r S S'->Q' (.rt (cU ms ns bs (jn us)),S'):=λz y S' a b c e f=>hR _ _ (k z y S' a b c e f)
 clear hR;show wZ _ _ dW [gV (.ref r),gV (.int a),gV (.tup (af bs)),gV x,td,td] S Q';have hbl:(af bs).length=bs.length:=Jz ..;dsimp only[dW];refine bj λK hK=>?_
 dsimp only[wS,wE,wA,wV,wG,JQ];refine bH ?_;rw[hbl];dsimp only[eW,bz];refine Ck (d:=d) (m:=a+bs.length) hfu G hf (by omega) λys S1 q2 q3 q4 f1 k1=>hK _ _ ?_
 clear hK K;have hzl:(JR aU (ys.drop a) bs).length=bs.length:=by
  rw[Ld,Na]; omega
 refine bj λK hK=>?_
 dsimp only[wS,wE,wA,JQ];refine fA (bs.length:JL) (λk zs ρ2 S2=>(∃a1,ρ2=[td,a1,gV (.tup (af bs)),gV (.int a),gV (.tup (ys.map W.str))])/\zs=((JR aU (ys.drop a) bs).take k)/\S2=S1) rfl rfl rfl (by omega) ?_ ?_ ?_
 ·dsimp only[wE,wA,wV,wG];refine bH ?_;rw[hbl];exact⟨rfl,⟨td,rfl⟩,rfl,rfl⟩
 ·rintro i zs ρ2 S2 hi ⟨⟨a1,rfl⟩,rfl,rfl⟩;clear hK;have hi':i < bs.length:=by omega
  have h1:a+i < ys.length:=by omega
  dsimp only[iO,wC,wE,wA,wV,wG,JQ,eW,bz];refine⟨λ_=>ae (by omega) (w:=.str ys[a+i]) ?_ (ae (by omega) (w:=.int bs[i]) ?_ ⟨⟨_,rfl⟩,?_,rfl⟩),λz=>by cases z⟩
  ·rw[show((a:JL)+(i:JL)).toNat=a+i by omega,JJ,JX h1]; rfl
  ·unfold af;rw[JW,JJ,JX hi']; rfl
  ·have ez:(JR aU (ys.drop a) bs)[i]?=gV (aU ys[a+i] bs[i]):=jZ (by rw[List.getElem?_drop]; exact JX h1) (JX hi')
   rw[Kt,ez];rfl
 ·rintro zs ρ2 S2 ⟨_,rfl,rfl⟩;rw[JW,<- hzl,Kw];refine⟨mV (by omega),gB ak (hK _ _ ?_)⟩
  clear hK K;refine st ?_;dsimp only[wS,wE,wA,wP,wV,wG,wN];have hs:sB (.tup (ys.map W.str)) td (gV (a:JL)) (S2++[O.lst (JR aU (ys.drop a) bs)])=gV (.tup ((ys.take a).map W.str),S2++[O.lst (JR aU (ys.drop a) bs)]):=by
   simp only[sB,fR];rw[MT]
  refine ab hs (zj (hx _ (k1.trans .push)) h64 hne (gB ak ?_));refine k (ys.take a) (ys.drop a) _ ?_ ?_ ⟨?_,?_⟩ ((f1.ka .push).ka .push) (k1.trans (Kp.push.trans .push))
  ·rw[Kf]; omega
  ·rw[Na]; omega
  ·rw[M8]; exact q3
  ·rw[M8]; exact q4
theorem gn (hfu:20 < fuel)(G:Gen defs){a:JF}{bs:Jy JL}(hf:Fl S r)(ha:a<=3)(hb:bs.length<=3)
  (k:∀(ms ns:Jy JZ) S',ms.length=a->ns.length=bs.length->GoodN ms ns->Fl S' r->Kp r S S'->Q (cU ms ns bs [],S')) :
  wO (bx (ar defs fuel (d+5)) "_law_rule_of" 4 [.ref r,.int a,.tup (af bs),.tup []] S) Q:=
 hX hfu G hf ha hb (us:=[]) (λ_ _=>rfl) (by decide) (λ_ h=>nomatch h) k
theorem draws {Φ:JZ->FF}{ρ:Fm}{elt e:E}{cap:Jy (JE JF)}{n i:JF}{R:Fm}(oe:ee elt=true)(oi:ee e=true)(h1:i<=1000)(hc:gD cap ρ=td::td::R)(hf:Fl S r)(he:∀Q:QW,Q (.int i,S)->wE Φ e ρ S Q)
  (hp:∀(a:JE W) (S1:aa) (Q:QW),Fl S1 r->(∀v S',0<=v->v < (n:JL)->Fl S' r->Kp r S1 S'->Q (.int v,S'))->wE Φ elt (td::a::R) S1 Q)
  (k:∀(vs:Jy JL) S',vs.length=i->(∀w∈vs,0<=w/\w < (n:JL))->Fl S' r->Kp r S S'->Q (.ref S'.length,S'++[.lst (af vs)])) :
  Wp (aP Φ (.comp elt (.nm 1) (.rng (.cons e .nil)) .nil cap) ρ S) Q:=by
 refine fA (i:JL) (λj ys ρ2 S3=>(∃a1,ρ2=td::a1::R)/\(∃vs:Jy JL,ys=af vs/\vs.length=j/\∀w∈vs,0<=w/\w < (n:JL))/\Fl S3 r/\Kp r S S3) oi oe rfl (by omega) (he _ ⟨rfl,⟨td,hc⟩,⟨[],rfl,rfl,λ_ h=>nomatch h⟩,hf,.refl⟩) ?_ ?_
 ·rintro j ys ρ2 S3 hj ⟨⟨a1,rfl⟩,⟨vs,rfl,hvl,hv⟩,f3,k3⟩;refine⟨λ_=>hp _ _ _ f3 λv S4 v0 v1 f4 k4=>⟨⟨_,rfl⟩,⟨vs++[v],(Kb (l₁:=vs) (l₂:=[v])).symm,by rw[JG,hvl]; rfl,λw hw=>?_⟩,f4,k3.trans k4⟩,λz=>by cases z⟩
  rcases Ko.mp hw with h|h
  ·exact hv w h
  ·rw[J0.mp h]; exact⟨v0,v1⟩
 ·rintro ys ρ2 S3 ⟨_,⟨vs,rfl,hvl,hv⟩,f3,k3⟩;rw[JW]at hvl;exact⟨mV (by rw[show(af vs).length=vs.length from Jz ..]; omega),k vs S3 hvl hv f3 k3⟩
theorem jo (G:Gen defs){a n:JF}(hf:Fl S r)(ha:0 < a)(ha3:a<=3)(hn:0 < n)(hn3:n<=3)(k:∀(u:Wd) S',u.length=3->GoodW a n u->Fl S' r->Kp r S S'->Q (aK u,S')) :
  wO (bx (ar defs fuel (d+2)) "_law_free_three" 3 [.ref r,.int a,.int n] S) Q:=by
 refine aB G.free_three rfl rfl λQ' hR=>?_
 replace k:∀(u:Wd) S',u.length=3->GoodW a n u->Fl S' r->Kp r S S'->Q' (.rt (aK u),S'):=λz S' a b c e=>hR _ _ (k z S' a b c e)
 clear hR;show wZ _ _ cY [gV (.ref r),gV (.int a),gV (.int n),td,td] S Q';dsimp only[cY];have hrt:=hf.lt;refine st ?_;dsimp only[wS,wE,wA,JQ];refine bj λK hK=>?_
 refine cD 3 (λk ρ S'=>∃a4 u,ρ=[gV (.ref r),gV (.int a),gV (.int n),gV (.ref S.length),a4]/\S'[S.length]?=gV (.lst (u.map aO))/\u.length=k/\GoodW a n u/\Fl S' r/\Kp r S S') rfl rfl (by decide) ⟨rfl,td,[],rfl,ak,rfl,.nil,hf.ka .push,.push⟩ ?_ ?_
 ·rintro i ρ S1 hi ⟨a4,u,rfl,e1,hul,hu,f1,k1⟩ Q2 hn' _;clear hK;refine st ?_;dsimp only[wS,wE,wA,wV,wG,JQ];refine⟨dQ e1,cV (d:=d) G.pick f1 (by omega) (by omega) λv S2 v0 v1 f2 k2=>?_⟩
  have e2:=k2.get _ _ (by omega) e1
  refine draws (n:=n) (i:=i) (R:=[gV (.ref r),gV (.int n)]) rfl rfl (by omega) rfl f2 (λQ q=>q) (λa S1 Q f q=>cV (d:=d) G.pick f (by omega) (by omega) q) λvs S3 hvl hv f3 k3=>?_
  have e3:=au (u:=O.lst (af vs)) (k3.get _ _ (by omega) e2)
  refine gB ak (ma e3 (by rw[Jz]; omega) (bW (hn' _ _ ⟨_,u++[(v,vs)],rfl,?_,by rw[JG,hul]; rfl,hu.snoc ⟨v0,v1⟩ (hvl.trans hul.symm) hv,(f3.ka .push).own hrt,(k1.trans (k2.trans (k3.trans .push))).late (JO _)⟩)))
  rw[b9 e3,Kb]; rfl
 ·rintro ρ S1 ⟨a4,u,rfl,e1,hul,hu,f1,k1⟩;refine hK _ _ (st ?_);dsimp only[wS,wE,wA,wV,wG];exact gB e1 (k u _ hul hu f1 k1)
end
noncomputable def fj (n:JF):Jy JL:=(JN n).map λ(k:JF)=>(k:JL)
noncomputable def rh (a n:JF):Jy Wd:=(fj a).flatMap λm0=>(fj a).flatMap λm1=>(fj a).flatMap λm2=>(fj n).flatMap λw1=>(fj n).flatMap λw2=>(fj n).map λw3=>[(m0,[]),(m1,[w1]),(m2,[w2,w3])]
noncomputable def bm (a:JF)(bs:Jy JL):Jy Wd:=((rh a bs.length).map (mf bs)).eraseDups
theorem dG {n:JF}{x:JL}(h0:0<=x)(h1:x < n):x∈fj n:=J4.mpr ⟨x.toNat,JY.mpr (by omega),by omega⟩
theorem wf {a n:JF}{u:Wd}(h:GoodW a n u)(h3:u.length=3):u∈rh a n:=by
 match u,h3 with
 | [(m0,w0),(m1,w1),(m2,w2)],_=>
  have l0:=h.len 0 _ rfl;have l1:=h.len 1 _ rfl;have l2:=h.len 2 _ rfl;simp only at l0 l1 l2
  match w0,l0 with
  | [],_=>
   match w1,l1 with
   | [x],_=>
    match w2,l2 with
    | [y,z],_=>
     have a0:=h.mark 0 _ rfl;have a1:=h.mark 1 _ rfl;have a2:=h.mark 2 _ rfl;have b1:=h.way 1 _ rfl x (by simp)
     have b2:=h.way 2 _ rfl y (by simp)
     have b3:=h.way 2 _ rfl z (by simp)
     unfold rh;simp only[KA,J4];exact⟨m0,dG a0.1 a0.2,m1,dG a1.1 a1.2,m2,dG a2.1 a2.2,x,dG b1.1 b1.2,y,dG b2.1 b2.2,z,dG b3.1 b3.2,rfl⟩
theorem Cm {a:JF}{bs:Jy JL}{u:Wd}(h:GoodW a bs.length u)(h3:u.length=3):mf bs u∈bm a bs:=by
 unfold bm;rw[NF];exact J4.mpr ⟨u,wf h h3,rfl⟩
structure SizeOk (a:JF)(bs:Jy JL):Prop where
 pos:0 < a
 good:GoodB bs
 most:a*bs.length<=6
 a3:a<=3
theorem IP:(bm 1 [0]).length < 64/\(bm 2 [0]).length < 64/\(bm 3 [0]).length < 64:=by decide +kernel
theorem HB:(bm 1 [0,1]).length < 64/\(bm 2 [0,1]).length < 64/\(bm 1 [1,0]).length < 64/\(bm 2 [1,0]).length < 64:=by decide +kernel
theorem IQ:(bm 1 [0,1,2]).length < 64/\(bm 1 [1,0,2]).length < 64/\(bm 1 [0,2,1]).length < 64:=by decide +kernel
theorem IR:(bm 3 [0,1]).length < 64:=by decide +kernel
theorem IS:(bm 3 [1,0]).length < 64:=by decide +kernel
theorem IT:(bm 2 [0,1,2]).length < 64:=by decide +kernel
theorem IU:(bm 2 [1,0,2]).length < 64:=by decide +kernel
theorem IV:(bm 2 [0,2,1]).length < 64:=by decide +kernel
theorem pN {a:JF}{bs:Jy JL}(h:SizeOk a bs):(bm a bs).length < 64:=by
 obtain⟨h0,hb,hm,h3⟩:=h;have ha:a=1\/a=2\/a=3:=by omega
 rcases hb with rfl|rfl|rfl|rfl|rfl|rfl <;> rcases ha with rfl|rfl|rfl
 ·exact IP.1
 ·exact IP.2.1
 ·exact IP.2.2
 ·exact HB.1
 ·exact HB.2.1
 ·exact IR
 ·exact HB.2.2.1
 ·exact HB.2.2.2
 ·exact IS
 ·exact IQ.1
 ·exact IT
 ·simp at hm
 ·exact IQ.2.1
 ·exact IU
 ·simp at hm
 ·exact IQ.2.2
 ·exact IV
 ·simp at hm
theorem zp (bs:Jy JL)(u:Wd):∃t∈aw,mf bs u=aq bs u t:=by
 have h7:(aw.map (aq bs u)).length=6:=by rw[Jz]; rfl
 have h8:((aw.map (aq bs u)).map fM).length=6:=by rw[Jz,h7]
 have hlt:pi ((aw.map (aq bs u)).map fM) < (aw.map (aq bs u)).length:=by
  unfold pi;have h6:=gk (C0 ((aw.map (aq bs u)).map fM)) (((aw.map (aq bs u)).map fM).length - 1);rw[h7]; omega
 unfold mf;rw[getD_some (JX hlt)];obtain⟨t,ht,e⟩:=J4.mp (K7 hlt);exact⟨t,ht,e.symm⟩
theorem Cn (bs:Jy JL)(u:Wd):mf bs u≠[]:=by
 obtain⟨t,ht,e⟩:=zp bs u;rw[e];have:∀t∈aw,t≠[]:=by decide
 have h:=this t ht;intro z;have hl:(aq bs u t).length=t.length:=by simp[aq]
 rw[z]at hl;exact h (Mn.mp hl.symm)
theorem rj:∀ {xs ys:Jy JL},xs.map T.int=ys.map T.int->xs=ys
 | [],[],_=>rfl
 | [],_::_,h=>by cases h
 | _::_,[],h=>by cases h
 | x::xs,y::ys,h=>by
  rw[Lb,Lb]at h;injection h with h1 h2
  injection h1 with h1
  rw[h1,rj h2]
theorem Co {p q:Pt}(h:rc p=rc q):p=q:=by
 unfold rc at h;injection h with h
 injection h with h1 h2
 injection h1 with h1
 injection h2 with h2 _
 injection h2 with h2
 exact Sd h1 (rj h2)
theorem uT {u v:Wd}(h:fM u=fM v):u=v:=by
 unfold fM at h;injection h with h
 have inj:∀ {u v:Wd},u.map rc=v.map rc->u=v:=by
  intro u
  induction u with
  | nil=>intro v h; cases v with
   | nil=>rfl
   | cons _ _=>cases h
  | cons p u ih=>intro v h; cases v with
   | nil=>cases h
   | cons q v=>
    rw[Lb,Lb]at h;injection h with h1 h2
    rw[Co h1,ih h2]
 exact inj h
theorem j3 {kvs:Jy (T×W)}{k:T}{v:W}:(fg kvs k v).map (·.1)=if k∈kvs.map (·.1)then kvs.map (·.1)else kvs.map (·.1)++[k]:=by
 have hany:(kvs.any λp=>decide (p.1=k))=decide (k∈kvs.map (·.1)):=by
  induction kvs with
  | nil=>rfl
  | cons p kvs ih=>
   rw[LH,ih,Lb]
   by_cases e:p.1=k
   ·subst e; simp
   ·rw[Kl e,NW];have:(k∈p.1::kvs.map (·.1))=(k∈kvs.map (·.1)):=by simp[Ne.symm e]
    simp only[this]
 unfold fg;rw[hany]
 by_cases h:k∈kvs.map (·.1)
 ·rw[Kd h,Kd (LL h),LI];refine KJ λp _=>?_
  show(if p.1=k then(p.1,v)else p).1=p.1
  split <;> rfl
 ·rw[Ku h,Ku (by simpa using h),Kb]
  rfl
structure FigD (L:Jy Wd)(kvs:Jy (T×W))(fs:Jy Wd):Prop where
 keys:kvs.map (·.1)=fs.map fM
 nd:fs.Nodup
 mem:∀f∈fs,f∈L
theorem FigD.nil {L:Jy Wd}:FigD L [] []:=⟨rfl,ON,λ_ h=>nomatch h⟩
theorem FigD.len {L:Jy Wd}{kvs:Jy (T×W)}{fs:Jy Wd}(h:FigD L kvs fs):kvs.length=fs.length/\fs.length<=L.length:=by
 have:=congrArg Rx h.keys;rw[Jz,Jz]at this;exact⟨this,pL fs L h.nd h.mem⟩
theorem FigD.put {L:Jy Wd}{kvs:Jy (T×W)}{fs:Jy Wd}{f:Wd}{v:W}(h:FigD L kvs fs)(hf:f∈L):∃fs',FigD L (fg kvs (fM f) v) fs':=by
 by_cases hm:f∈fs
 ·refine⟨fs,?_,h.nd,h.mem⟩;rw[j3,Kd (by rw[h.keys]; exact J4.mpr ⟨f,hm,rfl⟩),h.keys]
 ·refine⟨fs++[f],?_,?_,λg hg=>?_⟩
  ·rw[j3,Ku,h.keys,Kb]
   ·rfl
   ·rw[h.keys];intro z;obtain⟨g,hg,e⟩:=J4.mp z;exact hm (uT e ▸ hg)
  ·rw[NR];refine⟨h.nd,by simp,λa ha b hb e=>?_⟩
   rw[J0.mp hb]at e;exact hm (e ▸ ha)
  ·rcases Ko.mp hg with h'|h'
   ·exact h.mem g h'
   ·rw[J0.mp h']; exact hf
theorem FigD.items {S:aa}{t:JF}{L:Jy Wd}{kvs:Jy (T×W)}{fs:Jy Wd}(h:FigD L kvs fs)(e:S[t]?=gV (.dic kvs)):eS S (.ref t)=gV (fs.map aK):=by
 simp only[eS,pI e,cX e,Kq];congr 1;have:(kvs.map (·.1)).map T.w=(fs.map fM).map T.w:=by rw[h.keys]
 rw[LI,LI]at this
 calc kvs.map (λp=>p.1.w)=kvs.map (T.w∘λx=>x.1):=rfl
  _=fs.map (T.w∘fM):=this
  _=fs.map aK:=by
   refine KJ λf _=>?_
   exact y8 f
theorem rm {a:JF}{bs:Jy JL}{f:Wd}(h:f∈bm a bs):f≠[]:=by
 unfold bm at h;rw[NF]at h;obtain⟨u,_,rfl⟩:=J4.mp h;exact Cn bs u
theorem zq {S:aa}{t:JF}{kvs:Jy (T×W)}{u:Wd}{v:W}(h:S[t]?=gV (.dic kvs))(hl:kvs.length < sizeLine):jd (.ref t) (aK u) v S=gV (S.set t (.dic (fg kvs (fM u) v))):=by
 have hk:=pM u;unfold aK at hk ⊢;simp only[jd,pb,h,hk];rw[Kd hl]
structure RuleAt (a:JF)(bs:Jy JL)(ms ns:Jy JZ)(gs:Jy Wd):Prop where
 size:SizeOk a bs
 ml:ms.length=a
 nl:ns.length=bs.length
 nm:GoodN ms ns
 nd:gs.Nodup
 mem:∀g∈gs,g∈bm a bs
noncomputable def da (w:W):Prop:=∃a bs ms ns gs,w=cU ms ns bs (jn gs)/\RuleAt a bs ms ns gs
section
variable{Φ:JZ->FF}{fuel:JF}{ρ:Fm}{S:aa}{K:Fm->aa->Prop}{Q:QO}
theorem mj {i0:JF}{e:E}{b:Ss}(oe:ee e=true)(ok:gP b=true)(he:wE Φ e ρ S λp=>∃(j:JL) (I:JF->Fm->aa->Prop),p.1=.int j/\(-(2 ^ 62)<=j/\j < 2 ^ 62)/\I 0 ρ p.2/\
  (∀(i:JF) (ρ:Fm) (S:aa),(i:JL) < j->I i ρ S->wb Φ fuel b (ρ.set i0 (gV (.int i))) S (I (i+1)) Q)/\∀ρ S,I j.toNat ρ S->K ρ S):Wp (gI Φ fuel (.loop (.nm i0) (.rng (.cons e .nil)) b) ρ S) (q8 K Q):=by
 obtain⟨w,S1,e1,j,I,rfl,hj,h0,hs,hend⟩:=c9 oe he;have hl:(dJ 0 j.toNat).length=j.toNat:=by simp[dJ]
 refine iN (mi:=.its (dJ 0 j.toNat)) (S1:=S1) (xs:=dJ 0 j.toNat) I ok ?_ (λ_ _ _ _=>rfl) rfl h0 (λi w ρ S hw hI=>?_) λρ S hI=>hend ρ S (hl ▸ hI)
 ·simp only[lV,dN,eT,jR,sK,e1];rw[Kd hj]
 ·rw[eU]at hw;split at hw
  ·rename_i hk;cases hw;rw[Nx];exact hs i ρ S (by omega) hI
  ·cases hw
theorem dg {tg:Tg}{e:E}{b:Ss}(oe:ee e=true)(ok:gP b=true)(he:wE Φ e ρ S λp=>∃(t:JF) (xs:Jy W) (I:JF->Fm->aa->Prop),p.1=.ref t/\I 0 ρ p.2/\(∀i ρ S,I i ρ S->S[t]?=gV (.lst xs))/\
  (∀(i:JF) (w:W) (ρ:Fm) (S:aa),xs[i]?=gV w->I i ρ S->wO (gd tg w ρ S) λq=>wb Φ fuel b q.1 q.2 (I (i+1)) Q)/\∀ρ S,I xs.length ρ S->K ρ S):Wp (gI Φ fuel (.loop tg (.seq e) b) ρ S) (q8 K Q):=by
 obtain⟨w,S1,e1,t,xs,I,rfl,h0,hat,hs,hend⟩:=c9 oe he;exact iN (mi:=.live t) (S1:=S1) I ok (by simp only[lV,gA,e1,be (hat _ _ _ h0)]) (λi ρ S h=>by simp only[MI.at,be (hat _ _ _ h)]) (by simp only[MI.len,be (hat _ _ _ h0),Kq]) h0 hs hend
end
section
variable{defs:Jy (JZ×Df)}{fuel d:JF}{S:aa}{r:JF}{Q:QW}
theorem uU {q:JF}{a:JF}{bs:Jy JL}{ms ns:Jy JZ}{fs0:Jy Wd}{kvs:Jy (T×W)}{fs:Jy Wd}(h3:S[q]?=gV (.dic kvs))(h4:FigD (bm a bs) kvs fs)(hs:SizeOk a bs)(hml:ms.length=a)(hnl:ns.length=bs.length)(hnm:GoodN ms ns)(k:∀w S',da w->Ka S S'->Q (w,S')) :
  wO (kK (cU ms ns bs fs0) (.int 0) S) λp=>wO (kK (cU ms ns bs fs0) (.int 1) p.2) λq'=>wO (Bi.sorted.fn [.ref q] q'.2) λs=>wO (Bi.tuple.fn [s.1] s.2) λz=>Q (.tup [p.1,q'.1,z.1],z.2):=by
 refine ae (by decide) rfl (ae (by decide) rfl ?_)
 have hl:=h4.len;exact zj (h4.items h3) (by have:=pN hs; omega) (λf hf=>rm (h4.mem f hf)) (gB ak (k _ _ ⟨a,bs,ms,ns,fs,rfl,hs,hml,hnl,hnm,h4.nd,h4.mem⟩ .push))
theorem uV {q:JF}{a:JF}{bs:Jy JL}{u:Wd}{kvs:Jy (T×W)}{fs:Jy Wd}{Q:aa->Prop}(h3:S[q]?=gV (.dic kvs))(h4:FigD (bm a bs) kvs fs)(hs:SizeOk a bs)(hu:GoodW a bs.length u)(hu3:u.length=3)
  (k:∀o,(∃kvs fs,(S.set q o)[q]?=gV (.dic kvs)/\FigD (bm a bs) kvs fs)->Q (S.set q o)):wO (jd (.ref q) (aK (mf bs u)) (.bl true) S) Q:=by
 have hl:=h4.len;have:=pN hs;obtain⟨fs',h5⟩:=h4.put (v:=.bl true) (Cm hu hu3);exact ab (zq h3 (by rw[KL]; omega)) (k _ ⟨_,fs',b9 h3,h5⟩)
theorem sV (hfu:20 < fuel)(G:Gen defs)(hf:Fl S r)(k:∀w S',da w->Fl S' r->Kp r S S'->Q (w,S')):wO (bx (ar defs fuel (d+6)) "_law_any_rule" 1 [.ref r] S) Q:=by
 refine aB G.any_rule rfl rfl λQ' hR=>?_
 replace k:∀w S',da w->Fl S' r->Kp r S S'->Q' (.rt w,S'):=λz S' a b c=>hR _ _ (k z S' a b c)
 clear hR;show wZ _ _ dF [gV (.ref r),td,td,td,td,td] S Q';dsimp only[dF];refine bj λK hK=>?_
 dsimp only[wS,wE,wA,wV,wG];refine uR (d:=d+3) G hf λa n S1 a1 a3 n1 n3 an f1 k1=>?_
 dsimp only[wU];refine ab (show d7 [1,2] [.int a,.int n] [gV (.ref r),td,td,td,td,td]=gV [gV (.ref r),gV (.int a),gV (.int n),td,td,td]from rfl) (hK _ _ ?_)
 clear hK K;refine bj λK hK=>?_
 dsimp only[wS,wE,wA,wV,wG,JQ];refine uS (d:=d+3) G f1 n1 n3 λbs S2 hb hbl f2 k2=>?_
 have hsz:SizeOk a bs:=⟨by omega,hb,by rw[hbl]; exact an,a3⟩
 refine gn (d:=d) hfu G f2 a3 (by omega) λms ns S3 hml hnl hnm f3 k3=>hK _ _ ?_
 clear hK K;have hrt:=f3.lt;replace k3:Kp r S S3:=k1.trans (k2.trans k3);clear k1 k2 f1 f2;refine st ?_;dsimp only[wS,wE,JQ];refine bj λK hK=>?_
 refine mj rfl rfl ?_;dsimp only[wE,wA,wV,wG];refine cV (d:=d+4) G.pick (f3.ka .push) (by decide) (by decide) λv S4 v0 v9 f4 k4=>?_
 refine⟨v,λk ρ S'=>(∃a5,ρ=[gV (.ref r),gV (.int a),gV (.int n),gV (cU ms ns bs []),gV (.ref S3.length),a5])/\(∃kvs fs,S'[S3.length]?=gV (.dic kvs)/\FigD (bm a bs) kvs fs)/\Fl S' r/\Kp r S S',rfl,by omega,⟨⟨td,rfl⟩,⟨[],[],k4.get _ _ (by omega) ak,.nil⟩,f4,(k3.trans .push).trans k4⟩,?_,?_⟩
 ·rintro i ρ S5 hi ⟨⟨a5,rfl⟩,⟨kvs,fs,e5,hd⟩,f5,k5⟩ Q2 hn _;clear hK;refine st ?_;dsimp only[wS,wE,wA,wV,wG,JQ];refine jo (d:=d+3) G f5 (by omega) a3 (by omega) n3 λu S6 hu3 hu f6 k6=>?_
  have hu:GoodW a bs.length u:=hbl.symm ▸ hu;refine jm (d:=d+2) G hb hnl hu hu3 λS7 k7=>?_
  have e7:=k7.get _ _ (k6.get _ _ (by omega) e5)
  exact uV e7 hd hsz hu hu3 λo ho=>bW (hn _ _ ⟨⟨_,rfl⟩,ho,(f6.ka k7).own hrt,((k5.trans k6).trans (k7.kp r)).late k3.len⟩)
 ·rintro ρ S5 ⟨⟨a5,rfl⟩,⟨kvs,fs,e5,hd⟩,f5,k5⟩;refine hK _ _ (st ?_);dsimp only[wS,wE,wA,wV,wG];exact uU (Q:=λp=>Q' (.rt p.1,p.2)) e5 hd hsz hml hnl hnm λw S6 hw k6=>k w S6 hw (f5.ka k6) (k5.trans (k6.kp r))
end
noncomputable def fS (t:JL×JL×JL):W:=.tup [.int t.1,.int t.2.1,.int t.2.2]
noncomputable def rn (a:JF)(t:JL×JL×JL):Prop:=(0<=t.1/\t.1 < a)/\(0<=t.2.1/\t.2.1 < a)/\(0<=t.2.2/\t.2.2 < a)
noncomputable def zr (k:JL):Wd:=[(k,[]),(k,[0]),(k,[0,0])]
theorem IW:∀k∈fj 1,zr k∈bm 1 [0]:=by decide +kernel
theorem IX:∀k∈fj 2,zr k∈bm 2 [0]:=by decide +kernel
theorem IY:∀k∈fj 3,zr k∈bm 3 [0]:=by decide +kernel
theorem Cp {a:JF}{k:JL}(h0:1<=a)(h3:a<=3)(hk:0<=k)(hk2:k < a):zr k∈bm a [0]:=by
 have ha:a=1\/a=2\/a=3:=by omega
 rcases ha with rfl|rfl|rfl
 ·exact IW k (dG hk hk2)
 ·exact IX k (dG hk hk2)
 ·exact IY k (dG hk hk2)
theorem Cq {a b:JL}(h:zr a=zr b):a=b:=by
 unfold zr at h;injection h with h1 h2
 injection h1
theorem jp:GoodB [0]:=.inl rfl
theorem Dl {S:aa}{i j:JF}{xs:Jy W}(h1:S[i]?=gV (.lst xs))(h2:S[j]?=gV (.lst [])):cv .eq (.ref i) (.ref j) S=gV (.bl xs.isEmpty,S):=by
 show(qt S (19+1) (.ref i) (.ref j)).map _=_;simp only[qt,ey h1,ey h2];cases xs with
 | nil=>rfl
 | cons x xs=>rfl
theorem Cr {S:aa}{f:JL}{ws:Jy JL}:∃b,cv .notin (.int f) (.tup (af ws)) S=gV (.bl b,S):=by
 have hf:(bG (.int f)&&(af ws).all bG)=true:=by
  simp only[bG,Mk,J3];intro x hx;obtain⟨z,_,rfl⟩:=J4.mp hx;rfl
 refine⟨!(af ws).any λz=>mY z (.int f),?_⟩
 show gK .notin (.int f) (.tup (af ws)) S=_;simp only[gK,Bh,xO,eQ,hf,L1,Kq]
section
variable{Φ:JZ->FF}{fuel:JF}{ρ:Fm}{S:aa}{K:Fm->aa->Prop}{Q:QO}
theorem jq {i0:JF}{a b:E}{bd:Ss}(i j:JL)(I:JF->Fm->aa->Prop)(oa:ee a=true)(ob:ee b=true)(ok:gP bd=true)(hj : -(2 ^ 62)<=i/\i < 2 ^ 62/\-(2 ^ 62)<=j/\j < 2 ^ 62)(he:wE Φ a ρ S λp=>p.1=.int i/\wE Φ b ρ p.2 λq=>q.1=.int j/\I 0 ρ q.2)
  (hstep:∀(k:JF) (ρ:Fm) (S:aa),(k:JL) < j - i->I k ρ S->wb Φ fuel bd (ρ.set i0 (gV (.int (i+k)))) S (I (k+1)) Q) (hend:∀ρ S,I (j - i).toNat ρ S->K ρ S):Wp (gI Φ fuel (.loop (.nm i0) (.rng2 (.cons a (.cons b .nil))) bd) ρ S) (q8 K Q):=by
 obtain⟨w,S1,e1,rfl,h1⟩:=c9 oa he;obtain⟨w,S2,e2,rfl,h0⟩:=c9 ob h1;have hl:(dJ i (j - i).toNat).length=(j - i).toNat:=by simp[dJ]
 refine iN (mi:=.its (dJ i (j - i).toNat)) (S1:=S2) (xs:=dJ i (j - i).toNat) I ok ?_ (λ_ _ _ _=>rfl) rfl h0 (λk w ρ S hw hI=>?_) λρ S hI=>hend ρ S (hl ▸ hI)
 ·simp only[lV,dN,eT,jR,iRng2,e1,e2];rw[Kd hj]
 ·rw[eU]at hw;split at hw
  ·rename_i hk;cases hw;exact hstep k ρ S (by omega) hI
  ·cases hw
theorem zt {elt a b:E}{i0:JF}{cs:Es}{cap:Jy (JE JF)}{Q:QW}(i j:JL)(I:JF->Jy W->Fm->aa->Prop)(oa:ee a=true)(ob:ee b=true)(oe:ee elt=true)(oc:q9 cs=true)(hj : -(2 ^ 62)<=i/\i < 2 ^ 62/\-(2 ^ 62)<=j/\j < 2 ^ 62)(he:wE Φ a ρ S λp=>p.1=.int i/\wE Φ b ρ p.2 λq=>q.1=.int j/\I 0 [] (gD cap ρ) q.2)
  (hstep:∀(k:JF) (ys:Jy W) (ρ:Fm) (S:aa),(k:JL) < j - i->I k ys ρ S->iO Φ elt cs (ρ.set i0 (gV (.int (i+k)))) S (λy=>I (k+1) (ys++[y])) (I (k+1) ys))
  (hend:∀ys ρ S,I (j - i).toNat ys ρ S->ys.length<=sizeLine/\Q (.ref S.length,S++[.lst ys])):Wp (aP Φ (.comp elt (.nm i0) (.rng2 (.cons a (.cons b .nil))) cs cap) ρ S) Q:=by
 obtain⟨w,S1,e1,rfl,h1⟩:=c9 oa he;obtain⟨w,S2,e2,rfl,h0⟩:=c9 ob h1;have hl:(dJ i (j - i).toNat).length=(j - i).toNat:=by simp[dJ]
 refine l8 (mi:=.its (dJ i (j - i).toNat)) (S1:=S2) (xs:=dJ i (j - i).toNat) I oe oc ?_ (λ_ _ _ _ _=>rfl) rfl h0 (λk w ys ρ S hw hI=>?_) λys ρ S hI=>hend ys ρ S (hl ▸ hI)
 ·simp only[lV,dN,eT,jR,iRng2,e1,e2];rw[Kd hj]
 ·rw[eU]at hw;split at hw
  ·rename_i hk;cases hw;exact hstep k ys ρ S (by omega) hI
  ·cases hw
end
section
variable{defs:Jy (JZ×Df)}{fuel d:JF}{S:aa}{r:JF}{Q:QW}
theorem rq (G:Gen defs){a:JF}(ha:a<=3)(k:∀(q:JF) (ts:Jy (JL×JL×JL)) (S':aa),S'[q]?=gV (.lst (ts.map fS))->(∀t∈ts,rn a t)->S.length<=q->Ka S S'->Q (.ref q,S')) :
  wO (bx (ar defs fuel (d+1)) "_law_rising" 1 [.int a] S) Q:=by
 refine aB G.rising rfl rfl λQ' hR=>?_
 replace k:∀(q:JF) (ts:Jy (JL×JL×JL)) (S':aa),S'[q]?=gV (.lst (ts.map fS))->(∀t∈ts,rn a t)->S.length<=q->Ka S S'->Q' (.rt (.ref q),S'):=λq ts S' a b c e=>hR _ _ (k q ts S' a b c e)
 clear hR;show wZ _ _ eC [gV (.int a),td,td,td] S Q';dsimp only[eC];refine st ?_;dsimp only[wS,wE,wA,JQ];refine bj λK hK=>?_
 refine cD (a:JL) (λi ρ S'=>∃(q:JF) (ts:Jy (JL×JL×JL)) (a2 a3:JE W),ρ=[gV (.int a),gV (.ref q),a2,a3]/\S'[q]?=gV (.lst (ts.map fS))/\(∀t∈ts,rn a t)/\S.length<=q/\ts.length<=9*i/\Ka S S') rfl rfl (by omega) ⟨rfl,_,[],_,_,rfl,ak,λ_ h=>(nomatch h),JO _,LJ _,.push⟩ ?_ ?_
 ·rintro i ρ S1 hi ⟨q,ts,a2,a3,rfl,e1,ht,hq,hl,k1⟩ Q2 hn _;clear hK k;refine bj λK hK=>?_
  refine jq (i:JL) (a:JL) (λj ρ S'=>∃(q:JF) (ts:Jy (JL×JL×JL)) (a3:JE W),ρ=[gV (.int a),gV (.ref q),gV (.int i),a3]/\S'[q]?=gV (.lst (ts.map fS))/\(∀t∈ts,rn a t)/\S.length<=q/\ts.length<=9*i+3*j/\Ka S S') rfl rfl rfl (by omega) ⟨rfl,rfl,q,ts,a3,rfl,e1,ht,hq,by omega,k1⟩ ?_ ?_
  ·rintro j ρ S2 hj ⟨q,ts,a3,rfl,e2,ht,hq,hl,k2⟩ Q3 hn3 _;clear hK hn;refine st ?_;dsimp only[wS,wE,wV,wG,JQ];refine zt ((i:JL)+j) (a:JL) (λm ys ρ2 S3=>(∃a1,ρ2=[td,a1,gV (.int i),gV (.int ((i:JL)+j))])/\(∃us:Jy (JL×JL×JL),ys=us.map fS/\us.length=m/\∀t∈us,rn a t)/\S3=S2) rfl rfl rfl rfl (by omega) ⟨rfl,rfl,⟨td,rfl⟩,⟨[],rfl,rfl,λ_ h=>nomatch h⟩,rfl⟩ ?_ ?_
   ·rintro m ys ρ2 S3 hm ⟨⟨a1,rfl⟩,⟨us,rfl,hul,hu⟩,rfl⟩;refine⟨λ_=>⟨⟨_,rfl⟩,⟨us++[((i:JL),(i:JL)+j,(i:JL)+j+m)],by rw[Kb]; rfl,by rw[JG,hul]; rfl,λt h=>?_⟩,rfl⟩,λz=>by cases z⟩
    rcases Ko.mp h with h|h
    ·exact hu t h
    ·rw[J0.mp h];exact⟨⟨by omega,by omega⟩,⟨by dsimp only; omega,by dsimp only; omega⟩,⟨by dsimp only; omega,by dsimp only; omega⟩⟩
   ·rintro ys ρ2 S3 ⟨_,⟨us,rfl,hul,hu⟩,rfl⟩;refine⟨mV (by rw[Jz]; omega),ab (sS (au e2) ak ?_) (bW (hn3 _ _ ⟨_,ts++us,_,rfl,?_,λt h=>(Ko.mp h).elim (ht t) (hu t),?_,?_,k2.trans (Ka.push.trans .push)⟩))⟩
    ·refine mV ?_;rw[JG,Jz,Jz];omega
    ·rw[Kb]; exact ak
    ·have:=k2.len;simp only[JG]; omega
    ·rw[JG]; omega
  ·rintro ρ S2 ⟨q,ts,a3,rfl,e2,ht,hq,hl,k2⟩;exact hK _ _ (bW (hn _ _ ⟨q,ts,_,_,rfl,e2,ht,hq,by omega,k2⟩))
 ·rintro ρ S1 ⟨q,ts,a2,a3,rfl,e1,ht,hq,hl,k1⟩;refine hK _ _ (st ?_);exact k q ts S1 e1 ht hq k1
theorem wg (hfu:20 < fuel)(G:Gen defs)(hf:Fl S r)(k:∀w S',da w->Fl S' r->Kp r S S'->Q (w,S')):wO (bx (ar defs fuel (d+6)) "_law_one_way_rule" 1 [.ref r] S) Q:=by
 refine aB G.one_way_rule rfl rfl λQ' hR=>?_
 replace k:∀w S',da w->Fl S' r->Kp r S S'->Q' (.rt w,S'):=λz S' a b c=>hR _ _ (k z S' a b c)
 clear hR;show wZ _ _ cF [gV (.ref r),td,td] S Q';dsimp only[cF];refine bj λK hK=>?_
 dsimp only[wS,wE,wA,wV,wG,JQ];refine cV (d:=d+4) G.pick hf (by decide) (by decide) λv S1 v0 v3 f1 k1=>?_
 dsimp only[eW,bz];obtain⟨a,ea⟩ : ∃a:JF,1+v=a:=⟨(1+v).toNat,by omega⟩
 rw[ea];refine hK _ _ ?_;clear hK K;refine bj λK hK=>?_
 dsimp only[wS,wE,JQ];refine fA (a:JL) (λk zs ρ2 S2=>(∃a1,ρ2=[td,a1,gV (.ref r)])/\(∃ks:Jy JL,zs=(ks.map zr).map aK/\ks.Pairwise (·≠·)/\ks.length<=k/\∀x∈ks,0<=x/\x < k)/\Fl S2 r/\Kp r S1 S2) rfl rfl rfl (by omega) ⟨rfl,⟨td,rfl⟩,⟨[],rfl,.nil,JO _,λ_ h=>(nomatch h)⟩,f1,.refl⟩ ?_ ?_
 ·rintro i zs ρ2 S2 hi ⟨⟨a1,rfl⟩,⟨ks,rfl,hkp,hkl,hks⟩,f2,k2⟩;clear hK k;dsimp only[iO,wC,wT,wE,wA,wV,wG,JQ];refine cV (d:=d+4) G.pick f2 (by decide) (by decide) λv S3 _ _ f3 k3=>?_
  dsimp only[pH,bz,wB];refine⟨λ_=>⟨⟨_,rfl⟩,⟨ks++[(i:JL)],by simp[zr,aK,aO],?_,by rw[JG]; exact Nc hkl,λx hx=>?_⟩,f3,k2.trans k3⟩,λ_=>⟨⟨_,rfl⟩,⟨ks,rfl,hkp,by omega,λx hx=>⟨(hks x hx).1,by have:=(hks x hx).2; omega⟩⟩,f3,k2.trans k3⟩⟩
  ·rw[List.pairwise_append];refine⟨hkp,by simp,λx hx y hy e=>?_⟩
   have:=(hks x hx).2;rw[J0.mp hy]at e;omega
  ·rcases Ko.mp hx with h|h
   ·exact⟨(hks x h).1,by have:=(hks x h).2; omega⟩
   ·rw[J0.mp h]; omega
 ·rintro zs ρ2 S2 ⟨_,⟨ks,rfl,hkp,hkl,hks⟩,f2,k2⟩;rw[JW]at hkl hks;refine⟨mV (by rw[Jz,Jz]; omega),hK _ _ (st ?_)⟩
  clear hK K;dsimp only[wS,wE,wA,wV,wG,JQ];have hlt:=f2.lt;refine hX (d:=d) (a:=a) (bs:=[0]) (us:=ks.map zr) hfu G (f2.ka .push) (by omega) (by decide) (λS' kk=>?_) (by rw[Jz]; omega) (λu hu=>by obtain⟨x,_,rfl⟩:=J4.mp hu; exact List.cons_ne_nil _ _) λms ns S3 hml hnl hnm f3 k3=>?_
  ·simp only[eS,be (kk.get _ _ (by omega) ak)]
  refine k _ _ ⟨a,[0],ms,ns,ks.map zr,rfl,⟨⟨by omega,jp,by simp; omega,by omega⟩,hml,hnl,hnm,?_,λg hg=>?_⟩⟩ f3 (k1.trans (k2.trans (Kp.push.trans k3)))
  ·unfold RX;rw[NS];exact hkp.imp λh e=>h (Cq e)
  ·obtain⟨x,hx,rfl⟩:=J4.mp hg;exact Cp (by omega) (by omega) (hks x hx).1 (hks x hx).2
theorem rs (hfu:20 < fuel)(G:Gen defs)(hf:Fl S r)(k:∀w S',da w->Fl S' r->Kp r S S'->Q (w,S')):wO (bx (ar defs fuel (d+6)) "_law_free_rule" 1 [.ref r] S) Q:=by
 refine aB G.free_rule rfl rfl λQ' hR=>?_
 replace k:∀w S',da w->Fl S' r->Kp r S S'->Q' (.rt w,S'):=λz S' a b c=>hR _ _ (k z S' a b c)
 clear hR;show wZ _ _ dm [gV (.ref r),td,td,td,td,td,td,td,td] S Q';dsimp only[dm];refine bj λK hK=>?_
 dsimp only[wS,wE,wA,wV,wG];refine uR (d:=d+3) G hf λa n S1 a1 a3 n1 n3 an f1 k1=>?_
 dsimp only[wU];refine ab (show d7 [1,2] [.int a,.int n] [gV (.ref r),td,td,td,td,td,td,td,td]=gV [gV (.ref r),gV (.int a),gV (.int n),td,td,td,td,td,td]from rfl) (hK _ _ ?_)
 clear hK K;refine bj λK hK=>?_
 dsimp only[wS,wE,wA,wV,wG,JQ];refine uS (d:=d+3) G f1 n1 n3 λbs S2 hb hbl f2 k2=>?_
 have hsz:SizeOk a bs:=⟨by omega,hb,by rw[hbl]; exact an,a3⟩
 refine gn (d:=d) hfu G f2 a3 (by omega) λms ns S3 hml hnl hnm f3 k3=>hK _ _ ?_
 clear hK K;have hrt:=f3.lt;replace k3:Kp r S S3:=k1.trans (k2.trans k3);clear k1 k2 f1 f2;refine bj λK hK=>?_
 dsimp only[wS,wE,JQ];refine fA (n:JL) (λi zs ρ2 S2=>(∃a1,ρ2=[td,a1,gV (cU ms ns bs [])])/\(∃ks:Jy JL,zs=af ks/\ks.length<=i)/\S2=S3) rfl rfl rfl (by omega) ⟨rfl,⟨td,rfl⟩,⟨[],rfl,JO _⟩,rfl⟩ ?_ ?_
 ·rintro i zs ρ2 S2 hi ⟨⟨a1,rfl⟩,⟨ks,rfl,hkl⟩,rfl⟩;clear hK k;have hi':i < bs.length:=by omega
  dsimp only[iO,wC,wT,wE,wA,wV,wG,JQ];refine ae (by decide) rfl (ae (JS i) (by rw[JW]; exact jZ (JX (by omega)) (JX hi')) (ae (by decide) rfl ?_))
  dsimp only[pH,bz,wB];exact⟨λ_=>⟨⟨_,rfl⟩,⟨ks++[(i:JL)],by unfold af; rw[Kb]; rfl,by rw[JG]; exact Nc hkl⟩,rfl⟩,λ_=>⟨⟨_,rfl⟩,⟨ks,rfl,by omega⟩,rfl⟩⟩
 ·rintro zs ρ2 S2 ⟨_,⟨ks,rfl,hkl⟩,rfl⟩;rw[JW]at hkl;have il:(af ks).length=ks.length:=Jz ..;refine⟨mV (by omega),hK _ _ ?_⟩
  clear hK K;refine bj λK hK=>?_
  dsimp only[wS,wT,wE,wA,wV,wG,JQ];refine ab (Dl (au ak) ak) ?_;dsimp only[wB];have f4:=(f3.ka (Ka.push (o:=O.lst (af ks)))).ka (Ka.push (o:=O.lst []));have k4:=k3.trans ((Kp.push (o:=O.lst (af ks))).trans (Kp.push (o:=O.lst [])));have e4:=au (u:=O.lst []) (ak (S:=S2) (o:=O.lst (af ks)));have hl4:S2.length < (S2++[O.lst (af ks)]++[O.lst []]).length:=by simp
  generalize hS4:S2++[O.lst (af ks)]++[O.lst []]=S4 at f4 k4 e4 hl4;clear hS4;have ret:∀Q2:QO,(∀w S',Q' (.rt w,S')->Q2 (.rt w,S'))->wZ (ar defs fuel (d+5)) fuel (.cons (.ret (.v 3)) .nil) [gV (.ref r),gV (.int a),gV (.int n),gV (cU ms ns bs []),td,gV (.ref S2.length),td,td,td] S4 Q2:=λQ2 hr=>st (hr _ _ (k _ _ ⟨a,bs,ms,ns,[],rfl,hsz,hml,hnl,hnm,.nil,λ_ h=>(nomatch h)⟩ f4 k4))
  refine⟨λ_=>ap (Q0:=Q') (λ_ Q2 _ hr=>ret Q2 hr) (λz=>by cases z),λhne=>?_⟩
  dsimp only[pH,bz,wB];refine ap (Q0:=Q') (λ_ Q2 _ hr=>ret Q2 hr) (λ_ Q2 hn _=>bW (hn _ _ (hK _ _ ?_)))
  clear hK ret hn;have hk0:0 < ks.length:=by
   cases ks with
   | nil=>cases hne
   | cons x ks=>exact Nat.succ_pos _
  refine bj λK hK=>?_
  dsimp only[wS,wE,wA,wV,wG,JQ];refine yY e4 ?_;rw[il];refine cV (d:=d+4) G.pick f4 (by omega) (by omega) λv S5 v0 v1 f5 k5=>?_
  have e5:=k5.get _ _ (by omega) e4
  obtain⟨x,_,ex⟩:=pK (f:=W.int) (xs:=ks) (i:=v.toNat) (by omega)
  refine ox e5 v0 ex (hK _ _ ?_);clear hK K;replace k5:Kp r S S5:=k4.trans k5;have hrt5:=f5.lt;refine st ?_;dsimp only[wS,wE,JQ];refine bj λK hK=>?_
  refine mj rfl rfl ?_;dsimp only[wE,wA,wV,wG];refine cV (d:=d+4) G.pick (f5.ka .push) (by decide) (by decide) λv S6 v0 v9 f6 k6=>?_
  refine⟨v,λ_ ρ S'=>(∃a4 a8,ρ=[gV (.ref r),gV (.int a),gV (.int n),gV (cU ms ns bs []),a4,gV (.ref S2.length),gV (.int x),gV (.ref S5.length),a8])/\(∃kvs fs,S'[S5.length]?=gV (.dic kvs)/\FigD (bm a bs) kvs fs)/\Fl S' r/\Kp r S S',rfl,by omega,⟨⟨td,td,rfl⟩,⟨[],[],k6.get _ _ (by omega) ak,.nil⟩,f6,(k5.trans .push).trans k6⟩,?_,?_⟩
  ·rintro i ρ S7 hi ⟨⟨a4,a8,rfl⟩,⟨kvs,fs,e7,hd⟩,f7,k7⟩ Q2 hn _;clear hK k;refine st ?_;dsimp only[wS,wE,wA,wV,wG,JQ];refine jo (d:=d+3) G f7 (by omega) a3 (by omega) n3 λu S8 hu3 hu f8 k8=>?_
   have hu:GoodW a bs.length u:=hbl.symm ▸ hu;have e8:=k8.get _ _ (by omega) e7
   obtain⟨p0,p1,p2,rfl⟩ : ∃p0 p1 p2,u=[p0,p1,p2]:=by
    match u,hu3 with
    | [p0,p1,p2],_=>exact⟨p0,p1,p2,rfl⟩
   have l1:=hu.len 1 p1 rfl;obtain⟨m1,ws1⟩:=p1;obtain⟨w1,rfl⟩ : ∃w1,ws1=[w1]:=by
    match ws1,l1 with
    | [w1],_=>exact⟨w1,rfl⟩
   obtain⟨b,hb2⟩:=Cr (S:=S8) (f:=x) (ws:=p2.2);have kk:=k7.trans k8;refine bj λK hK=>?_
   dsimp only[wS,wT,wE,wA,wV,wG];refine ae (by decide) rfl (ae (by decide) rfl (ae (by decide) rfl ?_))
   dsimp only[Cc,bz,wB];have skip:K [gV (.ref r),gV (.int a),gV (.int n),gV (cU ms ns bs []),gV (.int i),gV (.ref S2.length),gV (.int x),gV (.ref S5.length),gV (aK [p0,(m1,[w1]),p2])] S8:=hK _ _ (bW (hn _ _ ⟨⟨_,_,rfl⟩,⟨kvs,fs,e8,hd⟩,f8,kk⟩));refine⟨λ_=>?_,λ_=>ap (Q0:=Q2) (λz=>by cases z) λ_ Q3 hn3 _=>bW (hn3 _ _ skip)⟩
   refine ae (by decide) rfl (ae (by decide) rfl (ab hb2 ?_))
   dsimp only[wB];refine ap (Q0:=Q2) (λ_ Q3 hn3 _=>?_) λ_ Q3 hn3 _=>bW (hn3 _ _ skip)
   clear skip;refine st ?_;dsimp only[wS,wE,wA,wV,wG];refine jm (d:=d+2) G hb hnl hu hu3 λS9 k9=>?_
   exact uV (k9.get _ _ e8) hd hsz hu hu3 λo ho=>bW (hn3 _ _ (hK _ _ (bW (hn _ _ ⟨⟨_,_,rfl⟩,ho,(f8.ka k9).own hrt5,(kk.trans (k9.kp r)).late k5.len⟩))))
  ·rintro ρ S7 ⟨⟨a4,a8,rfl⟩,⟨kvs,fs,e7,hd⟩,f7,k7⟩;refine hK _ _ (st ?_);dsimp only[wS,wE,wA,wV,wG];exact uU (Q:=λp=>Q' (.rt p.1,p.2)) e7 hd hsz hml hnl hnm λw S8 hw k8=>k w S8 hw (f7.ka k8) (k7.trans (k8.kp r))
end
noncomputable def cz (u v:JL):T:=.tup [.int u,.int v]
noncomputable def dY (u v:JL):W:=.tup [.int u,.int v]
theorem jr {u v:JL}:ib (dY u v)=gV (cz u v):=rfl
theorem zu {kvs:Jy (T×W)}{k:T}{v:W}{p:T×W}(h:p∈fg kvs k v):p∈kvs\/p=(k,v):=by
 unfold fg at h;split at h
 ·obtain⟨q,hq,rfl⟩:=J4.mp h;split
  ·rename_i e; exact .inr (by rw[e])
  ·exact .inl hq
 ·rcases Ko.mp h with h|h
  ·exact .inl h
  ·exact .inr (J0.mp h)
theorem mn {kvs:Jy (T×W)}{k:T}{v:W}(h:cC kvs k=gV v):(k,v)∈kvs:=by
 unfold cC at h;rw[JC]at h;obtain⟨p,h1,rfl⟩:=h;have:=Ow h1;rw[<- K4 this];exact List.mem_of_find?_eq_some h1
theorem uW {kvs:Jy (T×W)}{p:T×W}(h:p∈kvs):∃v,cC kvs p.1=gV v:=by
 unfold cC;cases e:kvs.find? λq=>decide (q.1=p.1)with
 | some q=>exact⟨q.2,rfl⟩
 | none=>exact absurd (Mr.mp e p h) (by simp)
noncomputable def MustE (S:aa)(n b:JF)(kvs:Jy (T×W)):Prop:=∀p∈kvs,∃(u v:JL) (l:JF) (ws:Jy JL),p=(cz u v,W.ref l)/\(0<=u/\u < n)/\(0<=v/\v < n)/\b<=l/\S[l]?=gV (.lst (af ws))/\ws.length<=3/\∀w∈ws,0<=w/\w < (n:JL)
theorem MustE.mono {S S':aa}{n b:JF}{kvs:Jy (T×W)}(h:MustE S n b kvs)(k:∀(l:JF) (ws:Jy JL),b<=l->S[l]?=gV (.lst (af ws))->S'[l]?=gV (.lst (af ws))):MustE S' n b kvs:=λp hp=>
 let ⟨u,v,l,ws,h1,h2,h3,h4,h5,h6⟩:=h p hp
 ⟨u,v,l,ws,h1,h2,h3,h4,k l ws h4 h5,h6⟩
theorem MustE.ka {S S':aa}{n b:JF}{kvs:Jy (T×W)}(h:MustE S n b kvs)(k:Ka S S'):MustE S' n b kvs:=h.mono λl ws _ e=>k.get _ _ e
theorem MustE.kp {S S':aa}{n b r:JF}{kvs:Jy (T×W)}(h:MustE S n b kvs)(hr:r < b)(k:Kp r S S'):MustE S' n b kvs:=h.mono λl ws hl e=>k.get _ _ (by omega) e
theorem MustE.set {S:aa}{n b t:JF}{kvs k:Jy (T×W)}{o:O}(h:MustE S n b kvs)(ht:S[t]?=gV (.dic k)):MustE (S.set t o) n b kvs:=h.mono λl ws hl e=>by
 rw[bY (by rintro rfl; rw[ht]at e; cases e)]; exact e
theorem MustE.put {S:aa}{n b:JF}{kvs:Jy (T×W)}{u v:JL}{l:JF}{ws:Jy JL}(h:MustE S n b kvs)(h2:0<=u/\u < n)(h3:0<=v/\v < n)(h4:b<=l)(h5:S[l]?=gV (.lst (af ws)))(h6:ws.length<=3)(h7:∀w∈ws,0<=w/\w < (n:JL)):MustE S n b (fg kvs (cz u v) (.ref l)):=λp hp=>by
 rcases zu hp with hp|rfl
 ·exact h p hp
 ·exact⟨u,v,l,ws,rfl,h2,h3,h4,h5,h6,h7⟩
noncomputable abbrev Cs:=JL×JL×Jy JL
noncomputable def rz (ws:Jy JL):Es:=ws.foldr (λw es=>.cons (.c (.int w)) es) .nil
noncomputable def uX:Jy Cs->Es
 | []=>.nil
 | e::L=>.cons (.tup (.cons (.c (.int e.1)) (.cons (.c (.int e.2.1)) .nil))) (.cons (.lst (rz e.2.2)) (uX L))
noncomputable def wj:Jy Cs->JF->Jy W
 | [],_=>[]
 | e::L,s=>dY e.1 e.2.1::.ref s::wj L (s+1)
noncomputable def wm (L:Jy Cs):aa:=L.map λe=>O.lst (af e.2.2)
noncomputable def uY (n:JF)(e:Cs):Kc:=decide ((0<=e.1/\e.1 < n)/\(0<=e.2.1/\e.2.1 < n)/\e.2.2.length<=3)&&e.2.2.all λw=>decide (0<=w/\w < (n:JL))
section
variable{Φ:JZ->FF}{ρ:Fm}
theorem sW {S:aa}:∀ {ws:Jy JL} {Q:Jy W×aa->Prop},Q (af ws,S)->wA Φ (rz ws) ρ S Q
 | [],Q,q=>by show wA Φ .nil ρ S Q; exact q
 | w::ws,Q,q=>by show wA Φ (.cons (.c (.int w)) (rz ws)) ρ S Q; dsimp only[wA,wE]; exact sW q
theorem zv:∀ {L:Jy Cs} {S:aa} {Q:Jy W×aa->Prop},Q (wj L S.length,S++wm L)->wA Φ (uX L) ρ S Q
 | [],S,Q,q=>by
  show wA Φ .nil ρ S Q;dsimp only[wA]
  rwa [show S++wm []=S from K6 S]at q
 | e::L,S,Q,q=>by
  show wA Φ (.cons (.tup (.cons (.c (.int e.1)) (.cons (.c (.int e.2.1)) .nil))) (.cons (.lst (rz e.2.2)) (uX L))) ρ S Q;dsimp only[wA,wE];refine sW (zv ?_);rw[JG,My];exact q
end
theorem oA {S:aa}{n b:JF}:∀(L:Jy Cs) (s:JF) (kvs:Jy (T×W)),MustE S n b kvs->b<=s->(∀e∈L,uY n e=true)->(∀i e,L[i]?=gV e->S[s+i]?=gV (.lst (af e.2.2)))->∃kvs',d8 kvs (wj L s)=gV kvs'/\MustE S n b kvs'/\kvs'.length<=kvs.length+L.length
 | [],s,kvs,hm,hb,hL,hS=>⟨kvs,by simp[wj,d8],hm,by simp⟩
 | e::L,s,kvs,hm,hb,hL,hS=>by
  have h1:=hL e (by simp)
  unfold uY at h1;rw[JH,J3]at h1;obtain⟨h2,h3,h4⟩:=K4 h1.1;obtain⟨kvs',k1,k2,k3⟩:=oA L (s+1) (fg kvs (cz e.1 e.2.1) (.ref s)) (hm.put h2 h3 hb (by have:=hS 0 e rfl; simpa using this) h4 (λw hw=>K4 (h1.2 w hw))) (by omega) (λx hx=>hL x (by simp[hx])) (λi x hx=>by have:=hS (i+1) x (by simpa using hx); rw[show s+1+i=s+(i+1) by omega]; exact this)
  refine⟨kvs',?_,k2,?_⟩
  ·simp only[wj,d8,jr]; exact k1
  ·have:=dy kvs (cz e.1 e.2.1) (.ref s);rw[Kk]; omega
noncomputable def KB:Jy (Jy JL):=[[1,0],[0,2,1],[0,1],[0,1,2]]
noncomputable def KindOk (S:aa)(b:JF)(w:W):Prop:=∃(bs:Jy JL) (q:JF) (kvs:Jy (T×W)) (most:JL),w=.tup [.tup (af bs),.ref q,.int most]/\bs∈KB/\1<=most/\most<=3/\most*bs.length<=6/\S[q]?=gV (.dic kvs)/\b<=q/\kvs.length<=4/\MustE S bs.length b kvs
theorem KindOk.mono {S S':aa}{b:JF}{w:W}(h:KindOk S b w)(k1:∀(l:JF) (ws:Jy JL),b<=l->S[l]?=gV (.lst (af ws))->S'[l]?=gV (.lst (af ws)))(k2:∀(l:JF) (kvs:Jy (T×W)),b<=l->S[l]?=gV (.dic kvs)->S'[l]?=gV (.dic kvs)):KindOk S' b w:=
 let ⟨bs,q,kvs,most,h1,h2,h3,h4,h5,h6,h7,h8,h9⟩:=h
 ⟨bs,q,kvs,most,h1,h2,h3,h4,h5,k2 _ _ h7 h6,h7,h8,h9.mono k1⟩
theorem KindOk.ka {S S':aa}{b:JF}{w:W}(h:KindOk S b w)(k:Ka S S'):KindOk S' b w:=h.mono (λl ws _ e=>k.get _ _ e) (λl ws _ e=>k.get _ _ e)
noncomputable def zw (bs:Jy JL)(L:Jy Cs)(most:JL):E:=.tup (.cons (.tup (rz bs)) (.cons (.disp (uX L)) (.cons (.c (.int most)) .nil)))
section
variable{Φ:JZ->FF}{ρ:Fm}{S:aa}
theorem pO (bs:Jy JL)(L:Jy Cs)(most:JL){b:JF}{Q:QW}(hb:b<=S.length)(h1:bs∈KB)(h2:1<=most/\most<=3/\most*bs.length<=6)(hL:∀e∈L,uY bs.length e=true)(h4:L.length<=4)(k:∀w S',KindOk S' b w->Ka S S'->Q (w,S')) :
  wE Φ (zw bs L most) ρ S Q:=by
 unfold zw;dsimp only[wE,wA];refine sW (zv ?_);obtain⟨kvs,k1,k2,k3⟩:=oA (S:=S++[O.dic []]++wm L) (n:=bs.length) (b:=b) L (S.length+1) [] (λ_ h=>nomatch h) (by omega) hL (λi e he=>by
  rw[KF (by simp),show S.length+1+i - (S++[O.dic []]).length=i by simp]
  simp[wm,he])
 have hat:(S++[O.dic []]++wm L)[S.length]?=gV (.dic []):=by
  rw[Kn (by simp)]; exact ak
 refine⟨hat,ab (show d8 [] (wj L (S++[O.dic []]).length)=gV kvs by rw[JG]; exact k1) (k _ _ ⟨bs,S.length,kvs,most,rfl,h1,h2.1,h2.2.1,h2.2.2,b9 hat,hb,?_,k2.set hat⟩ ⟨λj o h=>?_,by simp⟩)⟩
 ·simp only[Lp]at k3; omega
 ·have:j < S.length:=cO h;show((S++[O.dic []]++wm L).set S.length (O.dic kvs))[j]?=gV o;rw[bY (by omega),Kn (by simp; omega)]
  exact au h
structure Menu (S0 S:aa)(r t m:JF):Prop where
 at_t:∃xs:Jy W,S[t]?=gV (.lst xs)/\xs.length=m/\∀x∈xs,KindOk S S0.length x
 pos:0 < m
 mV:m<=9
 fl:Fl S r
 kp:Kp r S0 S
 lt:S0.length<=t
 rlt:r < S0.length
theorem rA {S0 S S':aa}{r t m:JF}{w:W}(h:Menu S0 S r t m)(hw:KindOk S' S0.length w)(k:Ka S S')(hm:m < 9):∃xs,S'[t]?=gV (.lst xs)/\xs.length < sizeLine/\Menu S0 (S'.set t (.lst (xs++[w]))) r t (m+1):=by
 obtain⟨⟨xs,h1,h2,h3⟩,hp,hf,fl,kp,lt,rlt⟩:=h;have e:S'[t]?=gV (.lst xs):=k.get _ _ h1;have stay:∀x,KindOk S' S0.length x->KindOk (S'.set t (.lst (xs++[w]))) S0.length x:=λx hx=>hx.mono (λl ws hl el=>by
  by_cases hlt:t=l
  ·exfalso;subst hlt;rw[e]at el;injection el with el
   injection el with el
   match xs,h2,h3 with
   | [],h2,_=>simp at h2; omega
   | x::xs,_,h3=>
    obtain⟨bs,q,kvs,most,hx,_⟩:=h3 x (by simp)
    subst hx
    match ws with
    | []=>simp[af]at el
    | w::ws=>simp[af]at el
  ·rw[bY hlt]; exact el) (λl kvs hl el=>by
  rw[bY (by rintro rfl; rw[e]at el; cases el)]; exact el)
 refine⟨xs,e,(by rw[KL]; omega),⟨xs++[w],b9 e,by simp; omega,λx hx=>?_⟩,by omega,by omega,(fl.ka k).own (by omega),(kp.trans (k.kp r)).late lt,lt,rlt⟩
 rcases Ko.mp hx with hx|hx
 ·exact stay x ((h3 x hx).ka k)
 ·rw[J0.mp hx]; exact stay w hw
theorem rB (bs:Jy JL)(L:Jy Cs)(most:JL){fuel:JF}{S0:aa}{r t m:JF}{x0:JE W}{K:Fm->aa->Prop}{Q:QO}(h:Menu S0 S r t m)(hm:m < 9)(h1:bs∈KB)(h2:1<=most/\most<=3/\most*bs.length<=6)(hL:∀e∈L,uY bs.length e=true)(h4:L.length<=4)(k:∀S',Menu S0 S' r t (m+1)->K [x0,gV (.ref t)] S') :
  wS Φ fuel (.ex (.me .append (.v 1) (.cons (zw bs L most) .nil))) [x0,gV (.ref t)] S K Q:=by
 dsimp only[wS,wE,wA,wV,wG];obtain⟨xs,e1,e2,e3⟩:=h.at_t;refine⟨dQ e1,pO bs L most (J8 h.lt (M0 (cO e1))) h1 h2 hL h4 λw S' k1 k2=>?_⟩
 obtain⟨xs',f1,f2,f3⟩:=rA h k1 k2 hm;exact ab (yV f1 f2) (k _ f3)
theorem nj {defs:Jy (JZ×Df)}{fuel d:JF}{r:JF}{Q:QW}(G:Gen defs)(hf:Fl S r)(k:∀w S',KindOk S' S.length w->Fl S' r->Kp r S S'->Q (w,S')):wO (bx (ar defs fuel (d+2)) "_law_laying_kind" 1 [.ref r] S) Q:=by
 refine aB G.laying_kind rfl rfl λQ' hR=>?_
 replace k:∀w S',KindOk S' S.length w->Fl S' r->Kp r S S'->Q' (.rt w,S'):=λz S' a b c=>hR _ _ (k z S' a b c)
 clear hR;show wZ _ _ cQ [gV (.ref r),td] S Q';have hrt:=hf.lt;unfold cQ;refine bj λK hK=>?_
 refine Hc ?_;change wA _ _ _ _ _; change wE _ _ _ _ _
 refine pO [1,0] [(0,0,[0])] 3 (b:=S.length) (JO _) (by decide) (by decide) (by decide) (by decide) λw1 S1 k1 a1=>?_
 change wE _ _ _ _ _;refine pO [0,2,1] [(1,1,[1])] 2 (b:=S.length) a1.len (by decide) (by decide) (by decide) (by decide) λw2 S2 k2 a2=>?_
 have a12:=a1.trans a2;change wE _ _ _ _ _;refine pO [0,1] [(1,1,[1])] 3 (b:=S.length) a12.len (by decide) (by decide) (by decide) (by decide) λw3 S3 k3 a3=>?_
 have a13:=a12.trans a3;dsimp only[wA];refine hK _ _ ?_;clear hK K;have m3:Menu S (S3++[O.lst [w1,w2,w3]]) r S3.length 3:=by
  refine⟨⟨[w1,w2,w3],ak,rfl,λx hx=>?_⟩,by decide,by decide,(hf.ka a13).ka .push,(a13.trans .push).kp r,a13.len,hrt⟩
  rcases Ke.mp hx with rfl|hx
  ·exact(k1.ka (a2.trans a3)).ka .push
  ·rcases Ke.mp hx with rfl|hx
   ·exact(k2.ka a3).ka .push
   ·rw[J0.mp hx];exact k3.ka .push
 dsimp only[JQ];clear k1 k2 k3 a1 a2 a3 a12 a13;generalize S3.length=t at m3;generalize S3++[O.lst [w1,w2,w3]]=S3' at m3;refine bj λK hK=>rB [0,1] [(1,1,[1]),(0,0,[1])] 3 m3 (by decide) (by decide) (by decide) (by decide) (by decide) λS4 m4=>hK _ _ ?_
 refine bj λK hK=>rB [0,1] [(1,1,[])] 1 m4 (by decide) (by decide) (by decide) (by decide) (by decide) λS5 m5=>hK _ _ ?_
 refine bj λK hK=>rB [0,2,1] [(0,0,[0]),(0,1,[1]),(1,0,[1]),(1,1,[1])] 2 m5 (by decide) (by decide) (by decide) (by decide) (by decide) λS6 m6=>hK _ _ ?_
 refine bj λK hK=>?_
 dsimp only[wS,wE,wA,wV,wG];obtain⟨xs,e1,e2,e3⟩:=m6.at_t;obtain⟨xs',f1,f2,m7⟩:=rA (S':=S6++[O.dic []]) (w:=.tup [.tup (af [1,0]),.ref S6.length,.int 3]) m6 ⟨[1,0],S6.length,[],3,rfl,by decide,by decide,by decide,by decide,ak,m6.kp.len,by decide,λ_ h=>(nomatch h)⟩ .push (by decide)
 refine⟨dQ e1,ab (yV f1 f2) (hK _ _ ?_)⟩;refine bj λK hK=>rB [0,1,2] [(2,2,[2]),(1,2,[1]),(2,1,[1]),(1,1,[1,2])] 2 m7 (by decide) (by decide) (by decide) (by decide) (by decide) λS8 m8=>hK _ _ ?_
 refine bj λK hK=>rB [0,1,2] [(0,0,[0,1])] 2 m8 (by decide) (by decide) (by decide) (by decide) (by decide) λS9 m9=>hK _ _ ?_
 refine st ?_;dsimp only[wS,wE,wA,wV,wG];refine cV (d:=d) G.pick m9.fl (by decide) (by decide) λv S10 v0 v9 f10 k10=>?_
 obtain⟨xs,g1,g2,g3⟩:=m9.at_t;have hlt:=m9.lt;have hv:v.toNat < xs.length:=by omega
 exact ox (k10.get _ _ (by omega) g1) v0 (JX hv) (k _ _ ((g3 _ (K7 hv)).mono (λl ws hl e=>k10.get _ _ (by omega) e) (λl ws hl e=>k10.get _ _ (by omega) e)) f10 (m9.kp.trans k10))
end
noncomputable def rC (bs:Jy JL):Jy (Jy JL):=if bs=[0,1,2]then[[0,1,2],[0,2,1],[1,0,2],[1,2,0],[2,0,1],[2,1,0]]else if bs.length=2 then[[0,1],[1,0]]else[[0,1,2],[0,2,1],[2,0,1],[2,1,0]]
noncomputable def iE (bs nm:Jy JL):JF->Jy JL
 | 0=>Kz bs.length 0
 | k+1=>(iE bs nm k).set (nm.getD k 0).toNat (nm.getD (bs.getD k 0).toNat 0)
theorem j4 (bs nm:Jy JL):∀k,(iE bs nm k).length=bs.length
 | 0=>by simp[iE]
 | k+1=>by simp[iE,j4 bs nm k]
theorem Ct:∀bs∈KB,∀nm∈rC bs,nm.length=bs.length/\(∀x∈nm,0<=x/\x < (bs.length:JL))/\(∀x∈bs,0<=x/\x < (bs.length:JL))/\GoodB (iE bs nm bs.length):=by
 unfold GoodB;decide +kernel
theorem zx:∀bs∈KB,(bs.length=2\/bs.length=3)/\0 < (rC bs).length/\(rC bs).length < 10:=by decide
section
variable{Φ:JZ->FF}{fuel:JF}{ρ:Fm}{S:aa}{K:Fm->aa->Prop}{Q:QO}
theorem Cu {tg:Tg}{e:E}{b:Ss}(r:JF)(kvs:Jy (T×W))(I:JF->Fm->aa->Prop)(oe:ee e=true)(ok:gP b=true)(he:wE Φ e ρ S λp=>p.1=.ref r/\p.2[r]?=gV (.dic kvs)/\I 0 ρ (p.2.set r (.frd kvs)))
  (hstep:∀(i:JF) (p:T×W) (ρ:Fm) (S:aa),kvs[i]?=gV p->I i ρ S->wO (gd tg p.1.w ρ S) λq=>wb Φ fuel b q.1 q.2 (I (i+1)) Q) (hend:∀ρ S,I kvs.length ρ S->K ρ S):Wp (gI Φ fuel (.loop tg (.seq e) b) ρ S) (q8 K Q):=by
 obtain⟨w,S1,e1,rfl,e2,h0⟩:=c9 oe he;refine iN (mi:=.its (kvs.map λp=>p.1.w)) (S1:=S1.set r (.frd kvs)) (xs:=kvs.map λp=>p.1.w) I ok (by simp only[lV,gA,e1,pI e2,cX e2]) (λ_ _ _ _=>rfl) rfl h0 (λi w ρ S hw hI=>?_) λρ S hI=>hend ρ S (by rwa [Jz]at hI)
 rw[JJ,JC]at hw;obtain⟨p,hp,rfl⟩:=hw;exact hstep i p ρ S hp hI
end
section
variable{defs:Jy (JZ×Df)}{fuel d:JF}{S:aa}{r:JF}{Q:QW}
theorem Dm {i n:JF}{x:W}(h:S[i]?=gV (.lst [x]))(hn:n<=1000)(q:Q (.ref S.length,S++[.lst (Kz n x)])):wO (iZ .mul (.ref i) (.int (n:JL)) S) Q:=by
 refine ab ?_ q;have:n<=sizeLine:=mV hn;simp only[iZ,AY,ey h];rw[Kd ⟨by omega,by omega,by simpa using this⟩]
 unfold mX;simp[this]
theorem oB {q:JF}{kvs:Jy (T×W)}{u v:JL}{w:W}(h:kW S q=gV kvs)(hg:cC kvs (cz u v)=gV w):kK (.ref q) (.tup [.int u,.int v]) S=gV (w,S):=by
 have hk:ib (.tup [.int u,.int v])=gV (cz u v):=jr;simp only[kK,h,hk,hg,Kq]
theorem zy {q:JF}{kvs:Jy (T×W)}{u v:JL}{w:W}(h:S[q]?=gV (.dic kvs))(hl:kvs.length < sizeLine):jd (.ref q) (.tup [.int u,.int v]) w S=gV (S.set q (.dic (fg kvs (cz u v) w))):=by
 have hk:ib (.tup [.int u,.int v])=gV (cz u v):=jr;simp only[jd,pb,h,hk];rw[Kd hl]
theorem j5 {xs:Jy JL}{x:JL}(h0:0<=x)(h1:x.toNat < xs.length):(af xs)[x.toNat]?=gV (.int (xs.getD x.toNat 0)):=by
 unfold af;rw[JJ,ay (d:=0) h1]; rfl
theorem gS {xs:Jy JL}{i:JF}(h:i < xs.length):xs.getD i 0∈xs:=JT (ay (d:=0) h)
theorem nk (G:Gen defs){Q:QO}{bs:Jy JL}{x0 x2:JE W}(hb:bs∈KB)
  (hk:∀(m s:JF) (S':aa),Ka S S'->S'[s]?=gV (.lst ((rC bs).map λnm=>W.tup (af nm)))->S.length<=s->wZ (ar defs fuel (d+1)) fuel (dr 5 bZ) [x0,gV (.tup (af bs)),x2,gV (.int bs.length),gV (.ref m),gV (.ref s),td,td,td,td,td,td] S' Q) :
  wZ (ar defs fuel (d+1)) fuel bZ [x0,gV (.tup (af bs)),x2,td,td,td,td,td,td,td,td,td] S Q:=by
 generalize hd5:dr 5 bZ=dc at hk;unfold bZ at hd5 ⊢;dsimp only[dr]at hd5;rw[hd5];clear hd5;refine bj λK hK=>?_
 dsimp only[wS,wE,wA,wV,wG,JQ];refine bH ?_;rw[show(af bs).length=bs.length from Jz ..]
 refine hK _ _ ?_;clear hK K;refine bj λK hK=>?_
 dsimp only[wS,wE,wA,wV,wG,JQ];have hm:(((S++[O.lst [.tup [.int 0]]])++[O.lst [.tup [.int 0,.int 1],.tup [.int 1,.int 0]]])++[O.lst [.ref S.length,.ref (S++[O.lst [.tup [.int 0]]]).length]])[((S++[O.lst [.tup [.int 0]]])++[O.lst [.tup [.int 0,.int 1],.tup [.int 1,.int 0]]]).length]?=gV (.lst [.ref S.length,.ref (S++[O.lst [.tup [.int 0]]]).length]):=ak;refine hK _ _ ?_;clear hK K;generalize hS1:S++[O.lst [.tup [.int 0]]]=S1 at hm ⊢;generalize hS2:S1++[O.lst [.tup [.int 0,.int 1],.tup [.int 1,.int 0]]]=S2 at hm ⊢;generalize hS3:S2++[O.lst [.ref S.length,.ref S1.length]]=S3 at hm ⊢;have l1:S1.length=S.length+1:=by rw[<- hS1]; simp
 have l2:S2.length=S1.length+1:=by rw[<- hS2]; simp
 have l3:S3.length=S2.length+1:=by rw[<- hS3]; simp
 have kS2:Ka S S2:=by rw[<- hS2,<- hS1]; exact Ka.push.trans .push
 refine bj λK hK=>?_
 dsimp only[wS,wE,wA,wV,wG,JQ];refine⟨dQ hm,ma (au hm) (by decide:2 < 1000) (hK _ _ ?_)⟩
 clear hK K;generalize hS5:(S3++[O.lst [.tup [.int 0,.int 1,.int 2],.tup [.int 0,.int 2,.int 1],.tup [.int 2,.int 0,.int 1],.tup [.int 2,.int 1,.int 0]]]).set S2.length (.lst ([.ref S.length,.ref S1.length]++[.ref S3.length]))=S5;have k5:Ka S S5:=by
  rw[<- hS5,<- hS3];exact Ka.late (kS2.trans (Ka.push.trans .push)) (by omega)
 have m5:S5[S2.length]?=gV (.lst [.ref S.length,.ref S1.length,.ref S3.length]):=by
  rw[<- hS5]; exact b9 (au hm)
 have p5:S5[S1.length]?=gV (.lst [.tup [.int 0,.int 1],.tup [.int 1,.int 0]]):=by
  rw[<- hS5,bY (by omega),<- hS3,<- hS2]
  exact au (au ak)
 have t5:S5[S3.length]?=gV (.lst [.tup [.int 0,.int 1,.int 2],.tup [.int 0,.int 2,.int 1],.tup [.int 2,.int 0,.int 1],.tup [.int 2,.int 1,.int 0]]):=by
  rw[<- hS5,bY (by omega)]
  exact ak
 have h1:S.length<=S1.length:=by omega
 have h3:S.length<=S3.length:=by omega
 clear hS1 hS2 hS3 hS5 hm l1 l2 l3 kS2;refine bj λK hK=>?_
 dsimp only[wS,wE,wA,wV,wG,JQ,jh,bz];have hb':bs=[1,0]\/bs=[0,2,1]\/bs=[0,1]\/bs=[0,1,2]:=by simpa [KB]using hb
 rcases hb' with rfl|rfl|rfl|rfl
 ·refine eE (i:=1) m5 rfl (hK _ _ (bj λK hK=>yZ (λQ q=>q) (hK _ _ (hk _ _ _ k5 p5 h1))))
 ·refine eE (i:=2) m5 rfl (hK _ _ (bj λK hK=>yZ (λQ q=>q) (hK _ _ (hk _ _ _ k5 t5 h3))))
 ·refine eE (i:=1) m5 rfl (hK _ _ (bj λK hK=>yZ (λQ q=>q) (hK _ _ (hk _ _ _ k5 p5 h1))))
 ·refine eE (i:=2) m5 rfl (hK _ _ (bj λK hK=>Hd (λQ q=>q) λQ2 hn _=>?_))
  refine st ?_;dsimp only[wS,wE,wA,wV,wG,JQ];exact lv (d:=d) G (bW (hn _ _ (hK _ _ (hk _ _ _ (k5.trans .push) ak k5.len))))
theorem sX (G:Gen defs){S0:aa}{bs:Jy JL}{q:JF}{kvs:Jy (T×W)}(hb:bs∈KB)(hf:Fl S r)(hr:r < S0.length)(kp:Kp r S0 S)(hq:S[q]?=gV (.dic kvs))(hq0:S0.length<=q)(h4:kvs.length<=4)(hm:MustE S bs.length S0.length kvs)
  (k:∀(bs':Jy JL) (q':JF) (kvs':Jy (T×W)) S',GoodB bs'->bs'.length=bs.length->S'[q']?=gV (.dic kvs')->S0.length<=q'->MustE S' bs.length S0.length kvs'->Fl S' r->Kp r S0 S'->Q (.tup [.tup (af bs'),.ref q'],S')) :
  wO (bx (ar defs fuel (d+2)) "_law_numbered" 3 [.ref r,.tup (af bs),.ref q] S) Q:=by
 refine aB G.numbered rfl rfl λQ' hR=>?_
 replace k:∀(bs':Jy JL) (q':JF) (kvs':Jy (T×W)) S',GoodB bs'->bs'.length=bs.length->S'[q']?=gV (.dic kvs')->S0.length<=q'->MustE S' bs.length S0.length kvs'->Fl S' r->Kp r S0 S'->Q' (.rt (.tup [.tup (af bs'),.ref q']),S'):=λa b c e f g h i j l m=>hR _ _ (k a b c e f g h i j l m)
 clear hR;refine nk (d:=d) G hb ?_;intro m s S1 k1 e1 hs;dsimp only[dr,bZ];have hrt:=hf.lt;obtain⟨hb1,hb2,hb3⟩:=zx bs hb;refine bj λK hK=>?_
 dsimp only[wS,wE,wA,wV,wG,JQ];refine yY e1 ?_;rw[Jz];refine cV (d:=d) G.pick (hf.ka k1) (by omega) (by omega) λv S2 v0 v1 f2 k2=>?_
 obtain⟨nm,hnmm,enm⟩:=pK (f:=λnm=>W.tup (af nm)) (xs:=rC bs) (i:=v.toNat) (by omega)
 obtain⟨n1,n2,n3,n4⟩:=Ct bs hb nm hnmm;refine ox (k2.get _ _ (by omega) e1) v0 enm (hK _ _ ?_)
 clear hK K;refine bj λK hK=>?_
 dsimp only[wS,wE,wA,wV,wG,JQ];refine Dm ak (by omega) (hK _ _ ?_)
 clear hK K;generalize hS4:S2++[O.lst [.int 0]]=S4;have k24:Ka S2 S4:=hS4 ▸ .push;have f4:Fl S4 r:=f2.ka k24;have kp4:Kp r S0 S4:=(kp.trans (k1.kp r)).trans (k2.trans (k24.kp r));have q4:S4[q]?=gV (.dic kvs):=k24.get _ _ (k2.get _ _ (by omega) (k1.get _ _ hq))
 have m4:MustE S4 bs.length S0.length kvs:=((hm.ka k1).kp hr k2).ka k24;clear hS4 k24 hm hq f2 k2 k1 e1 enm hf;refine bj λK hK=>?_
 refine cD (bs.length:JL) (λk ρ S'=>(∃x8,ρ=[gV (.ref r),gV (.tup (af bs)),gV (.ref q),gV (.int bs.length),gV (.ref m),gV (.ref s),gV (.tup (af nm)),gV (.ref S4.length),x8,td,td,td])/\S'[S4.length]?=gV (.lst (af (iE bs nm k)))/\Ka S4 S') rfl rfl (by omega) ⟨rfl,⟨_,rfl⟩,?_,.push⟩ ?_ ?_
 ·rw[ak]; simp[iE,af]
 ·rintro i ρ S5 hi ⟨⟨x8,rfl⟩,e5,k5⟩ Q2 hn _;clear hK k;have hi':i < bs.length:=by omega
  have hi1:i < nm.length:=by omega
  have c:=n3 _ (gS hi');have c2:=n2 _ (gS hi1);refine st ?_;dsimp only[wS,wE,wA,wV,wG,JQ];refine ae (JS i) (j5 (JS i) hi') (ae c.1 (j5 c.1 (by rw[JW]; omega)) (ae (JS i) (j5 (JS i) hi1) ?_))
  rw[JW];refine ab (De e5 c2.1 (by rw[show(af (iE bs nm i)).length=_ from Jz ..,j4]; omega)) (bW (hn _ _ ⟨⟨_,rfl⟩,?_,k5.late (JO _)⟩))
  rw[b9 e5];unfold af;rw[iE,List.map_set]
 ·rintro ρ S5 ⟨⟨x8,rfl⟩,e5,k5⟩;rw[JW]at e5;refine hK _ _ (st ?_);clear hK K;dsimp only[wS,wE,JQ];have f5:Fl S5 r:=f4.ka k5;have q5:S5[q]?=gV (.dic kvs):=k5.get _ _ q4;have m5:MustE S5 bs.length S0.length kvs:=m4.ka k5;have kp5:Kp r S0 S5:=kp4.trans (k5.kp r);have hq5:=cO q5;have ht5:=cO e5;have hqt:q≠S4.length:=by rintro rfl; rw[e5]at q5; cases q5
  have hn9:(bs.length:JL)<=3:=by omega
  have hr5:=f5.lt;clear k5 m4 q4 f4;refine bj λK hK=>?_
  refine Cu q kvs (λk ρ S'=>(∃x10 x11,ρ=[gV (.ref r),gV (.tup (af bs)),gV (.ref q),gV (.int bs.length),gV (.ref m),gV (.ref s),gV (.tup (af nm)),gV (.ref S4.length),x8,gV (.ref S5.length),x10,x11])/\S'[q]?=gV (.frd kvs)/\MustE S' bs.length S0.length kvs/\S'[S4.length]?=gV (.lst (af (iE bs nm bs.length)))/\(∃kvs',S'[S5.length]?=gV (.dic kvs')/\kvs'.length<=k/\MustE S' bs.length S0.length kvs')/\Fl S' r/\Kp r S0 S') rfl rfl ⟨rfl,au q5,⟨td,td,rfl⟩,b9 (au q5),(m5.ka .push).set (au q5),?_,⟨[],?_,JO _,λ_ h=>(nomatch h)⟩,(f5.ka .push).own (by omega),(kp5.trans .push).late hq0⟩ ?_ ?_
  ·rw[bY hqt]; exact au e5
  ·rw[bY (by omega)]; exact ak
  ·rintro i p ρ S6 hp ⟨⟨x10,x11,rfl⟩,q6,m6,t6,⟨kvs',o6,l6,mm6⟩,f6,kp6⟩;clear hK k;have hpm:=JT hp;have hil:=(JU.mp hp).1;obtain⟨u,v',l,ws,rfl,hu,hv',hl,hws,hl3,hw3⟩:=m6 p hpm;obtain⟨g,hg⟩:=uW hpm;obtain⟨u2,v2,l2,ws2,he2,_,_,hl2,hws2,hl32,hw32⟩:=m6 _ (mn hg);injection he2 with _ he2
   subst he2;have hul:u.toNat < nm.length:=by omega
   have hvl:v'.toNat < nm.length:=by omega
   refine ab (show gd (.tp [10,11]) (cz u v',W.ref l).1.w [gV (.ref r),gV (.tup (af bs)),gV (.ref q),gV (.int bs.length),gV (.ref m),gV (.ref s),gV (.tup (af nm)),gV (.ref S4.length),x8,gV (.ref S5.length),x10,x11] S6=gV ([gV (.ref r),gV (.tup (af bs)),gV (.ref q),gV (.int bs.length),gV (.ref m),gV (.ref s),gV (.tup (af nm)),gV (.ref S4.length),x8,gV (.ref S5.length),gV (.int u),gV (.int v')],S6)from rfl) λQ2 hn _=>?_
   refine st ?_;dsimp only[wS,wE,wA,wV,wG,JQ];refine uM l2 (af ws2) (λi zs ρ2 S7=>(∃a1,ρ2=[td,a1,gV (.tup (af nm))])/\zs=af ((ws2.take i).map λw=>nm.getD w.toNat 0)/\S7=S6) rfl rfl rfl ?_ ?_ ?_ ?_
   ·dsimp only[wE,wA,wV,wG];exact ab (oB (Ce q6) hg) ⟨rfl,⟨_,rfl⟩,rfl,rfl⟩
   ·rintro i zs ρ2 S7 ⟨_,_,rfl⟩;exact hws2
   ·rintro i w zs ρ2 S7 hw ⟨⟨a1,rfl⟩,rfl,rfl⟩;unfold af at hw;rw[JJ,JC]at hw;obtain⟨x,hx,rfl⟩:=hw;obtain⟨x0,x1⟩:=hw32 x (JT hx);have hxl:x.toNat < nm.length:=by omega
    refine ab (show gd (.nm 1) (.int x) [td,a1,gV (.tup (af nm))] S7=gV ([td,gV (.int x),gV (.tup (af nm))],S7)from rfl) ?_
    dsimp only[iO,wC,wE,wA,wV,wG];refine⟨λ_=>ae x0 (j5 x0 hxl) ⟨⟨_,rfl⟩,?_,rfl⟩,λz=>by cases z⟩
    rw[Kt,hx];simp[af]
   ·rintro zs ρ2 S7 ⟨_,rfl,rfl⟩;rw[show(af ws2).length=ws2.length from Jz ..,Kw]
    refine⟨mV (by simp[af]; omega),ae hu.1 (j5 hu.1 hul) (ae hv'.1 (j5 hv'.1 hvl) ?_)⟩
    refine ab (zy (au o6) (by rw[KL]; omega)) (bW (hn _ _ ⟨⟨_,_,rfl⟩,?_,(m6.ka .push).set (au o6),?_,⟨_,b9 (au o6),?_,?_⟩,(f6.ka .push).own (by omega),(kp6.trans .push).late kp5.len⟩))
    ·rw[bY (by omega)]; exact au q6
    ·rw[bY (by omega)]; exact au t6
    ·exact J8 (dy ..) (Nc l6)
    ·refine((mm6.ka .push).put (n2 _ (gS hul)) (n2 _ (gS hvl)) kp6.len ak (by simp; omega) ?_).set (au o6)
     intro w hw;obtain⟨x,hx,rfl⟩:=J4.mp hw;obtain⟨x0,x1⟩:=hw32 x hx;exact n2 _ (gS (by omega))
  ·rintro ρ S6 ⟨⟨x10,x11,rfl⟩,q6,m6,t6,⟨kvs',o6,l6,mm6⟩,f6,kp6⟩;refine hK _ _ (st ?_);dsimp only[wS,wE,wA,wV,wG];exact gB t6 (k _ _ kvs' _ n4 (j4 _ _ _) o6 kp5.len mm6 f6 kp6)
end
noncomputable def wn (x y z:JL):Jy (T×W):=[(cz 1 0,.int x),(cz 2 0,.int y),(cz 2 1,.int z)]
noncomputable def Cv (x y z a b c:JL):JF->Jy (T×W)
 | 0=>wn x y z
 | 1=>wn x y z++[(cz 0 1,.int a)]
 | 2=>wn x y z++[(cz 0 1,.int a),(cz 0 2,.int b)]
 | _=>wn x y z++[(cz 0 1,.int a),(cz 0 2,.int b),(cz 1 2,.int c)]
theorem E5 {n x y z a b c:JL}(hx:0<=x/\x < n)(hy:0<=y/\y < n)(hz:0<=z/\z < n)(ha:0<=a/\a < n)(hb:0<=b/\b < n)(hc:0<=c/\c < n):∀i j:JF,i < 3->j < 3->i≠j->∃p:JL,cC (Cv x y z a b c 3) (cz i j)=gV (.int p)/\0<=p/\p < n:=by
 intro i j hi hj hij
 match i,j,hi,hj,hij with
 | 0,0,_,_,h=>exact absurd rfl h
 | 0,1,_,_,_=>exact⟨a,by rfl,ha⟩
 | 0,2,_,_,_=>exact⟨b,by rfl,hb⟩
 | 1,0,_,_,_=>exact⟨x,by rfl,hx⟩
 | 1,1,_,_,h=>exact absurd rfl h
 | 1,2,_,_,_=>exact⟨c,by rfl,hc⟩
 | 2,0,_,_,_=>exact⟨y,by rfl,hy⟩
 | 2,1,_,_,_=>exact⟨z,by rfl,hz⟩
 | 2,2,_,_,h=>exact absurd rfl h
theorem rD:∀t∈aw,t.length=3/\t.getD 0 0 < 3/\t.getD 1 0 < 3/\t.getD 2 0 < 3/\t.getD 0 0≠t.getD 1 0/\t.getD 1 0≠t.getD 2 0/\t.getD 0 0≠t.getD 2 0:=by decide
theorem zz {t:Jy JF}(h:t∈aw):∃i j k:JF,t=[i,j,k]/\i < 3/\j < 3/\k < 3/\i≠j/\j≠k/\i≠k:=by
 obtain⟨h1,h2⟩:=rD t h
 match t,h1,h2 with
 | [i,j,k],_,h2=>exact⟨i,j,k,rfl,h2⟩
section
variable{defs:Jy (JZ×Df)}{fuel d:JF}{S:aa}{r:JF}{Q:QW}
theorem zA {l:JF}{f:JL}{ws:Jy JL}(h:S[l]?=gV (.lst (af ws))):∃b,cv .notin (.int f) (.ref l) S=gV (.bl b,S):=by
 have hf:(bG (.int f)&&(af ws).all bG)=true:=by
  simp only[bG,Mk,J3];intro x hx;obtain⟨z,_,rfl⟩:=J4.mp hx;rfl
 refine⟨!(af ws).any λz=>mY z (.int f),?_⟩
 simp only[cv,ji h,gK,Bh,xO,eQ,be h,hf,L1,Kq]
theorem E6 {q:JF}{kvs:Jy (T×W)}(h:S[q]?=gV (.dic kvs)):tyOk "dict" S (.ref q)=true:=by simp[tyOk,cX h]
theorem Cw {q:JF}{kvs:Jy (T×W)}(h:S[q]?=gV (.dic kvs))(k:Q (.ref S.length,S++[.lst (kvs.map λp=>p.1.w)])):wO (Bi.list.fn [.ref q] S) Q:=by
 refine ab ?_ k;have h1:xT S q=td:=by simp[xT,h]
 have h2:kJ [.ref q] S=td:=by simp[kJ,h1,i7,eQ,pI h]
 simp only[Bi.fn,Ft,h2,n0,cX h]
theorem zB (G:Gen defs){bs:Jy JL}{q b0:JF}{kvs:Jy (T×W)}{x y z:JL}(hb:GoodB bs)(hx:0<=x/\x < bs.length)(hy:0<=y/\y < bs.length)(hz:0<=z/\z < bs.length)(hq:S[q]?=gV (.dic kvs))(hm:MustE S bs.length b0 kvs)
  (k:∀b S',Ka S S'->Q (.bl b,S')):wO (bx (ar defs fuel (d+2)) "_law_breaks" 5 [.tup (af bs),.ref q,.int x,.int y,.int z] S) Q:=by
 refine aB G.breaks rfl rfl λQ' hR=>?_
 replace k:∀b S',Ka S S'->Q' (.rt (.bl b),S'):=λa b c=>hR _ _ (k a b c)
 clear hR;show wZ _ _ eB [gV (.tup (af bs)),gV (.ref q),gV (.int x),gV (.int y),gV (.int z),td,td,td,td,td] S Q';obtain⟨a,ha1,ha⟩:=hb.rng x.toNat (by omega)
 obtain⟨b,hb1,hb2⟩:=hb.rng y.toNat (by omega)
 obtain⟨c,hc1,hc⟩:=hb.rng z.toNat (by omega)
 have hqt:=cO hq;unfold eB;refine bj λK hK=>?_
 dsimp only[wS,wE,wA,wV,wG,JQ];refine⟨ak,ab (show d8 [] [.tup [.int 1,.int 0],.int x,.tup [.int 2,.int 0],.int y,.tup [.int 2,.int 1],.int z]=gV (wn x y z)from rfl) (hK _ _ ?_)⟩
 clear hK K;have e1:((S++[O.dic []]).set S.length (.dic (wn x y z)))[S.length]?=gV (.dic (wn x y z)):=b9 ak;have k1:Ka S ((S++[O.dic []]).set S.length (.dic (wn x y z))):=Ka.push.late (JO _);have l1:((S++[O.dic []]).set S.length (.dic (wn x y z))).length=S.length+1:=by simp
 generalize(S++[O.dic []]).set S.length (.dic (wn x y z))=S1 at e1 k1 l1 ⊢;refine bj λK hK=>?_
 refine dg rfl rfl ?_;dsimp only[wE,wA,wV,wG];refine Cw e1 ⟨S1.length,[dY 1 0,dY 2 0,dY 2 1],(λk ρ S'=>(∃x6,ρ=[gV (.tup (af bs)),gV (.ref q),gV (.int x),gV (.int y),gV (.int z),gV (.ref S.length),x6,td,td,td])/\S'[S.length]?=gV (.dic (Cv x y z a b c k))/\S'[S1.length]?=gV (.lst [dY 1 0,dY 2 0,dY 2 1])/\Ka S S'),rfl,⟨⟨_,rfl⟩,au e1,ak,k1.trans .push⟩,λi ρ S' h=>h.2.2.1,?_,?_⟩
 ·have step:∀(u v f g:JL) (kv kv':Jy (T×W)) (S':aa) (i:JF),cC kv (cz u v)=gV (.int f)->0<=f->bs[f.toNat]?=gV g->kv.length < 10->fg kv (cz v u) (.int g)=kv'->Cv x y z a b c (i+1)=kv'->∀x6:JE W,S'[S.length]?=gV (.dic kv)->S'[S1.length]?=gV (.lst [dY 1 0,dY 2 0,dY 2 1])->Ka S S'->
    wO (gd (.nm 6) (dY u v) [gV (.tup (af bs)),gV (.ref q),gV (.int x),gV (.int y),gV (.int z),gV (.ref S.length),x6,td,td,td] S') λp=>wb (ar defs fuel (d+1)) fuel (.cons (.put (.v 5) (.tup (.cons (.ix (.v 6) (.c (.int 1))) (.cons (.ix (.v 6) (.c (.int 0))) .nil))) (.ix (.v 0) (.ix (.v 5) (.v 6)))) .nil) p.1 p.2 (λρ S'=>(∃x6,ρ=[gV (.tup (af bs)),gV (.ref q),gV (.int x),gV (.int y),gV (.int z),gV (.ref S.length),x6,td,td,td])/\S'[S.length]?=gV (.dic (Cv x y z a b c (i+1)))/\S'[S1.length]?=gV (.lst [dY 1 0,dY 2 0,dY 2 1])/\Ka S S') Q':=by
   clear hK k;intro u v f g kv kv' S' i h1 h2 h3 h4 h5 h6 x6 e e' k;refine ab (show gd (.nm 6) (dY u v) [gV (.tup (af bs)),gV (.ref q),gV (.int x),gV (.int y),gV (.int z),gV (.ref S.length),x6,td,td,td] S'=gV ([gV (.tup (af bs)),gV (.ref q),gV (.int x),gV (.int y),gV (.int z),gV (.ref S.length),gV (dY u v),td,td,td],S')from rfl) λQ2 hn _=>?_
   refine st ?_;dsimp only[wS,wE,wA,wV,wG];refine ab (oB (cX e) h1) (ae h2 (w:=.int g) (by unfold af; rw[JJ,h3]; rfl) (ae (by decide) rfl (ae (by decide) rfl ?_)))
   refine ab (zy e (by rw[KL]; omega)) (bW (hn _ _ ⟨⟨_,rfl⟩,?_,?_,k.late (JO _)⟩))
   ·rw[b9 e,h5,h6]
   ·rw[bY (by omega)]; exact e'
  rintro i w ρ S2 hw ⟨⟨x6,rfl⟩,e2,l2,k2⟩
  match i,hw,e2 with
  | 0,hw,e2=>cases hw; exact step 1 0 x a _ _ S2 0 (by rfl) hx.1 ha1 (by simp[Cv,wn]) (by rfl) (by rfl) x6 e2 l2 k2
  | 1,hw,e2=>cases hw; exact step 2 0 y b _ _ S2 1 (by rfl) hy.1 hb1 (by simp[Cv,wn]) (by rfl) (by rfl) x6 e2 l2 k2
  | 2,hw,e2=>cases hw; exact step 2 1 z c _ _ S2 2 (by rfl) hz.1 hc1 (by simp[Cv,wn]) (by rfl) (by rfl) x6 e2 l2 k2
  | n+3,hw,_=>simp at hw
 ·rintro ρ S2 ⟨⟨x6,rfl⟩,e2,l2,k2⟩;have hv:=E5 hx hy hz ha hb2 hc;have e2:S2[S.length]?=gV (.dic (Cv x y z a b c 3)):=e2;refine hK _ _ ?_;clear hK K;have hlt2:=cO e2;refine bj λK hK=>?_
  refine dg rfl rfl ?_;dsimp only[wE,wA,wV,wG];refine lv (d:=d) G ⟨S2.length,aw.map (λt=>W.tup (az t)),(λk ρ S'=>(∃x7 x8 x9,ρ=[gV (.tup (af bs)),gV (.ref q),gV (.int x),gV (.int y),gV (.int z),gV (.ref S.length),x6,x7,x8,x9])/\S'[S.length]?=gV (.dic (Cv x y z a b c 3))/\S'[S2.length]?=gV (.lst (aw.map (λt=>W.tup (az t))))/\Ka S S'),rfl,⟨⟨_,_,_,rfl⟩,au e2,ak,k2.trans .push⟩,λi ρ S' h=>h.2.2.1,?_,?_⟩
  ·rintro i w ρ S3 hw ⟨⟨x7,x8,x9,rfl⟩,e3,l3,k3⟩;clear hK;rw[JJ,JC]at hw;obtain⟨t,ht,rfl⟩:=hw;obtain⟨i1,j1,h1,rfl,hi1,hj1,hh1,n1,n2,n3⟩:=zz (JT ht);obtain⟨p1,g1,r1⟩:=hv i1 j1 hi1 hj1 n1;obtain⟨p2,g2,r2⟩:=hv j1 h1 hj1 hh1 n2;obtain⟨p3,g3,r3⟩:=hv i1 h1 hi1 hh1 n3;have q3:=k3.get _ _ hq;refine ab (show gd (.tp [7,8,9]) (W.tup (az [i1,j1,h1])) [gV (.tup (af bs)),gV (.ref q),gV (.int x),gV (.int y),gV (.int z),gV (.ref S.length),x6,x7,x8,x9] S3=gV ([gV (.tup (af bs)),gV (.ref q),gV (.int x),gV (.int y),gV (.int z),gV (.ref S.length),x6,gV (.int i1),gV (.int j1),gV (.int h1)],S3)from rfl) λQ2 hn hr=>?_
   refine bj λK hK=>?_
   dsimp only[wS,wT,wE,wA,wV,wG];refine ab (oB (cX e3) g3) ⟨E6 q3,ab (oB (cX e3) g1) (ab (oB (cX e3) g2) (ab (oB (cX e3) g3) ?_))⟩;have hget:Me.get.fn (.ref q) [.tup [.int p1,.int p2],.ref S3.length] (S3++[O.lst [.int p3]])=gV ((cC kvs (cz p1 p2)).getD (.ref S3.length),S3++[O.lst [.int p3]]):=by
    have hk:ib (.tup [.int p1,.int p2])=gV (cz p1 p2):=jr;simp only[Me.fn,uf,cX (au q3),hk]
   refine ab hget ?_;have hres:∃(l:JF) (ws:Jy JL),(cC kvs (cz p1 p2)).getD (.ref S3.length)=.ref l/\(S3++[O.lst [.int p3]])[l]?=gV (.lst (af ws)):=by
    cases hg:cC kvs (cz p1 p2)with
    | none=>exact⟨S3.length,[p3],rfl,ak⟩
    | some g=>
     obtain⟨u,v,l,ws,he,_,_,_,hl,_⟩:=(hm.ka k3) _ (mn hg);injection he with _ he
     subst he;exact⟨l,ws,rfl,au hl⟩
   obtain⟨l,ws,hl1,hl2⟩:=hres;dsimp only;rw[hl1];obtain⟨kb,hkb⟩:=zA (f:=p3) hl2;refine ab hkb ?_;dsimp only[wB];refine ap (Q0:=Q2) (λ_ Q3 _ hr3=>st (hr3 _ _ (hr _ _ (k _ _ (k3.trans .push))))) λ_ Q3 hn3 _=>bW (hn3 _ _ (hK _ _ (bW (hn _ _ ⟨⟨_,_,_,rfl⟩,au e3,au l3,k3.trans .push⟩))))
  ·rintro ρ S3 ⟨⟨x7,x8,x9,rfl⟩,e3,l3,k3⟩;exact hK _ _ (st (k _ _ k3))
end
noncomputable def Fv (k:JL):Wd:=[(0,[]),(0,[k]),(0,[k,k])]
theorem Cy:∀g∈[Fv 0,Fv 1],g∈bm 1 [0,1]:=by decide +kernel
noncomputable def zC (a k:JL):Wd:=[(0,[]),(k,[0]),(a - 1,[0,0])]
theorem zD:∀k∈fj 2,zC 2 k∈bm 2 [0]:=by decide +kernel
theorem zE:∀k∈fj 3,zC 3 k∈bm 3 [0]:=by decide +kernel
theorem Cz {a x y:JL}(h:zC a x=zC a y):x=y:=by
 unfold zC at h;injection h with _ h
 injection h with h _
 injection h
theorem Dn {a n:JF}{m0 m1 m2 x y z:JL}(h0:0<=m0/\m0 < a)(h1:0<=m1/\m1 < a)(h2:0<=m2/\m2 < a)(hx:0<=x/\x < n)(hy:0<=y/\y < n)(hz:0<=z/\z < n):GoodW a n [(m0,[]),(m1,[x]),(m2,[y,z])]:=by
 refine⟨λk p h=>?_,λk p h=>?_,λk p h=>?_⟩ <;> match k,h with
 | 0,h=>cases h; first|exact h0|rfl|(intro w hw; cases hw)
 | 1,h=>cases h; first|exact h1|rfl|(intro w hw; rw[J0.mp hw]; exact hx)
 | 2,h=>cases h; first|exact h2|rfl|(intro w hw; rcases Ke.mp hw with e|hw <;> first|exact e ▸ hy|(rw[J0.mp hw]; exact hz))
 | n+3,h=>simp at h
theorem E7 {Φ:JZ->FF}{ρ:Fm}{S:aa}{i n:JF}{Q:QW}(hv:∀Q:W->Prop,Q (.int n)->wV ρ i Q)(hn:n<=3)(k:∀j:JL,0<=j->j<=27->j=(n:JL)*n*n->Q (.int j,S)):wE Φ (.op .mul (.op .mul (.v i) (.v i)) (.v i)) ρ S Q:=by
 have b1 : -(2 ^ 64) < (n:JL):=by omega
 have b2:(n:JL) < 2 ^ 64:=by omega
 have hc:(n:JL)*n*n<=27/\0<=(n:JL)*n*n:=by rcases(show n=0\/n=1\/n=2\/n=3 by omega)with h|h|h|h <;> rw[h] <;> decide
 dsimp only[wE];have em:∀m:JL,iZ .mul (.int m) (.int n) S=gV (.int (m*n),S):=λm=>qZ b1 b2
 generalize iZ .mul=B at em ⊢;refine hv _ ?_;refine hv _ ?_;refine ab (em _) ?_;refine hv _ ?_;refine ab (em _) ?_;have:=k _ hc.2 hc.1 rfl;exact this
theorem zF {Φ:JZ->FF}{fuel:JF}{ρ:Fm}{S:aa}{K:Fm->aa->Prop}{Q:QO}{i0 i n:JF}{b:Ss}(hv:∀Q:W->Prop,Q (.int n)->wV ρ i Q)(hn:n<=3)(ok:gP b=true)
  (h:∀j:JL,0<=j->j<=27->j=(n:JL)*n*n->∃I:JF->Fm->aa->Prop,I 0 ρ S/\(∀(i:JF) (ρ:Fm) (S:aa),(i:JL) < j->I i ρ S->wb Φ fuel b (ρ.set i0 (gV (.int i))) S (I (i+1)) Q)/\∀ρ S,I j.toNat ρ S->K ρ S) :
  Wp (gI Φ fuel (.loop (.nm i0) (.rng (.cons (.op .mul (.op .mul (.v i) (.v i)) (.v i)) .nil)) b) ρ S) (q8 K Q):=
 have hw:=E7 (Φ:=Φ) (S:=S) (Q:=λp=>∃(j:JL) (I:JF->Fm->aa->Prop),p.1=.int j/\(-(2 ^ 62)<=j/\j < 2 ^ 62)/\I 0 ρ p.2/\(∀(i:JF) (ρ:Fm) (S:aa),(i:JL) < j->I i ρ S->wb Φ fuel b (ρ.set i0 (gV (.int i))) S (I (i+1)) Q)/\∀ρ S,I j.toNat ρ S->K ρ S) hv hn λj j0 j27 e=>let ⟨I,h0,h1,h2⟩:=h j j0 j27 e; ⟨j,I,rfl,by omega,h0,h1,h2⟩
 mj rfl ok hw
section
variable{defs:Jy (JZ×Df)}{fuel d:JF}{S:aa}{r:JF}{Q:QW}
theorem zG (hfu:20 < fuel)(G:Gen defs)(hf:Fl S r)(k:∀w S',da w->Fl S' r->Kp r S S'->Q (w,S')):wO (bx (ar defs fuel (d+7)) "_law_laying_rule" 1 [.ref r] S) Q:=by
 refine aB G.laying_rule rfl rfl λQ' hR=>?_
 replace k:∀w S',da w->Fl S' r->Kp r S S'->Q' (.rt w,S'):=λz S' a b c=>hR _ _ (k z S' a b c)
 clear hR;show wZ _ _ cR [gV (.ref r),td,td,td,td,td,td,td,td,td,td,td,td,td,td] S Q';unfold cR;refine bj λK hK=>?_
 dsimp only[wS,wE,wA,wV,wG,JQ];refine cV (d:=d+5) G.pick hf (by decide) (by decide) λv S1 v0 v7 f1 k1=>hK _ _ ?_
 clear hK K;refine bj λK hK=>?_
 dsimp only[wS,wT,wE,wV,wG,pH,bz,wB];refine ap (Q0:=Q') (λ_ Q2 _ hr=>?_) (λ_ Q2 hn _=>bW (hn _ _ (hK _ _ ?_)))
 ·refine st ?_;dsimp only[wS,wE,wA,wV,wG];exact rs (d:=d) hfu G f1 λw S2 a b c=>hr _ _ (k w S2 a b (k1.trans c))
 clear hK K hn;refine bj λK hK=>?_
 dsimp only[wS,wT,wE,wV,wG,pH,bz,wB];refine ap (Q0:=Q') (λ_ Q2 _ hr=>?_) (λ_ Q2 hn _=>bW (hn _ _ (hK _ _ ?_)))
 ·refine st ?_;dsimp only[wS,wE,wA,wV,wG];exact wg (d:=d) hfu G f1 λw S2 a b c=>hr _ _ (k w S2 a b (k1.trans c))
 clear hK K hn;have hr1:=f1.lt;refine bj λK hK=>?_
 dsimp only[wS,wE,wA,wV,wG];refine nj (d:=d+4) G f1 λw2 S2 hw2 f2 k2=>?_
 obtain⟨bs0,q0,kvs0,most,rfl,hbs0,m1,m3,m6,hq0,hq0l,h40,hm0⟩:=hw2;dsimp only[wU];refine ab (show d7 [2,3,4] [.tup (af bs0),.ref q0,.int most] [gV (.ref r),gV (.int v),td,td,td,td,td,td,td,td,td,td,td,td,td]=gV [gV (.ref r),gV (.int v),gV (.tup (af bs0)),gV (.ref q0),gV (.int most),td,td,td,td,td,td,td,td,td,td]from rfl) (hK _ _ ?_)
 clear hK K;refine bj λK hK=>?_
 dsimp only[wS,wE,wA,wV,wG,JQ];refine cV (d:=d+5) G.pick f2 (by omega) (by omega) λv3 S3 v30 v3m f3 k3=>?_
 dsimp only[eW,bz];obtain⟨a,ea⟩ : ∃a:JF,1+v3=a:=⟨(1+v3).toNat,by omega⟩
 rw[ea];refine hK _ _ ?_;clear hK K;refine bj λK hK=>?_
 dsimp only[wS,wE,wA,wV,wG];refine sX (d:=d+4) G (S0:=S1) hbs0 f3 hr1 (k2.trans k3) (k3.get _ _ (by omega) hq0) hq0l h40 (hm0.kp hr1 k3) λbs q kvs S4 hb hbl hq hql hm f4 k4=>?_
 dsimp only[wU];refine ab (show d7 [2,3] [.tup (af bs),.ref q] [gV (.ref r),gV (.int v),gV (.tup (af bs0)),gV (.ref q0),gV (.int most),gV (.int a),td,td,td,td,td,td,td,td,td]=gV [gV (.ref r),gV (.int v),gV (.tup (af bs)),gV (.ref q),gV (.int most),gV (.int a),td,td,td,td,td,td,td,td,td]from rfl) (hK _ _ ?_)
 clear hK K;rw[<- hbl]at hm m6;have hn:bs.length=2\/bs.length=3:=by rw[hbl]; exact(zx bs0 hbs0).1
 have hsz:SizeOk a bs:=⟨by omega,hb,by
  have h1:(a:JL)*bs.length<=most*bs.length:=Int.mul_le_mul_of_nonneg_right (by omega) (by omega)
  exact_mod_cast Int.le_trans h1 m6,by omega⟩
 clear m6 hm0 hq0 hq0l h40 hbl hbs0 k2 k3 f2 f3;refine bj λK hK=>?_
 dsimp only[wS,wE,wA,wV,wG,JQ];refine gn (d:=d+1) hfu G f4 (by omega) (by omega) λms ns S5 hml hnl hnm f5 k5=>hK _ _ ?_
 clear hK K;have kk:Kp r S S5:=k1.trans (k4.trans k5);have hrt:=f5.lt;have hq5:S5[q]?=gV (.dic kvs):=k5.get _ _ (by omega) hq
 have hm5:MustE S5 bs.length S1.length kvs:=hm.kp hr1 k5;have hqn:q < S5.length:=cO hq5;clear k1 k4 k5 f4 hm hq hql f1;refine st ?_;dsimp only[wS,wE,JQ];refine bj λK hK=>?_
 dsimp only[wS,wE,wA,wV,wG,JQ];refine bH ?_;rw[show(af bs).length=bs.length from Jz ..]
 refine hK _ _ ?_;clear hK K;refine bj λK hK=>?_
 refine zF (n:=bs.length) (λQ q=>q) (by omega) rfl λj j0 j27 hj=>?_
 refine⟨(λ_ ρ S'=>(∃x9 x10 x11 x12 x13 x14,ρ=[gV (.ref r),gV (.int v),gV (.tup (af bs)),gV (.ref q),gV (.int most),gV (.int a),gV (cU ms ns bs []),gV (.ref S5.length),gV (.int bs.length),x9,x10,x11,x12,x13,x14])/\(∃kvs fs,S'[S5.length]?=gV (.dic kvs)/\FigD (bm a bs) kvs fs)/\S'[q]?=gV (.dic kvs)/\MustE S' bs.length S1.length kvs/\Fl S' r/\Kp r S S'),⟨⟨_,_,_,_,_,_,rfl⟩,⟨[],[],ak,.nil⟩,au hq5,hm5.ka .push,f5.ka .push,kk.trans .push⟩,?_,?_⟩
 ·rintro i ρ S6 hi ⟨⟨x9,x10,x11,x12,x13,x14,rfl⟩,⟨kvd,fs,e6,hd⟩,hq6,hm6,f6,k6⟩ Q2 hn2 _;clear hK k;have hnp:(0:JL) < bs.length:=by omega
  have hnb:(bs.length:JL) < 1073741824:=by omega
  have y1:0<=(i:JL) % bs.length/\(i:JL) % bs.length < bs.length:=⟨Mu _ (by omega),LZ _ hnp⟩
  have y2:0<=(i:JL) / bs.length % bs.length/\(i:JL) / bs.length % bs.length < bs.length:=⟨Mu _ (by omega),LZ _ hnp⟩
  have y3:0<=(i:JL) / bs.length / bs.length/\(i:JL) / bs.length / bs.length < bs.length:=by
   rcases hn with h|h <;> rw[h]at hj ⊢ <;> omega
  refine bj λK hK=>?_
  dsimp only[wS,wE,wA,wV,wG,JQ];refine ab (kO hnp) (ab (jW hnp hnb) (ab (kO hnp) ?_));dsimp only[w2];refine hK _ _ ?_;clear hK K;refine bj λK hK=>?_
  dsimp only[wS,wE,wA,wV,wG,JQ];refine ab (jW hnp hnb) (ab (jW hnp hnb) (hK _ _ ?_));clear hK K;dsimp only;generalize(i:JL) % bs.length=z1 at y1 ⊢;generalize(i:JL) / bs.length % bs.length=z2 at y2 ⊢;generalize(i:JL) / bs.length / bs.length=z3 at y3 ⊢;refine bj λK hK=>?_
  dsimp only[wS,wT,wA,wE,wV,wG];refine zB (d:=d+4) G hb y1 y2 y3 hq6 hm6 λb S7 k7=>?_
  dsimp only[ff,bz];refine ap (Q0:=Q2) (λ_ Q3 hn3 _=>?_) (λ_ Q3 hn3 _=>bW (hn3 _ _ (hK _ _ (bW (hn2 _ _ ⟨⟨_,_,_,_,_,_,rfl⟩,⟨kvd,fs,k7.get _ _ e6,hd⟩,k7.get _ _ hq6,hm6.ka k7,f6.ka k7,k6.trans (k7.kp r)⟩)))))
  refine bj λK3 hK3=>?_
  refine dg rfl rfl ?_;dsimp only[wE,wA,wV,wG];have h56:S5.length < S6.length:=cO e6;have h67:=k7.len;refine rq (d:=d+5) G (a:=a) (by omega) λt ts S8 e8 ht ht7 k8=>?_
  refine⟨t,ts.map fS,(λ_ ρ S'=>(∃x9 x13 x14,ρ=[gV (.ref r),gV (.int v),gV (.tup (af bs)),gV (.ref q),gV (.int most),gV (.int a),gV (cU ms ns bs []),gV (.ref S5.length),gV (.int bs.length),x9,gV (.int z1),gV (.int z2),gV (.int z3),x13,x14])/\(∃kvs fs,S'[S5.length]?=gV (.dic kvs)/\FigD (bm a bs) kvs fs)/\S'[q]?=gV (.dic kvs)/\MustE S' bs.length S1.length kvs/\S'[t]?=gV (.lst (ts.map fS))/\Fl S' r/\Kp r S S'),rfl,⟨⟨_,_,_,rfl⟩,⟨kvd,fs,k8.get _ _ (k7.get _ _ e6),hd⟩,k8.get _ _ (k7.get _ _ hq6),(hm6.ka k7).ka k8,e8,(f6.ka k7).ka k8,k6.trans ((k7.trans k8).kp r)⟩,λi ρ S' h=>h.2.2.2.2.1,?_,?_⟩
  ·rintro j w ρ S9 hw ⟨⟨x9,x13,x14,rfl⟩,⟨kvd,fs,e9,hd⟩,hq9,hm9,ht9,f9,k9⟩;clear hK3 hn3 hK hn2;rw[JJ,JC]at hw;obtain⟨⟨tr1,tr2,tr3⟩,htr,rfl⟩:=hw;obtain⟨t1,t2,t3⟩:=ht _ (JT htr);refine ab (show gd (.nm 13) (fS (tr1,tr2,tr3)) [gV (.ref r),gV (.int v),gV (.tup (af bs)),gV (.ref q),gV (.int most),gV (.int a),gV (cU ms ns bs []),gV (.ref S5.length),gV (.int bs.length),x9,gV (.int z1),gV (.int z2),gV (.int z3),x13,x14] S9=gV ([gV (.ref r),gV (.int v),gV (.tup (af bs)),gV (.ref q),gV (.int most),gV (.int a),gV (cU ms ns bs []),gV (.ref S5.length),gV (.int bs.length),x9,gV (.int z1),gV (.int z2),gV (.int z3),gV (fS (tr1,tr2,tr3)),x14],S9)from rfl) λQ4 hn4 _=>?_
   have hu:GoodW a bs.length [(tr1,[]),(tr2,[z1]),(tr3,[z2,z3])]:=Dn t1 t2 t3 y1 y2 y3;refine bj λK hK=>?_
   dsimp only[wS,wE,wA,wV,wG,JQ];refine ae (by decide) rfl (ae (by decide) rfl (hK _ _ ?_))
   clear hK K;refine st ?_;dsimp only[wS,wE,wA,wV,wG];refine ae (by decide) rfl (ab (c8 (gR rfl)) ?_)
   refine jm (d:=d+3) (m0:=.tup (ms.map W.str)) (b0:=.tup []) (u:=[(tr1,[]),(tr2,[z1]),(tr3,[z2,z3])]) G hb hnl hu rfl λS10 k10=>?_
   have e10:=k10.get _ _ e9;exact uV e10 hd hsz hu rfl λo ho=>bW (hn4 _ _ ⟨⟨_,_,_,rfl⟩,ho,by rw[bY (by omega)]; exact k10.get _ _ hq9,(hm9.ka k10).set e10,by rw[bY (by omega)]; exact k10.get _ _ ht9,(f9.ka k10).own hrt,(k9.trans (k10.kp r)).late kk.len⟩)
  ·rintro ρ S9 ⟨⟨x9,x13,x14,rfl⟩,hdd,hq9,hm9,ht9,f9,k9⟩;exact hK3 _ _ (bW (hn3 _ _ (hK _ _ (bW (hn2 _ _ ⟨⟨_,_,_,_,_,_,rfl⟩,hdd,hq9,hm9,f9,k9⟩)))))
 ·rintro ρ S6 ⟨⟨x9,x10,x11,x12,x13,x14,rfl⟩,⟨kvd,fs,e6,hd⟩,hq6,hm6,f6,k6⟩;refine hK _ _ (st ?_);dsimp only[wS,wE,wA,wV,wG];exact uU (Q:=λp=>Q' (.rt p.1,p.2)) e6 hd hsz hml hnl hnm λw S8 hw k8=>k w S8 hw (f6.ka k8) (k6.trans (k8.kp r))
end
section
variable{defs:Jy (JZ×Df)}{fuel d:JF}{S:aa}{r:JF}{Q:QW}
theorem sY (hfu:20 < fuel)(G:Gen defs)(hun:Is defs ("_law_unlaying_rule" : JZ) 1 10 bv)(hf:Fl S r)(k:∀w S',da w->Fl S' r->Kp r S S'->Q (w,S')):wO (bx (ar defs fuel (d+6)) "_law_unlaying_rule" 1 [.ref r] S) Q:=by
 refine aB hun rfl rfl λQ' hR=>?_
 replace k:∀w S',da w->Fl S' r->Kp r S S'->Q' (.rt w,S'):=λz S' a b c=>hR _ _ (k z S' a b c)
 clear hR;show wZ _ _ bv [gV (.ref r),td,td,td,td,td,td,td,td,td] S Q';unfold bv;refine bj λK hK=>?_
 dsimp only[wS,wE,wA,wV,wG,JQ];refine cV (d:=d+4) G.pick hf (by decide) (by decide) λv S1 v0 v7 f1 k1=>hK _ _ ?_
 clear hK K;have hlt:=f1.lt;refine bj λK hK=>?_
 dsimp only[wS,wT,wE,wV,wG,pH,bz,wB];refine ap (Q0:=Q') (λ_ Q2 _ hr=>?_) (λ_ Q2 hn _=>bW (hn _ _ (hK _ _ ?_)))
 ·
  refine st ?_;dsimp only[wS,wE,wA,wV,wG];refine fA 2 (λi zs ρ2 S2=>(∃a1,ρ2=[td,a1])/\zs=([Fv 0,Fv 1].take i).map aK/\S2=S1) rfl rfl rfl (by decide) ⟨rfl,⟨td,rfl⟩,rfl,rfl⟩ ?_ ?_
  ·rintro i zs ρ2 S2 hi ⟨⟨a1,rfl⟩,rfl,rfl⟩;clear k hr hK;dsimp only[iO,wC,wE,wA,wV,wG,JQ];refine⟨λ_=>⟨⟨_,rfl⟩,?_,rfl⟩,λz=>by cases z⟩
   rcases(show i=0\/i=1 by omega)with h|h
   ·subst h; rfl
   ·subst h; rfl
  ·rintro zs ρ2 S2 ⟨_,rfl,rfl⟩;refine⟨gR rfl,?_⟩;refine hX (d:=d) (a:=1) (bs:=[0,1]) (us:=[Fv 0,Fv 1]) hfu G (f1.ka .push) (by decide) (by decide) (λS' kk=>?_) (by decide) (by decide) λms ns S3 hml hnl hnm f3 k3=>?_
   ·simp only[eS,be (kk.get _ _ (by omega) ak)]; rfl
   exact hr _ _ (k _ _ ⟨1,[0,1],ms,ns,_,rfl,⟨⟨by decide,.inr (.inl rfl),by decide,by decide⟩,hml,hnl,hnm,by decide,Cy⟩⟩ f3 (k1.trans (Kp.push.trans k3)))
 clear hK K hn;refine bj λK hK=>?_
 dsimp only[wS,wT,wE,wV,wG,pH,bz,wB];refine ap (Q0:=Q') (λ_ Q2 _ hr=>?_) (λ_ Q2 hn _=>bW (hn _ _ (hK _ _ ?_)))
 ·
  clear hK;refine bj λK hK=>?_
  dsimp only[wS,wE,wA,wV,wG,JQ];refine gn (d:=d) (a:=2) (bs:=[0,1]) hfu G f1 (by decide) (by decide) λms ns S3 hml hnl hnm f3 k3=>hK _ _ ?_
  clear hK K;have hsz:SizeOk 2 [0,1]:=⟨by decide,.inr (.inl rfl),by decide,by decide⟩
  have hrt:=f3.lt;have kk:Kp r S S3:=k1.trans k3;refine st ?_;dsimp only[wS,wE,JQ];refine bj λK hK=>?_
  refine dg rfl rfl ?_;dsimp only[wE,wA,wV,wG];refine rq (d:=d+4) G (a:=2) (by decide) λq ts S4 e4 ht hq k4=>?_
  have hq':S3.length < q:=by simp only[JG,Kk,Lp]at hq; omega
  refine⟨q,ts.map fS,(λ_ ρ S'=>(∃x4 x5 x6 x7 x8 x9,ρ=[gV (.ref r),gV (.int v),gV (cU ms ns [0,1] []),gV (.ref S3.length),x4,x5,x6,x7,x8,x9])/\(∃kvs fs,S'[S3.length]?=gV (.dic kvs)/\FigD (bm 2 [0,1]) kvs fs)/\S'[q]?=gV (.lst (ts.map fS))/\Fl S' r/\Kp r S S'),rfl,⟨⟨_,_,_,_,_,_,rfl⟩,⟨[],[],k4.get _ _ ak,.nil⟩,e4,(f3.ka .push).ka k4,(kk.trans .push).trans (k4.kp r)⟩,λi ρ S' h=>h.2.2.1,?_,?_⟩
  ·rintro i w ρ S5 hw ⟨⟨x4,x5,x6,x7,x8,x9,rfl⟩,⟨kvs,fs,e5,hd⟩,hq5,f5,k5⟩;clear hK;rw[JJ,JC]at hw;obtain⟨⟨tr1,tr2,tr3⟩,htt,rfl⟩:=hw;obtain⟨t1,t2,t3⟩:=ht _ (JT htt);have h53:S3.length < S5.length:=cO e5;have hq5l:q < S5.length:=cO hq5;refine ab (show gd (.nm 4) (fS (tr1,tr2,tr3)) [gV (.ref r),gV (.int v),gV (cU ms ns [0,1] []),gV (.ref S3.length),x4,x5,x6,x7,x8,x9] S5=gV ([gV (.ref r),gV (.int v),gV (cU ms ns [0,1] []),gV (.ref S3.length),gV (fS (tr1,tr2,tr3)),x5,x6,x7,x8,x9],S5)from rfl) λQ3 hn3 _=>?_
   refine bj λK hK=>?_
   refine dg rfl rfl ?_;dsimp only[wE,wA,wV,wG];refine⟨S5.length,[(1,1,0),(1,1,1),(1,0,1),(0,1,1)].map fS,(λ_ ρ S'=>(∃x5 x6 x7 x8 x9,ρ=[gV (.ref r),gV (.int v),gV (cU ms ns [0,1] []),gV (.ref S3.length),gV (fS (tr1,tr2,tr3)),x5,x6,x7,x8,x9])/\(∃kvs fs,S'[S3.length]?=gV (.dic kvs)/\FigD (bm 2 [0,1]) kvs fs)/\S'[q]?=gV (.lst (ts.map fS))/\S'[S5.length]?=gV (.lst ([(1,1,0),(1,1,1),(1,0,1),(0,1,1)].map fS))/\Fl S' r/\Kp r S S'),rfl,⟨⟨_,_,_,_,_,rfl⟩,⟨kvs,fs,au e5,hd⟩,au hq5,ak,f5.ka .push,k5.trans .push⟩,λi ρ S' h=>h.2.2.2.1,?_,?_⟩
   ·rintro i w ρ S6 hw ⟨⟨x5,x6,x7,x8,x9,rfl⟩,⟨kvs,fs,e6,hd⟩,hq6,hl6,f6,k6⟩;clear hK hn3;rw[JJ,JC]at hw;obtain⟨⟨y1,y2,y3⟩,hy,rfl⟩:=hw;have hy':(0<=y1/\y1 < 2)/\(0<=y2/\y2 < 2)/\(0<=y3/\y3 < 2):=by
     have:∀p∈([(1,1,0),(1,1,1),(1,0,1),(0,1,1)]:Jy (JL×JL×JL)),(0<=p.1/\p.1 < 2)/\(0<=p.2.1/\p.2.1 < 2)/\(0<=p.2.2/\p.2.2 < 2):=by decide
     exact this _ (JT hy)
    refine ab (show gd (.tp [5,6,7]) (fS (y1,y2,y3)) [gV (.ref r),gV (.int v),gV (cU ms ns [0,1] []),gV (.ref S3.length),gV (fS (tr1,tr2,tr3)),x5,x6,x7,x8,x9] S6=gV ([gV (.ref r),gV (.int v),gV (cU ms ns [0,1] []),gV (.ref S3.length),gV (fS (tr1,tr2,tr3)),gV (.int y1),gV (.int y2),gV (.int y3),x8,x9],S6)from rfl) λQ4 hn4 _=>?_
    refine bj λK hK=>?_
    dsimp only[wS,wE,wA,wV,wG,JQ];refine ae (by decide) rfl (ae (by decide) rfl (hK _ _ ?_))
    clear hK K;have hu:GoodW 2 2 [(tr1,[]),(tr2,[y1]),(tr3,[y2,y3])]:=Dn t1 t2 t3 hy'.1 hy'.2.1 hy'.2.2;refine st ?_;dsimp only[wS,wE,wA,wV,wG];refine ae (by decide) rfl (ab (c8 (gR rfl)) ?_)
    refine jm (d:=d+2) (m0:=.tup (ms.map W.str)) (b0:=.tup []) (bs:=[0,1]) (u:=[(tr1,[]),(tr2,[y1]),(tr3,[y2,y3])]) G (.inr (.inl rfl)) hnl hu rfl λS7 k7=>?_
    have e7:=k7.get _ _ e6;exact uV e7 hd hsz hu rfl λo ho=>bW (hn4 _ _ ⟨⟨_,_,_,_,_,rfl⟩,ho,by rw[bY (by omega)]; exact k7.get _ _ hq6,by rw[bY (by omega)]; exact k7.get _ _ hl6,(f6.ka k7).own hrt,(k6.trans (k7.kp r)).late kk.len⟩)
   ·rintro ρ S6 ⟨⟨x5,x6,x7,x8,x9,rfl⟩,hdd,hq6,hl6,f6,k6⟩;exact hK _ _ (bW (hn3 _ _ ⟨⟨_,_,_,_,_,_,rfl⟩,hdd,hq6,f6,k6⟩))
  ·rintro ρ S5 ⟨⟨x4,x5,x6,x7,x8,x9,rfl⟩,⟨kvs,fs,e5,hd⟩,hq5,f5,k5⟩;refine hK _ _ (st ?_);dsimp only[wS,wE,wA,wV,wG];exact uU (Q:=λp=>Q2 (.rt p.1,p.2)) e5 hd hsz hml hnl hnm λw S8 hw k8=>hr _ _ (k w S8 hw (f5.ka k8) (k5.trans (k8.kp r)))
 clear hK K hn;refine bj λK hK=>?_
 dsimp only[wS,wE,wA,wV,wG,JQ];refine cV (d:=d+4) G.pick f1 (by decide) (by decide) λv2 S2 v20 v22 f2 k2=>?_
 dsimp only[eW,bz];obtain⟨a,ea⟩ : ∃a:JF,2+v2=a:=⟨(2+v2).toNat,by omega⟩
 rw[ea];have ha:a=2\/a=3:=by omega
 refine hK _ _ ?_;clear hK K;refine bj λK hK=>?_
 dsimp only[wS,wE,JQ];refine fA (a:JL) (λi zs ρ2 S3=>(∃a1,ρ2=[td,a1,gV (.int a)])/\zs=((fj i).map (zC a)).map aK/\S3=S2) rfl rfl rfl (by omega) ⟨rfl,⟨td,rfl⟩,rfl,rfl⟩ ?_ ?_
 ·rintro i zs ρ2 S3 hi ⟨⟨a1,rfl⟩,rfl,rfl⟩;dsimp only[iO,wC,wE,wA,wV,wG,JQ,jh,bz];refine⟨λ_=>⟨⟨_,rfl⟩,?_,rfl⟩,λz=>by cases z⟩
  simp[fj,KO,zC,aK,aO]
 ·rintro zs ρ2 S3 ⟨_,rfl,rfl⟩;rw[JW];have hul:(fj a).length=a:=by simp[fj]
  refine⟨mV (by rw[Jz,Jz,hul]; omega),hK _ _ (st ?_)⟩
  clear hK K;dsimp only[wS,wE,wA,wP,wV,wG];refine cV (d:=d+4) G.pick (f2.ka .push) (by omega) (by omega) λv4 S4 v40 v4a f4 k4=>?_
  dsimp only[eW,bz,wN];obtain⟨mm,em⟩ : ∃mm:JF,1+v4=mm:=⟨(1+v4).toNat,by omega⟩
  rw[em];have hlt2:=f2.lt;have e4:S4[S3.length]?=gV (.lst (((fj a).map (zC a)).map aK)):=k4.get _ _ (by omega) ak
  have hsl:sB (.ref S3.length) td (gV (mm:JL)) S4=gV (.ref S4.length,S4++[.lst ((((fj a).map (zC a)).take mm).map aK)]):=by
   simp only[sB,be e4,fR,MT]
  refine ab hsl ?_;have hlt4:=f4.lt;have hmem:∀g∈((fj a).map (zC a)).take mm,g∈bm a [0]:=λg hg=>by
   obtain⟨x,hx,rfl⟩:=J4.mp (MG hg);rcases ha with rfl|rfl
   ·exact zD x hx
   ·exact zE x hx
  refine hX (d:=d) (a:=a) (bs:=[0]) (us:=((fj a).map (zC a)).take mm) hfu G (f4.ka .push) (by omega) (by decide) (λS' kk=>?_) (by rw[Kf,Jz,hul]; omega) (λu hu=>rm (hmem u hu)) λms ns S5 hml hnl hnm f5 k5=>?_
  ·simp only[eS,be (kk.get _ _ (by omega) ak)]
  refine k _ _ ⟨a,[0],ms,ns,_,rfl,⟨⟨by omega,jp,by simp; omega,by omega⟩,hml,hnl,hnm,?_,hmem⟩⟩ f5 (k1.trans (k2.trans (Kp.push.trans (k4.trans (Kp.push.trans k5)))))
  refine RY (PB _ _) ?_;unfold RX fj;rw[NS,NS];exact(List.nodup_range (n:=a)).imp λh e=>h (by have:=Cz e; omega)
end
noncomputable def uZ:Ss:=
 (.cons (.ite (.cmp .gt (.v 2) (.v 3)) (.cons (.ret (.ix (.ix (.ix (.v 1) (.v 2)) (.c (.int 1))) (.v 3)))
 .nil) .nil)
 (.cons (.ret (.ix (.ix (.ix (.v 0) (.c (.int 1))) (.ix (.ix (.ix (.v 1) (.v 3)) (.c (.int 1))) (.v 2))) (.c (.int 1))))
 .nil))
noncomputable def j6:Ss:=
 (.cons (.ret (.bi .tuple (.cons (.comp (.own "point_over" 4 (.cons (.v 4) (.cons (.v 5) (.cons (.sl (.v 3) .no (.yes (.v 1))) (.cons (.v 2) .nil))))) (.tp [1,2]) (.enu (.cons (.v 2) .nil)) .nil [td,td,td,gV 2,gV 0,gV 1]) .nil)))
 .nil)
noncomputable def eF:Ss:=
 (.cons (.ret (.tup (.cons (.ix (.ix (.v 1) (.v 3)) (.c (.int 0))) (.cons (.bi .tuple (.cons (.comp (.own "way" 4 (.cons (.v 3) (.cons (.v 4) (.cons (.v 2) (.cons (.v 1) .nil))))) (.nm 1) (.seq (.v 2)) .nil [td,td,gV 3,gV 0,gV 1]) .nil)) .nil))))
 .nil)
section
variable{defs:Jy (JZ×Df)}{fuel d:JF}{S:aa}{r:JF}{Q:QW}
theorem zH {Φ:JZ->FF}{m0 b0:W}{ns:Jy JZ}{bs:Jy JL}{a:JF}{u:Wd}{i j:JF}{Q:QO}(hb:GoodB bs)(hl:ns.length=bs.length)(hu:GoodW a bs.length u)(hi:i < u.length)(hj:j < u.length)(hij:i≠j)(k:Q (.rt (.int (cy bs u i j)),S)) :
  wZ Φ fuel uZ [gV (.tup [m0,.tup (JR aU ns bs),b0]),gV (aK u),gV (.int i),gV (.int j)] S Q:=by
 have hpi:=ay (d:=(0,[])) hi;have hpj:=ay (d:=(0,[])) hj;unfold cy at k;dsimp only[uZ];refine bj λK hK=>?_
 dsimp only[wS,wT,wE,wV,wG,EZ,wO,wB,aK];refine ap (Q0:=Q) (λh Q2 _ hr=>?_) (λh Q2 hn _=>?_)
 ·have hji:j < i:=by have:=K4 h; omega
  rw[Kd hji]at k;have hw:j < (u.getD i (0,[])).2.length:=by rw[hu.len i _ hpi]; exact hji
  refine st ?_;dsimp only[wS,wE,wV,wG];refine ae (JS i) (eh hi) (ae (by decide) rfl (ae (JS j) ?_ (hr _ _ k)))
  rw[JW,JJ,ay (d:=0) hw]; rfl
 ·have hji:¬ j < i:=by have:=MX h; omega
  rw[Ku hji]at k;refine bW (hn _ _ (hK _ _ ?_));clear hn hK;have hw:i < (u.getD j (0,[])).2.length:=by rw[hu.len j _ hpj]; omega
  have hg:=ay (d:=0) hw;obtain⟨g1,g2⟩:=hu.way j _ hpj _ (JT hg);obtain⟨b,hb1,hb2,hb3⟩:=hb.rng ((u.getD j (0,[])).2.getD i 0).toNat (by omega)
  have hn:((u.getD j (0,[])).2.getD i 0).toNat < ns.length:=by omega
  rw[getD_some hb1]at k;refine st ?_;dsimp only[wS,wE,wV,wG];refine ae (by decide) rfl (ae (JS j) (eh hj) (ae (by decide) rfl (ae (JS i) ?_ (ae g1 (jZ (JX hn) hb1) (ae (by decide) rfl k)))))
  rw[JW,JJ,hg]; rfl
structure Parts (defs:Jy (JZ×Df)):Prop where
 way:Is defs ("way" : JZ) 4 4 uZ
 over:Is defs ("point_over" : JZ) 4 4 eF
theorem Hh (P:Parts defs){m0 b0:W}{ns:Jy JZ}{bs:Jy JL}{a:JF}{u:Wd}{i j:JF}(hb:GoodB bs)(hl:ns.length=bs.length)(hu:GoodW a bs.length u)(hi:i < u.length)(hj:j < u.length)(hij:i≠j)(k:Q (.int (cy bs u i j),S)) :
  wO (bx (ar defs fuel (d+1)) "way" 4 [.tup [m0,.tup (JR aU ns bs),b0],aK u,.int i,.int j] S) Q:=
 aB P.way rfl rfl λQ' hR=>zH hb hl hu hi hj hij (hR _ _ k)
theorem E8 (P:Parts defs){m0 b0:W}{ns:Jy JZ}{bs:Jy JL}{a:JF}{u:Wd}{ps:Jy JF}{i:JF}(hb:GoodB bs)(hl:ns.length=bs.length)(hu:GoodW a bs.length u)(hps:∀p∈ps,p < u.length/\i≠p)(hi:i < u.length)(hsz:ps.length<=1000)(k:∀S',Ka S S'->Q (aO ((u.getD i (0,[])).1,ps.map λq=>cy bs u i q),S')) :
  wO (bx (ar defs fuel (d+2)) "point_over" 4 [.tup [m0,.tup (JR aU ns bs),b0],aK u,.tup (az ps),.int i] S) Q:=by
 refine aB P.over rfl rfl λQ' hR=>?_
 replace k:∀S',Ka S S'->Q' (.rt (aO ((u.getD i (0,[])).1,ps.map λq=>cy bs u i q)),S'):=λS' a=>hR _ _ (k S' a)
 clear hR;show wZ _ _ eF [gV (.tup [m0,.tup (JR aU ns bs),b0]),gV (aK u),gV (.tup (az ps)),gV (.int i)] S Q';generalize hR0:W.tup [m0,.tup (JR aU ns bs),b0]=R;dsimp only[eF];refine st ?_;dsimp only[wS,wE,wA,wV,wG];refine ae (JS i) (eh hi) (ae (by decide) rfl ?_)
 refine uL (az ps) (λj ys ρ2 S2=>(∃a1,ρ2=[td,a1,gV (.int i),gV R,gV (aK u)])/\ys=(ps.take j).map (λq=>W.int (cy bs u i q))/\Ka S S2) rfl rfl rfl ⟨rfl,⟨td,rfl⟩,rfl,.refl⟩ ?_ ?_
 ·rintro j w ys ρ2 S2 hw ⟨⟨a1,rfl⟩,rfl,k2⟩;unfold az at hw;rw[JJ,JC]at hw;obtain⟨q,hq,rfl⟩:=hw;obtain⟨hqu,hqi⟩:=hps q (JT hq);refine ab (show gd (.nm 1) (.int (q:JL)) [td,a1,gV (.int i),gV R,gV (aK u)] S2=gV ([td,gV (.int (q:JL)),gV (.int i),gV R,gV (aK u)],S2)from rfl) ?_
  dsimp only[iO,wC,wE,wA,wV,wG];subst hR0;refine⟨λ_=>Hh (d:=d) P hb hl hu hi hqu hqi ⟨⟨_,rfl⟩,?_,k2⟩,λz=>by cases z⟩
  rw[Kt,hq];simp
 ·rintro ys ρ2 S2 ⟨_,rfl,k2⟩;rw[show(az ps).length=ps.length from Jz ..,Kw]
  refine⟨mV (by rw[Jz]; exact hsz),gB ak ?_⟩
  have:=k _ (k2.trans (Ka.push (o:=O.lst (ps.map λq=>W.int (cy bs u i q)))))
  unfold aO at this;rw[LI]at this;exact this
theorem Hi (P:Parts defs)(hp:Is defs ("part" : JZ) 3 3 j6){m0 b0:W}{ns:Jy JZ}{bs:Jy JL}{a:JF}{u:Wd}{ps:Jy JF}(hb:GoodB bs)(hl:ns.length=bs.length)(hu:GoodW a bs.length u)(hps:∀p∈ps,p < u.length)(hnd:ps.Nodup)(hsz:ps.length<=1000)(k:∀S',Ka S S'->Q (aK (aq bs u ps),S')) :
  wO (bx (ar defs fuel (d+3)) "part" 3 [.tup [m0,.tup (JR aU ns bs),b0],aK u,.tup (az ps)] S) Q:=by
 refine aB hp rfl rfl λQ' hR=>?_
 replace k:∀S',Ka S S'->Q' (.rt (aK (aq bs u ps)),S'):=λS' a=>hR _ _ (k S' a)
 clear hR;show wZ _ _ j6 [gV (.tup [m0,.tup (JR aU ns bs),b0]),gV (aK u),gV (.tup (az ps))] S Q';generalize hR0:W.tup [m0,.tup (JR aU ns bs),b0]=R;dsimp only[j6];refine st ?_;dsimp only[wS,wE,wA];refine Ch (az ps) (λj ys ρ2 S2=>(∃a1 a2,ρ2=[td,a1,a2,gV (.tup (az ps)),gV R,gV (aK u)])/\ys=((aq bs u ps).take j).map aO/\Ka S S2) rfl rfl rfl ⟨rfl,⟨td,td,rfl⟩,rfl,.refl⟩ ?_ ?_
 ·rintro j w ys ρ2 S2 hw ⟨⟨a1,a2,rfl⟩,rfl,k2⟩;unfold az at hw;rw[JJ,JC]at hw;obtain⟨q,hq,rfl⟩:=hw;have hj:j < ps.length:=(JU.mp hq).1;have eq:q=ps[j]:=(JU.mp hq).2.symm;refine ab (show gd (.tp [1,2]) (.tup [.int (j:JL),.int (q:JL)]) [td,a1,a2,gV (.tup (az ps)),gV R,gV (aK u)] S2=gV ([td,gV (.int (j:JL)),gV (.int (q:JL)),gV (.tup (az ps)),gV R,gV (aK u)],S2)from rfl) ?_
  dsimp only[iO,wC,wE,wA,wP,wV,wG,wN];refine⟨λ_=>ab (a:=(.tup (az (ps.take j)),S2)) ?_ ?_,λz=>by cases z⟩
  ·simp only[sB,fR];unfold az;rw[MT]
  ·subst hR0;refine E8 (d:=d) P hb hl hu (λp hp=>⟨hps p (MG hp),?_⟩) (hps q (JT hq)) (by rw[Kf]; omega) λS3 k3=>⟨⟨_,_,rfl⟩,?_,k2.trans k3⟩
   ·obtain⟨m,hm,e⟩:=Nm.mp hp;rw[Kf]at hm;rw[M5]at e;rw[eq,<- e];intro z;have:=(LV hnd).mp z;omega
   ·have ep:(aq bs u ps)[j]?=gV ((u.getD q (0,[])).1,(ps.take j).map λq'=>cy bs u q q'):=by
     unfold aq;rw[JJ,LQ hj,Kq,getD_some hq]
    rw[Kt,ep];simp
 ·rintro ys ρ2 S2 ⟨_,rfl,k2⟩;rw[show(az ps).length=ps.length from Jz ..,<- cb bs u ps,Kw]
  exact⟨mV (by rw[Jz,cb]; exact hsz),gB ak (k _ (k2.trans .push))⟩
end
section
variable{S:aa}{Q:QW}
theorem wo (n:JF):Bm 0 ((n:JL) - 0).toNat=az (JN n):=by
 unfold Bm az;rw[show((n:JL) - 0).toNat=n by omega]
 exact KJ λk _=>by rw[Nx]
theorem CA {i n:JF}(h:S[i]?=gV (.rng 0 n))(hn:n<=1000)(q:Q (.ref S.length,S++[.lst (az (JN n))])):wO (Bi.list.fn [.ref i] S) Q:=by
 refine ab ?_ q;have h1:xT S i=gV (0,(n:JL)):=by simp[xT,h]
 have h2:kJ [.ref i] S=gV (.ref S.length,S++[.lst (az (JN n))]):=by
  simp only[kJ,h1];rw[Kd ⟨by omega,by omega,by omega,by omega,by rw[KL]; omega⟩,wo]
 simp only[Bi.fn,Ft,h2]
end
theorem zI {Φ:JZ->FF}{ρ:Fm}{S:aa}{a b:E}{x y:JL}{Q:QW}(ha:∀Q:QW,Q (.int x,S)->wE Φ a ρ S Q)(hb:∀Q:QW,Q (.int y,S)->wE Φ b ρ S Q)(h1 : -(2 ^ 64) < y)(h2:y < 2 ^ 64)(q:Q (.int (x*y),S)):wE Φ (.op .mul a b) ρ S Q:=by
 have em:iZ .mul (.int x) (.int y) S=gV (.int (x*y),S):=qZ h1 h2;dsimp only[wE];refine ha _ ?_;refine hb _ ?_;dsimp only;rw[em];exact q
section
variable{defs:Jy (JZ×Df)}{fuel d:JF}{S:aa}{r:JF}{Q:QW}
theorem Hj {t l:JF}{xs ys:Jy W}(h:S[t]?=gV (.lst xs))(h2:S[l]?=gV (.lst ys))(hl:xs.length+ys.length<=1000)(q:Q (.non,S.set t (.lst (xs++ys)))):wO (Me.extend.fn (.ref t) [.ref l] S) Q:=by
 refine ab ?_ q;simp only[Me.fn,i9,ey h,ey h2];rw[Kd (mV hl)]
end
noncomputable def u4 (bs:Jy JL)(v:Wd)(ps:Jy JF)(i:JF):Pt:=((v.getD i (0,[])).1,ps.map λq=>cy bs v i q)
noncomputable def gT (n:JF)(os:Jy (Jy JF)):Jy (Jy JF):=os.flatMap λo=>((JN n).filter λp=>decide (p∉o)).map λp=>o++[p]
theorem oD (bs:Jy JL)(v:Wd)(o:Jy JF)(p:JF):aq bs v (o++[p])=aq bs v o++[u4 bs v o p]:=by
 unfold aq u4;rw[JG,KT,KO,Kb];congr 1
 ·refine KJ λk hk=>?_
  have hk:=JY.mp hk;rw[show(o++[p]).getD k 0=o.getD k 0 by simp[Kn hk],List.take_append_of_le_length (by omega)]
 ·simp
theorem rE {n:JF}:∀os:Jy (Jy JF),(gT n os).length<=os.length*n
 | []=>by simp[gT]
 | o::os=>by
  have ih:=rE (n:=n) os;unfold gT at ih ⊢;rw[Mf,JG,Jz,Kk,Oc];have:=KC (λp=>decide (p∉o)) (JN n)
  rw[J6]at this;omega
theorem wp {n:JF}{os:Jy (Jy JF)}{i:JF}:(gT n (os.take i)).length<=os.length*n:=by
 refine J8 (rE _) (Nn _ ?_);rw[Kf]; omega
theorem rF {p:JF}:∀ps:Jy JF,((az ps).any λz=>mY z (.int p))=decide (p∈ps)
 | []=>rfl
 | q::ps=>by
  show((q:JL)==(p:JL)||(az ps).any _)=_
  rw[rF ps]
  by_cases h:q=p
  ·subst h; simp
  ·have h1:((q:JL)==(p:JL))=false:=by simp; omega
   have h2:¬ p=q:=λe=>h e.symm
   rw[h1]; simp[h2]
theorem wq (ps:Jy JF):(az ps).all bG=true:=by
 rw[J3];intro x hx;obtain⟨p,_,rfl⟩:=J4.mp hx;rfl
theorem zJ {S:aa}{p:JF}{ps:Jy JF}:cv .notin (.int p) (.tup (az ps)) S=gV (.bl (decide (p∉ps)),S):=by
 show gK .notin (.int p) (.tup (az ps)) S=_;have hf:(bG (.int p)&&(az ps).all bG)=true:=by rw[wq]; rfl
 simp only[gK,Bh,xO,eQ,hf,L1,Kq,rF];congr 3
 by_cases h:p∈ps <;> simp[h]
noncomputable def ce:Ss:=
 (.cons (.set 2 (.lst .nil))
 (.cons (.loop (.nm 3) (.seq (.v 0)) (.cons (.ex (.me .extend (.v 2) (.cons (.comp (.op .add (.v 2) (.tup (.cons (.v 1) .nil))) (.nm 1) (.rng (.cons (.v 1) .nil)) (.cons (.cmp .notin (.v 1) (.v 2)) .nil) [td,td,gV 3]) .nil)))
 .nil))
 (.cons (.ret (.v 2))
 .nil)))
noncomputable def c7 (os:Jy (Jy JF)):Jy W:=os.map λo=>.tup (az o)
section
variable{defs:Jy (JZ×Df)}{fuel d:JF}{S:aa}{Q:QW}
theorem sZ {t l:JF}{xs ys:Jy W}(h:S[t]?=gV (.lst xs))(h2:S[l]?=gV (.lst ys))(hl:xs.length+ys.length<=1000000)(q:Q (.non,S.set t (.lst (xs++ys)))):wO (Me.extend.fn (.ref t) [.ref l] S) Q:=by
 refine ab ?_ q;simp only[Me.fn,i9,ey h,ey h2];rw[Kd (by rw[KL]; omega)]
theorem gE {n:JF}(h:n<=1000000):n<=sizeLine:=by rw[KL]; omega
theorem zK (hg:Is defs ("longer_orders" : JZ) 2 4 ce){n l:JF}{os:Jy (Jy JF)}(e:S[l]?=gV (.lst (c7 os)))(hn:n<=100)(hol:∀o∈os,o.length<=100)(hos:os.length*n<=100000)
  (k:∀(q:JF) (S':aa),S'[q]?=gV (.lst (c7 (gT n os)))->S.length<=q->Ka S S'->Q (.ref q,S')) :
  wO (bx (ar defs fuel (d+1)) "longer_orders" 2 [.ref l,.int n] S) Q:=by
 refine aB hg rfl rfl λQ' hR=>?_
 replace k:∀(q:JF) (S':aa),S'[q]?=gV (.lst (c7 (gT n os)))->S.length<=q->Ka S S'->Q' (.rt (.ref q),S'):=λa b c e f=>hR _ _ (k a b c e f)
 clear hR;show wZ _ _ ce [gV (.ref l),gV (.int n),td,td] S Q';have hlS:=cO e;dsimp only[ce];refine st ?_;dsimp only[wS,wE,wA,JQ];refine bj λK hK=>?_
 refine lu l (c7 os) (λi ρ S'=>(∃a3,ρ=[gV (.ref l),gV (.int n),gV (.ref S.length),a3])/\S'[l]?=gV (.lst (c7 os))/\S'[S.length]?=gV (.lst (c7 (gT n (os.take i))))/\Ka S S') rfl rfl ⟨rfl,⟨td,rfl⟩,au e,ak,.push⟩ (λi ρ S' h=>h.2.1) ?_ ?_
 ·rintro i w ρ S1 hw ⟨⟨a3,rfl⟩,e0,e1,k1⟩;clear hK k;unfold c7 at hw;rw[JJ,JC]at hw;obtain⟨o,ho,rfl⟩:=hw;have hol:=hol o (JT ho);refine ab (show gd (.nm 3) (.tup (az o)) [gV (.ref l),gV (.int n),gV (.ref S.length),a3] S1=gV ([gV (.ref l),gV (.int n),gV (.ref S.length),gV (.tup (az o))],S1)from rfl) ?_
  intro Q2 hn _;refine st ?_;dsimp only[wS,wE,wA,wV,wG];refine⟨dQ e1,?_⟩;refine fA (n:JL) (λj ys ρ2 S2=>(∃a1,ρ2=[td,a1,gV (.tup (az o))])/\ys=c7 (((JN j).filter λp=>decide (p∉o)).map λp=>o++[p])/\S2=S1) rfl rfl rfl (by omega) ⟨rfl,⟨td,rfl⟩,rfl,rfl⟩ ?_ ?_
  ·rintro j ys ρ2 S2 hj ⟨⟨a1,rfl⟩,rfl,rfl⟩;dsimp only[iO,wC,wE,wA,wV,wG,JQ];refine ab zJ ?_;dsimp only[wB];have er:(JN (j+1)).filter (λp=>decide (p∉o))=(JN j).filter (λp=>decide (p∉o))++(if j∉o then[j]else[]):=by
    rw[KO,Lj];congr 1
    by_cases h:j∈o <;> simp[h]
   refine⟨λh=>?_,λh=>⟨⟨_,rfl⟩,?_,rfl⟩⟩
   ·have h:j∉o:=K4 h;refine ab (c8 (gE (by rw[JG,show(az o).length=o.length from Jz ..]; show _+1<=_; omega))) ⟨⟨_,rfl⟩,?_,rfl⟩
    rw[er,Kd h,Kb];unfold c7;rw[Kb];simp[az]
   ·have h:¬ j∉o:=MX h;rw[er,Ku h,K6]
  ·rintro ys ρ2 S2 ⟨_,rfl,rfl⟩;rw[JW];have hlen:(c7 (((JN n).filter λp=>decide (p∉o)).map λp=>o++[p])).length<=n:=by
    unfold c7;rw[Jz,Jz];exact J8 (KC _ _) (by rw[J6]; exact JO _)
   have e1':=au (u:=O.lst (c7 (((JN n).filter λp=>decide (p∉o)).map λp=>o++[p]))) e1
   have hlt:=wp (n:=n) (os:=os) (i:=i);have hlw:(c7 (gT n (os.take i))).length=(gT n (os.take i)).length:=Jz ..;refine⟨gE (by omega),sZ e1' ak (by omega) (bW (hn _ _ ⟨⟨_,rfl⟩,?_,?_,(k1.trans .push).late (JO _)⟩))⟩
   ·rw[bY (by omega)]; exact au e0
   ·rw[b9 e1'];unfold gT c7;rw[Kt,ho];simp
 ·rintro ρ S1 ⟨⟨a3,rfl⟩,e0,e1,k1⟩;rw[show(c7 os).length=os.length from Jz ..,Kw]at e1
  exact hK _ _ (st (k _ _ e1 (JO _) k1))
end
noncomputable def cm:Ss:=
 (.cons (.set 4 (.tup (.cons (.ix (.ix (.v 0) (.v 1)) (.c (.int 0))) (.cons (.tup .nil) .nil))))
 (.cons (.set 5 (.tup (.cons (.ix (.ix (.v 0) (.v 2)) (.c (.int 0))) (.cons (.tup (.cons (.ix (.ix (.ix (.v 0) (.v 2)) (.c (.int 1))) (.v 1)) .nil)) .nil))))
 (.cons (.ret (.tup (.cons (.v 4) (.cons (.v 5) (.cons (.tup (.cons (.ix (.ix (.v 0) (.v 3)) (.c (.int 0))) (.cons (.tup (.cons (.ix (.ix (.ix (.v 0) (.v 3)) (.c (.int 1))) (.v 1)) (.cons (.ix (.ix (.ix (.v 0) (.v 3)) (.c (.int 1))) (.v 2)) .nil))) .nil))) .nil)))))
 .nil)))
noncomputable def dR (u:Wd)(i j k:JF):Wd:=[((u.getD i (0,[])).1,[]),((u.getD j (0,[])).1,[(u.getD j (0,[])).2.getD i 0]),((u.getD k (0,[])).1,[(u.getD k (0,[])).2.getD i 0,(u.getD k (0,[])).2.getD j 0])]
section
variable{defs:Jy (JZ×Df)}{fuel d:JF}{S:aa}{Q:QW}
theorem u5 (hg:Is defs ("three_at" : JZ) 4 6 cm){a n:JF}{u:Wd}{i j k:JF}(hu:GoodW a n u)(h1:i < j)(h2:j < k)(h3:k < u.length)(q:Q (aK (dR u i j k),S)) :
  wO (bx (ar defs fuel (d+1)) "three_at" 4 [aK u,.int i,.int j,.int k] S) Q:=by
 refine aB hg rfl rfl λQ' hR=>?_
 replace q:=hR _ _ q;clear hR;show wZ _ _ cm [gV (aK u),gV (.int i),gV (.int j),gV (.int k),td,td] S Q';have hi:i < u.length:=by omega
 have hj:j < u.length:=by omega
 have lj:i < (u.getD j (0,[])).2.length:=by rw[hu.len j _ (ay (d:=(0,[])) hj)]; exact h1
 have lk:j < (u.getD k (0,[])).2.length:=by rw[hu.len k _ (ay (d:=(0,[])) h3)]; exact h2
 have lki:i < (u.getD k (0,[])).2.length:=by omega
 have w:∀ {p m:JF},m < (u.getD p (0,[])).2.length->((u.getD p (0,[])).2.map W.int)[((m:JF):JL).toNat]?=gV (.int ((u.getD p (0,[])).2.getD m 0)):=λ{p m} h=>by
  rw[JW,JJ,ay (d:=0) h]; rfl
 dsimp only[cm];refine st ?_;dsimp only[wS,wE,wA,wV,wG,JQ];refine ae (JS i) (eh hi) (ae (by decide) rfl ?_)
 refine st ?_;dsimp only[wS,wE,wA,wV,wG,JQ];refine ae (JS j) (eh hj) (ae (by decide) rfl (ae (JS j) (eh hj) (ae (by decide) rfl (ae (JS i) (w lj) ?_))))
 refine st ?_;dsimp only[wS,wE,wA,wV,wG,JQ];exact ae (JS k) (eh h3) (ae (by decide) rfl (ae (JS k) (eh h3) (ae (by decide) rfl (ae (JS i) (w lki) (ae (JS k) (eh h3) (ae (by decide) rfl (ae (JS j) (w lk) q)))))))
end
noncomputable def dC (kvs:Jy (T×W))(u:Wd)(i j k:JF):Kc:=(cC kvs (fM (dR u i j k))).isSome
structure HasD (kvs:Jy (T×W))(L:Jy Wd):Prop where
 iff:∀t,t∈kvs.map (·.1)↔t∈L.map fM
 len:kvs.length<=L.length
theorem zL {kvs:Jy (T×W)}{t:T}:(cC kvs t).isSome=true↔t∈kvs.map (·.1):=by
 constructor
 ·intro h;obtain⟨v,hv⟩:=KR.mp h;exact J4.mpr ⟨_,mn hv,rfl⟩
 ·intro h;obtain⟨p,hp,rfl⟩:=J4.mp h;obtain⟨v,hv⟩:=uW hp;rw[hv]; rfl
theorem HasD.get {kvs:Jy (T×W)}{L:Jy Wd}(h:HasD kvs L)(t:T):(cC kvs t).isSome=decide (t∈L.map fM):=by
 rw[LC,zL,h.iff,Kh]
theorem HasD.nil:HasD [] []:=⟨λt=>by simp,JO _⟩
theorem HasD.put {kvs:Jy (T×W)}{L:Jy Wd}{f:Wd}{v:W}(h:HasD kvs L):HasD (fg kvs (fM f) v) (L++[f]):=by
 refine⟨λt=>?_,?_⟩
 ·rw[j3,Kb,Ko,<- h.iff t]
  by_cases hk:fM f∈kvs.map (·.1)
  ·rw[Kd hk];constructor
   ·exact .inl
   ·rintro(z|z)
    ·exact z
    ·rw[J0.mp z]; exact hk
  ·rw[Ku hk,Ko]; rfl
 ·have:=dy kvs (fM f) v;have:=h.len;rw[JG,KT]; omega
noncomputable def fT:Ss:=
 (.cons (.set 1 .dnew)
 (.cons (.loop (.nm 2) (.seq (.ix (.v 0) (.c (.int 2)))) (.cons (.loop (.nm 3) (.seq (.own "_law_turns" 0 .nil)) (.cons (.put (.v 1) (.own "_law_part" 3 (.cons (.v 0) (.cons (.v 2) (.cons (.v 3) .nil)))) (.c (.bl true)))
 .nil))
 .nil))
 (.cons (.ret (.v 1))
 .nil)))
noncomputable def dA (bs:Jy JL)(gs:Jy Wd):Jy Wd:=gs.flatMap λg=>aw.map (aq bs g)
theorem mo (bs:Jy JL):∀gs:Jy Wd,(dA bs gs).length=6*gs.length
 | []=>rfl
 | g::gs=>by
  have:=mo bs gs;unfold dA at this ⊢;rw[Mf,JG,this,Kk,Jz,show aw.length=6 from rfl]; omega
section
variable{defs:Jy (JZ×Df)}{fuel d:JF}{S:aa}{Q:QW}
theorem Hk (G:Gen defs)(hg:Is defs ("_law_bad" : JZ) 1 4 fT){m0:W}{ns:Jy JZ}{bs:Jy JL}{a:JF}{gs:Jy Wd}(hb:GoodB bs)(hnl:ns.length=bs.length)(hgs:∀g∈gs,GoodW a bs.length g/\g.length=3)(h64:gs.length<=100)
  (k:∀(q:JF) (kvs:Jy (T×W)) (S':aa),S'[q]?=gV (.dic kvs)->HasD kvs (dA bs gs)->S.length<=q->Ka S S'->Q (.ref q,S')) :
  wO (bx (ar defs fuel (d+3)) "_law_bad" 1 [.tup [m0,.tup (JR aU ns bs),.tup (gs.map aK)]] S) Q:=by
 refine aB hg rfl rfl λQ' hR=>?_
 replace k:∀(q:JF) (kvs:Jy (T×W)) (S':aa),S'[q]?=gV (.dic kvs)->HasD kvs (dA bs gs)->S.length<=q->Ka S S'->Q' (.rt (.ref q),S'):=λa b c e f g h=>hR _ _ (k a b c e f g h)
 clear hR;show wZ _ _ fT [gV (.tup [m0,.tup (JR aU ns bs),.tup (gs.map aK)]),td,td,td] S Q';generalize hR0:W.tup [m0,.tup (JR aU ns bs),.tup (gs.map aK)]=R;dsimp only[fT];refine st ?_;dsimp only[wS,wE,JQ];refine bj λK hK=>?_
 refine for_tup (gs.map aK) (λi ρ S'=>(∃a2 a3,ρ=[gV R,gV (.ref S.length),a2,a3])/\(∃kvs,S'[S.length]?=gV (.dic kvs)/\HasD kvs (dA bs (gs.take i)))/\Ka S S') rfl rfl ?_ ?_ ?_
 ·dsimp only[wE,wV,wG];subst hR0;exact ae (by decide) rfl ⟨rfl,⟨_,_,rfl⟩,⟨[],ak,.nil⟩,.push⟩
 ·rintro i w ρ S1 hw ⟨⟨a2,a3,rfl⟩,⟨kvs,e1,h1⟩,k1⟩;clear hK k;rw[JJ,JC]at hw;obtain⟨g,hg1,rfl⟩:=hw;obtain⟨gg,g3⟩:=hgs g (JT hg1);have hi:i < gs.length:=(JU.mp hg1).1;refine ab (show gd (.nm 2) (aK g) [gV R,gV (.ref S.length),a2,a3] S1=gV ([gV R,gV (.ref S.length),gV (aK g),a3],S1)from rfl) ?_
  intro Q2 hn _;refine bj λK hK=>?_
  refine dg rfl rfl ?_;dsimp only[wE,wA];refine lv (d:=d+1) G ?_;refine⟨S1.length,aw.map (λt=>W.tup (az t)),(λj ρ S'=>(∃a3,ρ=[gV R,gV (.ref S.length),gV (aK g),a3])/\(∃kvs,S'[S.length]?=gV (.dic kvs)/\HasD kvs (dA bs (gs.take i)++(aw.take j).map (aq bs g)))/\S'[S1.length]?=gV (.lst (aw.map λt=>W.tup (az t)))/\Ka S S'),rfl,⟨⟨_,rfl⟩,⟨kvs,au e1,by rw[OO,Od,K6]; exact h1⟩,ak,k1.trans .push⟩,λj ρ S' h=>h.2.2.1,?_,?_⟩
  ·rintro j w ρ S2 hw ⟨⟨a3,rfl⟩,⟨kvs2,e2,h2⟩,el,k2⟩;clear hK hn;rw[JJ,JC]at hw;obtain⟨t,ht,rfl⟩:=hw;have htm:=JT ht;have tk:t.length<=3/\t.Nodup/\∀p∈t,p < 3:=by
    have:∀t∈aw,t.length<=3/\t.Nodup/\∀p∈t,p < 3:=by decide
    exact this t htm
   refine ab (show gd (.nm 3) (.tup (az t)) [gV R,gV (.ref S.length),gV (aK g),a3] S2=gV ([gV R,gV (.ref S.length),gV (aK g),gV (.tup (az t))],S2)from rfl) ?_
   intro Q3 hn3 _;refine st ?_;dsimp only[wS,wE,wA,wV,wG];subst hR0;refine zf (d:=d) G hb hnl gg (λp hp=>by have:=tk.2.2 p hp; omega) tk.2.1 (by omega) λS3 k3=>?_
   have e3:=k3.get _ _ e2;have hlt:kvs2.length < sizeLine:=by
    have b1:=h2.len;have b2:=mo bs (gs.take i);rw[JG,b2,Jz,Kf,Kf,show aw.length=6 from rfl]at b1
    rw[KL]; omega
   refine ab (zq e3 hlt) (bW (hn3 _ _ ⟨⟨_,rfl⟩,⟨_,b9 e3,?_⟩,?_,(k2.trans k3).late (JO _)⟩))
   ·rw[Kt,ht,Kb,<- My];exact h2.put
   ·rw[bY (by have:=k1.len; have:=cO e1; omega)]; exact k3.get _ _ el
  ·rintro ρ S2 ⟨⟨a3,rfl⟩,⟨kvs2,e2,h2⟩,el,k2⟩;rw[Jz,Kw]at h2;refine hK _ _ (bW (hn _ _ ⟨⟨_,_,rfl⟩,⟨kvs2,e2,?_⟩,k2⟩));unfold dA at h2 ⊢;rw[Kt,hg1,LB]
   simpa using h2
 ·rintro ρ S1 ⟨⟨a2,a3,rfl⟩,⟨kvs,e1,h1⟩,k1⟩;rw[Jz,Kw]at h1;exact hK _ _ (st (k _ kvs S1 e1 h1 (JO _) k1))
end
noncomputable def cJ:Ss:=
 (.cons (.set 1 (.lst (.cons (.tup .nil) .nil)))
 (.cons (.whl (.cmp .lt (.bi .len (.cons (.ix (.v 1) (.c (.int 0))) .nil)) (.c (.int 3))) (.cons (.set 1 (.own "longer_orders" 2 (.cons (.v 1) (.cons (.c (.int 3)) .nil))))
 .nil))
 (.cons (.set 2 .dnew)
 (.cons (.loop (.nm 3) (.seq (.ix (.v 0) (.c (.int 2)))) (.cons (.loop (.nm 4) (.seq (.v 1)) (.cons (.put (.v 2) (.own "part" 3 (.cons (.v 0) (.cons (.v 3) (.cons (.v 4) .nil)))) (.c (.bl true)))
 .nil))
 .nil))
 (.cons (.ret (.v 2))
 .nil)))))
noncomputable def wt:JF->Jy (Jy JF)
 | 0=>[[]]
 | i+1=>gT 3 (wt i)
theorem wu:wt 3=aw:=by decide
theorem E9:∀i,i<=3->(∃o,(wt i)[0]?=gV o/\o.length=i)/\(wt i).length<=6/\∀o∈wt i,o.length<=3:=λi hi=>by
 rcases(show i=0\/i=1\/i=2\/i=3 by omega)with rfl|rfl|rfl|rfl
 ·exact⟨⟨[],rfl,rfl⟩,by decide,by decide⟩
 ·exact⟨⟨[0],rfl,rfl⟩,by decide,by decide⟩
 ·exact⟨⟨[0,1],rfl,rfl⟩,by decide,by decide⟩
 ·exact⟨⟨[0,1,2],rfl,rfl⟩,by decide,by decide⟩
section
variable{defs:Jy (JZ×Df)}{fuel d:JF}{S:aa}{Q:QW}
theorem zM (hfu:20 < fuel)(P:Parts defs)(hp:Is defs ("part" : JZ) 3 3 j6)(hl:Is defs ("longer_orders" : JZ) 2 4 ce)(hg:Is defs ("barred_threes" : JZ) 1 5 cJ){m0:W}{ns:Jy JZ}{bs:Jy JL}{a:JF}{gs:Jy Wd}(hb:GoodB bs)(hnl:ns.length=bs.length)(hgs:∀g∈gs,GoodW a bs.length g/\g.length=3)(h64:gs.length<=100)
  (k:∀(q:JF) (kvs:Jy (T×W)) (S':aa),S'[q]?=gV (.dic kvs)->HasD kvs (dA bs gs)->S.length<=q->Ka S S'->Q (.ref q,S')) :
  wO (bx (ar defs fuel (d+4)) "barred_threes" 1 [.tup [m0,.tup (JR aU ns bs),.tup (gs.map aK)]] S) Q:=by
 refine aB hg rfl rfl λQ' hR=>?_
 replace k:∀(q:JF) (kvs:Jy (T×W)) (S':aa),S'[q]?=gV (.dic kvs)->HasD kvs (dA bs gs)->S.length<=q->Ka S S'->Q' (.rt (.ref q),S'):=λa b c e f g h=>hR _ _ (k a b c e f g h)
 clear hR;show wZ _ _ cJ [gV (.tup [m0,.tup (JR aU ns bs),.tup (gs.map aK)]),td,td,td,td] S Q';generalize hR0:W.tup [m0,.tup (JR aU ns bs),.tup (gs.map aK)]=R;dsimp only[cJ];refine st ?_;dsimp only[wS,wE,wA,JQ];refine bj λK hK=>?_
 refine Hb (λm ρ S'=>∃(i q:JF),i+m=3/\ρ=[gV R,gV (.ref q),td,td,td]/\S'[q]?=gV (.lst (c7 (wt i)))/\S.length<=q/\Ka S S') 3 rfl rfl (by omega) ⟨0,S.length,rfl,rfl,ak,JO _,.push⟩ ?_
 rintro m ρ S1 ⟨i,q,him,rfl,e1,hq,k1⟩;obtain⟨⟨o,ho,hol⟩,l6,l3⟩:=E9 i (by omega)
 dsimp only[wT,wE,wA,wV,wG];refine ox (w:=.tup (az o)) e1 (by decide) (by unfold c7; rw[JJ,show((0:JL).toNat)=0 from rfl,ho]; rfl) (bH ?_)
 rw[show(az o).length=o.length from Jz ..,hol]
 dsimp only[yT,bz,wB];refine⟨λh=>?_,λh=>?_⟩
 ·have h:(i:JL) < 3:=K4 h;refine⟨m - 1,by omega,λQ2 hn _=>?_⟩
  clear hK k;refine st ?_;dsimp only[wS,wE,wA,wV,wG,JQ];refine zK (n:=3) (d:=d+2) hl e1 (by decide) (λo ho=>by have:=l3 o ho; omega) (by omega) λq2 S2 e2 hq2 k2=>bW (hn _ _ ⟨i+1,q2,by omega,rfl,e2,?_,k1.trans k2⟩)
  exact J8 k1.len hq2
 ·have h:¬ (i:JL) < 3:=MX h;obtain rfl:i=3:=by omega
  rw[wu]at e1;refine hK _ _ ?_;clear hK K l6 l3 ho hol h him;refine st ?_;dsimp only[wS,wE,JQ];refine bj λK hK=>?_
  have hq1:=cO e1;refine for_tup (gs.map aK) (λi ρ S'=>(∃a3 a4,ρ=[gV R,gV (.ref q),gV (.ref S1.length),a3,a4])/\(∃kvs,S'[S1.length]?=gV (.dic kvs)/\HasD kvs (dA bs (gs.take i)))/\S'[q]?=gV (.lst (c7 aw))/\Ka S S') rfl rfl ?_ ?_ ?_
  ·dsimp only[wE,wV,wG];subst hR0;exact ae (by decide) rfl ⟨rfl,⟨_,_,rfl⟩,⟨[],ak,.nil⟩,au e1,k1.trans .push⟩
  ·rintro i w ρ S2 hw ⟨⟨a3,a4,rfl⟩,⟨kvs,e2,h2⟩,el2,k2⟩;clear hK k;rw[JJ,JC]at hw;obtain⟨g,hg1,rfl⟩:=hw;obtain⟨gg,g3⟩:=hgs g (JT hg1);have hi:i < gs.length:=(JU.mp hg1).1;refine ab (show gd (.nm 3) (aK g) [gV R,gV (.ref q),gV (.ref S1.length),a3,a4] S2=gV ([gV R,gV (.ref q),gV (.ref S1.length),gV (aK g),a4],S2)from rfl) ?_
   intro Q2 hn _;refine bj λK hK=>?_
   refine lu q (c7 aw) (λj ρ S'=>(∃a4,ρ=[gV R,gV (.ref q),gV (.ref S1.length),gV (aK g),a4])/\(∃kvs,S'[S1.length]?=gV (.dic kvs)/\HasD kvs (dA bs (gs.take i)++(aw.take j).map (aq bs g)))/\S'[q]?=gV (.lst (c7 aw))/\Ka S S') rfl rfl ⟨rfl,⟨_,rfl⟩,⟨kvs,e2,by rw[OO,Od,K6]; exact h2⟩,el2,k2⟩ (λj ρ S' h=>h.2.2.1) ?_ ?_
   ·rintro j w ρ S3 hw ⟨⟨a4,rfl⟩,⟨kvs3,e3,h3⟩,el3,k3⟩;clear hK hn;unfold c7 at hw;rw[JJ,JC]at hw;obtain⟨t,ht,rfl⟩:=hw;have tk:t.length<=3/\t.Nodup/\∀p∈t,p < 3:=by
     have:∀t∈aw,t.length<=3/\t.Nodup/\∀p∈t,p < 3:=by decide
     exact this t (JT ht)
    refine ab (show gd (.nm 4) (.tup (az t)) [gV R,gV (.ref q),gV (.ref S1.length),gV (aK g),a4] S3=gV ([gV R,gV (.ref q),gV (.ref S1.length),gV (aK g),gV (.tup (az t))],S3)from rfl) ?_
    intro Q3 hn3 _;refine st ?_;dsimp only[wS,wE,wA,wV,wG];subst hR0;refine Hi (d:=d) P hp hb hnl gg (λp hp=>by have:=tk.2.2 p hp; omega) tk.2.1 (by omega) λS4 k4=>?_
    have e4:=k4.get _ _ e3;have hlt:kvs3.length < sizeLine:=by
     have b1:=h3.len;have b2:=mo bs (gs.take i);rw[JG,b2,Jz,Kf,Kf,show aw.length=6 from rfl]at b1
     rw[KL]; omega
    refine ab (zq e4 hlt) (bW (hn3 _ _ ⟨⟨_,rfl⟩,⟨_,b9 e4,?_⟩,?_,(k3.trans k4).late k1.len⟩))
    ·rw[Kt,ht,Kb,<- My];exact h3.put
    ·rw[bY (by omega)]; exact k4.get _ _ el3
   ·rintro ρ S3 ⟨⟨a4,rfl⟩,⟨kvs3,e3,h3⟩,el3,k3⟩;rw[show(c7 aw).length=aw.length from Jz ..,Kw]at h3
    refine hK _ _ (bW (hn _ _ ⟨⟨_,_,rfl⟩,⟨kvs3,e3,?_⟩,el3,k3⟩));unfold dA at h3 ⊢;rw[Kt,hg1,LB]
    simpa using h3
  ·rintro ρ S2 ⟨⟨a3,a4,rfl⟩,⟨kvs,e2,h2⟩,el2,k2⟩;rw[Jz,Kw]at h2;exact hK _ _ (st (k _ kvs S2 e2 h2 k1.len k2))
end
noncomputable def bp (kvs:Jy (T×W))(u:Wd)(mk:JL)(i m:JF)(x y:JL):Kc:=(cC kvs (fM [((u.getD i (0,[])).1,[]),((u.getD m (0,[])).1,[(u.getD m (0,[])).2.getD i 0]),(mk,[x,y])])).isSome
theorem aT {u:Wd}{h:Pt}{p:JF}(hp:p < u.length):(u++[h]).getD p (0,[])=u.getD p (0,[]):=by
 rw[J7,J7,Kn hp]
theorem cG {u:Wd}{h:Pt}:(u++[h]).getD u.length (0,[])=h:=by
 rw[J7,KF (JO _),M6]; rfl
noncomputable def Std (kvs:Jy (T×W))(u:Wd):Prop:=∀k < u.length,∀j < k,∀i < j,dC kvs u i j k=false
theorem Std.snoc {kvs:Jy (T×W)}{u:Wd}{m:JL}{to:Jy JL}(h:Std kvs u)(hb:∀j < u.length,∀i < j,bp kvs u m i j (to.getD i 0) (to.getD j 0)=false):Std kvs (u++[(m,to)]):=by
 intro k hk j hj i hi;rw[JG,KT]at hk
 by_cases e:k=u.length
 ·subst e;have:=hb j hj i hi;unfold bp at this;unfold dC dR;rw[aT (Mb hi hj),aT hj,cG];exact this
 ·have hk':k < u.length:=by omega
  have:=h k hk' j hj i hi;unfold dC dR at this ⊢;rw[aT (Mb hi (Mb hj hk')),aT (Mb hj hk'),aT hk'];exact this
section
variable{Φ:JZ->FF}{ρ:Fm}{S:aa}
theorem zN {α:Type}{elt:E}{it:Ie}{cs:Es}{cap:Jy (JE JF)}{mi:MI}{S1:aa}{Q:QW}(L:Jy α)(f:α->W)(p:α->Kc)(g:α->W)(R:Fm)(oe:ee elt=true)(oc:q9 cs=true)(hc:gD cap ρ=td::td::R)(hl:L.length<=1000000)(hi:lV Φ it ρ S=gV (mi,S1))(k1:Ka S S1)(hat:∀i S',Ka S1 S'->mi.at S' i=gV (L.map f)[i]?)(hn:mi.len S1=gV (L.map f).length)
  (hstep:∀x∈L,∀S',Ka S S'->iO Φ elt cs (td::gV (f x)::R) S' (λy _ S2=>p x=true/\y=g x/\Ka S' S2) (λ_ S2=>p x=false/\Ka S' S2))
  (k:∀S',Ka S S'->Q (.ref S'.length,S'++[.lst ((L.filter p).map g)])):Wp (aP Φ (.comp elt (.nm 1) it cs cap) ρ S) Q:=by
 rw[yS];refine⟨_,hi,_,hn,?_⟩;refine(eu (xs:=L.map f) (Q:=λq=>q.1.length<=sizeLine/\Q (.ref q.2.length,q.2++[.lst q.1])) (λi ys ρ' S'=>(∃a1,ρ'=td::a1::R)/\ys=((L.take i).filter p).map g/\Ka S1 S') (λi ys ρ' S' h=>hat i S' h.2.2) (λi w ys ρ' S' hw h=>?_) (λys ρ' S' h=>?_) (L.map f).length 0 [] _ S1 (by omega) ⟨⟨td,hc⟩,rfl,.refl⟩).mono λq hq=>by simpa using hq
 ·obtain⟨⟨a1,rfl⟩,rfl,k2⟩:=h;rw[JJ,JC]at hw;obtain⟨x,hx,rfl⟩:=hw;refine IL.mpr ?_;refine(Dj oc (hstep x (JT hx) S' (k1.trans k2))).mono λc hc=>⟨λz=>(bP elt oe (hc.1 z)).mono λy hy=>⟨⟨_,rfl⟩,?_,k2.trans hy.2.2⟩,λz=>⟨⟨_,rfl⟩,?_,k2.trans (hc.2 z).2⟩⟩
  ·rw[Kt,hx,Lj,show(Rb (gV x)).filter p=[x]from List.filter_cons_of_pos hy.1,Kb,hy.2.1]; rfl
  ·rw[Kt,hx,Lj,show(Rb (gV x)).filter p=[]from List.filter_cons_of_neg (by rw[(hc.2 z).1]; exact J5),K6]
 ·obtain⟨_,rfl,k2⟩:=h;dsimp only;rw[show(L.map f).length=L.length from Jz ..,Kw]
  refine⟨gE ?_,k S' (k1.trans k2)⟩;rw[Jz];exact J8 (KC _ _) hl
theorem j7 {α:Type}{elt e:E}{cs:Es}{cap:Jy (JE JF)}{Q:QW}(L:Jy α)(f:α->W)(p:α->Kc)(g:α->W)(R:Fm)(oi:ee e=true)(oe:ee elt=true)(oc:q9 cs=true)(hc:gD cap ρ=td::td::R)(hl:L.length<=1000000)
  (he:wE Φ e ρ S λq=>∃t,q.1=.ref t/\q.2[t]?=gV (.lst (L.map f))/\Ka S q.2)
  (hstep:∀x∈L,∀S',Ka S S'->iO Φ elt cs (td::gV (f x)::R) S' (λy _ S2=>p x=true/\y=g x/\Ka S' S2) (λ_ S2=>p x=false/\Ka S' S2))
  (k:∀S',Ka S S'->Q (.ref S'.length,S'++[.lst ((L.filter p).map g)])):Wp (aP Φ (.comp elt (.nm 1) (.seq e) cs cap) ρ S) Q:=by
 obtain⟨w,S1,e1,t,rfl,ht,k1⟩:=c9 oi he;exact zN (mi:=.live t) L f p g R oe oc hc hl (by simp only[lV,gA,e1,be ht]) k1 (λi S' h=>by simp only[MI.at,be (h.get _ _ ht)]) (by simp only[MI.len,be ht,Kq]) hstep k
theorem rG (n:JF):dJ 0 n=(JN n).map λi=>W.int (i:JF):=by
 unfold dJ;refine KJ λi _=>?_
 rw[Nx]
theorem pP {elt e:E}{cs:Es}{cap:Jy (JE JF)}{Q:QW}(n:JF)(p:JF->Kc)(g:JF->W)(R:Fm)(oi:ee e=true)(oe:ee elt=true)(oc:q9 cs=true)(hc:gD cap ρ=td::td::R)(hl:n<=1000000)
  (he:wE Φ e ρ S λq=>q.1=.int n/\Ka S q.2)
  (hstep:∀x < n,∀S',Ka S S'->iO Φ elt cs (td::gV (.int (x:JF))::R) S' (λy _ S2=>p x=true/\y=g x/\Ka S' S2) (λ_ S2=>p x=false/\Ka S' S2))
  (k:∀S',Ka S S'->Q (.ref S'.length,S'++[.lst (((JN n).filter p).map g)])):Wp (aP Φ (.comp elt (.nm 1) (.rng (.cons e .nil)) cs cap) ρ S) Q:=by
 obtain⟨w,S1,e1,rfl,k1⟩:=c9 oi he;refine zN (mi:=.its (dJ 0 n)) (JN n) (λi=>W.int (i:JF)) p g R oe oc hc (by rw[J6]; exact hl) ?_ k1 (λi S' _=>by rw[<- rG]; rfl) (by rw[<- rG]; rfl) (λx hx=>hstep x (JY.mp hx)) k
 simp only[lV,dN,eT,jR,sK,e1];rw[Kd ⟨by omega,by omega⟩]; rfl
theorem fU {α:Type}(L:Jy α):L.filter (λ_=>true)=L:=OZ.mpr λ_ _=>rfl
end
noncomputable def dO (kvs:Jy (T×W))(u:Wd)(h:Pt)(p q:JF):Kc:=(cC kvs (fM [((u.getD p (0,[])).1,[]),((u.getD q (0,[])).1,[(u.getD q (0,[])).2.getD p 0]),(h.1,[h.2.getD p 0,h.2.getD q 0])])).isSome
theorem mv {kvs:Jy (T×W)}{u:Wd}{h:Pt}{p q:JF}(h1:p < q)(h2:q < u.length):dC kvs (u++[h]) p q u.length=dO kvs u h p q:=by
 unfold dC dO dR;rw[aT (Mb h1 h2),aT h2,cG]
theorem mw {u:Wd}{p s:JF}(h:p < s):(u.take s).getD p (0,[])=u.getD p (0,[]):=by
 rw[J7,J7,MP h]
noncomputable def js (kvs:Jy (T×W))(v:Wd):Kc:=(JN (v.length - 2)).all λp=>!dC kvs v p (v.length - 2) (v.length - 1)
theorem wx {kvs:Jy (T×W)}{u:Wd}{h:Pt}{s:JF}(hs:s < u.length):js kvs (u.take (s+1)++[h])=(JN s).all λp=>!dO kvs u h p s:=by
 have hl:(u.take (s+1)).length=s+1:=by rw[Kf]; omega
 unfold js;rw[JG,hl,KT,show s+1+1 - 2=s by omega,show s+1+1 - 1=s+1 by omega,LC,J3,J3]
 refine O8 λp=>O8 λhp=>?_
 have hp:=JY.mp hp;have e:=mv (kvs:=kvs) (u:=u.take (s+1)) (h:=h) (p:=p) (q:=s) hp (by omega)
 rw[hl]at e;rw[e];unfold dO;rw[mw (by omega),mw (by omega)]
noncomputable def dH (n:JF)(hs:Jy Pt):Jy Pt:=hs.flatMap λh=>(JN n).map λ(w:JF)=>(h.1,h.2++[(w:JL)])
noncomputable def dv (kvs:Jy (T×W))(u:Wd)(n:JF)(m:JL):JF->Jy Pt
 | 0=>[(m,[])]
 | s+1=>(dH n (dv kvs u n m s)).filter λh=>js kvs (u.take (s+1)++[h])
noncomputable def my (kvs:Jy (T×W))(u:Wd)(a n:JF):Jy Pt:=(JN a).flatMap λ(m:JF)=>dv kvs u n (m:JL) u.length
theorem aV {ws:Jy JL}{x:JL}{p:JF}(hp:p < ws.length):(ws++[x]).getD p 0=ws.getD p 0:=by
 rw[J7,J7,Kn hp]
theorem mz {kvs:Jy (T×W)}{u:Wd}{m x:JL}{ws:Jy JL}{p q:JF}(h1:p < q)(h2:q < ws.length):dO kvs u (m,ws++[x]) p q=dO kvs u (m,ws) p q:=by
 unfold dO;dsimp only;rw[aV (Mb h1 h2),aV h2]
theorem eL {kvs:Jy (T×W)}{u:Wd}{n:JF}{m:JL}:∀ {s:JF} {h:Pt},s<=u.length->(h∈dv kvs u n m s↔h.1=m/\h.2.length=s/\(∀w∈h.2,0<=w/\w < (n:JL))/\∀p q,p < q->q < s->dO kvs u h p q=false)
 | 0,h,_=>by
  rw[dv,J0];constructor
  ·rintro rfl;exact⟨rfl,rfl,(λw hw=>nomatch hw),λp q _ h=>absurd h (Qq _)⟩
  ·rintro⟨h1,h2,_⟩;rw[<- h1,<- No h2]
 | s+1,h,hs=>by
  rw[dv,KW,wx (by omega),J3]
  unfold dH;rw[KA];constructor
  ·rintro⟨⟨h0,hm,hw⟩,hb⟩;obtain⟨w,hwr,rfl⟩:=J4.mp hw;obtain⟨h1,h2,h3,h4⟩:=(eL (by omega)).mp hm
   have hwr:=JY.mp hwr;refine⟨h1,by rw[JG,h2]; rfl,λx hx=>?_,λp q hpq hq=>?_⟩
   ·rcases Ko.mp hx with z|z
    ·exact h3 x z
    ·rw[J0.mp z]; omega
   ·by_cases e:q=s
    ·subst e;have:=hb p (JY.mpr hpq)
     simpa using this
    ·rw[mz hpq (by omega)]; exact h4 p q hpq (by omega)
  ·rintro⟨h1,h2,h3,h4⟩;obtain⟨m',ws⟩:=h;dsimp only at h1 h2 h3 h4;have hne:ws≠[]:=λz=>by rw[z]at h2; cases h2
   have hd:=Nr hne;have hx:=h3 _ (List.getLast_mem hne);generalize ws.getLast hne=x at hd hx;have hdl:ws.dropLast.length=s:=by rw[Np]; omega
   generalize ws.dropLast=vs at hd hdl;subst hd;refine⟨⟨(m',vs),(eL (by omega)).mpr ⟨h1,hdl,λw hw=>h3 w (Lv _ hw),λp q hpq hq=>?_⟩,?_⟩,λp hp=>?_⟩
   ·rw[<- mz (x:=x) hpq (by omega)]; exact h4 p q hpq (by omega)
   ·exact J4.mpr ⟨x.toNat,JY.mpr (by omega),by dsimp only; rw[show((x.toNat:JF):JL)=x by omega]⟩
   ·rw[h4 p s (JY.mp hp) (by omega)]; rfl
theorem fW {kvs:Jy (T×W)}{u:Wd}{n:JF}{m:JL}:∀s:JF,(dv kvs u n m s).length<=n ^ s
 | 0=>JO _
 | s+1=>by
  rw[dv];refine J8 (KC _ _) ?_;have:=fW (kvs:=kvs) (u:=u) (n:=n) (m:=m) s;have e:∀hs:Jy Pt,(dH n hs).length=hs.length*n:=λhs=>by
   unfold dH
   induction hs with
   | nil=>simp
   | cons h hs ih=>rw[Mf,JG,ih,Jz,J6,Kk,Oc]; omega
  rw[e,Rs];exact Nn _ this
theorem oE {n:JF}(hs:Jy Pt):(dH n hs).length=hs.length*n:=by
 unfold dH
 induction hs with
 | nil=>simp
 | cons h hs ih=>rw[Mf,JG,ih,Jz,J6,Kk,Oc]; omega
theorem fX {kvs:Jy (T×W)}{u:Wd}{a n:JF}{h:Pt}:h∈my kvs u a n↔(0<=h.1/\h.1 < a)/\h.2.length=u.length/\(∀w∈h.2,0<=w/\w < (n:JL))/\∀p q,p < q->q < u.length->dO kvs u h p q=false:=by
 unfold my;rw[KA];constructor
 ·rintro⟨m,hm,hh⟩;obtain⟨h1,h2⟩:=(eL (JO _)).mp hh;have:=JY.mp hm;exact⟨by omega,h2⟩
 ·rintro⟨h1,h2⟩;exact⟨h.1.toNat,JY.mpr (by omega),(eL (JO _)).mpr ⟨by omega,h2⟩⟩
noncomputable def bI:Ss:=
 (.cons (.set 2 (.op .sub (.bi .len (.cons (.v 1) .nil)) (.c (.int 1))))
 (.cons (.loop (.nm 3) (.rng (.cons (.op .sub (.v 2) (.c (.int 1))) .nil)) (.cons (.ite (.cmp .isin (.own "three_at" 4 (.cons (.v 1) (.cons (.v 3) (.cons (.op .sub (.v 2) (.c (.int 1))) (.cons (.v 2) .nil))))) (.v 0)) (.cons (.ret (.v 3))
 .nil) .nil)
 .nil))
 (.cons (.ret (.c .non))
 .nil)))
noncomputable def dh:Ss:=
 (.cons (.set 3 (.lst .nil))
 (.cons (.loop (.nm 4) (.rng (.cons (.bi .len (.cons (.ix (.v 0) (.c (.int 0))) .nil)) .nil)) (.cons (.set 5 (.lst (.cons (.tup (.cons (.v 4) (.cons (.tup .nil) .nil))) .nil)))
 (.cons (.loop (.nm 6) (.rng2 (.cons (.c (.int 1)) (.cons (.op .add (.bi .len (.cons (.v 2) .nil)) (.c (.int 1))) .nil))) (.cons (.set 5 (.comp (.v 1) (.nm 1) (.seq (.own "longer_wishes" 2 (.cons (.v 0) (.cons (.v 5) .nil)))) (.cons (.cmp .is (.own "first_bar" 2 (.cons (.v 2) (.cons (.op .add (.sl (.v 4) .no (.yes (.v 3))) (.tup (.cons (.v 1) .nil))) .nil))) (.c .non)) .nil) [td,td,gV 1,gV 6,gV 2]))
 .nil))
 (.cons (.ex (.me .extend (.v 3) (.cons (.v 5) .nil)))
 .nil))))
 (.cons (.ret (.v 3))
 .nil)))
noncomputable def cf:Ss:=
 (.cons (.set 2 (.lst .nil))
 (.cons (.loop (.tp [3,4]) (.seq (.v 1)) (.cons (.ex (.me .extend (.v 2) (.cons (.comp (.tup (.cons (.v 2) (.cons (.op .add (.v 3) (.tup (.cons (.v 1) .nil))) .nil))) (.nm 1) (.rng (.cons (.bi .len (.cons (.ix (.v 0) (.c (.int 1))) .nil)) .nil)) .nil [td,td,gV 3,gV 4]) .nil)))
 .nil))
 (.cons (.ret (.v 2))
 .nil)))
theorem mB {kvs:Jy (T×W)}{v:Wd}{s:JF}(hs:v.length=s+2):js kvs v=true↔∀i < s,dC kvs v i s (s+1)=false:=by
 unfold js;rw[hs,show s+2 - 2=s from rfl,show s+2 - 1=s+1 from rfl,J3]
 refine O8 λi=>?_
 rw[JY,Le]
theorem wy {a n s:JF}{u:Wd}(hu:GoodW a n u):GoodW a n (u.take s):=by
 have key:∀(k:JF) (x:Pt),(u.take s)[k]?=gV x->u[k]?=gV x:=λk x e=>by
  rw[Pp]at e;split at e
  ·exact e
  ·cases e
 exact⟨λk x e=>hu.mark k x (key k x e),λk x e=>hu.len k x (key k x e),λk x e=>hu.way k x (key k x e)⟩
section
variable{defs:Jy (JZ×Df)}{fuel d:JF}{S:aa}{Q:QW}
theorem kP (h3:Is defs ("three_at" : JZ) 4 6 cm)(hg:Is defs ("first_bar" : JZ) 2 4 bI){a n q:JF}{v:Wd}{kvs:Jy (T×W)}(hv:GoodW a n v)(h2:2<=v.length)(hl:v.length<=1000)(e:S[q]?=gV (.dic kvs))(k:∀w,((w=.non/\js kvs v=true)\/∃i:JL,w=.int i/\js kvs v=false)->Q (w,S)) :
  wO (bx (ar defs fuel (d+2)) "first_bar" 2 [.ref q,aK v] S) Q:=by
 refine aB hg rfl rfl λQ' hR=>?_
 replace k:∀w,((w=.non/\js kvs v=true)\/∃i:JL,w=.int i/\js kvs v=false)->Q' (.rt w,S):=λw h=>hR _ _ (k w h)
 clear hR;show wZ _ _ bI [gV (.ref q),gV (aK v),td,td] S Q';have ul:(v.map aO).length=v.length:=Jz ..;obtain⟨s,hs⟩ : ∃s,v.length=s+2:=⟨v.length - 2,by omega⟩
 dsimp only[bI];refine st ?_;dsimp only[wS,wE,wA,wV,wG,JQ];refine bH (ab jh ?_);rw[ul,show((v.length:JF):JL) - 1=((s+1:JF):JL) by omega]
 refine bj λK hK=>?_
 refine cD (s:JL) (λi ρ S'=>(∃a3,ρ=[gV (.ref q),gV (aK v),gV (.int ((s+1:JF):JL)),a3])/\S'=S/\∀i' < i,dC kvs v i' s (s+1)=false) rfl rfl (by omega) ?_ ?_ ?_
 ·dsimp only[wE,wV,wG];refine ab jh ⟨?_,⟨_,rfl⟩,rfl,λi' z=>by omega⟩
  dsimp only;rw[show((s+1:JF):JL) - 1=(s:JL) by omega]
 ·rintro i ρ S1 hi ⟨⟨a3,rfl⟩,rfl,no⟩ Q2 hn hr;clear hK;dsimp only[JQ];refine bj λK hK=>?_
  dsimp only[wS,wT,wE,wA,wV,wG];refine ab jh ?_;dsimp only;rw[show((s+1:JF):JL) - 1=(s:JL) by omega]
  refine u5 (d:=d) h3 hv (by omega) (Mm s) (by omega) ?_
  refine ab (show cv .isin (aK (dR v i s (s+1))) (.ref q) S1=gV (.bl (dC kvs v i s (s+1)),S1) by simp only[cv,cX e,pM]; rfl) ?_
  dsimp only[wB];refine ap (Q0:=Q2) (λh Q5 _ hr5=>?_) (λh Q5 hn5 _=>bW (hn5 _ _ (hK _ _ (bW (hn _ _ ⟨⟨_,rfl⟩,rfl,λi' z=>?_⟩)))))
  ·refine st ?_;dsimp only[wS,wE,wV,wG];refine hr5 _ _ (hr _ _ (k _ (.inr ⟨i,rfl,?_⟩)));rw[PV];intro z;rw[(mB hs).mp z i (by omega)]at h
   cases h
  ·by_cases ei:i'=i
   ·rw[ei]; exact h
   ·exact no i' (by omega)
 ·rintro ρ S1 ⟨⟨a3,rfl⟩,rfl,no⟩;refine hK _ _ (st ?_);dsimp only[wS,wE];exact k _ (.inl ⟨rfl,(mB hs).mpr no⟩)
theorem kY (hg:Is defs ("longer_wishes" : JZ) 2 5 cf){m0 b0:W}{N:Jy W}{n l:JF}{hs:Jy Pt}(hN:N.length=n)(hn:n<=3)(e:S[l]?=gV (.lst (hs.map aO)))(hol:∀h∈hs,h.2.length<=100)(hos:hs.length<=10000)
  (k:∀(q:JF) (S':aa),S'[q]?=gV (.lst ((dH n hs).map aO))->S.length<=q->Ka S S'->Q (.ref q,S')) :
  wO (bx (ar defs fuel (d+1)) "longer_wishes" 2 [.tup [m0,.tup N,b0],.ref l] S) Q:=by
 refine aB hg rfl rfl λQ' hR=>?_
 replace k:∀(q:JF) (S':aa),S'[q]?=gV (.lst ((dH n hs).map aO))->S.length<=q->Ka S S'->Q' (.rt (.ref q),S'):=λa b c e f=>hR _ _ (k a b c e f)
 clear hR;show wZ _ _ cf [gV (.tup [m0,.tup N,b0]),gV (.ref l),td,td,td] S Q';generalize hR0:W.tup [m0,.tup N,b0]=R;have hlS:=cO e;dsimp only[cf];refine st ?_;dsimp only[wS,wE,wA,JQ];refine bj λK hK=>?_
 refine lu l (hs.map aO) (λi ρ S'=>(∃a3 a4,ρ=[gV R,gV (.ref l),gV (.ref S.length),a3,a4])/\S'[l]?=gV (.lst (hs.map aO))/\S'[S.length]?=gV (.lst ((dH n (hs.take i)).map aO))/\Ka S S') rfl rfl ⟨rfl,⟨td,td,rfl⟩,au e,ak,.push⟩ (λi ρ S' h=>h.2.1) ?_ ?_
 ·rintro i w ρ S1 hw ⟨⟨a3,a4,rfl⟩,e0,e1,k1⟩;clear hK k;rw[JJ,JC]at hw;obtain⟨h,ho,rfl⟩:=hw;have hol:=hol h (JT ho);refine ab (show gd (.tp [3,4]) (aO h) [gV R,gV (.ref l),gV (.ref S.length),a3,a4] S1=gV ([gV R,gV (.ref l),gV (.ref S.length),gV (.int h.1),gV (.tup (af h.2))],S1)from rfl) ?_
  intro Q2 hn2 _;refine st ?_;dsimp only[wS,wE,wA,wV,wG];refine⟨dQ e1,?_⟩;refine pP n (λ_=>true) (λ(w:JF)=>aO (h.1,h.2++[(w:JL)])) [gV (.int h.1),gV (.tup (af h.2))] rfl rfl rfl rfl (by omega) ?_ (λx hx S2 k2=>?_) λS2 k2=>?_
  ·dsimp only[wE,wA,wV,wG];subst hR0;refine ae (by decide) rfl (bH ?_)
   rw[hN];exact⟨rfl,.refl⟩
  ·dsimp only[iO,wC,wE,wA,wV,wG];refine⟨λ_=>ab (c8 (gE ?_)) ⟨rfl,?_,.refl⟩,λz=>by cases z⟩
   ·rw[JG,show(af h.2).length=h.2.length from Jz ..]; show _+1<=_; omega
   ·simp[aO,af]
  ·rw[fU];have e1':=au (u:=O.lst ((JN n).map λ(w:JF)=>aO (h.1,h.2++[(w:JL)]))) (k2.get _ _ e1)
   have hle:(dH n (hs.take i)).length<=30000:=by
    rw[oE,Kf];exact J8 (NG (show min i hs.length<=10000 by omega) hn) (by decide)
   refine sZ e1' ak (by rw[Jz,Jz,J6]; omega) (bW (hn2 _ _ ⟨⟨_,_,rfl⟩,?_,?_,((k1.trans k2).trans .push).late (JO _)⟩))
   ·rw[bY (by omega)]; exact au (k2.get _ _ e0)
   ·rw[b9 e1'];unfold dH;rw[Kt,ho];simp
 ·rintro ρ S1 ⟨⟨a3,a4,rfl⟩,e0,e1,k1⟩;rw[Jz,Kw]at e1;exact hK _ _ (st (k _ _ e1 (JO _) k1))
theorem pQ {n s:JF}(hn:n<=3)(hs:s<=5):n ^ s<=243:=J8 (O0 hn s) (MH (n:=3) (by decide) hs)
theorem tf {kvs:Jy (T×W)}{u:Wd}{n i:JF}(hn:n<=3)(hu:u.length<=5):((JN i).flatMap λ(m:JF)=>dv kvs u n (m:JL) u.length).length<=i*243:=by
 induction i with
 | zero=>simp
 | succ i ih=>
  rw[KO,LB,JG,Mf,Qe,K6];have:=J8 (fW (kvs:=kvs) (u:=u) (n:=n) (m:=(i:JF)) u.length) (pQ hn hu);omega
theorem nq (h3:Is defs ("three_at" : JZ) 4 6 cm)(hfb:Is defs ("first_bar" : JZ) 2 4 bI)(hlw:Is defs ("longer_wishes" : JZ) 2 5 cf)(hg:Is defs ("wishes_over" : JZ) 3 7 dh){M N:Jy W}{b0:W}{a n q:JF}{u:Wd}{kvs:Jy (T×W)}(hM:M.length=a)(hN:N.length=n)(ha3:a<=3)(hn3:n<=3)(hu:GoodW a n u)(hul:u.length<=5)(e:S[q]?=gV (.dic kvs))
  (k:∀(l:JF) (S':aa),S'[l]?=gV (.lst ((my kvs u a n).map aO))->S.length<=l->Ka S S'->Q (.ref l,S')) :
  wO (bx (ar defs fuel (d+3)) "wishes_over" 3 [.tup [.tup M,.tup N,b0],.ref q,aK u] S) Q:=by
 refine aB hg rfl rfl λQ' hR=>?_
 replace k:∀(l:JF) (S':aa),S'[l]?=gV (.lst ((my kvs u a n).map aO))->S.length<=l->Ka S S'->Q' (.rt (.ref l),S'):=λa b c e f=>hR _ _ (k a b c e f)
 clear hR;show wZ _ _ dh [gV (.tup [.tup M,.tup N,b0]),gV (.ref q),gV (aK u),td,td,td,td] S Q';generalize hR0:W.tup [.tup M,.tup N,b0]=R;have hqS:=cO e;have ul:(u.map aO).length=u.length:=Jz ..;dsimp only[dh];refine st ?_;dsimp only[wS,wE,wA,JQ];refine bj λK hK=>?_
 refine cD (a:JL) (λi ρ S'=>(∃a4 a5 a6,ρ=[gV R,gV (.ref q),gV (aK u),gV (.ref S.length),a4,a5,a6])/\S'[S.length]?=gV (.lst (((JN i).flatMap λ(m:JF)=>dv kvs u n (m:JL) u.length).map aO))/\Ka S S') rfl rfl (by omega) ?_ ?_ ?_
 ·dsimp only[wE,wA,wV,wG];subst hR0;refine ae (by decide) rfl (bH ?_)
  rw[hM];exact⟨rfl,⟨_,_,_,rfl⟩,ak,.push⟩
 ·rintro i ρ S1 hi ⟨⟨a4,a5,a6,rfl⟩,e1,k1⟩ Q2 hn2 _;clear hK k;have hl1:=cO e1;dsimp only[JQ];refine st ?_;dsimp only[wS,wE,wA,wV,wG,JQ];refine bj λK hK=>?_
  refine jq 1 ((u.length:JL)+1) (λm ρ S'=>∃(t:JF) (a6:JE W),ρ=[gV R,gV (.ref q),gV (aK u),gV (.ref S.length),gV (.int i),gV (.ref t),a6]/\S'[t]?=gV (.lst ((dv kvs u n i m).map aO))/\Ka S1 S') rfl rfl rfl (by omega) ?_ ?_ ?_
  ·dsimp only[wE,wA,wV,wG];refine⟨rfl,bH (ab eW ?_)⟩;rw[ul];exact⟨rfl,S1.length,a6,rfl,ak,.push⟩
  ·rintro m ρ S2 hm ⟨t,a6,rfl,e2,k2⟩ Q3 hn3 _;clear hK hn2;have hmu:m < u.length:=by omega
   rw[show(1:JL)+m=((m+1:JF):JL) by omega]
   have hhl:(dv kvs u n i m).length<=243:=J8 (fW m) (pQ ‹n<=3› (by omega))
   have hll:(dH n (dv kvs u n i m)).length<=729:=by rw[oE]; exact NG hhl ‹n<=3›
   dsimp only[JQ];refine st ?_;dsimp only[wS,wE,JQ];refine j7 (dH n (dv kvs u n i m)) aO (λh=>js kvs (u.take (m+1)++[h])) aO [gV (.ref q),gV (.int ((m+1:JF):JL)),gV (aK u)] rfl rfl rfl rfl (by omega) ?_ (λh hh S4 k4=>?_) λS4 k4=>?_
   ·dsimp only[wE,wA,wV,wG];subst hR0;exact kY (d:=d+1) hlw hN ‹n<=3› e2 (λh hh=>by have:=((eL (by omega)).mp hh).2.1; omega) (by omega) λl S3 e3 _ k3=>⟨l,rfl,e3,k3⟩
   ·have hgd:GoodW a n (u.take (m+1)++[h]):=by
     unfold dH at hh;obtain⟨h0,hm0,hw⟩:=KA.mp hh;obtain⟨w,hwr,rfl⟩:=J4.mp hw;obtain⟨g1,g2,g3,_⟩:=(eL (by omega)).mp hm0
     have hwr:=JY.mp hwr;refine(wy hu).snoc (by rw[g1]; omega) (by rw[JG,g2,Kf,KT]; omega) λx hx=>?_
     rcases Ko.mp hx with z|z
     ·exact g3 x z
     ·rw[J0.mp z]; omega
    have hvl:(u.take (m+1)++[h]).length=m+2:=by rw[JG,Kf,KT]; omega
    dsimp only[iO,wC,wT,wE,wA,wP,wV,wG,wN];refine ab (show sB (aK u) td (gV ((m+1:JF):JL)) S4=gV (.tup ((u.map aO).take (m+1)),S4) by simp only[aK,sB,fR]) ?_
    dsimp only;have ev:(u.map aO).take (m+1)++[aO h]=(u.take (m+1)++[h]).map aO:=by rw[Kb,MT]; rfl
    refine ab (c8 (gE (by rw[ev,Jz]; omega))) ?_
    dsimp only;rw[ev];refine kP (d:=d) (v:=u.take (m+1)++[h]) h3 hfb hgd (by omega) (by omega) (k4.get _ _ (k2.get _ _ (k1.get _ _ e))) λw hw=>?_
    refine ab (show cv .is w .non S4=gV (.bl (js kvs (u.take (m+1)++[h])),S4) by rcases hw with⟨rfl,hb⟩|⟨i,rfl,hb⟩ <;> rw[hb] <;> rfl) ?_
    dsimp only[wB];exact⟨λz=>⟨z,rfl,.refl⟩,λz=>⟨z,.refl⟩⟩
   ·exact bW (hn3 _ _ ⟨_,_,rfl,ak,(k2.trans k4).trans .push⟩)
  ·rintro ρ S2 ⟨t,a6,rfl,e2,k2⟩;rw[show((u.length:JL)+1 - 1).toNat=u.length by omega]at e2
   refine hK _ _ ?_;clear hK K;have e1':=k2.get _ _ e1;have hhl:(dv kvs u n i u.length).length<=243:=J8 (fW _) (pQ hn3 hul);have hfl:=tf (kvs:=kvs) (i:=i) hn3 hul;refine st ?_;dsimp only[wS,wE,wA,wV,wG];refine⟨dQ e1',sZ e1' e2 (by rw[Jz,Jz]; omega) (bW (hn2 _ _ ⟨⟨_,_,_,rfl⟩,?_,(k1.trans k2).late (JO _)⟩))⟩
   rw[b9 e1',KO,LB,Kb];simp
 ·rintro ρ S1 ⟨⟨a4,a5,a6,rfl⟩,e1,k1⟩;rw[JW]at e1;exact hK _ _ (st (k _ _ e1 (JO _) k1))
end
noncomputable def j8 (kvs:Jy (T×W))(u:Wd)(s:JF)(h:Pt):Kc:=(JN s).all λq=>(JN q).all λp=>!dO kvs u h p q
theorem eG {kvs:Jy (T×W)}{u:Wd}{s:JF}{h:Pt}:j8 kvs u s h=true↔∀q < s,∀p < q,dO kvs u h p q=false:=by
 unfold j8;simp only[J3,JY,Le]
theorem Fa {bs:Jy JL}{a:JF}{v:Wd}{i j:JF}(hb:GoodB bs)(hv:GoodW a bs.length v)(hi:i < v.length)(hj:j < v.length)(hij:i≠j):0<=cy bs v i j/\cy bs v i j < (bs.length:JL):=by
 unfold cy
 by_cases h:j < i
 ·rw[Kd h];have hp:=ay (d:=(0,[])) hi;have hw:j < (v.getD i (0,[])).2.length:=by rw[hv.len i _ hp]; exact h
  exact hv.way i _ hp _ (JT (ay (d:=0) hw))
 ·rw[Ku h];have hp:=ay (d:=(0,[])) hj;have hw:i < (v.getD j (0,[])).2.length:=by rw[hv.len j _ hp]; omega
  obtain⟨g1,g2⟩:=hv.way j _ hp _ (JT (ay (d:=0) hw));exact(hb.at g1 g2).2
theorem oF {bs:Jy JL}{a:JF}{v:Wd}{ps:Jy JF}(hb:GoodB bs)(hv:GoodW a bs.length v)(hps:∀p∈ps,p < v.length)(hnd:ps.Nodup):GoodW a bs.length (aq bs v ps):=by
 have at':∀(k:JF) (q:Pt),(aq bs v ps)[k]?=gV q->∃hk:k < ps.length,q=((v.getD ps[k] (0,[])).1,(ps.take k).map λj=>cy bs v ps[k] j):=λk q e=>by
  have hk:k < ps.length:=by
   have:=(JU.mp e).1;rw[cb]at this; exact this
  refine⟨hk,?_⟩;unfold aq at e;rw[JJ,LQ hk,Kq,show ps.getD k 0=ps[k] by simp[hk]]at e
  exact(K5 e).symm
 refine⟨λk q e=>?_,λk q e=>?_,λk q e=>?_⟩
 ·obtain⟨hk,rfl⟩:=at' k q e;have:=hv.mark _ _ (ay (d:=(0,[])) (hps _ (K7 hk)));exact this
 ·obtain⟨hk,rfl⟩:=at' k q e;dsimp only;rw[Jz,Kf]; omega
 ·obtain⟨hk,rfl⟩:=at' k q e;intro w hw;obtain⟨j,hj,rfl⟩:=J4.mp hw;have hjm:=MG hj;refine Fa hb hv (hps _ (K7 hk)) (hps _ hjm) λe=>?_
  obtain⟨m,hm,e2⟩:=Nm.mp hj;rw[Kf]at hm;rw[M5]at e2;have:=(LV hnd).mp (e.trans e2.symm);omega
section
variable{defs:Jy (JZ×Df)}{fuel d:JF}{S:aa}{Q:QW}
theorem Fb (hd:Is defs ("_law_flow" : JZ) 1 1 eY){ns:Jy JL}{u:JF}(hu:S[u]?=gV (.fro (ns.map W.int)))(k:∀r S',Ka S S'->Fl S' r->Q (.ref r,S')) :
  wO (bx (ar defs fuel (d+1)) "_law_flow" 1 [.ref u] S) Q:=by
 refine aB hd rfl rfl λQ' hR=>?_
 show wZ _ _ eY [gV (.ref u)] S Q';dsimp only[eY];refine st ?_;dsimp only[wS,wE,wA,wV,wG];have e:Bi.list.fn [.ref u] S=gV (.ref S.length,S++[.lst (ns.map W.int)]):=by
  have h1:xT S u=td:=by simp[xT,hu]
  simp only[Bi.fn,Ft,kJ,h1,i7,eQ,Cd hu]
 refine ab e (hR _ _ (k _ _ (Ka.push.trans .push) ⟨S.length,ns,0,0,1,0,?_,?_,?_,by decide,by decide,by decide,by decide⟩))
 ·exact ak
 ·exact au ak
 ·simp
end
structure Ord (n:JF)(o:Jy JF):Prop where
 nd:o.Nodup
 lt:∀p∈o,p < n
noncomputable def zO:JF->Jy (Jy JF)
 | 0=>[[]]
 | k+1=>(zO k).flatMap λo=>(JN (k+1)).map λi=>o.take i++[k]++o.drop i
theorem pR:∀ {n:JF} {o:Jy JF},o∈zO n↔Ord n o/\o.length=n
 | 0,o=>by
  rw[zO,J0];exact⟨λh=>by subst h; exact⟨⟨.nil,λp hp=>nomatch hp⟩,rfl⟩,λh=>No h.2⟩
 | n+1,o=>by
  rw[zO,KA];constructor
  ·rintro⟨o',h1,h2⟩;obtain⟨i,hi,rfl⟩:=J4.mp h2;obtain⟨⟨nd,lt⟩,hl⟩:=pR.mp h1;have hi:=JY.mp hi;have hp:(o'.take i++[n]++o'.drop i).Perm (n::o'):=by
    have e:o'.take i++[n]++o'.drop i=o'.take i++n::o'.drop i:=by simp
    rw[e];refine Qf.trans ?_;rw[M8]
   refine⟨⟨hp.nodup_iff.mpr (Lo.mpr ⟨λz=>absurd (lt _ z) (KQ _),nd⟩),λp hpm=>?_⟩,by rw[hp.length_eq,Kk,hl]⟩
   rcases Ke.mp (hp.mem_iff.mp hpm)with z|z
   ·omega
   ·have:=lt p z; omega
  ·rintro⟨⟨nd,lt⟩,hl⟩;have hm:n∈o:=by
    by_cases z:n∈o
    ·exact z
    ·have h1:=pL o (JN n) nd λp hp=>JY.mpr (by
      have:=lt p hp;have:p≠n:=λe=>z (e ▸ hp)
      omega)
     rw[J6]at h1;omega
   obtain⟨a,b,rfl⟩:=List.append_of_mem hm;have hp:(a++n::b).Perm (n::(a++b)):=Qf;have nd2:=hp.nodup_iff.mp nd;obtain⟨nn,nd3⟩:=Lo.mp nd2;refine⟨a++b,pR.mpr ⟨⟨nd3,λp hpm=>?_⟩,?_⟩,J4.mpr ⟨a.length,JY.mpr ?_,?_⟩⟩
   ·have h1:=lt p (hp.mem_iff.mpr (K1 _ hpm));have:p≠n:=λe=>nn (e ▸ hpm)
    omega
   ·have:=hp.length_eq;rw[hl,Kk]at this;omega
   ·rw[JG,Kk]at hl;omega
   ·rw[List.take_left',List.drop_left'] <;> simp
theorem fY {bs:Jy JL}{u:Wd}{o:Jy JF}{i:JF}(hi:i < o.length):(aq bs u o).getD i (0,[])=((u.getD (o.getD i 0) (0,[])).1,(o.take i).map λj=>cy bs u (o.getD i 0) j):=by
 unfold aq;rw[J7,JJ,LQ hi]; rfl
theorem rH {bs:Jy JL}{u:Wd}{o:Jy JF}{i j:JF}(hi:i < o.length)(hj:j < i):((aq bs u o).getD i (0,[])).2.getD j 0=cy bs u (o.getD i 0) (o.getD j 0):=by
 rw[fY hi];dsimp only;rw[J7,JJ,MP hj,ay (d:=0) (show j < o.length by omega)]; rfl
theorem zP {bs:Jy JL}{a:JF}{u:Wd}{o:Jy JF}{i j:JF}(hb:GoodB bs)(hu:GoodW a bs.length u)(hO:Ord u.length o)(hi:i < o.length)(hj:j < o.length)(hij:i≠j):cy bs (aq bs u o) i j=cy bs u (o.getD i 0) (o.getD j 0):=by
 have gi:=ay (d:=0) hi;have gj:=ay (d:=0) hj;have li:=hO.lt _ (JT gi);have lj:=hO.lt _ (JT gj);have ne:o.getD i 0≠o.getD j 0:=λe=>by
  have h1:o[i]=o.getD i 0:=by simp[hi]
  have h2:o[j]=o.getD j 0:=by simp[hj]
  exact hij ((LV hO.nd).mp (by rw[h1,h2,e]))
 by_cases h:j < i
 ·have:cy bs (aq bs u o) i j=((aq bs u o).getD i (0,[])).2.getD j 0:=by unfold cy; rw[Kd h]
  rw[this,rH hi h]
 ·have:cy bs (aq bs u o) i j=bs.getD (((aq bs u o).getD j (0,[])).2.getD i 0).toNat 0:=by unfold cy; rw[Ku h]
  rw[this,rH hj (by omega)]
  generalize o.getD i 0=x at *
  generalize o.getD j 0=y at *
  unfold cy
  by_cases h2:x < y
  ·rw[Kd h2,Ku (by omega)]
  ·rw[Ku h2,Kd (by omega)]
   have hp:=ay (d:=(0,[])) li;have hw:y < (u.getD x (0,[])).2.length:=by rw[hu.len x _ hp]; omega
   obtain⟨w0,w1⟩:=hu.way x _ hp _ (JT (ay (d:=0) hw));have:=hb.inv ((u.getD x (0,[])).2.getD y 0).toNat (by omega)
   rw[this]; omega
theorem j9 {bs:Jy JL}{a:JF}{u:Wd}{o p:Jy JF}(hb:GoodB bs)(hu:GoodW a bs.length u)(hO:Ord u.length o)(hP:Ord o.length p):aq bs (aq bs u o) p=aq bs u (p.map λi=>o.getD i 0):=by
 refine Nf (by rw[cb,cb,Jz]) λk h1 h2=>?_
 rw[cb]at h1;have e1:=fY (bs:=bs) (u:=aq bs u o) (o:=p) h1;have e2:=fY (bs:=bs) (u:=u) (o:=p.map λi=>o.getD i 0) (i:=k) (by rw[Jz]; exact h1)
 have hk:p.getD k 0 < o.length:=hP.lt _ (JT (ay (d:=0) h1));have ek:(p.map λi=>o.getD i 0).getD k 0=o.getD (p.getD k 0) 0:=by
  rw[J7,JJ,ay (d:=0) h1]; rfl
 rw[ek]at e2;rw[fY hk]at e1;have f:∀(v:Wd) (hv:k < v.length),v[k]=v.getD k (0,[]):=λv hv=>by simp[hv]
 rw[f _ (by rw[cb]; exact h1),f _ h2,e1,e2]
 congr 1;rw[<- MT,LI];refine KJ λj hj=>?_
 obtain⟨m,hm,rfl⟩:=Nm.mp hj;rw[Kf]at hm;rw[M5];have hpm:p[m]=p.getD m 0:=by simp[show m < p.length by omega]
 rw[hpm];refine zP hb hu hO hk (hP.lt _ (JT (ay (d:=0) (show m < p.length by omega)))) λe=>?_
 have h3:p[k]=p.getD k 0:=by simp[h1]
 have:=(LV hP.nd).mp (h3.trans (e.trans hpm.symm));omega
theorem fZ {n:JF}{x:JL}(h:x∈fj n):0<=x/\x < n:=by
 obtain⟨k,hk,rfl⟩:=J4.mp h;have:=JY.mp hk;omega
theorem tj {a n:JF}{u:Wd}(h:u∈rh a n):GoodW a n u/\u.length=3:=by
 unfold rh at h;simp only[KA,J4]at h;obtain⟨m0,h0,m1,h1,m2,h2,w1,g1,w2,g2,w3,g3,rfl⟩:=h;refine⟨?_,rfl⟩;have s1:GoodW a n ([]++[(m0,[])]):=GoodW.nil.snoc (fZ h0) rfl (λw hw=>nomatch hw)
 have s2:GoodW a n ([(m0,[])]++[(m1,[w1])]):=s1.snoc (fZ h1) rfl (λw hw=>by rw[J0.mp hw]; exact fZ g1)
 exact s2.snoc (fZ h2) rfl (λw hw=>by
  simp only[Ke,KM,Mc]at hw;rcases hw with rfl|rfl
  ·exact fZ g2
  ·exact fZ g3)
theorem wz {a:JF}{bs:Jy JL}{g:Wd}(hb:GoodB bs)(h:g∈bm a bs):GoodW a bs.length g/\g.length=3:=by
 unfold bm at h;rw[NF]at h;obtain⟨u,hu,rfl⟩:=J4.mp h;obtain⟨gu,u3⟩:=tj hu;unfold mf;have hm:pi ((aw.map (aq bs u)).map fM) < (aw.map (aq bs u)).length:=by
  unfold pi;refine Po (gk _ _) ?_;rw[Jz,Jz]; decide
 have:=JT (ay (d:=[]) hm);obtain⟨t,ht,e⟩:=J4.mp this;rw[<- e];have tk:∀t∈aw,t.length=3/\t.Nodup/\∀p∈t,p < 3:=by decide
 obtain⟨t1,t2,t3⟩:=tk t ht;exact⟨oF hb gu (λp hp=>by have:=t3 p hp; omega) t2,by rw[cb]; exact t1⟩
theorem ke {t:Jy JF}:t∈aw↔Ord 3 t/\t.length=3:=by
 constructor
 ·intro h;have:∀t∈aw,t.Nodup/\(∀p∈t,p < 3)/\t.length=3:=by decide
  obtain⟨h1,h2,h3⟩:=this t h;exact⟨⟨h1,h2⟩,h3⟩
 ·intro h;have h1:=pR.mpr h;have:∀t∈zO 3,t∈aw:=by decide
  exact this t h1
noncomputable def kg:Ss:=
 (.cons (.ret (.ix (.ix (.ix (.v 0) (.c (.int 1))) (.v 1)) (.c (.int 1))))
 .nil)
noncomputable def gx:Ss:=
 (.cons (.set 5 (.comp (.own "first_bar" 2 (.cons (.v 2) (.cons (.own "with_both" 5 (.cons (.v 6) (.cons (.v 3) (.cons (.v 4) (.cons (.v 5) (.cons (.v 1) .nil)))))) .nil))) (.nm 1) (.rng (.cons (.bi .len (.cons (.ix (.v 0) (.c (.int 1))) .nil)) .nil)) .nil [td,td,gV 1,gV 2,gV 3,gV 4,gV 0]))
 (.cons (.ret (.bi .tuple (.cons (.op .add (.v 5) (.lst (.cons (.own "same_bar" 2 (.cons (.v 3) (.cons (.v 4) .nil))) .nil))) .nil)))
 .nil))
noncomputable def dZ:Ss:=
 (.cons (.ret (.op .add (.v 1) (.tup (.cons (.v 2) (.cons (.tup (.cons (.ix (.v 3) (.c (.int 0))) (.cons (.op .add (.ix (.v 3) (.c (.int 1))) (.tup (.cons (.own "back" 2 (.cons (.v 0) (.cons (.v 4) .nil))) .nil))) .nil))) .nil)))))
 .nil)
noncomputable def eZ:Ss:=
 (.cons (.ite (.cmp .ne (.ix (.v 0) (.c (.int 0))) (.ix (.v 1) (.c (.int 0)))) (.cons (.ret (.neg (.c (.int 1))))
 .nil) .nil)
 (.cons (.set 2 (.comp (.v 1) (.nm 1) (.rng (.cons (.bi .len (.cons (.ix (.v 0) (.c (.int 1))) .nil)) .nil)) (.cons (.cmp .ne (.ix (.ix (.v 2) (.c (.int 1))) (.v 1)) (.ix (.ix (.v 3) (.c (.int 1))) (.v 1))) .nil) [td,td,gV 0,gV 1]))
 (.cons (.ret (.ite (.v 2) (.ix (.v 2) (.c (.int 0))) (.c .non)))
 .nil)))
noncomputable def cL (P:JF->Kc)(s:JF):W:=match (JN s).find? P with
 | some i=>.int (i:JL)
 | none=>.non
theorem tq {P:JF->Kc}{s:JF}(h:∀i < s,P i=false):cL P s=.non:=by
 unfold cL;have:(JN s).find? P=td:=Mr.mpr λi hi=>by rw[h i (JY.mp hi)]; exact J5
 rw[this]
theorem mC {P:JF->Kc}:∀ {s i:JF},i < s->P i=true->(∀j < i,P j=false)->(JN s).find? P=gV i
 | s+1,i,hi,hp,hn=>by
  rw[KO,List.find?_append]
  by_cases e:i=s
  ·subst e;have:(JN i).find? P=td:=Mr.mpr λj hj=>by rw[hn j (JY.mp hj)]; exact J5
   rw[this];simp[hp]
  ·rw[mC (by omega) hp hn]; rfl
theorem tt {P:JF->Kc}{s i:JF}(hi:i < s)(hp:P i=true)(hn:∀j < i,P j=false):cL P s=.int (i:JL):=by
 unfold cL;rw[mC hi hp hn]
theorem tu {P:JF->Kc}{s:JF}:(((JN s).filter P).map (λ(i:JF)=>W.int (i:JL))++[.non])[0]?=gV (cL P s):=by
 unfold cL;rw[<- List.head?_filter];cases(JN s).filter P <;> rfl
theorem kQ (P:JF->Kc)(s:JF):cL P s=.non\/∃i:JL,cL P s=.int i:=by
 unfold cL;cases(JN s).find? P with
 | none=>exact .inl rfl
 | some i=>exact .inr ⟨_,rfl⟩
noncomputable def d0 (bs:Jy JL)(u:Wd)(one other:Pt)(n:JF):Wd:=u++[one]++[(other.1,other.2++[bs.getD n 0])]
noncomputable def jt (one other:Pt):W:=if one.1=other.1 then cL (λp=>!(one.2.getD p 0==other.2.getD p 0)) one.2.length else .int (-1)
noncomputable def gC (P:Wd->JF->Kc)(bs:Jy JL)(u:Wd)(one other:Pt):Jy W:=(JN bs.length).map (λn=>cL (P (d0 bs u one other n)) u.length)++[jt one other]
theorem tz (one other:Pt):jt one other=.non\/∃i:JL,jt one other=.int i:=by
 unfold jt;split
 ·exact kQ _ _
 ·exact .inr ⟨_,rfl⟩
structure GoodP (a n k:JF)(p:Pt):Prop where
 mark:0<=p.1/\p.1 < a
 len:p.2.length=k
 way:∀w∈p.2,0<=w/\w < (n:JL)
theorem wD {bs:Jy JL}{a:JF}{u:Wd}{one other:Pt}{n:JF}(hb:GoodB bs)(hu:GoodW a bs.length u)(h1:GoodP a bs.length u.length one)(h2:GoodP a bs.length u.length other)(hn:n < bs.length):GoodW a bs.length (d0 bs u one other n)/\(d0 bs u one other n).length=u.length+2:=by
 refine⟨(hu.snoc (m:=one.1) (ws:=one.2) h1.mark h1.len h1.way).snoc h2.mark ?_ λw hw=>?_,?_⟩
 ·rw[JG,JG,h2.len]; rfl
 ·rcases Ko.mp hw with z|z
  ·exact h2.way w z
  ·rw[J0.mp z];obtain⟨b,hb1,hb2,hb3⟩:=hb.rng n hn;rw[getD_some hb1]; exact⟨hb2,hb3⟩
 ·unfold d0;rw[JG,JG]; rfl
section
variable{defs:Jy (JZ×Df)}{fuel d:JF}{S:aa}{Q:QW}
theorem rJ (h3:Is defs ("three_at" : JZ) 4 6 cm)(hg:Is defs ("first_bar" : JZ) 2 4 bI){a n q s:JF}{v:Wd}{kvs:Jy (T×W)}(hv:GoodW a n v)(hs:v.length=s+2)(hl:v.length<=1000)(e:S[q]?=gV (.dic kvs))(k:Q (cL (λp=>dC kvs v p s (s+1)) s,S)) :
  wO (bx (ar defs fuel (d+2)) "first_bar" 2 [.ref q,aK v] S) Q:=by
 refine aB hg rfl rfl λQ' hR=>?_
 replace k:=hR _ _ k;clear hR;show wZ _ _ bI [gV (.ref q),gV (aK v),td,td] S Q';have ul:(v.map aO).length=v.length:=Jz ..;dsimp only[bI];refine st ?_;dsimp only[wS,wE,wA,wV,wG,JQ];refine bH (ab jh ?_);rw[ul,show((v.length:JF):JL) - 1=((s+1:JF):JL) by omega]
 refine bj λK hK=>?_
 refine cD (s:JL) (λi ρ S'=>(∃a3,ρ=[gV (.ref q),gV (aK v),gV (.int ((s+1:JF):JL)),a3])/\S'=S/\∀i' < i,dC kvs v i' s (s+1)=false) rfl rfl (by omega) ?_ ?_ ?_
 ·dsimp only[wE,wV,wG];refine ab jh ⟨?_,⟨_,rfl⟩,rfl,λi' z=>by omega⟩
  dsimp only;rw[show((s+1:JF):JL) - 1=(s:JL) by omega]
 ·rintro i ρ S1 hi ⟨⟨a3,rfl⟩,rfl,no⟩ Q2 hn hr;clear hK;dsimp only[JQ];refine bj λK hK=>?_
  dsimp only[wS,wT,wE,wA,wV,wG];refine ab jh ?_;dsimp only;rw[show((s+1:JF):JL) - 1=(s:JL) by omega]
  refine u5 (d:=d) h3 hv (by omega) (Mm s) (by omega) ?_
  refine ab (show cv .isin (aK (dR v i s (s+1))) (.ref q) S1=gV (.bl (dC kvs v i s (s+1)),S1) by simp only[cv,cX e,pM]; rfl) ?_
  dsimp only[wB];refine ap (Q0:=Q2) (λh Q5 _ hr5=>?_) (λh Q5 hn5 _=>bW (hn5 _ _ (hK _ _ (bW (hn _ _ ⟨⟨_,rfl⟩,rfl,λi' z=>?_⟩)))))
  ·refine st ?_;dsimp only[wS,wE,wV,wG];rw[tt (P:=λp=>dC kvs v p s (s+1)) (by omega) h no]at k
   exact hr5 _ _ (hr _ _ k)
  ·by_cases ei:i'=i
   ·rw[ei]; exact h
   ·exact no i' (by omega)
 ·rintro ρ S1 ⟨⟨a3,rfl⟩,rfl,no⟩;refine hK _ _ (st ?_);dsimp only[wS,wE];rw[tq (P:=λp=>dC kvs v p s (s+1)) λi hi=>no i (by omega)]at k
  exact k
theorem Fc (hg:Is defs ("back" : JZ) 2 2 kg){m0 b0:W}{ns:Jy JZ}{bs:Jy JL}{n:JF}(hnl:ns.length=bs.length)(hn:n < bs.length)(k:Q (.int (bs.getD n 0),S)) :
  wO (bx (ar defs fuel (d+1)) "back" 2 [.tup [m0,.tup (JR aU ns bs),b0],.int n] S) Q:=by
 refine aB hg rfl rfl λQ' hR=>?_
 replace k:=hR _ _ k;show wZ _ _ kg [gV (.tup [m0,.tup (JR aU ns bs),b0]),gV (.int n)] S Q';have hb:=ay (d:=0) hn;dsimp only[kg];refine st ?_;dsimp only[wS,wE,wV,wG];exact ae (by decide) rfl (ae (JS n) (by rw[JW]; exact jZ (JX (by omega)) hb) (ae (by decide) rfl k))
theorem rK (hbk:Is defs ("back" : JZ) 2 2 kg)(hg:Is defs ("with_both" : JZ) 5 5 dZ){m0 b0:W}{ns:Jy JZ}{bs:Jy JL}{u:Wd}{one other:Pt}{n:JF}(hnl:ns.length=bs.length)(hn:n < bs.length)(hu:u.length<=900)(ho:other.2.length<=900)(k:Q (aK (d0 bs u one other n),S)) :
  wO (bx (ar defs fuel (d+2)) "with_both" 5 [.tup [m0,.tup (JR aU ns bs),b0],aK u,aO one,aO other,.int n] S) Q:=by
 refine aB hg rfl rfl λQ' hR=>?_
 replace k:=hR _ _ k;show wZ _ _ dZ [gV (.tup [m0,.tup (JR aU ns bs),b0]),gV (aK u),gV (aO one),gV (aO other),gV (.int n)] S Q';dsimp only[dZ];refine st ?_;dsimp only[wS,wE,wA,wV,wG];refine ae (by decide) rfl (ae (by decide) rfl ?_)
 refine Fc (d:=d) hbk hnl hn ?_;refine ab (c8 (gE ?_)) ?_
 ·rw[JG,Jz]; show _+1<=_; omega
 dsimp only;have ev:u.map aO++[aO one,.tup [.int other.1,.tup (other.2.map W.int++[.int (bs.getD n 0)])]]=(d0 bs u one other n).map aO:=by
  unfold d0;simp[aO]
 unfold aK at k ⊢;refine ab (c8 (gE ?_)) ?_
 ·rw[JG,Jz]; show _+2<=_; omega
 dsimp only;rw[ev];exact k
theorem tB (hg:Is defs ("same_bar" : JZ) 2 3 eZ){one other:Pt}(h:other.2.length=one.2.length)(hl:one.2.length<=900)(k:∀S',Ka S S'->Q (jt one other,S')) :
  wO (bx (ar defs fuel (d+1)) "same_bar" 2 [aO one,aO other] S) Q:=by
 refine aB hg rfl rfl λQ' hR=>?_
 replace k:∀S',Ka S S'->Q' (.rt (jt one other),S'):=λS' a=>hR _ _ (k S' a)
 clear hR;show wZ _ _ eZ [gV (aO one),gV (aO other),td] S Q';have wl:∀(p:Pt) (i:JF),i < p.2.length->(p.2.map W.int)[((i:JF):JL).toNat]?=gV (.int (p.2.getD i 0)):=λp i hi=>by
  rw[JW,JJ,ay (d:=0) hi]; rfl
 dsimp only[eZ];refine bj λK hK=>?_
 dsimp only[wS,wT,wE,wV,wG];refine ae (by decide) rfl (ae (by decide) rfl (ab Cc ?_))
 dsimp only[wB];unfold jt at k;refine ap (Q0:=Q') (λhm Q2 _ hr=>?_) (λhm Q2 hn _=>bW (hn _ _ (hK _ _ ?_)))
 ·have hm:one.1≠other.1:=λz=>by rw[z]at hm; simp at hm
  refine st ?_;dsimp only[wS,wE,wN];rw[Ku hm]at k;exact hr _ _ (k S .refl)
 clear hK K hn;have hm:one.1=other.1:=by
  by_cases z:one.1=other.1
  ·exact z
  ·have:(!(one.1==other.1))=true:=by simp[z]
   rw[this]at hm; cases hm
 rw[Kd hm]at k;refine st ?_;dsimp only[wS,wE,JQ];refine pP one.2.length (λp=>!(one.2.getD p 0==other.2.getD p 0)) (λ(i:JF)=>W.int (i:JL)) [gV (aO one),gV (aO other)] rfl rfl rfl rfl (by omega) ?_ (λi hi S2 k2=>?_) λS2 k2=>?_
 ·dsimp only[wE,wA,wV,wG];refine ae (by decide) rfl (bH ?_)
  rw[Jz];exact⟨rfl,.refl⟩
 ·dsimp only[iO,wC,wT,wE,wV,wG];refine ae (by decide) rfl (ae (JS i) (wl one i hi) (ae (by decide) rfl (ae (JS i) (wl other i (by omega)) (ab Cc ?_))))
  dsimp only[wB];exact⟨λz=>⟨z,rfl,.refl⟩,λz=>⟨z,.refl⟩⟩
 ·have hh:=tu (P:=λp=>!(one.2.getD p 0==other.2.getD p 0)) (s:=one.2.length)
  refine st ?_;dsimp only[wS,wE,wT,wV,wG];cases hL:((JN one.2.length).filter λp=>!(one.2.getD p 0==other.2.getD p 0))with
  | nil=>
   rw[hL]at hh;refine ab (show ff (S2++[O.lst []]) (.ref S2.length)=gV false by simp only[ff,be ak]; rfl) ⟨λz=>(by cases z),λ_=>?_⟩
   have e:cL (λp=>!(one.2.getD p 0==other.2.getD p 0)) one.2.length=.non:=(K5 hh).symm
   rw[e]at k;exact k _ (k2.trans .push)
  | cons x L=>
   rw[hL]at hh;refine ab (show ff (S2++[O.lst ((x::L).map λ(i:JF)=>W.int (i:JL))]) (.ref S2.length)=gV true by simp only[ff,be ak]; rfl) ⟨λ_=>?_,λz=>by cases z⟩
   have e:cL (λp=>!(one.2.getD p 0==other.2.getD p 0)) one.2.length=.int (x:JL):=(K5 hh).symm
   rw[e]at k;exact eE (i:=0) ak rfl (k _ (k2.trans .push))
end
noncomputable def Hl:W->Kc
 | .non=>true
 | _=>false
noncomputable def NI (w:W):Prop:=w=.non\/∃i:JL,w=.int i
theorem wF {P:Wd->JF->Kc}{bs:Jy JL}{u:Wd}{one other:Pt}:(gC P bs u one other).length=bs.length+1:=by
 unfold gC;rw[JG,Jz,J6]; rfl
section
variable{defs:Jy (JZ×Df)}{fuel d:JF}{S:aa}{Q:QW}
structure Fil (defs:Jy (JZ×Df)):Prop where
 parts:Parts defs
 part:Is defs ("part" : JZ) 3 3 j6
 longer:Is defs ("longer_orders" : JZ) 2 4 ce
 barred:Is defs ("barred_threes" : JZ) 1 5 cJ
 three:Is defs ("three_at" : JZ) 4 6 cm
 fbar:Is defs ("first_bar" : JZ) 2 4 bI
 back:Is defs ("back" : JZ) 2 2 kg
 both:Is defs ("with_both" : JZ) 5 5 dZ
 same:Is defs ("same_bar" : JZ) 2 3 eZ
 all:Is defs ("all_bars" : JZ) 5 6 gx
theorem mD (F:Fil defs){m0 b0:W}{ns:Jy JZ}{bs:Jy JL}{a q:JF}{u:Wd}{one other:Pt}{kvs:Jy (T×W)}(hb:GoodB bs)(hnl:ns.length=bs.length)(hu:GoodW a bs.length u)(h1:GoodP a bs.length u.length one)(h2:GoodP a bs.length u.length other)(hul:u.length<=800)(e:S[q]?=gV (.dic kvs))
  (k:∀S',Ka S S'->Q (.tup (gC (λv p=>dC kvs v p u.length (u.length+1)) bs u one other),S')) :
  wO (bx (ar defs fuel (d+3)) "all_bars" 5 [.tup [m0,.tup (JR aU ns bs),b0],.ref q,aK u,aO one,aO other] S) Q:=by
 refine aB F.all rfl rfl λQ' hR=>?_
 replace k:∀S',Ka S S'->Q' (.rt (.tup (gC (λv p=>dC kvs v p u.length (u.length+1)) bs u one other)),S'):=λS' a=>hR _ _ (k S' a)
 clear hR;show wZ _ _ gx [gV (.tup [m0,.tup (JR aU ns bs),b0]),gV (.ref q),gV (aK u),gV (aO one),gV (aO other),td] S Q';generalize hR0:W.tup [m0,.tup (JR aU ns bs),b0]=R;have hb3:bs.length<=3:=by rcases hb with rfl|rfl|rfl|rfl|rfl|rfl <;> decide
 dsimp only[gx];refine st ?_;dsimp only[wS,wE,JQ];refine pP bs.length (λ_=>true) (λn=>cL (λp=>dC kvs (d0 bs u one other n) p u.length (u.length+1)) u.length) [gV (.ref q),gV (aK u),gV (aO one),gV (aO other),gV R] rfl rfl rfl rfl (by omega) ?_ (λn hn S2 k2=>?_) λS2 k2=>?_
 ·dsimp only[wE,wA,wV,wG];subst hR0;refine ae (by decide) rfl (bH ?_)
  rw[Ld,hnl,MJ];exact⟨rfl,.refl⟩
 ·obtain⟨g1,g2⟩:=wD hb hu h1 h2 hn;dsimp only[iO,wC,wE,wA,wV,wG];subst hR0;refine⟨λ_=>?_,λz=>by cases z⟩
  refine rK (d:=d) F.back F.both hnl hn (by omega) (by rw[h2.len]; omega) ?_
  exact rJ (d:=d) F.three F.fbar g1 g2 (by omega) (k2.get _ _ e) ⟨rfl,rfl,.refl⟩
 ·rw[fU];refine st ?_;dsimp only[wS,wE,wA,wV,wG];refine tB (d:=d+1) F.same (by rw[h1.len,h2.len]) (by rw[h1.len]; omega) λS3 k3=>?_
  dsimp only;refine ab (sS (au (k3.get _ _ ak)) ak (gE ?_)) (gB ak (k _ (((k2.trans .push).trans k3).trans (Ka.push.trans .push))));rw[JG,Jz,J6]; show _+1<=_; omega
end
noncomputable def cK:Ss:=
 (.cons (.set 1 (.own "_law_pick" 2 (.cons (.v 0) (.cons (.c (.int 8)) .nil))))
 (.cons (.ite (.cmp .lt (.v 1) (.c (.int 4))) (.cons (.ret (.own "_law_any_rule" 1 (.cons (.v 0) .nil)))
 .nil) .nil)
 (.cons (.ite (.cmp .lt (.v 1) (.c (.int 7))) (.cons (.ret (.own "_law_laying_rule" 1 (.cons (.v 0) .nil)))
 .nil) .nil)
 (.cons (.ret (.own "_law_unlaying_rule" 1 (.cons (.v 0) .nil)))
 .nil))))
theorem Std.last {kvs:Jy (T×W)}{u:Wd}(h:Std kvs u):Std kvs u.dropLast/\j8 kvs u.dropLast u.dropLast.length (u.getD (u.length - 1) (0,[]))=true:=by
 have e:∀p,p < u.length - 1->u.dropLast.getD p (0,[])=u.getD p (0,[]):=λp hp=>by
  rw[J7,J7,List.getElem?_dropLast,Kd hp]
 refine⟨λk hk j hj i hi=>?_,eG.mpr λj hj i hi=>?_⟩
 ·rw[Np]at hk;have:=h k (by omega) j hj i hi
  unfold dC dR at this ⊢;rw[e i (by omega),e j (by omega),e k hk]
  exact this
 ·rw[Np]at hj;have:=h (u.length - 1) (by omega) j hj i hi
  unfold dC dR at this;unfold dO;rw[e i (by omega),e j (by omega)]
  exact this
noncomputable def iP (u:Wd)(one other:Pt)(b:JL)(p:JF):Wd:=[((u.getD p (0,[])).1,[]),(one.1,[one.2.getD p 0]),(other.1,[other.2.getD p 0,b])]
theorem tD {bs:Jy JL}{a k:JF}{u:Wd}{one other:Pt}{n p:JF}(h1:GoodP a k u.length one)(h2:GoodP a k u.length other)(hp:p < u.length):dR (d0 bs u one other n) p u.length (u.length+1)=iP u one other (bs.getD n 0) p:=by
 have l1:(u++[one]).length=u.length+1:=by rw[JG]; rfl
 have g0:(d0 bs u one other n).getD p (0,[])=u.getD p (0,[]):=by
  unfold d0;rw[aT (by omega),aT hp]
 have g1:(d0 bs u one other n).getD u.length (0,[])=one:=by
  unfold d0;rw[aT (by omega),cG]
 have g2:(d0 bs u one other n).getD (u.length+1) (0,[])=(other.1,other.2++[bs.getD n 0]):=by
  unfold d0;rw[<- l1,cG]
 unfold dR iP;rw[g0,g1,g2];dsimp only;rw[aV (by rw[h2.len]; exact hp)]
 have:(other.2++[bs.getD n 0]).getD u.length 0=bs.getD n 0:=by
  rw[<- h2.len,J7,KF (JO _),M6]; rfl
 rw[this]
noncomputable def Fw (one other:Pt)(s:JF):Kc:=(one.1==other.1)&&(JN s).all λp=>one.2.getD p 0==other.2.getD p 0
theorem oG {P:JF->Kc}{s:JF}:Hl (cL P s)=(JN s).all λp=>!P p:=by
 rw[LC,J3];unfold cL;constructor
 ·intro h p hp;cases hf:(JN s).find? P with
  | none=>
   have:=Mr.mp hf p hp
   simpa using this
  | some i=>rw[hf]at h; cases h
 ·intro h;have:(JN s).find? P=td:=Mr.mpr λp hp=>by simpa using h p hp
  rw[this]; rfl
noncomputable def b6 (p:Pt)(ps:Jy JF):Pt:=(p.1,ps.map λk=>p.2.getD k 0)
theorem oH {a n s:JF}{p:Pt}{ps:Jy JF}(h:GoodP a n s p)(hps:∀k∈ps,k < s):GoodP a n ps.length (b6 p ps):=by
 refine⟨h.mark,by unfold b6; rw[Jz],λw hw=>?_⟩
 unfold b6 at hw;obtain⟨k,hk,rfl⟩:=J4.mp hw;exact h.way _ (JT (ay (d:=0) (by rw[h.len]; exact hps k hk)))
theorem eM {p:Pt}{ps:Jy JF}{i:JF}(h:i < ps.length):(b6 p ps).2.getD i 0=p.2.getD (ps.getD i 0) 0:=by
 unfold b6;rw[J7,JJ,ay (d:=0) h]; rfl
theorem rL {bs:Jy JL}{u:Wd}{one other:Pt}{b:JL}{ps:Jy JF}{i:JF}(h:i < ps.length):iP (aq bs u ps) (b6 one ps) (b6 other ps) b i=iP u one other b (ps.getD i 0):=by
 unfold iP;rw[fY h,eM h,eM h]; rfl
theorem mE {z:JL}:∀xs:Jy JL,((af xs).any λw=>mY w (.int z))=decide (z∈xs)
 | []=>by simp[af]
 | x::xs=>by
  have:=mE (z:=z) xs;unfold af at this ⊢;rw[Lb,LH,this];have:mY (.int x) (.int z)=(x==z):=rfl;rw[this]
  by_cases e:x=z
  ·simp[e]
  ·have:¬ z=x:=λh=>e h.symm
   simp[e,this]
theorem Hm {S:aa}{l:JF}{xs:Jy JL}{z:JL}(h:S[l]?=gV (.lst (af xs))):cv .isin (.int z) (.ref l) S=gV (.bl (decide (z∈xs)),S):=by
 have hf:(bG (.int z)&&(af xs).all bG)=true:=by
  simp only[bG,Mk,J3];intro x hx;unfold af at hx;obtain⟨y,_,rfl⟩:=J4.mp hx;rfl
 simp only[cv,ji h,gK,Bh,xO,eQ,be h,hf,L1,Kq,mE]
noncomputable def bd (kvs:Jy (T×W))(w:Wd):Kc:=(cC kvs (fM w)).isSome
noncomputable def Cl (bs:Jy JL)(kvs:Jy (T×W)):Prop:=∀(w:Wd) (t:Jy JF),t∈aw->bd kvs w=true->bd kvs (aq bs w t)=true
theorem Do {bs:Jy JL}{a:JF}{gs:Jy Wd}{kvs:Jy (T×W)}(hb:GoodB bs)(hgs:∀g∈gs,GoodW a bs.length g/\g.length=3)(h:HasD kvs (dA bs gs)):Cl bs kvs:=by
 intro w t ht hw;unfold bd at hw ⊢;rw[h.get,Kh]at hw ⊢;obtain⟨w',hw',e⟩:=J4.mp hw;have e:=uT e;subst e;refine J4.mpr ⟨_,?_,rfl⟩;unfold dA at hw' ⊢;obtain⟨g,hg,h⟩:=KA.mp hw';obtain⟨s,hs,rfl⟩:=J4.mp h;obtain⟨gg,g3⟩:=hgs g hg;obtain⟨s1,s2⟩:=ke.mp hs;refine KA.mpr ⟨g,hg,?_⟩;rw[j9 hb gg (by rw[g3]; exact s1) (by rw[s2]; exact(ke.mp ht).1)]
 have:∀s∈aw,∀t∈aw,(t.map λi=>s.getD i 0)∈aw:=by decide
 exact J4.mpr ⟨_,this s hs t ht,rfl⟩
theorem oI {bs:Jy JL}{u:Wd}{i j k:JF}(h1:i < j)(h2:j < k):dR u i j k=aq bs u [i,j,k]:=by
 have e1:cy bs u j i=(u.getD j (0,[])).2.getD i 0:=by unfold cy; rw[Kd h1]
 have e2:cy bs u k i=(u.getD k (0,[])).2.getD i 0:=by unfold cy; rw[Kd (Mb h1 h2)]
 have e3:cy bs u k j=(u.getD k (0,[])).2.getD j 0:=by unfold cy; rw[Kd h2]
 show _=[((u.getD i (0,[])).1,[]),((u.getD j (0,[])).1,[cy bs u j i]),((u.getD k (0,[])).1,[cy bs u k i,cy bs u k j])];rw[e1,e2,e3];rfl
theorem CB {bs:Jy JL}{a:JF}{kvs:Jy (T×W)}{u:Wd}{x y z:JF}(hb:GoodB bs)(cl:Cl bs kvs)(hu:GoodW a bs.length u)(hs:Std kvs u)(hO:Ord u.length [x,y,z]):bd kvs (aq bs u [x,y,z])=false:=by
 rw[PV];intro h;have go:∀(i j k:JF) (t:Jy JF),t∈aw->(t.map λi=>[x,y,z].getD i 0)=[i,j,k]->i < j->j < k->k < u.length->KZ:=λi j k t ht e h1 h2 h3=>by
  have:=cl _ t ht h;rw[j9 hb hu hO (ke.mp ht).1,e,<- oI h1 h2]at this;have h4:=hs k h3 j h2 i h1;unfold dC at h4;unfold bd at this;rw[this]at h4; cases h4
 have lx:=hO.lt x (by simp)
 have ly:=hO.lt y (by simp)
 have lz:=hO.lt z (by simp)
 have nd:=hO.nd;simp only[Lo,Ke,KM,Mc,Rp]at nd;obtain⟨⟨n1,n2⟩,n3,_⟩:=nd;rcases Ms n1 with h1|h1
 ·rcases Ms n3 with h2|h2
  ·exact go x y z [0,1,2] (by decide) rfl h1 h2 lz
  ·rcases Ms n2 with h3|h3
   ·exact go x z y [0,2,1] (by decide) rfl h3 h2 ly
   ·exact go z x y [2,0,1] (by decide) rfl h3 h1 ly
 ·rcases Ms n2 with h2|h2
  ·exact go y x z [1,0,2] (by decide) rfl h1 h2 lz
  ·rcases Ms n3 with h3|h3
   ·exact go y z x [1,2,0] (by decide) rfl h3 h2 lx
   ·exact go z y x [2,1,0] (by decide) rfl h3 h1 lx
theorem tF {ps:Jy JF}(h:ps.Nodup){i j:JF}(hi:i < ps.length)(hj:j < ps.length)(e:ps.getD i 0=ps.getD j 0):i=j:=by
 rw[J7,J7,JX hi,JX hj]at e;exact(LV h).mp e
theorem Std.part {bs:Jy JL}{a:JF}{kvs:Jy (T×W)}{u:Wd}{ps:Jy JF}(hb:GoodB bs)(cl:Cl bs kvs)(hu:GoodW a bs.length u)(hs:Std kvs u)(hO:Ord u.length ps):Std kvs (aq bs u ps):=by
 intro k hk j hj i hi;rw[cb]at hk;have hO3:Ord ps.length [i,j,k]:=⟨by simp only[Lo,Ke,KM,Mc,Rp]; exact⟨⟨by omega,by omega⟩,by omega,by simp⟩,λp hp=>by
  simp only[Ke,KM,Mc]at hp;rcases hp with rfl|rfl|rfl <;> omega⟩
 show bd kvs (dR (aq bs u ps) i j k)=false;rw[oI (bs:=bs) hi hj,j9 hb hu hO hO3];have gm:∀m,m < ps.length->ps.getD m 0∈ps:=λm hm=>JT (ay (d:=0) hm)
 refine CB hb cl hu hs ⟨?_,λp hp=>?_⟩
 ·simp only[Lo,Ke,KM,Mc,Rp];exact⟨⟨λe=>by have:=tF hO.nd (by omega) (by omega) e; omega,λe=>by have:=tF hO.nd (by omega) (by omega) e; omega⟩,λe=>by have:=tF hO.nd (by omega) (by omega) e; omega,by simp⟩
 ·simp only[Ke,KM,Mc]at hp;rcases hp with rfl|rfl|rfl <;> exact hO.lt _ (gm _ (by omega))
theorem Std.both {kvs:Jy (T×W)}{u:Wd}{p:Pt}:Std kvs (u++[p])↔Std kvs u/\j8 kvs u u.length p=true:=by
 constructor
 ·intro h;have:=h.last;rw[List.dropLast_concat,JG,KT,Pi,cG]at this;exact this
 ·rintro⟨h1,h2⟩;exact h1.snoc (m:=p.1) (to:=p.2) (eG.mp h2)
theorem zQ {bs:Jy JL}{u:Wd}{p:Pt}{ps:Jy JF}(h:∀k∈ps,k < u.length):aq bs (u++[p]) ps=aq bs u ps:=by
 unfold aq;refine KJ λk hk=>?_
 have hk:=JY.mp hk;have g1:=h _ (JT (ay (d:=0) hk));rw[aT g1];congr 1;refine KJ λj hj=>?_
 have g2:=h j (MG hj);unfold cy;rw[aT g1,aT g2]
theorem wH {bs:Jy JL}{u:Wd}{p:Pt}{ps:Jy JF}(h:∀k∈ps,k < u.length):aq bs (u++[p]) (ps++[u.length])=aq bs u ps++[b6 p ps]:=by
 rw[oD,zQ h];congr 2;unfold u4 b6;rw[cG];congr 1;refine KJ λj hj=>?_
 unfold cy;rw[Kd (h j hj),cG]
structure Cf (a n:JF)(kvs:Jy (T×W))(u:Wd)(p q:Pt):Prop where
 gu:GoodW a n u
 su:Std kvs u
 gp:GoodP a n u.length p
 mp:j8 kvs u u.length p=true
 gq:GoodP a n u.length q
 mq:j8 kvs u u.length q=true
theorem GoodP.snoc {a n:JF}{u:Wd}{p:Pt}(hu:GoodW a n u)(h:GoodP a n u.length p):GoodW a n (u++[p]):=hu.snoc (m:=p.1) (ws:=p.2) h.mark h.len h.way
theorem CC {n:JF}{ps:Jy JF}(h:Ord n ps):Ord (n+1) (ps++[n]):=⟨by
 rw[NR];exact⟨h.nd,by simp,λx hx y hy e=>by
  rw[J0.mp hy]at e;have:=h.lt x hx; omega⟩,λp hp=>by
 rcases Ko.mp hp with h1|h1
 ·have:=h.lt p h1; omega
 ·rw[J0.mp h1]; omega⟩
theorem Cf.part {bs:Jy JL}{a:JF}{kvs:Jy (T×W)}{u:Wd}{p q:Pt}{ps:Jy JF}(hb:GoodB bs)(cl:Cl bs kvs)(h:Cf a bs.length kvs u p q)(hO:Ord u.length ps):Cf a bs.length kvs (aq bs u ps) (b6 p ps) (b6 q ps):=by
 have pl:(aq bs u ps).length=ps.length:=cb ..;have one:∀p:Pt,GoodP a bs.length u.length p->j8 kvs u u.length p=true->j8 kvs (aq bs u ps) (aq bs u ps).length (b6 p ps)=true:=λp gp mp=>by
  have s1:Std kvs (u++[p]):=Std.both.mpr ⟨h.su,mp⟩;have l1:(u++[p]).length=u.length+1:=by rw[JG]; rfl
  have s2:=s1.part hb cl (gp.snoc h.gu) (ps:=ps++[u.length]) (by rw[l1]; exact CC hO)
  rw[wH hO.lt]at s2;exact(Std.both.mp s2).2
 exact⟨oF hb h.gu hO.lt hO.nd,h.su.part hb cl h.gu hO,by rw[pl]; exact oH h.gp hO.lt,one p h.gp h.mp,by rw[pl]; exact oH h.gq hO.lt,one q h.gq h.mq⟩
noncomputable def bV (kvs:Jy (T×W))(bs:Jy JL)(u:Wd)(p q:Pt)(i:JF):Kc:=if i < bs.length then(JN u.length).any λk=>bd kvs (iP u p q (bs.getD i 0) k)else !Fw p q u.length
noncomputable def Full (kvs:Jy (T×W))(bs:Jy JL)(c:JF)(u:Wd)(p q:Pt):Prop:=∀i < c,bV kvs bs u p q i=true
theorem ju {kvs:Jy (T×W)}{bs:Jy JL}{u:Wd}{p q:Pt}{i:JF}(hi:i < bs.length):bV kvs bs u p q i=true↔∃k < u.length,bd kvs (iP u p q (bs.getD i 0) k)=true:=by
 unfold bV;rw[Kd hi,Nh];exact⟨λ⟨k,h1,h2⟩=>⟨k,JY.mp h1,h2⟩,λ⟨k,h1,h2⟩=>⟨k,JY.mpr h1,h2⟩⟩
theorem zR {p q:Pt}{s:JF}:Fw p q s=false↔p.1≠q.1\/∃k < s,p.2.getD k 0≠q.2.getD k 0:=by
 unfold Fw;rw[M7,PM];constructor
 ·rintro(h|⟨k,h1,h2⟩)
  ·exact .inl (by simpa using h)
  ·exact .inr ⟨k,JY.mp h1,by simpa using h2⟩
 ·rintro(h|⟨k,h1,h2⟩)
  ·exact .inl (by simpa using h)
  ·exact .inr ⟨k,JY.mpr h1,by simpa using h2⟩
theorem gU {kvs:Jy (T×W)}{bs:Jy JL}{u:Wd}{p q:Pt}{i:JF}(hi:¬ i < bs.length):bV kvs bs u p q i=true↔p.1≠q.1\/∃k < u.length,p.2.getD k 0≠q.2.getD k 0:=by
 unfold bV;rw[Ku hi,Le,zR]
theorem u6 {ps:Jy JF}{k:JF}:(ps++[k]).getD ps.length 0=k:=by
 rw[J7,KF (JO _),M6]; rfl
theorem u7 {ps:Jy JF}{k:JF}(h:k∈ps):∃j < ps.length,ps.getD j 0=k:=by
 obtain⟨j,hj,e⟩:=O1 h;exact⟨j,hj,by rw[J7,JX hj]; exact e⟩
theorem zS {kvs:Jy (T×W)}{bs:Jy JL}{u:Wd}{p q:Pt}{ps:Jy JF}{i:JF}(h:bV kvs bs u p q i=true)(hn:bV kvs bs (aq bs u ps) (b6 p ps) (b6 q ps) i=false):∃k < u.length,k∉ps/\bV kvs bs (aq bs u (ps++[k])) (b6 p (ps++[k])) (b6 q (ps++[k])) i=true:=by
 have pl:∀ps,(aq bs u ps).length=ps.length:=λps=>cb ..
 have no:¬ bV kvs bs (aq bs u ps) (b6 p ps) (b6 q ps) i=true:=by rw[hn]; exact J5
 have el:∀k,ps.length < (ps++[k]).length:=λk=>by rw[JG,KT]; omega
 by_cases hi:i < bs.length
 ·rw[ju hi]at h no;obtain⟨k,hk,hb⟩:=h;refine⟨k,hk,λz=>?_,?_⟩
  ·obtain⟨j,hj,e⟩:=u7 z;exact no ⟨j,by rw[pl]; exact hj,by rw[rL hj,e]; exact hb⟩
  ·rw[ju hi];exact⟨ps.length,by rw[pl]; exact el k,by rw[rL (el k),u6]; exact hb⟩
 ·rw[gU hi]at h no;rcases h with h|⟨k,hk,hb⟩
  ·exact absurd (.inl h) no
  refine⟨k,hk,λz=>?_,?_⟩
  ·obtain⟨j,hj,e⟩:=u7 z;exact no (.inr ⟨j,by rw[pl]; exact hj,by rw[eM hj,eM hj,e]; exact hb⟩)
  ·rw[gU hi];exact .inr ⟨ps.length,by rw[pl]; exact el k,by rw[eM (el k),eM (el k),u6]; exact hb⟩
theorem zT {kvs:Jy (T×W)}{bs:Jy JL}{u:Wd}{p q x:Pt}{v w:JL}{i:JF}(hp:p.2.length=u.length)(hq:q.2.length=u.length)(h:bV kvs bs u p q i=true):bV kvs bs (u++[x]) (p.1,p.2++[v]) (q.1,q.2++[w]) i=true:=by
 have l1:(u++[x]).length=u.length+1:=by rw[JG]; rfl
 by_cases hi:i < bs.length
 ·rw[ju hi]at h ⊢;obtain⟨k,hk,hb⟩:=h;refine⟨k,by omega,?_⟩
  unfold iP at hb ⊢;dsimp only;rw[aT hk,aV (by omega),aV (by omega)]
  exact hb
 ·rw[gU hi]at h ⊢;rcases h with h|⟨k,hk,hb⟩
  ·exact .inl h
  ·refine .inr ⟨k,by omega,?_⟩
   dsimp only;rw[aV (by omega),aV (by omega)]
   exact hb
noncomputable def kR (kvs:Jy (T×W))(bs:Jy JL)(c:JF)(u:Wd)(p q:Pt):JF:=((JN c).filter λi=>!bV kvs bs u p q i).length
theorem u8 {c i:JF}{f g:JF->Kc}(hi:i < c)(h:∀j,f j=true->g j=true)(h1:f i=false)(h2:g i=true):((JN c).filter λj=>!g j).length < ((JN c).filter λj=>!f j).length:=by
 have e:(JN c).filter (λj=>!g j)=((JN c).filter λj=>!f j).filter λj=>!g j:=by
  rw[Pq];refine PX λj _=>?_
  cases hf:f j with
  | true=>rw[h j hf]; rfl
  | false=>simp
 rw[e];exact List.length_filter_lt_length_iff_exists.mpr ⟨i,KW.mpr ⟨JY.mpr hi,by rw[h1]; rfl⟩,by rw[h2]; exact J5⟩
noncomputable def i3 (kvs:Jy (T×W))(v:Wd)(n:JF)(p:Pt):Jy Pt:=((JN n).map λ(w:JF)=>(p.1,p.2++[(w:JL)])).filter λh=>js kvs (v++[h])
noncomputable def jv (kvs:Jy (T×W))(a n:JF)(u:Wd)(p q:Pt):Jy (Wd×Pt×Pt):=(my kvs u a n).flatMap λx=>(i3 kvs (u++[x]) n p).flatMap λh=>(i3 kvs (u++[x]) n q).map λh'=>(u++[x],h,h')
theorem fJ {kvs:Jy (T×W)}{u:Wd}{x p h:Pt}{n:JF}:h∈i3 kvs (u++[x]) n p↔∃w:JF,w < n/\h=(p.1,p.2++[(w:JL)])/\∀i < u.length,dO kvs (u++[x]) h i u.length=false:=by
 have l1:(u++[x]).length=u.length+1:=by rw[JG]; rfl
 have key:∀h:Pt,js kvs (u++[x]++[h])=true↔∀i < u.length,dO kvs (u++[x]) h i u.length=false:=λh=>by
  rw[mB (s:=u.length) (by rw[JG,l1]; rfl)]
  constructor <;> intro z i hi
  ·have:=z i hi;rw[<- l1,mv hi (by omega)]at this; exact this
  ·rw[<- l1,mv hi (by omega)]; exact z i hi
 unfold i3;rw[KW,key,J4];exact⟨λ⟨⟨w,hw,e⟩,z⟩=>⟨w,JY.mp hw,e.symm,z⟩,λ⟨w,hw,e,z⟩=>⟨⟨w,JY.mpr hw,e.symm⟩,z⟩⟩
theorem Dp {kvs:Jy (T×W)}{u:Wd}{x p h:Pt}{a n:JF}(gp:GoodP a n u.length p)(mp:j8 kvs u u.length p=true)(hh:h∈i3 kvs (u++[x]) n p):GoodP a n (u++[x]).length h/\j8 kvs (u++[x]) (u++[x]).length h=true:=by
 have l1:(u++[x]).length=u.length+1:=by rw[JG]; rfl
 obtain⟨w,hw,rfl,hb⟩:=fJ.mp hh;have gl:=gp.len;refine⟨⟨gp.mark,?_,λz hz=>?_⟩,eG.mpr λq hq i hi=>?_⟩
 ·rw[l1,JG,gl]; rfl
 ·rcases Ko.mp hz with z1|z1
  ·exact gp.way z z1
  ·rw[J0.mp z1]; omega
 ·by_cases e:q=u.length
  ·subst e; exact hb i hi
  ·have hq':q < u.length:=by omega
   have:=eG.mp mp q hq' i hi;unfold dO at this ⊢;dsimp only;rw[aT (Mb hi hq'),aT hq',aV (by omega),aV (by omega)]
   exact this
theorem u9 {bs:Jy JL}{kvs:Jy (T×W)}{u:Wd}{p q:Pt}{a n:JF}{c:Wd×Pt×Pt}(h:Cf a n kvs u p q)(hc:c∈jv kvs a n u p q):Cf a n kvs c.1 c.2.1 c.2.2/\c.1.length=u.length+1/\∀i,bV kvs bs u p q i=true->bV kvs bs c.1 c.2.1 c.2.2 i=true:=by
 unfold jv at hc;obtain⟨x,hx,hc⟩:=KA.mp hc;obtain⟨h1,hh1,hc⟩:=KA.mp hc;obtain⟨h2,hh2,rfl⟩:=J4.mp hc;obtain⟨g1,g2,g3,g4⟩:=fX.mp hx;obtain⟨p1,p2⟩:=Dp h.gp h.mp hh1;obtain⟨q1,q2⟩:=Dp h.gq h.mq hh2;refine⟨⟨h.gu.snoc (m:=x.1) (ws:=x.2) g1 g2 g3,Std.both.mpr ⟨h.su,eG.mpr λj hj i hi=>g4 i j hi hj⟩,p1,p2,q1,q2⟩,by rw[JG]; rfl,λi hi=>?_⟩
 obtain⟨w1,_,rfl,_⟩:=fJ.mp hh1;obtain⟨w2,_,rfl,_⟩:=fJ.mp hh2;exact zT h.gp.len h.gq.len hi
theorem wI {p:Pt}{ps:Jy JF}{k:JF}:b6 p (ps++[k])=((b6 p ps).1,(b6 p ps).2++[p.2.getD k 0]):=by
 unfold b6;rw[Kb]; rfl
theorem zU {bs:Jy JL}{kvs:Jy (T×W)}{u:Wd}{p q:Pt}{a:JF}{ps:Jy JF}{k:JF}(hb:GoodB bs)(cl:Cl bs kvs)(h:Cf a bs.length kvs u p q)(hO:Ord u.length (ps++[k])):(aq bs u (ps++[k]),b6 p (ps++[k]),b6 q (ps++[k]))∈jv kvs a bs.length (aq bs u ps) (b6 p ps) (b6 q ps):=by
 have C:=h.part hb cl hO;have hk:k < u.length:=hO.lt k (by simp)
 rw[oD]at C ⊢;generalize u4 bs u ps k=x at C;generalize aq bs u ps=v at C;have l1:(v++[x]).length=v.length+1:=by rw[JG]; rfl
 have hx:(v++[x])[v.length]?=gV x:=by rw[KF (JO _),M6]; rfl
 obtain⟨_,mx⟩:=Std.both.mp C.su;have one:∀r:Pt,GoodP a bs.length u.length r->j8 kvs (v++[x]) (v++[x]).length (b6 r (ps++[k]))=true->b6 r (ps++[k])∈i3 kvs (v++[x]) bs.length (b6 r ps):=λr gr mr=>by
  obtain⟨w0,w1⟩:=gr.way _ (JT (ay (d:=0) (by rw[gr.len]; exact hk)))
  refine fJ.mpr ⟨(r.2.getD k 0).toNat,by omega,?_,λi hi=>eG.mp mr v.length (by omega) i hi⟩
  rw[wI,Lc w0]
 unfold jv;refine KA.mpr ⟨x,fX.mpr ⟨C.gu.mark _ _ hx,C.gu.len _ _ hx,C.gu.way _ _ hx,λi j hi hj=>eG.mp mx j hj i hi⟩,KA.mpr ⟨_,one p h.gp C.mp,J4.mpr ⟨_,one q h.gq C.mq,rfl⟩⟩⟩
noncomputable def Sub (bs:Jy JL)(U:Wd)(P Q:Pt)(u:Wd)(p q:Pt):Prop:=∃ps,Ord U.length ps/\u=aq bs U ps/\p=b6 P ps/\q=b6 Q ps
noncomputable def dB (a:JF)(bs:Jy JL)(kvs:Jy (T×W))(c:JF)(u:Wd)(p q:Pt):Prop:=∀U P Q,Cf a bs.length kvs U P Q->Full kvs bs c U P Q->¬ Sub bs U P Q u p q
theorem zV {bs:Jy JL}{kvs:Jy (T×W)}{u:Wd}{p q:Pt}{a c i:JF}(hb:GoodB bs)(cl:Cl bs kvs)(hi:i < c)(hn:bV kvs bs u p q i=false)(h:∀x∈jv kvs a bs.length u p q,bV kvs bs x.1 x.2.1 x.2.2 i=true->dB a bs kvs c x.1 x.2.1 x.2.2):dB a bs kvs c u p q:=by
 rintro U P Q hC hF ⟨ps,hO,rfl,rfl,rfl⟩;obtain⟨k,hk,hkp,hh⟩:=zS (hF i hi) hn;have hO':Ord U.length (ps++[k]):=⟨by
  rw[NR];exact⟨hO.nd,by simp,λx hx y hy e=>by rw[J0.mp hy]at e; exact hkp (e ▸ hx)⟩,λx hx=>by
  rcases Ko.mp hx with h1|h1
  ·exact hO.lt x h1
  ·rw[J0.mp h1]; exact hk⟩
 exact h _ (zU hb cl hC hO') hh U P Q hC hF ⟨_,hO',rfl,rfl,rfl⟩
theorem wJ {bs:Jy JL}{u:Wd}{one other:Pt}{b:JL}{p:JF}:aq bs (iP u one other b p) [0,2,1]=iP u other one (bs.getD b.toNat 0) p:=rfl
theorem Full.turn {bs:Jy JL}{kvs:Jy (T×W)}{u:Wd}{p q:Pt}{c:JF}(hb:GoodB bs)(cl:Cl bs kvs)(hc:bs.length<=c)(h:Full kvs bs c u p q):Full kvs bs c u q p:=by
 intro i hi
 by_cases hn:i < bs.length
 ·obtain⟨b,hb1,hb2,hb3⟩:=hb.rng i hn;have hj:(bs.getD i 0).toNat < bs.length:=by rw[getD_some hb1]; omega
  obtain⟨k,hk,hh⟩:=(ju hj).mp (h _ (Kg hj hc));rw[hb.inv i hn]at hh;refine(ju hn).mpr ⟨k,hk,?_⟩;have:=cl _ [0,2,1] (by decide) hh
  rw[wJ,JW]at this;exact this
 ·refine(gU hn).mpr ?_;rcases(gU hn).mp (h i hi)with z|⟨k,hk,z⟩
  ·exact .inl λe=>z e.symm
  ·exact .inr ⟨k,hk,λe=>z e.symm⟩
theorem Cf.turn {a n:JF}{kvs:Jy (T×W)}{u:Wd}{p q:Pt}(h:Cf a n kvs u p q):Cf a n kvs u q p:=⟨h.gu,h.su,h.gq,h.mq,h.gp,h.mp⟩
theorem CD {bs:Jy JL}{U:Wd}{P Q:Pt}:Sub bs U P Q [] (P.1,[]) (Q.1,[]):=⟨[],⟨.nil,λ_ h=>nomatch h⟩,rfl,rfl,rfl⟩
noncomputable def As (a:JF)(bs:Jy JL)(kvs:Jy (T×W))(c:JF):Prop:=∃U P Q,Cf a bs.length kvs U P Q/\Full kvs bs c U P Q
theorem Dq {bs:Jy JL}{kvs:Jy (T×W)}{a c:JF}(hb:GoodB bs)(cl:Cl bs kvs)(hc:bs.length<=c)(h:∀i j:JF,i < a->i<=j->j < a->dB a bs kvs c [] ((i:JL),[]) ((j:JL),[])):¬ As a bs kvs c:=by
 rintro⟨U,P,Q,hC,hF⟩;have go:∀P Q:Pt,Cf a bs.length kvs U P Q->Full kvs bs c U P Q->P.1<=Q.1->KZ:=λP Q hC hF hle=>by
  obtain⟨p0,p1⟩:=hC.gp.mark;obtain⟨q0,q1⟩:=hC.gq.mark;have:=h P.1.toNat Q.1.toNat (by omega) (by omega) (by omega) U P Q hC hF
  rw[Lc p0,Lc q0]at this;exact this CD
 rcases Int.le_total P.1 Q.1 with hle|hle
 ·exact go P Q hC hF hle
 ·exact go Q P hC.turn (hF.turn hb cl hc) hle
noncomputable def ci:Ss:=
 (.cons (.set 4 (.comp (.tup (.cons (.ix (.v 2) (.c (.int 0))) (.cons (.op .add (.ix (.v 2) (.c (.int 1))) (.tup (.cons (.v 1) .nil))) .nil))) (.nm 1) (.rng (.cons (.bi .len (.cons (.ix (.v 0) (.c (.int 1))) .nil)) .nil)) .nil [td,td,gV 3]))
 (.cons (.ret (.comp (.v 1) (.nm 1) (.seq (.v 4)) (.cons (.cmp .is (.own "first_bar" 2 (.cons (.v 2) (.cons (.op .add (.v 3) (.tup (.cons (.v 1) .nil))) .nil))) (.c .non)) .nil) [td,td,gV 1,gV 2]))
 .nil))
noncomputable def cw:Ss:=
 (.cons (.set 3 (.lst .nil))
 (.cons (.loop (.nm 4) (.seq (.own "wishes_over" 3 (.cons (.v 0) (.cons (.v 1) (.cons (.ix (.v 2) (.c (.int 0))) .nil))))) (.cons (.set 5 (.op .add (.ix (.v 2) (.c (.int 0))) (.tup (.cons (.v 4) .nil))))
 (.cons (.set 6 (.own "longer_by_a_way" 4 (.cons (.v 0) (.cons (.v 1) (.cons (.v 5) (.cons (.ix (.v 2) (.c (.int 2))) .nil))))))
 (.cons (.loop (.nm 7) (.seq (.own "longer_by_a_way" 4 (.cons (.v 0) (.cons (.v 1) (.cons (.v 5) (.cons (.ix (.v 2) (.c (.int 1))) .nil)))))) (.cons (.ex (.me .extend (.v 3) (.cons (.comp (.tup (.cons (.v 2) (.cons (.v 3) (.cons (.v 1) .nil)))) (.nm 1) (.seq (.v 6)) .nil [td,td,gV 5,gV 7]) .nil)))
 .nil))
 .nil))))
 (.cons (.ret (.v 3))
 .nil)))
noncomputable def cW (c:Wd×Pt×Pt):W:=.tup [aK c.1,aO c.2.1,aO c.2.2]
theorem pS {kvs:Jy (T×W)}{v:Wd}{n:JF}{p:Pt}:(i3 kvs v n p).length<=n:=by
 unfold i3;exact J8 (KC _ _) (by rw[Jz,J6]; exact JO _)
theorem gy {α β:Type}{m:JF}{F:α->Jy β}(h:∀x,(F x).length<=m):∀xs:Jy α,(xs.flatMap F).length<=xs.length*m
 | []=>by simp
 | x::xs=>by
  rw[Mf,JG,Kk,Nat.add_mul,Nat.one_mul];have:=gy h xs;have:=h x;omega
theorem zW {kvs:Jy (T×W)}{u:Wd}{a n:JF}(ha:a<=3)(hn:n<=3)(hu:u.length<=3):(my kvs u a n).length<=81:=by
 have h1:n ^ u.length<=27:=J8 (O0 hn _) (MH (n:=3) (by decide) hu)
 have:=gy (F:=λ(m:JF)=>dv kvs u n (m:JL) u.length) (λm=>J8 (fW u.length) h1) (JN a)
 rw[J6]at this;exact J8 this (by omega)
section
variable{defs:Jy (JZ×Df)}{fuel d:JF}{S:aa}{Q:QW}
theorem zX (h3:Is defs ("three_at" : JZ) 4 6 cm)(hfb:Is defs ("first_bar" : JZ) 2 4 bI)(hg:Is defs ("longer_by_a_way" : JZ) 4 5 ci){m0 b0:W}{N:Jy W}{a n q:JF}{v:Wd}{p:Pt}{kvs:Jy (T×W)}(hN:N.length=n)(hn3:n<=3)(hv:GoodW a n v)(hv1:1<=v.length)(hvl:v.length<=10)(hp0:0<=p.1/\p.1 < a)(hpl:p.2.length+1=v.length)(hpw:∀w∈p.2,0<=w/\w < (n:JL))(e:S[q]?=gV (.dic kvs))
  (k:∀(l:JF) S',S'[l]?=gV (.lst ((i3 kvs v n p).map aO))->S.length<=l->Ka S S'->Q (.ref l,S')) :
  wO (bx (ar defs fuel (d+3)) "longer_by_a_way" 4 [.tup [m0,.tup N,b0],.ref q,aK v,aO p] S) Q:=by
 refine aB hg rfl rfl λQ' hR=>?_
 replace k:∀(l:JF) S',S'[l]?=gV (.lst ((i3 kvs v n p).map aO))->S.length<=l->Ka S S'->Q' (.rt (.ref l),S'):=λl S' a b c=>hR _ _ (k l S' a b c)
 clear hR;show wZ _ _ ci [gV (.tup [m0,.tup N,b0]),gV (.ref q),gV (aK v),gV (aO p),td] S Q';dsimp only[ci];refine st ?_;dsimp only[wS,wE,JQ];refine pP n (λ_=>true) (λ(w:JF)=>aO (p.1,p.2++[(w:JL)])) [gV (aO p)] rfl rfl rfl rfl (by omega) ?_ (λw hw S2 k2=>?_) λS2 k2=>?_
 ·dsimp only[wE,wA,wV,wG];refine ae (by decide) rfl (bH ?_)
  rw[hN];exact⟨rfl,.refl⟩
 ·dsimp only[iO,wC,wE,wA,wV,wG];refine⟨λ_=>?_,λz=>by cases z⟩
  refine ae (by decide) rfl (ae (by decide) rfl ?_)
  refine ab (c8 (gE (by rw[JG,Jz]; show _+1<=_; omega))) ?_
  refine⟨rfl,?_,.refl⟩;unfold aO;dsimp only;rw[Kb]; rfl
 ·rw[fU];refine st ?_;dsimp only[wS,wE];have em:((JN n).map λ(w:JF)=>aO (p.1,p.2++[(w:JL)]))=(((JN n).map λ(w:JF)=>((p.1,p.2++[(w:JL)]):Pt)).map aO):=by rw[LI]; rfl
  rw[em];refine j7 ((JN n).map λ(w:JF)=>((p.1,p.2++[(w:JL)]):Pt)) aO (λh=>js kvs (v++[h])) aO [gV (.ref q),gV (aK v)] rfl rfl rfl rfl (by rw[Jz,J6]; omega) ⟨_,rfl,ak,.refl⟩ (λh hh S3 k3=>?_) λS3 k3=>?_
  ·obtain⟨w,hw,rfl⟩:=J4.mp hh;have hw:=JY.mp hw;have gv:GoodW a n (v++[(p.1,p.2++[(w:JL)])]):=hv.snoc hp0 (by rw[JG]; exact hpl) λx hx=>by
    rcases Ko.mp hx with z|z
    ·exact hpw x z
    ·rw[J0.mp z]; omega
   generalize((p.1,p.2++[(w:JL)]):Pt)=h at gv;have vl:(v++[h]).length=v.length+1:=by rw[JG]; rfl
   dsimp only[iO,wC,wT,wE,wA,wV,wG,aK];have ev:v.map aO++[aO h]=(v++[h]).map aO:=by rw[Kb]; rfl
   refine ab (c8 (gE (by rw[ev,Jz]; omega))) ?_
   dsimp only;rw[ev];have fb:=λ(Q:QW)=>kP (fuel:=fuel) (d:=d) (Q:=Q) h3 hfb gv (by omega) (by omega) ((k2.trans (Ka.push.trans k3)).get _ _ e)
   unfold aK at fb;refine fb _ λz hz=>?_
   rcases hz with⟨rfl,hz⟩|⟨i,rfl,hz⟩
   ·refine ab (show cv .is .non .non S3=gV (.bl true,S3)from rfl) ?_
    dsimp only[wB];exact⟨λ_=>⟨hz,rfl,.refl⟩,λz=>by cases z⟩
   ·refine ab (show cv .is (.int i) .non S3=gV (.bl false,S3)from rfl) ?_
    dsimp only[wB];exact⟨λz=>(by cases z),λ_=>⟨hz,.refl⟩⟩
  ·refine k _ _ ak ?_ ((k2.trans (Ka.push.trans k3)).trans .push);have:=(k2.trans (Ka.push.trans k3)).len;exact this
structure Sea (defs:Jy (JZ×Df)):Prop where
 three:Is defs ("three_at" : JZ) 4 6 cm
 fbar:Is defs ("first_bar" : JZ) 2 4 bI
 lwish:Is defs ("longer_wishes" : JZ) 2 5 cf
 wover:Is defs ("wishes_over" : JZ) 3 7 dh
 byway:Is defs ("longer_by_a_way" : JZ) 4 5 ci
 bypt:Is defs ("longer_by_a_point" : JZ) 3 8 cw
theorem tH (X:Sea defs){M N:Jy W}{b0:W}{a n q:JF}{u:Wd}{p r:Pt}{kvs:Jy (T×W)}(hM:M.length=a)(hN:N.length=n)(ha3:a<=3)(hn3:n<=3)(hC:Cf a n kvs u p r)(hul:u.length<=3)(e:S[q]?=gV (.dic kvs))
  (k:∀(l:JF) S',S'[l]?=gV (.lst ((jv kvs a n u p r).map cW))->S.length<=l->Ka S S'->Q (.ref l,S')) :
  wO (bx (ar defs fuel (d+4)) "longer_by_a_point" 3 [.tup [.tup M,.tup N,b0],.ref q,.tup [aK u,aO p,aO r]] S) Q:=by
 refine aB X.bypt rfl rfl λQ' hR=>?_
 replace k:∀(l:JF) S',S'[l]?=gV (.lst ((jv kvs a n u p r).map cW))->S.length<=l->Ka S S'->Q' (.rt (.ref l),S'):=λl S' a b c=>hR _ _ (k l S' a b c)
 clear hR;show wZ _ _ cw [gV (.tup [.tup M,.tup N,b0]),gV (.ref q),gV (.tup [aK u,aO p,aO r]),td,td,td,td,td] S Q';have wl:=zW (kvs:=kvs) (u:=u) ha3 hn3 hul;have ww:=λ(S:aa) (Q:QW) e=>nq (defs:=defs) (fuel:=fuel) (d:=d) (S:=S) (Q:=Q) (M:=M) (N:=N) (b0:=b0) (q:=q) X.three X.fbar X.lwish X.wover hM hN ha3 hn3 hC.gu (J8 hul (by decide)) (kvs:=kvs) e
 have bw:=λ(v:Wd) (p:Pt) (S:aa) (Q:QW) hv hv1 hvl hp0 hpl hpw e=>zX (defs:=defs) (fuel:=fuel) (d:=d) (S:=S) (Q:=Q) (m0:=.tup M) (N:=N) (b0:=b0) (q:=q) (a:=a) (n:=n) (kvs:=kvs) (v:=v) (p:=p) X.three X.fbar X.byway hN hn3 hv hv1 hvl hp0 hpl hpw e
 generalize W.tup [.tup M,.tup N,b0]=R at ww bw;have hF:∀x:Pt,((i3 kvs (u++[x]) n p).flatMap λh=>(i3 kvs (u++[x]) n r).map λh'=>(u++[x],h,h')).length<=9:=λx=>by
  have h1:=gy (F:=λh=>(i3 kvs (u++[x]) n r).map λh'=>(u++[x],h,h')) (m:=3) (λh=>by rw[Jz]; exact J8 pS hn3) (i3 kvs (u++[x]) n p)
  have h2:=pS (kvs:=kvs) (v:=u++[x]) (n:=n) (p:=p);omega
 unfold jv at k;generalize hwF:my kvs u a n=ws at k wl ww;dsimp only[cw];refine st ?_;dsimp only[wS,wE,wA,JQ];refine bj λK hK=>?_
 refine dg rfl rfl ?_;dsimp only[wE,wA,wV,wG];refine ae (by decide) rfl (ww _ _ (au e) λt S2 e2 ht k2=>?_)
 have hSt:S.length < t:=by
  have h1:(S++[O.lst []]).length=S.length+1:=by simp
  have h2:(S++[O.lst []]).length<=t:=ht;omega
 refine⟨t,ws.map aO,λi ρ S'=>(∃a4 a5 a6 a7,ρ=[gV R,gV (.ref q),gV (.tup [aK u,aO p,aO r]),gV (.ref S.length),a4,a5,a6,a7])/\S'[S.length]?=gV (.lst (((ws.take i).flatMap λx=>(i3 kvs (u++[x]) n p).flatMap λh=>(i3 kvs (u++[x]) n r).map λh'=>(u++[x],h,h')).map cW))/\S'[t]?=gV (.lst (ws.map aO))/\Ka S S',rfl,⟨⟨_,_,_,_,rfl⟩,k2.get _ _ ak,e2,Ka.push.trans k2⟩,λ_ _ _ h=>h.2.2.1,?_,?_⟩
 ·rintro i w ρ S3 hw ⟨⟨a4,a5,a6,a7,rfl⟩,e3,t3,k3⟩;clear hK;rw[JJ,JC]at hw;obtain⟨x,hx,rfl⟩:=hw;have hxm:=JT hx;rw[<- hwF]at hxm;obtain⟨g1,g2,g3,_⟩:=fX.mp hxm;have gv:GoodW a n (u++[x]):=hC.gu.snoc (m:=x.1) (ws:=x.2) g1 g2 g3;have vl:(u++[x]).length=u.length+1:=by rw[JG]; rfl
  have hil:i < ws.length:=(JU.mp hx).1;refine ab (show gd (.nm 4) (aO x) [gV R,gV (.ref q),gV (.tup [aK u,aO p,aO r]),gV (.ref S.length),a4,a5,a6,a7] S3=gV ([gV R,gV (.ref q),gV (.tup [aK u,aO p,aO r]),gV (.ref S.length),gV (aO x),a5,a6,a7],S3)from rfl) ?_
  intro Q3 hn _;refine st ?_;dsimp only[wS,wE,wA,wV,wG,JQ];refine ae (by decide) rfl ?_
  dsimp only[aK];have ev:u.map aO++[aO x]=(u++[x]).map aO:=by rw[Kb]; rfl
  refine ab (c8 (gE (by rw[ev,Jz]; omega))) ?_
  dsimp only;rw[ev];have hs:∀xs:Wd,W.tup (xs.map aO)=aK xs:=λ_=>rfl
  rw[hs,hs];refine st ?_;dsimp only[wS,wE,wA,wV,wG,JQ];refine ae (by decide) rfl (bw (u++[x]) r _ _ gv (by omega) (by omega) hC.gq.mark (by rw[hC.gq.len,vl]) hC.gq.way (k3.get _ _ e) λt6 S4 e6 ht6 k4=>?_)
  have t4:=k4.get _ _ t3;have e4:=k4.get _ _ e3;have hS3:=cO t3;refine bj λK hK=>?_
  refine dg rfl rfl ?_;dsimp only[wE,wA,wV,wG];refine ae (by decide) rfl (bw (u++[x]) p _ _ gv (by omega) (by omega) hC.gp.mark (by rw[hC.gp.len,vl]) hC.gp.way ((k3.trans k4).get _ _ e) λt7 S5 e7 ht7 k5=>?_)
  have lp:=pS (kvs:=kvs) (v:=u++[x]) (n:=n) (p:=p);have lr:=pS (kvs:=kvs) (v:=u++[x]) (n:=n) (p:=r);have hF':=hF x;have eD:ws.take (i+1)=ws.take i++[x]:=by rw[Kt,hx]; rfl
  have fl:=gy (F:=λx=>(i3 kvs (u++[x]) n p).flatMap λh=>(i3 kvs (u++[x]) n r).map λh'=>(u++[x],h,h')) hF (ws.take i)
  rw[Kf]at fl;have h46:=cO e6;have h4:S.length < t6:=by have:S3.length<=t6:=ht6; omega
  have h7:S.length < t7:=by have:S4.length<=t7:=ht7; have:=k4.len; omega
  refine⟨t7,(i3 kvs (u++[x]) n p).map aO,λj ρ S'=>(∃a7,ρ=[gV R,gV (.ref q),gV (.tup [aK u,aO p,aO r]),gV (.ref S.length),gV (aO x),gV (aK (u++[x])),gV (.ref t6),a7])/\S'[S.length]?=gV (.lst (((ws.take i).flatMap (λx=>(i3 kvs (u++[x]) n p).flatMap λh=>(i3 kvs (u++[x]) n r).map λh'=>(u++[x],h,h'))++((i3 kvs (u++[x]) n p).take j).flatMap λh=>(i3 kvs (u++[x]) n r).map λh'=>(u++[x],h,h')).map cW))/\S'[t7]?=gV (.lst ((i3 kvs (u++[x]) n p).map aO))/\S'[t6]?=gV (.lst ((i3 kvs (u++[x]) n r).map aO))/\S'[t]?=gV (.lst (ws.map aO))/\Ka S S',rfl,⟨⟨_,rfl⟩,by rw[OO,Qe,K6]; exact k5.get _ _ e4,e7,k5.get _ _ e6,k5.get _ _ t4,(k3.trans k4).trans k5⟩,λ_ _ _ h=>h.2.2.1,?_,?_⟩
  ·rintro j w ρ S6 hw ⟨⟨a7,rfl⟩,e8,f7,f6,ft,k8⟩;clear hK hn;rw[JJ,JC]at hw;obtain⟨h,hh,rfl⟩:=hw;have hjl:j < (i3 kvs (u++[x]) n p).length:=(JU.mp hh).1;refine ab (show gd (.nm 7) (aO h) [gV R,gV (.ref q),gV (.tup [aK u,aO p,aO r]),gV (.ref S.length),gV (aO x),gV (aK (u++[x])),gV (.ref t6),a7] S6=gV ([gV R,gV (.ref q),gV (.tup [aK u,aO p,aO r]),gV (.ref S.length),gV (aO x),gV (aK (u++[x])),gV (.ref t6),gV (aO h)],S6)from rfl) ?_
   intro Q4 hn4 _;refine st ?_;dsimp only[wS,wE,wA,wV,wG];refine⟨dQ e8,?_⟩;refine j7 (i3 kvs (u++[x]) n r) aO (λ_=>true) (λh'=>cW (u++[x],h,h')) [gV (aK (u++[x])),gV (aO h)] rfl rfl rfl rfl (by omega) ⟨t6,rfl,f6,.refl⟩ (λh' _ S7 k7=>?_) λS7 k7=>?_
   ·dsimp only[iO,wC,wE,wA,wV,wG];exact⟨λ_=>⟨rfl,rfl,.refl⟩,λz=>by cases z⟩
   ·rw[fU];have kk:=k7.trans (Ka.push (o:=O.lst ((i3 kvs (u++[x]) n r).map λh'=>cW (u++[x],h,h'))))
    have gl:=gy (F:=λh=>(i3 kvs (u++[x]) n r).map λh'=>(u++[x],h,h')) (m:=3) (λh=>by rw[Jz]; omega) ((i3 kvs (u++[x]) n p).take j)
    rw[Kf]at gl;refine Hj (kk.get _ _ e8) ak ?_ (bW (hn4 _ _ ⟨⟨_,rfl⟩,?_,?_,?_,?_,(k8.trans kk).late (JO _)⟩))
    ·rw[Jz,JG,Jz];omega
    ·rw[b9 (kk.get _ _ e8),Kt,hh];simp[LB,Kb,cW,NQ]
    ·rw[bY (by omega)]; exact kk.get _ _ f7
    ·rw[bY (by omega)]; exact kk.get _ _ f6
    ·rw[bY (by omega)]; exact kk.get _ _ ft
  ·rintro ρ S6 ⟨⟨a7,rfl⟩,e8,f7,f6,ft,k8⟩;rw[Jz,Kw]at e8;refine hK _ _ (bW (hn _ _ ⟨⟨_,_,_,_,rfl⟩,?_,ft,k8⟩));rw[eD,LB,List.flatMap_singleton];exact e8
 ·rintro ρ S3 ⟨⟨a4,a5,a6,a7,rfl⟩,e3,t3,k3⟩;rw[Jz,Kw]at e3;refine hK _ _ (st ?_);dsimp only[wS,wE,wV,wG];exact k _ _ e3 (JO _) k3
end
noncomputable def cj:Ss:=
 (.cons (.set 4 (.sl (.own "all_bars" 5 (.cons (.v 0) (.cons (.v 1) (.cons (.ix (.v 2) (.c (.int 0))) (.cons (.ix (.v 2) (.c (.int 1))) (.cons (.ix (.v 2) (.c (.int 2))) .nil)))))) .no (.yes (.v 3))))
 (.cons (.ite (.cmp .notin (.c .non) (.v 4)) (.cons (.ret (.v 2))
 .nil) .nil)
 (.cons (.set 5 (.me .index (.v 4) (.cons (.c .non) .nil)))
 (.cons (.loop (.nm 6) (.seq (.own "longer_by_a_point" 3 (.cons (.v 0) (.cons (.v 1) (.cons (.v 2) .nil))))) (.cons (.ite (.cmp .isnot (.ix (.own "all_bars" 5 (.cons (.v 0) (.cons (.v 1) (.cons (.ix (.v 6) (.c (.int 0))) (.cons (.ix (.v 6) (.c (.int 1))) (.cons (.ix (.v 6) (.c (.int 2))) .nil)))))) (.v 5)) (.c .non)) (.cons (.set 7 (.own "unfilled_behind" 4 (.cons (.v 0) (.cons (.v 1) (.cons (.v 6) (.cons (.v 3) .nil))))))
 (.cons (.ite (.cmp .isnot (.v 7) (.c .non)) (.cons (.ret (.v 7))
 .nil) .nil)
 .nil)) .nil)
 .nil))
 (.cons (.ret (.c .non))
 .nil)))))
noncomputable def cZ:Ss:=
 (.cons (.set 2 (.own "barred_threes" 1 (.cons (.v 0) .nil)))
 (.cons (.loop (.nm 3) (.rng (.cons (.bi .len (.cons (.ix (.v 0) (.c (.int 0))) .nil)) .nil)) (.cons (.loop (.nm 4) (.rng2 (.cons (.v 3) (.cons (.bi .len (.cons (.ix (.v 0) (.c (.int 0))) .nil)) .nil))) (.cons (.set 5 (.own "unfilled_behind" 4 (.cons (.v 0) (.cons (.v 2) (.cons (.tup (.cons (.tup .nil) (.cons (.tup (.cons (.v 3) (.cons (.tup .nil) .nil))) (.cons (.tup (.cons (.v 4) (.cons (.tup .nil) .nil))) .nil)))) (.cons (.v 1) .nil))))))
 (.cons (.ite (.cmp .isnot (.v 5) (.c .non)) (.cons (.ret (.v 5))
 .nil) .nil)
 .nil)))
 .nil))
 (.cons (.ret (.c .non))
 .nil)))
noncomputable def jw:Ss:=
 (.cons (.ret (.own "first_unfilled" 2 (.cons (.v 0) (.cons (.op .add (.bi .len (.cons (.ix (.v 0) (.c (.int 1))) .nil)) (.c (.int 1))) .nil))))
 .nil)
noncomputable def jx:Ss:=
 (.cons (.ret (.own "first_unfilled" 2 (.cons (.v 0) (.cons (.bi .len (.cons (.ix (.v 0) (.c (.int 1))) .nil)) .nil))))
 .nil)
theorem rM {kvs:Jy (T×W)}{bs:Jy JL}{a k:JF}{u:Wd}{p q:Pt}{i:JF}(h1:GoodP a k u.length p)(h2:GoodP a k u.length q)(hi:i<=bs.length):∃w,(gC (λv p=>dC kvs v p u.length (u.length+1)) bs u p q)[i]?=gV w/\NI w/\Hl w = !bV kvs bs u p q i:=by
 by_cases hn:i < bs.length
 ·refine⟨cL (λk=>dC kvs (d0 bs u p q i) k u.length (u.length+1)) u.length,?_,kQ _ _,?_⟩
  ·unfold gC;rw[Kn (by rw[Jz,J6]; exact hn),JJ,LQ hn]; rfl
  ·unfold bV;rw[Kd hn,oG,N6];rw[LC,J3,J3];have key:∀k∈JN u.length,dC kvs (d0 bs u p q i) k u.length (u.length+1)=bd kvs (iP u p q (bs.getD i 0) k):=λk hk=>by
    unfold dC bd;rw[tD h1 h2 (JY.mp hk)]
   exact⟨λh k hk=>by rw[<- key k hk]; exact h k hk,λh k hk=>by rw[key k hk]; exact h k hk⟩
 ·obtain rfl:i=bs.length:=by omega
  refine⟨jt p q,?_,tz _ _,?_⟩
  ·unfold gC;rw[KF (by rw[Jz,J6]; exact JO _),Jz,J6,M6]; rfl
  ·unfold bV;rw[Ku hn,PY];unfold jt Fw
   by_cases e:p.1=q.1
   ·rw[Kd e,oG,h1.len,e,KY,Mk];congr 1
    funext p
    rw[PY]
   ·rw[Ku e,show(p.1==q.1)=false by simpa using e]; rfl
theorem tJ {w:W}(h:NI w):mY w .non=Hl w:=by
 rcases h with rfl|⟨i,rfl⟩ <;> rfl
theorem wK {Y:Jy W}{c:JF}{f:JF->Kc}(hl:Y.length=c)(h:∀i < c,∃w,Y[i]?=gV w/\NI w/\Hl w = !f i):(∀w∈Y,NI w)/\(((Y.any λz=>mY z .non)=false/\∀i < c,f i=true)\/∃i < c,(Y.any λz=>mY z .non)=true/\(Y.findIdx? λz=>mY z .non)=gV i/\f i=false):=by
 have ni:∀w∈Y,NI w:=λw hw=>by
  obtain⟨i,hi,e⟩:=O1 hw;obtain⟨w',h1,h2,_⟩:=h i (by omega)
  rw[JX hi,e]at h1;cases h1; exact h2
 refine⟨ni,?_⟩;cases hf:Y.findIdx? λz=>mY z .non with
 | none=>
  rw[List.findIdx?_eq_none_iff]at hf;refine .inl ⟨List.any_eq_false.mpr λx hx=>by rw[hf x hx]; exact J5,λi hi=>?_⟩
  obtain⟨w,h1,h2,h3⟩:=h i hi;have:=hf w (JT h1);rw[tJ h2,h3]at this
  simpa using this
 | some i=>
  obtain⟨hi,h1,_⟩:=L4.mp hf;obtain⟨w,h2,h3,h4⟩:=h i (by omega)
  rw[JX hi]at h2;cases h2;rw[tJ h3,h4]at h1;refine .inr ⟨i,by omega,Nh.mpr ⟨_,K7 hi,by rw[tJ h3,h4]; exact h1⟩,rfl,by simpa using h1⟩
theorem vc {Y:Jy W}(h:∀w∈Y,NI w):Y.all bG=true:=J3.mpr λw hw=>by
 rcases h w hw with rfl|⟨i,rfl⟩ <;> rfl
theorem zY {S:aa}{Y:Jy W}(h:∀w∈Y,NI w):cv .notin .non (.tup Y) S=gV (.bl (!(Y.any λz=>mY z .non)),S):=by
 have hf:(bG .non&&Y.all bG)=true:=by rw[vc h]; rfl
 simp only[cv,gK,Bh,xO,eQ,hf,L1,Kq]
theorem zZ {S:aa}{w:W}(h:NI w):cv .isnot w .non S=gV (.bl (!Hl w),S):=by
 rcases h with rfl|⟨i,rfl⟩ <;> rfl
theorem CF {S:aa}{Y:Jy W}{i:JF}{Q:QW}(h:∀w∈Y,NI w)(hi:(Y.findIdx? λz=>mY z .non)=gV i)(q:Q (.int (i:JL),S)):wO (Me.index.fn (.tup Y) [.non] S) Q:=by
 refine ab ?_ q;show ja (.tup Y) [.non] S=_;simp only[ja,vc h,L1,hi,Kq]
noncomputable def IZ (a:JF)(bs:Jy JL)(kvs:Jy (T×W))(c:JF)(u:Wd)(p q:Pt)(w:W):Prop:=(w=.non/\dB a bs kvs c u p q)\/∃x:Wd×Pt×Pt,w=cW x/\Cf a bs.length kvs x.1 x.2.1 x.2.2/\Full kvs bs c x.1 x.2.1 x.2.2/\x.1.length<=c
section
variable{defs:Jy (JZ×Df)}{fuel:JF}
theorem tK (F:Fil defs)(X:Sea defs)(hg:Is defs ("unfilled_behind" : JZ) 4 8 cj){ms:Jy W}{b0:W}{ns:Jy JZ}{bs:Jy JL}{a q c:JF}{kvs:Jy (T×W)}(hb:GoodB bs)(hnl:ns.length=bs.length)(hml:ms.length=a)(ha3:a<=3)(cl:Cl bs kvs)(hc1:c<=bs.length+1) :
  ∀(m d:JF) (S:aa) (Q:QW) (u:Wd) (p r:Pt),Cf a bs.length kvs u p r->kR kvs bs c u p r<=m->u.length+m<=c->S[q]?=gV (.dic kvs)->(∀w S',IZ a bs kvs c u p r w->Ka S S'->Q (w,S'))->
  wO (bx (ar defs fuel (d+m+5)) "unfilled_behind" 4 [.tup [.tup ms,.tup (JR aU ns bs),b0],.ref q,.tup [aK u,aO p,aO r],.int (c:JL)] S) Q:=by
 have hb3:bs.length<=3:=by rcases hb with rfl|rfl|rfl|rfl|rfl|rfl <;> decide
 have zl:(JR aU ns bs).length=bs.length:=by rw[Ld,hnl]; omega
 intro m
 induction m with
 | zero=>?_
 | succ m ih=>?_
 all_goals
  intro d S Q u p r hC hleft hlen e k;refine aB hg rfl rfl λQ' hR=>?_
  replace k:∀w S',IZ a bs kvs c u p r w->Ka S S'->Q' (.rt w,S'):=λw S' x y=>hR _ _ (k w S' x y)
  clear hR;show wZ _ _ cj [gV (.tup [.tup ms,.tup (JR aU ns bs),b0]),gV (.ref q),gV (.tup [aK u,aO p,aO r]),gV (.int (c:JL)),td,td,td,td] S Q';dsimp only[cj];refine bj λK hK=>?_
  dsimp only[wS,wE,wA,wP,wV,wG,JQ];refine ae (by decide) rfl (ae (by decide) rfl (ae (by decide) rfl ?_))
  have bl:(gC (λv p=>dC kvs v p u.length (u.length+1)) bs u p r).length=bs.length+1:=wF
  have lk:=wK (c:=c) (Y:=(gC (λv p=>dC kvs v p u.length (u.length+1)) bs u p r).take c) (f:=bV kvs bs u p r) (by rw[Kf]; omega) (λi hi=>by rw[Pp,Kd hi]; exact rM hC.gp hC.gq (by omega))
  refine mD F hb hnl hC.gu hC.gp hC.gq (by omega) e λS1 k1=>?_
  dsimp only[wN];refine ab (show sB (.tup (gC (λv p=>dC kvs v p u.length (u.length+1)) bs u p r)) td (gV (c:JL)) S1=gV (.tup ((gC (λv p=>dC kvs v p u.length (u.length+1)) bs u p r).take c),S1) by simp only[sB,fR]) ?_
  refine hK _ _ ?_;clear hK K;generalize(gC (λv p=>dC kvs v p u.length (u.length+1)) bs u p r).take c=Y at lk
  clear bl;obtain⟨ni,lk⟩:=lk;refine bj λK hK=>?_
  dsimp only[wS,wT,wE,wV,wG];refine ab (zY ni) ?_;dsimp only[wB]
 ·rcases lk with⟨h1,h2⟩|⟨i,hi,_,_,h4⟩
  ·rw[h1];refine ap (Q0:=Q') (λ_ Q2 _ hr=>?_) (λz=>by cases z)
   refine st ?_;dsimp only[wS,wE,wV,wG];exact hr _ _ (k _ _ (.inr ⟨(u,p,r),rfl,hC,h2,by show u.length<=c; omega⟩) k1)
  ·have:0 < kR kvs bs c u p r:=M4 (KW.mpr ⟨JY.mpr hi,by rw[h4]; rfl⟩)
   omega
 ·rcases lk with⟨h1,h2⟩|⟨i,hi,h1,h3,h4⟩
  ·rw[h1];refine ap (Q0:=Q') (λ_ Q2 _ hr=>?_) (λz=>by cases z)
   refine st ?_;dsimp only[wS,wE,wV,wG];exact hr _ _ (k _ _ (.inr ⟨(u,p,r),rfl,hC,h2,by show u.length<=c; omega⟩) k1)
  ·rw[h1];refine ap (Q0:=Q') (λz=>by cases z) (λ_ Q2 hn _=>bW (hn _ _ (hK _ _ ?_)))
   clear hn hK K;refine bj λK hK=>?_
   dsimp only[wS,wE,wA,wV,wG,JQ];refine⟨rfl,CF ni h3 (hK _ _ ?_)⟩;clear hK K;refine bj λK hK=>?_
   refine dg rfl rfl ?_;dsimp only[wE,wA,wV,wG];refine tH (d:=d+m+1) X hml zl ha3 hb3 hC (by omega) (k1.get _ _ e) λl S2 e2 hl2 k2=>?_
   have ho:=λ(x:Wd×Pt×Pt) (hx:x∈jv kvs a bs.length u p r)=>u9 (bs:=bs) hC hx
   have hns:(∀x∈jv kvs a bs.length u p r,bV kvs bs x.1 x.2.1 x.2.2 i=true->dB a bs kvs c x.1 x.2.1 x.2.2)->dB a bs kvs c u p r:=zV hb cl hi h4;generalize jv kvs a bs.length u p r=L at e2 ho hns;refine⟨l,L.map cW,λj ρ S'=>(∃a6 a7,ρ=[gV (.tup [.tup ms,.tup (JR aU ns bs),b0]),gV (.ref q),gV (.tup [aK u,aO p,aO r]),gV (.int (c:JL)),gV (.tup Y),gV (.int (i:JL)),a6,a7])/\(∀x∈L.take j,bV kvs bs x.1 x.2.1 x.2.2 i=true->dB a bs kvs c x.1 x.2.1 x.2.2)/\S'[l]?=gV (.lst (L.map cW))/\Ka S S',rfl,⟨⟨_,_,rfl⟩,(λx hx=>by cases hx),e2,k1.trans k2⟩,λ_ _ _ h=>h.2.2.1,?_,?_⟩
   ·rintro j w ρ S3 hw ⟨⟨a6,a7,rfl⟩,hno,e3,k3⟩;clear hK;rw[JJ,JC]at hw;obtain⟨x,hx,rfl⟩:=hw;obtain⟨xC,xl,xh⟩:=ho x (JT hx);have more:(bV kvs bs x.1 x.2.1 x.2.2 i=true->dB a bs kvs c x.1 x.2.1 x.2.2)->∀y∈L.take (j+1),bV kvs bs y.1 y.2.1 y.2.2 i=true->dB a bs kvs c y.1 y.2.1 y.2.2:=λh y hy=>by
     rw[Kt,hx]at hy;rcases Ko.mp hy with z|z
     ·exact hno y z
     ·obtain rfl:y=x:=by simpa using z
      exact h
    refine ab (show gd (.nm 6) (cW x) [gV (.tup [.tup ms,.tup (JR aU ns bs),b0]),gV (.ref q),gV (.tup [aK u,aO p,aO r]),gV (.int (c:JL)),gV (.tup Y),gV (.int (i:JL)),a6,a7] S3=gV ([gV (.tup [.tup ms,.tup (JR aU ns bs),b0]),gV (.ref q),gV (.tup [aK u,aO p,aO r]),gV (.int (c:JL)),gV (.tup Y),gV (.int (i:JL)),gV (.tup [aK x.1,aO x.2.1,aO x.2.2]),a7],S3)from rfl) ?_
    intro Q3 hn3 hr3;refine bj λK hK=>?_
    dsimp only[wS,wT,wE,wA,wV,wG];refine ae (by decide) rfl (ae (by decide) rfl (ae (by decide) rfl ?_))
    refine mD (d:=d+m+2) F hb hnl xC.gu xC.gp xC.gq (by omega) (k3.get _ _ e) λS4 k4=>?_
    obtain⟨w,w1,w2,w3⟩:=rM (bs:=bs) (i:=i) (kvs:=kvs) xC.gp xC.gq (by omega)
    refine ae (JS i) (by rw[JW]; exact w1) (ab (zZ w2) ?_)
    dsimp only[wB];rw[w3,PY];refine ap (Q0:=Q3) (λhh Q5 hn5 hr5=>?_) (λhh Q5 hn5 _=>bW (hn5 _ _ (hK _ _ (bW (hn3 _ _ ⟨⟨_,_,rfl⟩,more (λz=>by rw[z]at hh; cases hh),k4.get _ _ e3,k3.trans k4⟩)))))
    refine st ?_;dsimp only[wS,wE,wA,wV,wG,JQ];refine ih d _ _ x.1 x.2.1 x.2.2 xC ?_ (by omega) ((k3.trans k4).get _ _ e) λw S5 hw k5=>?_
    ·have:=u8 (c:=c) hi xh h4 hh;unfold kR at hleft ⊢;omega
    refine bj λK2 hK2=>?_
    dsimp only[wS,wT,wE,wV,wG];rcases hw with⟨rfl,hw⟩|⟨y,rfl,y1⟩
    ·refine ab (show cv .isnot .non .non S5=gV (.bl false,S5)from rfl) ?_
     dsimp only[wB];exact ap (Q0:=Q5) (λz=>by cases z) (λ_ Q6 hn6 _=>bW (hn6 _ _ (hK2 _ _ (bW (hn5 _ _ (hK _ _ (bW (hn3 _ _ ⟨⟨_,_,rfl⟩,more λ_=>hw,(k4.trans k5).get _ _ e3,(k3.trans k4).trans k5⟩))))))))
    ·refine ab (show cv .isnot (cW y) .non S5=gV (.bl true,S5)from rfl) ?_
     dsimp only[wB];refine ap (Q0:=Q5) (λ_ Q6 _ hr6=>?_) (λz=>by cases z)
     refine st ?_;dsimp only[wS,wE,wV,wG];exact hr6 _ _ (hr5 _ _ (hr3 _ _ (k _ _ (.inr ⟨y,rfl,y1⟩) ((k3.trans k4).trans k5))))
   ·rintro ρ S3 ⟨⟨a6,a7,rfl⟩,hno,e3,k3⟩;rw[Jz,Kw]at hno;refine hK _ _ (st ?_);dsimp only[wS,wE];exact k _ _ (.inl ⟨rfl,hns hno⟩) k3
end
noncomputable def Fx (a:JF)(bs:Jy JL)(kvs:Jy (T×W))(c:JF)(w:W):Prop:=(w=.non/\¬ As a bs kvs c)\/∃x:Wd×Pt×Pt,w=cW x/\Cf a bs.length kvs x.1 x.2.1 x.2.2/\Full kvs bs c x.1 x.2.1 x.2.2/\x.1.length<=c
theorem Aa {a n i j:JF}{kvs:Jy (T×W)}(hi:i < a)(hj:j < a):Cf a n kvs [] ((i:JL),[]) ((j:JL),[]):=
 ⟨.nil,λk hk=>(by cases hk),⟨⟨JS _,by show(i:JL) < a; omega⟩,rfl,λw hw=>nomatch hw⟩,rfl,⟨⟨JS _,by show(j:JL) < a; omega⟩,rfl,λw hw=>nomatch hw⟩,rfl⟩
section
variable{defs:Jy (JZ×Df)}{fuel d:JF}{S:aa}{Q:QW}
structure Unl (defs:Jy (JZ×Df)):Prop where
 fil:Fil defs
 sea:Sea defs
 behind:Is defs ("unfilled_behind" : JZ) 4 8 cj
 first:Is defs ("first_unfilled" : JZ) 2 6 cZ
 unlaid:Is defs ("unlaid" : JZ) 1 1 jw
 put:Is defs ("put_on" : JZ) 1 1 jx
theorem ga (hfu:20 < fuel)(L:Unl defs){ms:Jy W}{ns:Jy JZ}{bs:Jy JL}{a c:JF}{gs:Jy Wd}(hb:GoodB bs)(hnl:ns.length=bs.length)(hml:ms.length=a)(ha3:a<=3)(hgs:∀g∈gs,GoodW a bs.length g/\g.length=3)(h64:gs.length<=100)(hc:bs.length<=c)(hc1:c<=bs.length+1)
  (k:∀w kvs S',HasD kvs (dA bs gs)->Fx a bs kvs c w->Ka S S'->Q (w,S')) :
  wO (bx (ar defs fuel (d+c+6)) "first_unfilled" 2 [.tup [.tup ms,.tup (JR aU ns bs),.tup (gs.map aK)],.int (c:JL)] S) Q:=by
 refine aB L.first rfl rfl λQ' hR=>?_
 replace k:∀w kvs S',HasD kvs (dA bs gs)->Fx a bs kvs c w->Ka S S'->Q' (.rt w,S'):=λw x S' h1 h2 h3=>hR _ _ (k w x S' h1 h2 h3)
 clear hR;show wZ _ _ cZ [gV (.tup [.tup ms,.tup (JR aU ns bs),.tup (gs.map aK)]),gV (.int (c:JL)),td,td,td,td] S Q';dsimp only[cZ];refine bj λK hK=>?_
 dsimp only[wS,wE,wA,wV,wG,JQ];refine zM (d:=d+c+1) hfu L.fil.parts L.fil.part L.fil.longer L.fil.barred hb hnl hgs h64 λq kvs S1 e1 h1 _ k1=>hK _ _ ?_
 clear hK K;have cl:=Do hb hgs h1;have hk:∀w S',Fx a bs kvs c w->Ka S S'->Q' (.rt w,S'):=λw S'=>k w kvs S' h1
 have un:∀(i j:JF) (S:aa) (Q:QW),i < a->j < a->S[q]?=gV (.dic kvs)->(∀w S',IZ a bs kvs c [] ((i:JL),[]) ((j:JL),[]) w->Ka S S'->Q (w,S'))->wO (bx (ar defs fuel (d+c+5)) "unfilled_behind" 4 [.tup [.tup ms,.tup (JR aU ns bs),.tup (gs.map aK)],.ref q,.tup [.tup [],.tup [.int i,.tup []],.tup [.int j,.tup []]],.int (c:JL)] S) Q:=λi j S Q hi hj e h=>tK L.fil L.sea L.behind hb hnl hml ha3 cl hc1 c d S Q [] ((i:JL),[]) ((j:JL),[]) (Aa hi hj) (by
  unfold kR;exact J8 (KC _ _) (by rw[J6]; exact JO _)) (by simp) e h
 have la:∀(S:aa) (Q:QW),Q (.int (a:JL),S)->wO (kK (.tup [.tup ms,.tup (JR aU ns bs),.tup (gs.map aK)]) (.int 0) S) λp=>wO (Bi.len.fn [p.1] p.2) Q:=λS Q q=>by
  refine ae (by decide) rfl (bH ?_)
  rw[hml]; exact q
 clear k;generalize W.tup [.tup ms,.tup (JR aU ns bs),.tup (gs.map aK)]=R at un la;refine bj λK hK=>?_
 refine cD (a:JL) (λi ρ S'=>(∃a3 a4 a5,ρ=[gV R,gV (.int (c:JL)),gV (.ref q),a3,a4,a5])/\(∀i' j',i' < i->i'<=j'->j' < a->dB a bs kvs c [] ((i':JL),[]) ((j':JL),[]))/\S'[q]?=gV (.dic kvs)/\Ka S S') rfl rfl (by omega) ?_ ?_ ?_
 ·dsimp only[wE,wA,wV,wG];exact la _ _ ⟨rfl,⟨_,_,_,rfl⟩,(λi' j' h=>by omega),e1,k1⟩
 ·rintro i ρ S2 hi ⟨⟨a3,a4,a5,rfl⟩,hno,e2,k2⟩ Q2 hn2 hr2;clear hK;have hia:i < a:=by omega
  dsimp only[JQ];refine bj λK hK=>?_
  refine jq (i:JL) (a:JL) (λm ρ S'=>(∃a4 a5,ρ=[gV R,gV (.int (c:JL)),gV (.ref q),gV (.int i),a4,a5])/\(∀j',i<=j'->j' < i+m->dB a bs kvs c [] ((i:JL),[]) ((j':JL),[]))/\S'[q]?=gV (.dic kvs)/\Ka S S') rfl rfl rfl (by omega) ?_ ?_ ?_
  ·dsimp only[wE,wA,wV,wG];exact⟨rfl,la _ _ ⟨rfl,⟨_,_,rfl⟩,(λj' h1 h2=>by omega),e2,k2⟩⟩
  ·rintro m ρ S3 hm ⟨⟨a4,a5,rfl⟩,hno3,e3,k3⟩ Q3 hn3 hr3;clear hK;rw[show(i:JL)+m=((i+m:JF):JL) by omega]
   have hja:i+m < a:=by omega
   generalize hj:i+m=j at hja;dsimp only[JQ];refine st ?_;dsimp only[wS,wE,wA,wV,wG,JQ];refine un i j _ _ hia hja e3 λw S4 hw k4=>?_
   refine bj λK hK=>?_
   dsimp only[wS,wT,wE,wV,wG];rcases hw with⟨rfl,hw⟩|⟨y,rfl,y1⟩
   ·refine ab (show cv .isnot .non .non S4=gV (.bl false,S4)from rfl) ?_
    dsimp only[wB];refine ap (Q0:=Q3) (λz=>by cases z) (λ_ Q6 hn6 _=>bW (hn6 _ _ (hK _ _ (bW (hn3 _ _ ⟨⟨_,_,rfl⟩,λj' h1 h2=>?_,k4.get _ _ e3,k3.trans k4⟩)))))
    by_cases ej:j'=j
    ·rw[ej]; exact hw
    ·exact hno3 j' h1 (by omega)
   ·refine ab (show cv .isnot (cW y) .non S4=gV (.bl true,S4)from rfl) ?_
    dsimp only[wB];refine ap (Q0:=Q3) (λ_ Q6 _ hr6=>?_) (λz=>by cases z)
    refine st ?_;dsimp only[wS,wE,wV,wG];exact hr6 _ _ (hr3 _ _ (hr2 _ _ (hk _ _ (.inr ⟨y,rfl,y1⟩) (k3.trans k4))))
  ·rintro ρ S3 ⟨⟨a4,a5,rfl⟩,hno3,e3,k3⟩;refine hK _ _ (bW (hn2 _ _ ⟨⟨_,_,_,rfl⟩,λi' j' h1 h2 h3=>?_,e3,k3⟩))
   by_cases ei:i'=i
   ·subst ei;exact hno3 j' h2 (by omega)
   ·exact hno i' j' (by omega) h2 h3
 ·rintro ρ S2 ⟨⟨a3,a4,a5,rfl⟩,hno,e2,k2⟩;refine hK _ _ (st ?_);dsimp only[wS,wE];refine hk _ _ (.inl ⟨rfl,Dq hb cl hc λi j h1 h2 h3=>hno i j (by omega) h2 h3⟩) k2
theorem Ab (hfu:20 < fuel)(L:Unl defs){ms:Jy W}{ns:Jy JZ}{bs:Jy JL}{a:JF}{gs:Jy Wd}(hb:GoodB bs)(hnl:ns.length=bs.length)(hml:ms.length=a)(ha3:a<=3)(hgs:∀g∈gs,GoodW a bs.length g/\g.length=3)(h64:gs.length<=100)
  (k:∀w kvs S',HasD kvs (dA bs gs)->Fx a bs kvs (bs.length+1) w->Ka S S'->Q (w,S')) :
  wO (bx (ar defs fuel (d+11)) "unlaid" 1 [.tup [.tup ms,.tup (JR aU ns bs),.tup (gs.map aK)]] S) Q:=by
 refine aB L.unlaid rfl rfl λQ' hR=>?_
 show wZ _ _ jw [gV (.tup [.tup ms,.tup (JR aU ns bs),.tup (gs.map aK)])] S Q';have hb3:bs.length<=3:=by rcases hb with rfl|rfl|rfl|rfl|rfl|rfl <;> decide
 dsimp only[jw];refine st ?_;dsimp only[wS,wE,wA,wV,wG];refine ae (by decide) rfl (bH ?_)
 rw[Ld,hnl,MJ];refine ab eW ?_;dsimp only;rw[show(bs.length:JL)+1=((bs.length+1:JF):JL) by omega,show d+10=(d+3 - bs.length)+(bs.length+1)+6 by omega]
 exact ga hfu L hb hnl hml ha3 hgs h64 (by omega) (by omega) λw kvs S' h1 h2 h3=>hR _ _ (k w kvs S' h1 h2 h3)
theorem Ac (hfu:20 < fuel)(L:Unl defs){ms:Jy W}{ns:Jy JZ}{bs:Jy JL}{a:JF}{gs:Jy Wd}(hb:GoodB bs)(hnl:ns.length=bs.length)(hml:ms.length=a)(ha3:a<=3)(hgs:∀g∈gs,GoodW a bs.length g/\g.length=3)(h64:gs.length<=100)
  (k:∀w kvs S',HasD kvs (dA bs gs)->Fx a bs kvs bs.length w->Ka S S'->Q (w,S')) :
  wO (bx (ar defs fuel (d+11)) "put_on" 1 [.tup [.tup ms,.tup (JR aU ns bs),.tup (gs.map aK)]] S) Q:=by
 refine aB L.put rfl rfl λQ' hR=>?_
 show wZ _ _ jx [gV (.tup [.tup ms,.tup (JR aU ns bs),.tup (gs.map aK)])] S Q';have hb3:bs.length<=3:=by rcases hb with rfl|rfl|rfl|rfl|rfl|rfl <;> decide
 dsimp only[jx];refine st ?_;dsimp only[wS,wE,wA,wV,wG];refine ae (by decide) rfl (bH ?_)
 rw[Ld,hnl,MJ,show d+10=(d+4 - bs.length)+bs.length+6 by omega]
 exact ga hfu L hb hnl hml ha3 hgs h64 (by omega) (by omega) λw kvs S' h1 h2 h3=>hR _ _ (k w kvs S' h1 h2 h3)
end
noncomputable def fq (kvs:Jy (T×W))(bs:Jy JL)(p q:Pt)(mk v w:JL)(i:JF):Kc:=if i < bs.length then bd kvs [(mk,[]),(p.1,[v]),(q.1,[w,bs.getD i 0])]else !(v==w)
theorem dw {xs:Jy JL}{b:JL}{n:JF}(h:xs.length=n):(xs++[b]).getD n 0=b:=by
 subst h;rw[J7,KF (JO _),M6]; rfl
theorem vd {kvs:Jy (T×W)}{bs:Jy JL}{u:Wd}{p q x:Pt}{v w:JL}{i:JF}(hp:p.2.length=u.length)(hq:q.2.length=u.length):bV kvs bs (u++[x]) (p.1,p.2++[v]) (q.1,q.2++[w]) i=(bV kvs bs u p q i||fq kvs bs p q x.1 v w i):=by
 have l1:(u++[x]).length=u.length+1:=by rw[JG]; rfl
 unfold bV fq;split
 ·rw[l1,KO,List.any_append];congr 1
  ·rw[LC,Nh,Nh];have key:∀k∈JN u.length,iP (u++[x]) (p.1,p.2++[v]) (q.1,q.2++[w]) (bs.getD i 0) k=iP u p q (bs.getD i 0) k:=λk hk=>by
    have hk:=JY.mp hk;unfold iP;dsimp only;rw[aT hk,aV (by omega),aV (by omega)]
   exact⟨λ⟨k,h1,h2⟩=>⟨k,h1,by rw[<- key k h1]; exact h2⟩,λ⟨k,h1,h2⟩=>⟨k,h1,by rw[key k h1]; exact h2⟩⟩
  ·unfold iP;dsimp only;rw[LH,Rq,O5,cG,dw hp,dw hq]
 ·unfold Fw;dsimp only;rw[l1,KO,List.all_append,Kx,Rr,NV,dw hp,dw hq,<- QH,Bool.not_and];congr 3;rw[LC,J3,J3];have key:∀k∈JN u.length,((p.2++[v]).getD k 0==(q.2++[w]).getD k 0)=(p.2.getD k 0==q.2.getD k 0):=λk hk=>by
   have hk:=JY.mp hk;rw[aV (by omega),aV (by omega)]
  exact⟨λh k hk=>by rw[<- key k hk]; exact h k hk,λh k hk=>by rw[key k hk]; exact h k hk⟩
noncomputable def sa (n i:JF):JL:=if i < n then(i:JL)else -1
noncomputable def fu (c n:JF)(f:JF->Kc):Jy JL:=((JN c).filter λi=>!f i).map (sa n)
noncomputable def nr (c n:JF)(g:JF->Kc):Jy JL:=((JN c).filter g).map (sa n)
theorem Fd {n i j:JF}(hi:i<=n)(hj:j<=n)(h:sa n i=sa n j):i=j:=by
 unfold sa at h;split at h <;> split at h <;> omega
theorem rN {n i:JF}{g:JF->Kc}(hi:i<=n):sa n i∈nr (n+1) n g↔g i=true:=by
 unfold nr;rw[J4];constructor
 ·rintro⟨j,hj,e⟩;obtain⟨h1,h2⟩:=KW.mp hj;have:=Fd (by have:=JY.mp h1; omega) hi e
  subst this; exact h2
 ·intro h;exact⟨i,KW.mpr ⟨JY.mpr (by omega),h⟩,rfl⟩
theorem Ad {c n:JF}{f g h:JF->Kc}(hc:c<=n+1)(hh:∀i,h i=(f i||g i)):(fu c n f).filter (λz=>!decide (z∈nr (n+1) n g))=fu c n h:=by
 unfold fu;rw[List.filter_map,Pq];congr 1;refine PX λi hi=>?_
 have hi:=JY.mp hi;have e:decide (sa n i∈nr (n+1) n g)=g i:=by
  rw[LC,Kh,rN (by omega)]
 simp only[Rc,e,hh];cases f i <;> cases g i <;> rfl
theorem CG {n:JF}{g:JF->Kc}:nr (n+1) n g=((JN n).filter g).map (λ(i:JF)=>(i:JL))++(if g n then[-1]else[]):=by
 unfold nr;rw[KO,Lj,Kb];congr 1
 ·refine KJ λi hi=>?_
  have:=JY.mp (KW.mp hi).1;unfold sa;rw[Kd this]
 ·rw[Mo,Ox];have:sa n n = -1:=by unfold sa; rw[Ku (KQ n)]
  split
  ·rw[Lb,this]; rfl
  ·rfl
theorem Ae {c n:JF}{f:JF->Kc}:(fu c n f=[]/\∀i < c,f i=true)\/∃i < c,∃L,fu c n f=sa n i::L/\f i=false:=by
 unfold fu;cases h:(JN c).filter λi=>!f i with
 | nil=>
  refine .inl ⟨rfl,λi hi=>?_⟩
  have:=List.filter_eq_nil_iff.mp h i (JY.mpr hi)
  simpa using this
 | cons i L=>
  have hm:i∈(JN c).filter λi=>!f i:=by rw[h]; exact Ls ..
  obtain⟨h1,h2⟩:=KW.mp hm;exact .inr ⟨i,JY.mp h1,_,rfl,by simpa using h2⟩
theorem CH {c n:JF}{f:JF->Kc}:(fu c n f).length<=c:=by
 unfold fu;rw[Jz];exact J8 (KC _ _) (by rw[J6]; exact JO _)
noncomputable def sd (kvs:Jy (T×W))(u:Wd)(p q:Pt)(mk v w:JL)(k:JF)(to:Jy JL)(x:JL):Kc:=!bd kvs [((u.getD k (0,[])).1,[]),(mk,[x]),(p.1,[p.2.getD k 0,v])]&&(!bd kvs [((u.getD k (0,[])).1,[]),(mk,[x]),(q.1,[q.2.getD k 0,w])]&&(JN k).all λi=>!bp kvs u mk i k (to.getD i 0) x)
noncomputable def qf (kvs:Jy (T×W))(n:JF)(u:Wd)(p q:Pt)(mk v w:JL):JF->Jy (Jy JL)
 | 0=>[[]]
 | k+1=>(qf kvs n u p q mk v w k).flatMap λto=>((JN n).filter λ(x:JF)=>sd kvs u p q mk v w k to (x:JL)).map λ(x:JF)=>to++[(x:JL)]
theorem lA {kvs:Jy (T×W)}{n:JF}{u:Wd}{p q:Pt}{mk v w:JL}:∀ {k:JF} {to:Jy JL},to∈qf kvs n u p q mk v w k↔to.length=k/\(∀x∈to,0<=x/\x < (n:JL))/\∀j < k,sd kvs u p q mk v w j to (to.getD j 0)=true
 | 0,to=>by
  unfold qf;rw[J0];constructor
  ·rintro rfl;exact⟨rfl,λx hx=>(nomatch hx),λj hj=>by omega⟩
  ·rintro⟨h,_⟩;exact Mn.mp h
 | k+1,to=>by
  unfold qf;rw[KA];have okc:∀(t:Jy JL) (x y:JL) (j:JF),j<=t.length->sd kvs u p q mk v w j (t++[x]) y=sd kvs u p q mk v w j t y:=λt x y j hj=>by
   unfold sd;congr 2;rw[LC,J3,J3];have key:∀i∈JN j,(t++[x]).getD i 0=t.getD i 0:=λi hi=>aV (by have:=JY.mp hi; omega)
   exact⟨λh i hi=>by rw[<- key i hi]; exact h i hi,λh i hi=>by rw[key i hi]; exact h i hi⟩
  constructor
  ·rintro⟨t,ht,h⟩;obtain⟨x,hx,rfl⟩:=J4.mp h;obtain⟨h1,h2⟩:=KW.mp hx;have h1:=JY.mp h1;obtain⟨g1,g2,g3⟩:=lA.mp ht;refine⟨by rw[JG,g1]; rfl,λy hy=>?_,λj hj=>?_⟩
   ·rcases Ko.mp hy with z|z
    ·exact g2 y z
    ·rw[J0.mp z]; omega
   ·by_cases e:j=k
    ·subst e;rw[okc _ _ _ _ (by omega),dw g1]; exact h2
    ·rw[okc _ _ _ _ (by omega),aV (by omega)]
     exact g3 j (by omega)
  ·rintro⟨g1,g2,g3⟩;obtain⟨t,x,rfl⟩ : ∃t x,to=t++[x]:=⟨to.dropLast,to.getLast (by intro z; rw[z]at g1; cases g1),(Nr _).symm⟩
   rw[JG,KT]at g1;have g1:t.length=k:=by omega
   obtain⟨x0,x1⟩:=g2 x (by simp)
   refine⟨t,lA.mpr ⟨g1,λy hy=>g2 y (Lv _ hy),λj hj=>?_⟩,J4.mpr ⟨x.toNat,KW.mpr ⟨JY.mpr (by omega),?_⟩,by rw[Lc x0]⟩⟩
   ·have:=g3 j (by omega)
    rw[okc _ _ _ _ (by omega),aV (by omega)]at this
    exact this
   ·have:=g3 k (by omega)
    rw[okc _ _ _ _ (by omega),dw g1]at this
    rw[Lc x0]; exact this
theorem ve {kvs:Jy (T×W)}{n:JF}{u:Wd}{p q:Pt}{mk v w:JL}(hn:n<=3):∀k,(qf kvs n u p q mk v w k).length<=3 ^ k
 | 0=>JO _
 | k+1=>by
  unfold qf;have:=gy (F:=λto=>((JN n).filter λ(x:JF)=>sd kvs u p q mk v w k to (x:JL)).map λ(x:JF)=>to++[(x:JL)]) (m:=3) (λto=>by
   rw[Jz];exact J8 (KC _ _) (by rw[J6]; exact hn)) (qf kvs n u p q mk v w k)
  have h2:=ve (kvs:=kvs) (u:=u) (p:=p) (q:=q) (mk:=mk) (v:=v) (w:=w) hn k;rw[Rs];exact J8 this (Nn 3 h2)
theorem Dr {kvs:Jy (T×W)}{a n:JF}{u:Wd}{p q:Pt}{mk v w:JL}{to:Jy JL}(hC:Cf a n kvs u p q)(hm:0<=mk/\mk < a)(hv:0<=v/\v < (n:JL))(hw:0<=w/\w < (n:JL)):to∈qf kvs n u p q mk v w u.length↔(u++[((mk,to):Pt)],((p.1,p.2++[v]):Pt),((q.1,q.2++[w]):Pt))∈jv kvs a n u p q:=by
 have gp:=hC.gp.len;have gq:=hC.gq.len;have ext:∀(r:Pt) (z:JL) (k:JF),r.2.length=u.length->k < u.length->dO kvs (u++[(mk,to)]) (r.1,r.2++[z]) k u.length=bd kvs [((u.getD k (0,[])).1,[]),(mk,[to.getD k 0]),(r.1,[r.2.getD k 0,z])]:=λr z k hr hk=>by
  unfold dO bd;dsimp only;rw[aT hk,cG,aV (by omega),dw hr]
 rw[lA];unfold jv;rw[KA];constructor
 ·rintro⟨h1,h2,h3⟩;have h3':∀j < u.length,bd kvs [((u.getD j (0,[])).1,[]),(mk,[to.getD j 0]),(p.1,[p.2.getD j 0,v])]=false/\bd kvs [((u.getD j (0,[])).1,[]),(mk,[to.getD j 0]),(q.1,[q.2.getD j 0,w])]=false/\∀i < j,bp kvs u mk i j (to.getD i 0) (to.getD j 0)=false:=λj hj=>by
   have:=h3 j hj;unfold sd at this;rw[JH,JH,Le,Le,J3]at this;exact⟨this.1,this.2.1,λi hi=>by simpa using this.2.2 i (JY.mpr hi)⟩
  refine⟨(mk,to),fX.mpr ⟨hm,h1,h2,λi j hi hj=>(h3' j hj).2.2 i hi⟩,KA.mpr ⟨(p.1,p.2++[v]),fJ.mpr ⟨v.toNat,by omega,by rw[Lc hv.1],λk hk=>?_⟩,J4.mpr ⟨(q.1,q.2++[w]),fJ.mpr ⟨w.toNat,by omega,by rw[Lc hw.1],λk hk=>?_⟩,rfl⟩⟩⟩
  ·rw[ext p v k gp hk]; exact(h3' k hk).1
  ·rw[ext q w k gq hk]; exact(h3' k hk).2.1
 ·rintro⟨x,hx,h⟩;obtain⟨h',hh',h⟩:=KA.mp h;obtain⟨h'',hh'',e⟩:=J4.mp h;rw[Re,Re]at e;obtain⟨e1,rfl,rfl⟩:=e;have e1:x=(mk,to):=by
   have:=List.append_inj_right' e1 rfl
   simpa using this
  subst e1;obtain⟨g1,g2,g3,g4⟩:=fX.mp hx;obtain⟨_,_,_,b1⟩:=fJ.mp hh';obtain⟨_,_,_,b2⟩:=fJ.mp hh'';refine⟨g2,g3,λj hj=>?_⟩
  unfold sd;rw[JH,JH,Le,Le,J3];refine⟨?_,?_,λi hi=>?_⟩
  ·rw[<- ext p v j gp hj]; exact b1 j hj
  ·rw[<- ext q w j gq hj]; exact b2 j hj
  ·rw[Le];exact g4 i j (JY.mp hi) hj
noncomputable def bK:Ss:=
 (.cons (.asg [4,5,6] (.v 3))
 (.cons (.set 7 (.lst .nil))
 (.cons (.loop (.nm 8) (.rng (.cons (.bi .len (.cons (.ix (.v 0) (.c (.int 1))) .nil)) .nil)) (.cons (.ite (.cmp .isin (.tup (.cons (.tup (.cons (.v 4) (.cons (.tup .nil) .nil))) (.cons (.tup (.cons (.ix (.v 2) (.c (.int 0))) (.cons (.tup (.cons (.v 5) .nil)) .nil))) (.cons (.tup (.cons (.ix (.v 2) (.c (.int 1))) (.cons (.tup (.cons (.v 6) (.cons (.ix (.ix (.ix (.v 0) (.c (.int 1))) (.v 8)) (.c (.int 1))) .nil))) .nil))) .nil)))) (.v 1)) (.cons (.ex (.me .append (.v 7) (.cons (.v 8) .nil)))
 .nil) .nil)
 .nil))
 (.cons (.ret (.op .add (.v 7) (.op .mul (.lst (.cons (.neg (.c (.int 1))) .nil)) (.bi .int (.cons (.cmp .ne (.v 5) (.v 6)) .nil)))))
 .nil))))
noncomputable def bL:Ss:=
 (.cons (.asg [6,7,8] (.v 5))
 (.cons (.set 9 (.lst (.cons (.tup .nil) .nil)))
 (.cons (.loop (.nm 10) (.rng (.cons (.bi .len (.cons (.v 2) .nil)) .nil)) (.cons (.set 11 (.lst .nil))
 (.cons (.loop (.nm 12) (.seq (.v 9)) (.cons (.loop (.nm 13) (.rng (.cons (.bi .len (.cons (.ix (.v 0) (.c (.int 1))) .nil)) .nil)) (.cons (.set 14 (.tup (.cons (.tup (.cons (.ix (.ix (.v 2) (.v 10)) (.c (.int 0))) (.cons (.tup .nil) .nil))) (.cons (.tup (.cons (.v 6) (.cons (.tup (.cons (.v 13) .nil)) .nil))) .nil))))
 (.cons (.set 15 (.lst (.cons (.op .add (.v 14) (.tup (.cons (.tup (.cons (.ix (.v 3) (.c (.int 0))) (.cons (.tup (.cons (.ix (.ix (.v 3) (.c (.int 1))) (.v 10)) (.cons (.v 7) .nil))) .nil))) .nil))) (.cons (.op .add (.v 14) (.tup (.cons (.tup (.cons (.ix (.v 4) (.c (.int 0))) (.cons (.tup (.cons (.ix (.ix (.v 4) (.c (.int 1))) (.v 10)) (.cons (.v 8) .nil))) .nil))) .nil))) .nil))))
 (.cons (.loop (.nm 16) (.rng (.cons (.v 10) .nil)) (.cons (.set 17 (.tup (.cons (.ix (.ix (.v 2) (.v 10)) (.c (.int 0))) (.cons (.tup (.cons (.ix (.ix (.ix (.v 2) (.v 10)) (.c (.int 1))) (.v 16)) .nil)) .nil))))
 (.cons (.ex (.me .append (.v 15) (.cons (.tup (.cons (.tup (.cons (.ix (.ix (.v 2) (.v 16)) (.c (.int 0))) (.cons (.tup .nil) .nil))) (.cons (.v 17) (.cons (.tup (.cons (.v 6) (.cons (.tup (.cons (.ix (.v 12) (.v 16)) (.cons (.v 13) .nil))) .nil))) .nil)))) .nil)))
 .nil)))
 (.cons (.ite (.cmp .notin (.c (.bl true)) (.comp (.cmp .isin (.v 1) (.v 2)) (.nm 1) (.seq (.v 15)) .nil [td,td,gV 1])) (.cons (.ex (.me .append (.v 11) (.cons (.op .add (.v 12) (.tup (.cons (.v 13) .nil))) .nil)))
 .nil) .nil)
 .nil)))))
 .nil))
 (.cons (.set 9 (.v 11))
 .nil))))
 (.cons (.ret (.comp (.op .add (.v 2) (.tup (.cons (.tup (.cons (.v 3) (.cons (.v 1) .nil))) .nil))) (.nm 1) (.seq (.v 9)) .nil [td,td,gV 2,gV 6]))
 .nil))))
theorem vf {S:aa}{q:JF}{kvs:Jy (T×W)}{w:Wd}(e:S[q]?=gV (.dic kvs)):cv .isin (aK w) (.ref q) S=gV (.bl (bd kvs w),S):=by
 simp only[cv,cX e,pM]; rfl
theorem Ag {S:aa}{l:JF}{bl:Jy Kc}(h:S[l]?=gV (.lst (bl.map W.bl))):cv .notin (.bl true) (.ref l) S=gV (.bl (bl.all λb=>!b),S):=by
 have hf:(bG (.bl true)&&(bl.map W.bl).all bG)=true:=by
  simp only[bG,Mk,J3];intro x hx;obtain⟨z,_,rfl⟩:=J4.mp hx;rfl
 have e:(!(bl.map W.bl).any λz=>mY z (.bl true))=bl.all λb=>!b:=by
  rw[N6,Of];congr 1
  funext b
  cases b <;> rfl
 rw[<- e];simp only[cv,ji h,gK,Bh,xO,eQ,be h,hf,L1,Kq]
noncomputable def tW (to:Jy JL):W:=.tup (af to)
section
variable{defs:Jy (JZ×Df)}{fuel d:JF}{S:aa}{Q:QW}
theorem nu (hg:Is defs ("_law_barred_ways" : JZ) 4 9 bK){m0 b0:W}{ns:Jy JZ}{bs:Jy JL}{q:JF}{p r:Pt}{mk v w:JL}{kvs:Jy (T×W)}(hb:GoodB bs)(hnl:ns.length=bs.length)(e:S[q]?=gV (.dic kvs))
  (k:∀(l:JF) S',S'[l]?=gV (.lst (af (nr (bs.length+1) bs.length (fq kvs bs p r mk v w))))->S.length<=l->Ka S S'->Q (.ref l,S')) :
  wO (bx (ar defs fuel (d+1)) "_law_barred_ways" 4 [.tup [m0,.tup (JR aU ns bs),b0],.ref q,.tup [.int p.1,.int r.1],.tup [.int mk,.int v,.int w]] S) Q:=by
 refine aB hg rfl rfl λQ' hR=>?_
 replace k:∀(l:JF) S',S'[l]?=gV (.lst (af (nr (bs.length+1) bs.length (fq kvs bs p r mk v w))))->S.length<=l->Ka S S'->Q' (.rt (.ref l),S'):=λl S' a b c=>hR _ _ (k l S' a b c)
 clear hR;show wZ _ _ bK [gV (.tup [m0,.tup (JR aU ns bs),b0]),gV (.ref q),gV (.tup [.int p.1,.int r.1]),gV (.tup [.int mk,.int v,.int w]),td,td,td,td,td] S Q';have hb3:bs.length<=3:=by rcases hb with rfl|rfl|rfl|rfl|rfl|rfl <;> decide
 have lw:∀(S:aa) (Q:QW),Q (.int (bs.length:JL),S)->wO (kK (.tup [m0,.tup (JR aU ns bs),b0]) (.int 1) S) λp=>wO (Bi.len.fn [p.1] p.2) Q:=λS Q q=>by
  refine ae (by decide) rfl (bH ?_)
  rw[Ld,hnl,MJ]; exact q
 have bk:∀(i:JF) (S:aa) (Q:QW),i < bs.length->Q (.int (bs.getD i 0),S)->wO (kK (.tup [m0,.tup (JR aU ns bs),b0]) (.int 1) S) λp=>wO (kK p.1 (.int (i:JL)) p.2) λp=>wO (kK p.1 (.int 1) p.2) Q:=λi S Q hi q=>ae (by decide) rfl (ae (JS i) (by rw[JW]; exact jZ (JX (by omega)) (ay (d:=0) hi)) (ae (by decide) rfl q))
 generalize W.tup [m0,.tup (JR aU ns bs),b0]=R at lw bk;have hB:∀i < bs.length,fq kvs bs p r mk v w i=bd kvs [(mk,[]),(p.1,[v]),(r.1,[w,bs.getD i 0])]:=λi hi=>by unfold fq; rw[Kd hi]
 have hE:fq kvs bs p r mk v w bs.length = !(v==w):=by unfold fq; rw[Ku (KQ _)]
 rw[CG,hE]at k;generalize fq kvs bs p r mk v w=g at k hB;dsimp only[bK];refine st ?_;dsimp only[wS,wE,wV,wG,wU];refine ab (show d7 [4,5,6] [.int mk,.int v,.int w] [gV R,gV (.ref q),gV (.tup [.int p.1,.int r.1]),gV (.tup [.int mk,.int v,.int w]),td,td,td,td,td]=gV [gV R,gV (.ref q),gV (.tup [.int p.1,.int r.1]),gV (.tup [.int mk,.int v,.int w]),gV (.int mk),gV (.int v),gV (.int w),td,td]from rfl) ?_
 refine st ?_;dsimp only[wS,wE,wA,JQ];refine bj λK hK=>?_
 refine cD (bs.length:JL) (λi ρ S'=>(∃a8,ρ=[gV R,gV (.ref q),gV (.tup [.int p.1,.int r.1]),gV (.tup [.int mk,.int v,.int w]),gV (.int mk),gV (.int v),gV (.int w),gV (.ref S.length),a8])/\S'[S.length]?=gV (.lst (af (((JN i).filter g).map λ(i:JF)=>(i:JL))))/\Ka S S') rfl rfl (by omega) ?_ ?_ ?_
 ·dsimp only[wE,wA,wV,wG];exact lw _ _ ⟨rfl,⟨_,rfl⟩,ak,.push⟩
 ·rintro i ρ S2 hi ⟨⟨a8,rfl⟩,e2,k2⟩ Q2 hn _;clear hK;have hib:i < bs.length:=by omega
  dsimp only[JQ];refine bj λK hK=>?_
  dsimp only[wS,wT,wE,wA,wV,wG];refine ae (by decide) rfl (ae (by decide) rfl (bk i _ _ hib ?_))
  refine ab (show cv .isin (aK [(mk,[]),(p.1,[v]),(r.1,[w,bs.getD i 0])]) (.ref q) S2=gV (.bl (g i),S2) by rw[vf (k2.get _ _ e),hB i hib]) ?_
  dsimp only[wB];refine ap (Q0:=Q2) (λhp Q3 hn3 _=>?_) (λhp Q3 hn3 _=>bW (hn3 _ _ (hK _ _ (bW (hn _ _ ⟨⟨_,rfl⟩,?_,k2⟩)))))
  ·refine st ?_;dsimp only[wS,wE,wA,wV,wG];refine⟨dQ e2,ma e2 ?_ (bW (hn3 _ _ (hK _ _ (bW (hn _ _ ⟨⟨_,rfl⟩,?_,k2.late (JO _)⟩)))))⟩
   ·have:=KC g (JN i);rw[J6]at this;unfold af;rw[Jz,Jz];omega
   ·rw[b9 e2,KO,Lj,Kb,Mo,hp];unfold af;rw[Kb]; rfl
  ·rw[KO,Lj,Mo,hp]
   simpa using e2
 ·rintro ρ S2 ⟨⟨a8,rfl⟩,e2,k2⟩;rw[JW]at e2;refine hK _ _ ?_;clear hK K;refine st ?_;dsimp only[wS,wE,wA,wV,wG,wN];refine ab Cc ?_;generalize(!(v==w))=c at k;obtain⟨m,hm,eg,er⟩ : ∃m:JF,m<=1/\(∀S,Bi.int.fn [.bl c] S=gV (.int (m:JL),S))/\af (if c then[-1]else[])=Kz m (W.int (-1)):=by
   cases c
   ·exact⟨0,by decide,λ_=>rfl,rfl⟩
   ·exact⟨1,by decide,λ_=>rfl,rfl⟩
  refine ab (eg _) ?_;dsimp only;refine Dm ak (by omega) ?_
  have hl:=KC g (JN bs.length);rw[J6]at hl;refine ab (sS (au (au e2)) ak (gE (by unfold af; rw[JG,Oy,Jz,Jz]; omega))) (k _ _ ?_ ?_ (((k2.trans .push).trans .push).trans .push))
  ·unfold af at er ⊢;rw[Kb,er];exact ak
  ·have:=k2.len;simp; omega
theorem CI (hg:Is defs ("_law_grown_bases" : JZ) 6 18 bL){m0 b0:W}{N:Jy W}{a n q:JF}{u:Wd}{p r:Pt}{mk v w:JL}{kvs:Jy (T×W)}(hN:N.length=n)(hn3:n<=3)(hC:Cf a n kvs u p r)(hul:u.length<=3)(e:S[q]?=gV (.dic kvs))
  (k:∀(l:JF) S',S'[l]?=gV (.lst ((qf kvs n u p r mk v w u.length).map λto=>aK (u++[(mk,to)])))->S.length<=l->Ka S S'->Q (.ref l,S')) :
  wO (bx (ar defs fuel (d+1)) "_law_grown_bases" 6 [.tup [m0,.tup N,b0],.ref q,aK u,aO p,aO r,.tup [.int mk,.int v,.int w]] S) Q:=by
 refine aB hg rfl rfl λQ' hR=>?_
 replace k:∀(l:JF) S',S'[l]?=gV (.lst ((qf kvs n u p r mk v w u.length).map λto=>aK (u++[(mk,to)])))->S.length<=l->Ka S S'->Q' (.rt (.ref l),S'):=λl S' a b c=>hR _ _ (k l S' a b c)
 clear hR;show wZ _ _ bL [gV (.tup [m0,.tup N,b0]),gV (.ref q),gV (aK u),gV (aO p),gV (aO r),gV (.tup [.int mk,.int v,.int w]),td,td,td,td,td,td,td,td,td,td,td,td] S Q';have lw:∀(S:aa) (Q:QW),Q (.int (n:JL),S)->wO (kK (.tup [m0,.tup N,b0]) (.int 1) S) λp=>wO (Bi.len.fn [p.1] p.2) Q:=λS Q q=>by
  refine ae (by decide) rfl (bH ?_)
  rw[hN]; exact q
 generalize W.tup [m0,.tup N,b0]=R at lw;have ul:(u.map aO).length=u.length:=Jz ..;have gl:=ve (kvs:=kvs) (u:=u) (p:=p) (q:=r) (mk:=mk) (v:=v) (w:=w) hn3;have gm:=λ(k:JF) (to:Jy JL)=>lA (kvs:=kvs) (n:=n) (u:=u) (p:=p) (q:=r) (mk:=mk) (v:=v) (w:=w) (k:=k) (to:=to)
 have gs1:∀k,qf kvs n u p r mk v w (k+1)=(qf kvs n u p r mk v w k).flatMap λto=>((JN n).filter λ(x:JF)=>sd kvs u p r mk v w k to (x:JL)).map λ(x:JF)=>to++[(x:JL)]:=λ_=>rfl
 have gs0:qf kvs n u p r mk v w 0=[[]]:=rfl;generalize qf kvs n u p r mk v w=gr at k gl gm gs1 gs0;dsimp only[bL];refine st ?_;dsimp only[wS,wE,wV,wG,wU];refine ab (show d7 [6,7,8] [.int mk,.int v,.int w] [gV R,gV (.ref q),gV (aK u),gV (aO p),gV (aO r),gV (.tup [.int mk,.int v,.int w]),td,td,td,td,td,td,td,td,td,td,td,td]=gV [gV R,gV (.ref q),gV (aK u),gV (aO p),gV (aO r),gV (.tup [.int mk,.int v,.int w]),gV (.int mk),gV (.int v),gV (.int w),td,td,td,td,td,td,td,td,td]from rfl) ?_
 refine st ?_;dsimp only[wS,wE,wA,JQ];refine bj λK hK=>?_
 refine cD (u.length:JL) (λi ρ S'=>∃(l9:JF) (a10 a11 a12 a13 a14 a15 a16 a17:JE W),ρ=[gV R,gV (.ref q),gV (aK u),gV (aO p),gV (aO r),gV (.tup [.int mk,.int v,.int w]),gV (.int mk),gV (.int v),gV (.int w),gV (.ref l9),a10,a11,a12,a13,a14,a15,a16,a17]/\S'[l9]?=gV (.lst ((gr i).map tW))/\Ka S S') rfl rfl (by omega) ?_ ?_ ?_
 ·dsimp only[wE,wA,wV,wG];refine bH ?_;rw[ul];exact⟨rfl,_,_,_,_,_,_,_,_,_,rfl,by rw[gs0]; exact ak,.push⟩
 ·rintro i ρ S1 hi ⟨l9,a10,a11,a12,a13,a14,a15,a16,a17,rfl,e9,k1⟩ Q2 hn2 _;clear hK;have hiu:i < u.length:=by omega
  have lpi:i < p.2.length:=by rw[hC.gp.len]; exact hiu
  have lri:i < r.2.length:=by rw[hC.gq.len]; exact hiu
  have lui:=hC.gu.len i _ (ay (d:=(0,[])) hiu);have h27:(gr i).length<=9:=J8 (gl i) (MH (n:=3) (by decide) (show i<=2 by omega))
  have h9:=cO e9;dsimp only[JQ];refine st ?_;dsimp only[wS,wE,wA,JQ];refine bj λK hK=>?_
  refine lu l9 ((gr i).map tW) (λj ρ S'=>(∃a12 a13 a14 a15 a16 a17,ρ=[gV R,gV (.ref q),gV (aK u),gV (aO p),gV (aO r),gV (.tup [.int mk,.int v,.int w]),gV (.int mk),gV (.int v),gV (.int w),gV (.ref l9),gV (.int i),gV (.ref S1.length),a12,a13,a14,a15,a16,a17])/\S'[S1.length]?=gV (.lst ((((gr i).take j).flatMap λto=>((JN n).filter λ(x:JF)=>sd kvs u p r mk v w i to (x:JL)).map λ(x:JF)=>to++[(x:JL)]).map tW))/\S'[l9]?=gV (.lst ((gr i).map tW))/\Ka S S') rfl rfl ⟨rfl,⟨_,_,_,_,_,_,rfl⟩,ak,au e9,k1.trans .push⟩ (λ_ _ _ h=>h.2.2.1) ?_ ?_
  ·rintro j w0 ρ S2 hw ⟨⟨a12,a13,a14,a15,a16,a17,rfl⟩,e2,f9,k2⟩;clear hK hn2;rw[JJ,JC]at hw;obtain⟨to,hto,rfl⟩:=hw;obtain⟨tl,tw,_⟩:=(gm i to).mp (JT hto);have hjl:j < (gr i).length:=(JU.mp hto).1;refine ab (show gd (.nm 12) (tW to) [gV R,gV (.ref q),gV (aK u),gV (aO p),gV (aO r),gV (.tup [.int mk,.int v,.int w]),gV (.int mk),gV (.int v),gV (.int w),gV (.ref l9),gV (.int i),gV (.ref S1.length),a12,a13,a14,a15,a16,a17] S2=gV ([gV R,gV (.ref q),gV (aK u),gV (aO p),gV (aO r),gV (.tup [.int mk,.int v,.int w]),gV (.int mk),gV (.int v),gV (.int w),gV (.ref l9),gV (.int i),gV (.ref S1.length),gV (.tup (af to)),a13,a14,a15,a16,a17],S2)from rfl) ?_
   intro Q3 hn3' _;refine bj λK hK=>?_
   have ft:=gy (F:=λto=>((JN n).filter λ(x:JF)=>sd kvs u p r mk v w i to (x:JL)).map λ(x:JF)=>to++[(x:JL)]) (m:=3) (λto=>by
    rw[Jz];exact J8 (KC _ _) (by rw[J6]; exact hn3)) ((gr i).take j)
   rw[Kf]at ft;generalize hD:((gr i).take j).flatMap (λto=>((JN n).filter λ(x:JF)=>sd kvs u p r mk v w i to (x:JL)).map λ(x:JF)=>to++[(x:JL)])=D at e2 ft
   refine cD (n:JL) (λm ρ S'=>(∃a13 a14 a15 a16 a17,ρ=[gV R,gV (.ref q),gV (aK u),gV (aO p),gV (aO r),gV (.tup [.int mk,.int v,.int w]),gV (.int mk),gV (.int v),gV (.int w),gV (.ref l9),gV (.int i),gV (.ref S1.length),gV (.tup (af to)),a13,a14,a15,a16,a17])/\S'[S1.length]?=gV (.lst ((D++((JN m).filter λ(x:JF)=>sd kvs u p r mk v w i to (x:JL)).map λ(x:JF)=>to++[(x:JL)]).map tW))/\S'[l9]?=gV (.lst ((gr i).map tW))/\Ka S S') rfl rfl (by omega) ?_ ?_ ?_
   ·dsimp only[wE,wA,wV,wG];exact lw _ _ ⟨rfl,⟨_,_,_,_,_,rfl⟩,by rw[List.range_zero,Ox,Od,K6]; exact e2,f9,k2⟩
   ·rintro m ρ S3 hm ⟨⟨a13,a14,a15,a16,a17,rfl⟩,e3,g9,k3⟩ Q4 hn4 _;clear hK hn3';have hmn:m < n:=by omega
    have h3:=cO e3;dsimp only[JQ];refine st ?_;dsimp only[wS,wE,wA,wV,wG,JQ];refine ae (JS i) (eh hiu) (ae (by decide) rfl ?_)
    refine st ?_;dsimp only[wS,wE,wA,wV,wG,JQ,aO];refine ae (by decide) rfl (ae (by decide) rfl (ae (w:=.int (p.2.getD i 0)) (JS i) (by rw[JW,JJ,ay (d:=0) lpi]; rfl) ?_))
    refine ab (c8 (gE (Mw rfl))) ?_;dsimp only;refine ae (by decide) rfl (ae (by decide) rfl (ae (w:=.int (r.2.getD i 0)) (JS i) (by rw[JW,JJ,ay (d:=0) lri]; rfl) ?_))
    refine ab (c8 (gE (Mw rfl))) ?_;dsimp only[N7,Qp];refine bj λK hK=>?_
    refine cD (i:JL) (λt ρ S'=>(∃a16 a17,ρ=[gV R,gV (.ref q),gV (aK u),gV (aO p),gV (aO r),gV (.tup [.int mk,.int v,.int w]),gV (.int mk),gV (.int v),gV (.int w),gV (.ref l9),gV (.int i),gV (.ref S1.length),gV (.tup (af to)),gV (.int m),gV (.tup [.tup [.int (u.getD i (0,[])).1,.tup []],.tup [.int mk,.tup [.int m]]]),gV (.ref S3.length),a16,a17])/\S'[S3.length]?=gV (.lst (([((u.getD i (0,[])).1,[]),(mk,[(m:JL)]),(p.1,[p.2.getD i 0,v])]::[((u.getD i (0,[])).1,[]),(mk,[(m:JL)]),(r.1,[r.2.getD i 0,w])]::(JN t).map λi'=>[((u.getD i' (0,[])).1,[]),((u.getD i (0,[])).1,[(u.getD i (0,[])).2.getD i' 0]),(mk,[to.getD i' 0,(m:JL)])]).map aK))/\S'[S1.length]?=gV (.lst ((D++((JN m).filter λ(x:JF)=>sd kvs u p r mk v w i to (x:JL)).map λ(x:JF)=>to++[(x:JL)]).map tW))/\S'[l9]?=gV (.lst ((gr i).map tW))/\Ka S S') rfl rfl (by omega) ⟨rfl,⟨_,_,rfl⟩,ak,au e3,au g9,k3.trans .push⟩ ?_ ?_
    ·rintro t ρ S4 ht ⟨⟨a16,a17,rfl⟩,e4,d4,f4,k4⟩ Q5 hn5 _;clear hK hn4;have hti:t < i:=by omega
     have htu:t < u.length:=by omega
     dsimp only[JQ];refine st ?_;dsimp only[wS,wE,wA,wV,wG,JQ];refine ae (JS i) (eh hiu) (ae (by decide) rfl (ae (JS i) (eh hiu) (ae (by decide) rfl (ae (w:=.int ((u.getD i (0,[])).2.getD t 0)) (JS t) (by rw[JW,JJ,ay (d:=0) (by omega)]; rfl) ?_))))
     refine st ?_;dsimp only[wS,wE,wA,wV,wG];refine⟨dQ e4,ae (JS t) (eh htu) (ae (by decide) rfl (ae (w:=.int (to.getD t 0)) (JS t) (by rw[JW]; unfold af; rw[JJ,ay (d:=0) (by omega)]; rfl) ?_))⟩
     refine ma e4 ?_ (bW (hn5 _ _ ⟨⟨_,_,rfl⟩,?_,?_,?_,k4.late (by have:=k3.len; omega)⟩))
     ·rw[Jz,Kk,Kk,Jz,J6]; omega
     ·rw[b9 e4,KO,Kb,<- N7,<- N7,Kb]; rfl
     ·rw[bY (by omega)]; exact d4
     ·rw[bY (by have:=cO g9; omega)]; exact f4
    ·rintro ρ S4 ⟨⟨a16,a17,rfl⟩,e4,d4,f4,k4⟩;rw[JW]at e4;refine hK _ _ ?_;clear hK K;refine bj λK hK=>?_
     dsimp only[wS,wT,wE];have eo:(([((u.getD i (0,[])).1,[]),(mk,[(m:JL)]),(p.1,[p.2.getD i 0,v])]::[((u.getD i (0,[])).1,[]),(mk,[(m:JL)]),(r.1,[r.2.getD i 0,w])]::(JN i).map λi'=>[((u.getD i' (0,[])).1,[]),((u.getD i (0,[])).1,[(u.getD i (0,[])).2.getD i' 0]),(mk,[to.getD i' 0,(m:JL)])]).map (bd kvs)).all (λb=>!b)=sd kvs u p r mk v w i to (m:JL):=by
      rw[Lb,Lb,Kx,Kx,LI,Of]; rfl
     generalize hT:([((u.getD i (0,[])).1,[]),(mk,[(m:JL)]),(p.1,[p.2.getD i 0,v])]::[((u.getD i (0,[])).1,[]),(mk,[(m:JL)]),(r.1,[r.2.getD i 0,w])]::(JN i).map λi'=>[((u.getD i' (0,[])).1,[]),((u.getD i (0,[])).1,[(u.getD i (0,[])).2.getD i' 0]),(mk,[to.getD i' 0,(m:JL)])]:Jy Wd)=T at e4 eo
     have hTl:T.length<=10:=by rw[<- hT,Kk,Kk,Jz,J6]; omega
     clear hT;refine j7 T aK (λ_=>true) (λt=>.bl (bd kvs t)) [gV (.ref q)] rfl rfl rfl rfl (by omega) ⟨_,rfl,e4,.refl⟩ (λt _ S5 k5=>?_) λS5 k5=>?_
     ·dsimp only[iO,wC,wE,wV,wG];exact⟨λ_=>ab (vf (k5.get _ _ (k4.get _ _ e))) ⟨rfl,rfl,.refl⟩,λz=>by cases z⟩
     ·rw[fU,show(T.map λt=>W.bl (bd kvs t))=(T.map (bd kvs)).map W.bl by rw[LI]; rfl]
      dsimp only;refine ab (Ag ak) ?_;dsimp only[wB];rw[eo];have kk:=k5.trans (Ka.push (o:=O.lst ((T.map (bd kvs)).map W.bl)));refine ap (Q0:=Q4) (λho Q6 hn6 _=>?_) (λho Q6 hn6 _=>bW (hn6 _ _ (hK _ _ (bW (hn4 _ _ ⟨⟨_,_,_,_,_,rfl⟩,?_,kk.get _ _ f4,k4.trans kk⟩)))))
      ·refine st ?_;dsimp only[wS,wE,wA,wV,wG];have d6:=kk.get _ _ d4;refine⟨dQ d6,?_⟩;refine ab (c8 (gE (by unfold af; rw[JG,Jz]; show _+1<=_; omega))) ?_
       have fm:=KC (λ(x:JF)=>sd kvs u p r mk v w i to (x:JL)) (JN m)
       rw[J6]at fm;refine ma d6 (by rw[Jz,JG,Jz]; omega) (bW (hn6 _ _ (hK _ _ (bW (hn4 _ _ ⟨⟨_,_,_,_,_,rfl⟩,?_,?_,(k4.trans kk).late (by have:=k1.len; omega)⟩)))))
       ·rw[b9 d6,KO,Lj,Mo,ho];simp[tW,af]
       ·rw[bY (by omega)]; exact kk.get _ _ f4
      ·rw[KO,Lj,Mo,ho]
       simpa using kk.get _ _ d4
   ·rintro ρ S3 ⟨⟨a13,a14,a15,a16,a17,rfl⟩,e3,g9,k3⟩;rw[JW]at e3;refine hK _ _ (bW (hn3' _ _ ⟨⟨_,_,_,_,_,_,rfl⟩,?_,g9,k3⟩));rw[Kt,hto,LB,hD]
    simpa using e3
  ·rintro ρ S2 ⟨⟨a12,a13,a14,a15,a16,a17,rfl⟩,e2,f9,k2⟩;rw[Jz,Kw,<- gs1]at e2;refine hK _ _ (st ?_);dsimp only[wS,wE,wV,wG,JQ];exact bW (hn2 _ _ ⟨_,_,_,_,_,_,_,_,_,rfl,e2,k2⟩)
 ·rintro ρ S1 ⟨l9,a10,a11,a12,a13,a14,a15,a16,a17,rfl,e9,k1⟩;rw[JW]at e9;refine hK _ _ (st ?_);dsimp only[wS,wE];have h27:(gr u.length).length<=27:=J8 (gl u.length) (MH (n:=3) (by decide) hul)
  refine j7 (gr u.length) tW (λ_=>true) (λto=>aK (u++[(mk,to)])) [gV (aK u),gV (.int mk)] rfl rfl rfl rfl (by omega) ⟨_,rfl,e9,.refl⟩ (λto _ S2 k2=>?_) λS2 k2=>?_
  ·dsimp only[iO,wC,wE,wA,wV,wG,aK];have ev:u.map aO++[.tup [.int mk,tW to]]=(u++[(mk,to)]).map aO:=by rw[Kb]; rfl
   refine⟨λ_=>ab (c8 (gE (by rw[JG,ul]; show _+1<=_; omega))) ⟨rfl,?_,.refl⟩,λz=>by cases z⟩
   dsimp only;rw[ev]
  ·rw[fU];exact k _ _ ak (J8 k1.len k2.len) ((k1.trans k2).trans .push)
end
noncomputable def dI:Ss:=
 (.cons (.ite (.cmp .eq (.v 5) (.lst .nil)) (.cons (.ret (.c (.bl true)))
 .nil) .nil)
 (.cons (.loop (.nm 6) (.rng (.cons (.op .mul (.op .mul (.bi .len (.cons (.ix (.v 0) (.c (.int 0))) .nil)) (.bi .len (.cons (.ix (.v 0) (.c (.int 1))) .nil))) (.bi .len (.cons (.ix (.v 0) (.c (.int 1))) .nil))) .nil)) (.cons (.par 7 8 (.cons (.op .mod (.v 6) (.bi .len (.cons (.ix (.v 0) (.c (.int 0))) .nil))) (.cons (.op .fdiv (.v 6) (.bi .len (.cons (.ix (.v 0) (.c (.int 0))) .nil))) .nil)))
 (.cons (.par 9 10 (.cons (.op .mod (.v 8) (.bi .len (.cons (.ix (.v 0) (.c (.int 1))) .nil))) (.cons (.op .fdiv (.v 8) (.bi .len (.cons (.ix (.v 0) (.c (.int 1))) .nil))) .nil)))
 (.cons (.set 11 (.own "_law_barred_ways" 4 (.cons (.v 0) (.cons (.v 1) (.cons (.tup (.cons (.ix (.v 3) (.c (.int 0))) (.cons (.ix (.v 4) (.c (.int 0))) .nil))) (.cons (.tup (.cons (.v 7) (.cons (.v 9) (.cons (.v 10) .nil)))) .nil))))))
 (.cons (.ite (.cmp .isin (.ix (.v 5) (.c (.int 0))) (.v 11)) (.cons (.set 12 (.comp (.v 1) (.nm 1) (.seq (.v 5)) (.cons (.cmp .notin (.v 1) (.v 2)) .nil) [td,td,gV 11]))
 (.cons (.set 13 (.tup (.cons (.tup (.cons (.ix (.v 3) (.c (.int 0))) (.cons (.op .add (.ix (.v 3) (.c (.int 1))) (.tup (.cons (.v 9) .nil))) .nil))) (.cons (.tup (.cons (.ix (.v 4) (.c (.int 0))) (.cons (.op .add (.ix (.v 4) (.c (.int 1))) (.tup (.cons (.v 10) .nil))) .nil))) .nil))))
 (.cons (.loop (.nm 14) (.seq (.own "_law_grown_bases" 6 (.cons (.v 0) (.cons (.v 1) (.cons (.v 2) (.cons (.v 3) (.cons (.v 4) (.cons (.tup (.cons (.v 7) (.cons (.v 9) (.cons (.v 10) .nil)))) .nil)))))))) (.cons (.ite (.own "_law_search" 6 (.cons (.v 0) (.cons (.v 1) (.cons (.v 14) (.cons (.ix (.v 13) (.c (.int 0))) (.cons (.ix (.v 13) (.c (.int 1))) (.cons (.v 12) .nil))))))) (.cons (.ret (.c (.bl true)))
 .nil) .nil)
 .nil))
 .nil))) .nil)
 .nil)))))
 (.cons (.ret (.c (.bl false)))
 .nil)))
theorem Ah {S:aa}{l:JF}{xs:Jy JL}{z:JL}(h:S[l]?=gV (.lst (af xs))):cv .notin (.int z) (.ref l) S=gV (.bl (!decide (z∈xs)),S):=by
 have hf:(bG (.int z)&&(af xs).all bG)=true:=by
  simp only[bG,Mk,J3];intro x hx;unfold af at hx;obtain⟨y,_,rfl⟩:=J4.mp hx;rfl
 simp only[cv,ji h,gK,Bh,xO,eQ,be h,hf,L1,Kq,mE]
theorem Ja {a n mk v w:JF}(ha:a<=3)(hn:n<=3)(hm:mk < a)(hv:v < n)(hw:w < n):∃t < a*n*n,t % a=mk/\t / a % n=v/\t / a / n=w:=by
 refine⟨mk+a*(v+n*w),?_,?_⟩
 ·have h1:v+n*w < n*n:=by
   have:n*w+n<=n*n:=by
    have:=O2 n (show w+1<=n by omega)
    rw[RE,RF]at this;exact this
   omega
  have h2:=O2 a (show v+n*w+1<=n*n from h1)
  rw[RE,RF,<- Rf]at h2;omega
 ·have e1:(mk+a*(v+n*w)) / a=v+n*w:=by
   rw[OP _ _ (by omega),Qg hm,Rt]
  refine⟨?_,?_,?_⟩
  ·rw[NM,Qh hm]
  ·rw[e1,NM,Qh hv]
  ·rw[e1,OP _ _ (by omega),Qg hv,Rt]
theorem CJ {a n t:JF}(ha:0 < a)(hn:0 < n)(ht:t < a*n*n):t % a < a/\t / a % n < n/\t / a / n < n:=by
 refine⟨RZ _ ha,RZ _ hn,?_⟩;rw[OE hn,OE ha,Rn _ a,<- Rf];exact ht
theorem CK {Φ:JZ->FF}{fuel:JF}{ρ:Fm}{S:aa}{K:Fm->aa->Prop}{Q:QO}{a n J:JF}{e0 e1:E}{b:Ss}(hJ:J=a*n*n)(hJ1:J<=27)(hn:n<=3)(I:JF->Fm->aa->Prop)(o0:ee e0=true)(o1:ee e1=true)(ok:gP b=true)(h0:∀Q:QW,Q (.int (a:JL),S)->wE Φ e0 ρ S Q)(h1:∀Q:QW,Q (.int (n:JL),S)->wE Φ e1 ρ S Q)(hI:I 0 ρ S)
  (hstep:∀(i:JF) (ρ:Fm) (S:aa),i < J->I i ρ S->wb Φ fuel b (ρ.set 6 (gV (.int i))) S (I (i+1)) Q) (hend:∀ρ S,I J ρ S->K ρ S):Wp (gI Φ fuel (.loop (.nm 6) (.rng (.cons (.op .mul (.op .mul e0 e1) e1) .nil)) b) ρ S) (q8 K Q):=by
 have b1 : -(2 ^ 64) < (n:JL):=by omega
 have b2:(n:JL) < 2 ^ 64:=by omega
 have eJ:(a:JL)*n*n=(J:JL):=by rw[hJ,Op,Op]
 have hw:wE Φ (.op .mul (.op .mul e0 e1) e1) ρ S λp=>p.1=.int (J:JL)/\I 0 ρ p.2:=zI (λQ q=>zI h0 h1 b1 b2 q) h1 b1 b2 ⟨by rw[eJ],hI⟩
 refine cD (J:JL) I (show((ee e0&&ee e1)&&ee e1)=true by rw[o0,o1]; rfl) ok (by omega) hw (λi ρ S hi=>hstep i ρ S (by omega)) λρ S h=>hend ρ S (by rw[JW]at h; exact h)
section
variable{defs:Jy (JZ×Df)}{fuel:JF}
theorem Ai (hbw:Is defs ("_law_barred_ways" : JZ) 4 9 bK)(hgr:Is defs ("_law_grown_bases" : JZ) 6 18 bL)(hg:Is defs ("_law_search" : JZ) 6 15 dI){ms:Jy W}{b0:W}{ns:Jy JZ}{bs:Jy JL}{a q c:JF}{kvs:Jy (T×W)}(hb:GoodB bs)(hnl:ns.length=bs.length)(hml:ms.length=a)(ha1:0 < a)(ha3:a<=3)(cl:Cl bs kvs)(hc1:c<=bs.length+1) :
  ∀(m d:JF) (S:aa) (Q:QW) (u:Wd) (p r:Pt) (lf:JF),Cf a bs.length kvs u p r->kR kvs bs c u p r<=m->u.length+m<=c->S[q]?=gV (.dic kvs)->S[lf]?=gV (.lst (af (fu c bs.length (bV kvs bs u p r))))->(∀(b:Kc) S',(b=true->As a bs kvs c)->(b=false->dB a bs kvs c u p r)->Ka S S'->Q (.bl b,S'))->
  wO (bx (ar defs fuel (d+m+3)) "_law_search" 6 [.tup [.tup ms,.tup (JR aU ns bs),b0],.ref q,aK u,aO p,aO r,.ref lf] S) Q:=by
 have hb3:1<=bs.length/\bs.length<=3:=by rcases hb with rfl|rfl|rfl|rfl|rfl|rfl <;> decide
 have zl:(JR aU ns bs).length=bs.length:=by rw[Ld,hnl]; omega
 have l0:∀(S:aa) (Q:QW),Q (.int (a:JL),S)->wO (kK (.tup [.tup ms,.tup (JR aU ns bs),b0]) (.int 0) S) λp=>wO (Bi.len.fn [p.1] p.2) Q:=λS Q q=>by
  refine ae (by decide) rfl (bH ?_)
  rw[hml]; exact q
 have l1:∀(S:aa) (Q:QW),Q (.int (bs.length:JL),S)->wO (kK (.tup [.tup ms,.tup (JR aU ns bs),b0]) (.int 1) S) λp=>wO (Bi.len.fn [p.1] p.2) Q:=λS Q q=>by
  refine ae (by decide) rfl (bH ?_)
  rw[zl]; exact q
 have bw:=λ(d:JF) (S:aa) (Q:QW) (p r:Pt) (mk v w:JL) e=>nu (defs:=defs) (fuel:=fuel) (d:=d) (S:=S) (Q:=Q) (m0:=.tup ms) (ns:=ns) (b0:=b0) (q:=q) (p:=p) (r:=r) (mk:=mk) (v:=v) (w:=w) (kvs:=kvs) hbw hb hnl e
 have gw:=λ(d:JF) (S:aa) (Q:QW) (u:Wd) (p r:Pt) (mk v w:JL) hC hul e=>CI (defs:=defs) (fuel:=fuel) (d:=d) (S:=S) (Q:=Q) (m0:=.tup ms) (N:=JR aU ns bs) (b0:=b0) (a:=a) (q:=q) (u:=u) (p:=p) (r:=r) (mk:=mk) (v:=v) (w:=w) (kvs:=kvs) hgr zl hb3.2 hC hul e
 generalize W.tup [.tup ms,.tup (JR aU ns bs),b0]=R at l0 l1 bw gw;obtain⟨J,hJ⟩ : ∃J,J=a*bs.length*bs.length:=⟨_,rfl⟩;have hJ1:J<=27:=by
  rw[hJ];exact NG (NG ha3 hb3.2) hb3.2
 intro m
 induction m with
 | zero=>?_
 | succ m ih=>?_
 all_goals
  intro d S Q u p r lf hC hleft hlen e e5 k;refine aB hg rfl rfl λQ' hR=>?_
  replace k:∀(b:Kc) S',(b=true->As a bs kvs c)->(b=false->dB a bs kvs c u p r)->Ka S S'->Q' (.rt (.bl b),S'):=λb S' x y z=>hR _ _ (k b S' x y z)
  clear hR;show wZ _ _ dI [gV R,gV (.ref q),gV (aK u),gV (aO p),gV (aO r),gV (.ref lf),td,td,td,td,td,td,td,td,td] S Q';dsimp only[dI];refine bj λK hK=>?_
  dsimp only[wS,wT,wE,wA,wV,wG];refine ab (Dl (au e5) ak) ?_;dsimp only[wB];rcases Ae (c:=c) (n:=bs.length) (f:=bV kvs bs u p r)with⟨h1,h2⟩|⟨i,hi,L,h1,h2⟩
 ·rw[h1];refine ap (Q0:=Q') (λ_ Q2 _ hr=>?_) (λz=>by cases z)
  refine st ?_;dsimp only[wS,wE];exact hr _ _ (k true _ (λ_=>⟨u,p,r,hC,h2⟩) (λz=>by cases z) .push)
 ·have:0 < kR kvs bs c u p r:=M4 (KW.mpr ⟨JY.mpr hi,by rw[h2]; rfl⟩)
  omega
 ·rw[h1];refine ap (Q0:=Q') (λ_ Q2 _ hr=>?_) (λz=>by cases z)
  refine st ?_;dsimp only[wS,wE];exact hr _ _ (k true _ (λ_=>⟨u,p,r,hC,h2⟩) (λz=>by cases z) .push)
 ·have hne:(af (fu c bs.length (bV kvs bs u p r))).isEmpty=false:=by rw[h1]; rfl
  rw[hne];refine ap (Q0:=Q') (λz=>by cases z) (λ_ Q2 hn _=>bW (hn _ _ (hK _ _ ?_)))
  clear hn hK K;refine bj λK hK=>?_
  refine CK (a:=a) (n:=bs.length) hJ hJ1 hb3.2 (λt ρ S'=>(∃a6 a7 a8 a9 a10 a11 a12 a13 a14,ρ=[gV R,gV (.ref q),gV (aK u),gV (aO p),gV (aO r),gV (.ref lf),a6,a7,a8,a9,a10,a11,a12,a13,a14])/\(∀t' < t,fq kvs bs p r ((t' % a:JF):JL) ((t' / a % bs.length:JF):JL) ((t' / a / bs.length:JF):JL) i=true->∀to∈qf kvs bs.length u p r ((t' % a:JF):JL) ((t' / a % bs.length:JF):JL) ((t' / a / bs.length:JF):JL) u.length,dB a bs kvs c (u++[(((t' % a:JF):JL),to)]) (p.1,p.2++[((t' / a % bs.length:JF):JL)]) (r.1,r.2++[((t' / a / bs.length:JF):JL)]))/\Ka S S') rfl rfl rfl (λQ q=>?_) (λQ q=>?_) ⟨⟨_,_,_,_,_,_,_,_,_,rfl⟩,(λt' ht=>by omega),.push⟩ ?_ ?_
  ·dsimp only[wE,wA,wV,wG];exact l0 _ _ q
  ·dsimp only[wE,wA,wV,wG];exact l1 _ _ q
  ·rintro t ρ S1 ht ⟨⟨a6,a7,a8,a9,a10,a11,a12,a13,a14,rfl⟩,hno,k1⟩ Q2 hn2 hr2;clear hK;obtain⟨tm,tv,tw⟩:=CJ (a:=a) (n:=bs.length) ha1 (by omega) (by rw[<- hJ]; exact ht)
   dsimp only[JQ];refine st ?_;dsimp only[wS,wE,wA,wV,wG,JQ];refine l0 _ _ (ab (kO (by omega)) ?_)
   dsimp only;refine l0 _ _ (ab (jW (by omega) (by omega)) ?_)
   dsimp only[w2];rw[<- Qi,<- Qj];refine st ?_;dsimp only[wS,wE,wA,wV,wG,JQ];refine l1 _ _ (ab (kO (by omega)) ?_)
   dsimp only;refine l1 _ _ (ab (jW (by omega) (by omega)) ?_)
   dsimp only[w2];rw[<- Qi,<- Qj];have more:(fq kvs bs p r ((t % a:JF):JL) ((t / a % bs.length:JF):JL) ((t / a / bs.length:JF):JL) i=true->∀to∈qf kvs bs.length u p r ((t % a:JF):JL) ((t / a % bs.length:JF):JL) ((t / a / bs.length:JF):JL) u.length,dB a bs kvs c (u++[(((t % a:JF):JL),to)]) (p.1,p.2++[((t / a % bs.length:JF):JL)]) (r.1,r.2++[((t / a / bs.length:JF):JL)]))->∀t' < t+1,fq kvs bs p r ((t' % a:JF):JL) ((t' / a % bs.length:JF):JL) ((t' / a / bs.length:JF):JL) i=true->∀to∈qf kvs bs.length u p r ((t' % a:JF):JL) ((t' / a % bs.length:JF):JL) ((t' / a / bs.length:JF):JL) u.length,dB a bs kvs c (u++[(((t' % a:JF):JL),to)]) (p.1,p.2++[((t' / a % bs.length:JF):JL)]) (r.1,r.2++[((t' / a / bs.length:JF):JL)]):=λh t' ht'=>by
    by_cases et:t'=t
    ·subst et; exact h
    ·exact hno t' (by omega)
   clear hno;generalize t % a=mk at tm more;generalize t / a % bs.length=v at tv more;generalize t / a / bs.length=w at tw more;generalize t / a=wa;refine bj λK hK=>?_
   dsimp only[wS,wE,wA,wV,wG,JQ,aO];refine ae (by decide) rfl (ae (by decide) rfl ?_)
   refine bw (d+m+2) _ _ p r _ _ _ (k1.get _ _ e) λl11 S2 e11 _ k2=>hK _ _ ?_
   clear hK K;have hgi:decide (sa bs.length i∈nr (bs.length+1) bs.length (fq kvs bs p r (mk:JL) (v:JL) (w:JL)))=fq kvs bs p r (mk:JL) (v:JL) (w:JL) i:=by
    rw[LC,Kh,rN (by omega)]
   have he:∀to:Jy JL,(λj=>(bV kvs bs u p r j||fq kvs bs p r (mk:JL) (v:JL) (w:JL) j))=bV kvs bs (u++[((mk:JL),to)]) (p.1,p.2++[(v:JL)]) (r.1,r.2++[(w:JL)]):=λto=>funext λj=>(vd (kvs:=kvs) (bs:=bs) (x:=((mk:JL),to)) (v:=(v:JL)) (w:=(w:JL)) (i:=j) hC.gp.len hC.gq.len).symm
   have hrest:=Ad (c:=c) (n:=bs.length) (f:=bV kvs bs u p r) (g:=fq kvs bs p r (mk:JL) (v:JL) (w:JL)) (h:=λj=>(bV kvs bs u p r j||fq kvs bs p r (mk:JL) (v:JL) (w:JL) j)) hc1 λ_=>rfl
   refine bj λK hK=>?_
   dsimp only[wS,wT,wE,wV,wG];have e5':=(k1.trans k2).get _ _ e5;refine eE (i:=0) (w:=.int (sa bs.length i)) e5' (by rw[h1]; rfl) (ab (Hm e11) ?_)
   dsimp only[wB];rw[hgi];refine ap (Q0:=Q2) (λhh Q3 hn3 hr3=>?_) (λhh Q3 hn3 _=>bW (hn3 _ _ (hK _ _ (bW (hn2 _ _ ⟨⟨_,_,_,_,_,_,_,_,_,rfl⟩,more (λz=>by rw[z]at hh; cases hh),k1.trans k2⟩)))))
   refine st ?_;dsimp only[wS,wE,JQ];refine j7 (fu c bs.length (bV kvs bs u p r)) W.int (λz=>!decide (z∈nr (bs.length+1) bs.length (fq kvs bs p r (mk:JL) (v:JL) (w:JL)))) W.int [gV (.ref l11)] rfl rfl rfl rfl (J8 CH (by omega)) ⟨lf,rfl,e5',.refl⟩ (λz _ S3 k3=>?_) λS3 k3=>?_
   ·dsimp only[iO,wC,wT,wE,wV,wG];refine ab (Ah (k3.get _ _ e11)) ?_;dsimp only[wB];exact⟨λz=>⟨z,rfl,.refl⟩,λz=>⟨z,.refl⟩⟩
   rw[hrest];have ks:=(k1.trans k2).trans k3;have e12:(S3++[O.lst ((fu c bs.length λj=>(bV kvs bs u p r j||fq kvs bs p r (mk:JL) (v:JL) (w:JL) j)).map W.int)])[S3.length]?=gV (O.lst (af (fu c bs.length λj=>(bV kvs bs u p r j||fq kvs bs p r (mk:JL) (v:JL) (w:JL) j)))):=ak
   have ks:=ks.trans (Ka.push (o:=O.lst ((fu c bs.length λj=>(bV kvs bs u p r j||fq kvs bs p r (mk:JL) (v:JL) (w:JL) j)).map W.int)))
   generalize S3++[O.lst ((fu c bs.length λj=>(bV kvs bs u p r j||fq kvs bs p r (mk:JL) (v:JL) (w:JL) j)).map W.int)]=S4 at e12 ks
   refine st ?_;dsimp only[wS,wE,wA,wV,wG,JQ,aO];refine ae (by decide) rfl (ae (by decide) rfl ?_)
   refine ab (c8 (gE (by rw[JG,Jz,hC.gp.len]; show _+1<=_; omega))) ?_
   dsimp only;refine ae (by decide) rfl (ae (by decide) rfl ?_)
   refine ab (c8 (gE (by rw[JG,Jz,hC.gq.len]; show _+1<=_; omega))) ?_
   dsimp only;have ep:∀(p:Pt) (z:JL),W.tup [.int p.1,.tup (p.2.map W.int++[.int z])]=aO (p.1,p.2++[z]):=λp z=>by unfold aO; rw[Kb]; rfl
   rw[ep,ep];refine bj λK2 hK2=>?_
   refine dg rfl rfl ?_;dsimp only[wE,wA,wV,wG];have gw1:=λ(Q:QW)=>gw (d+m+2) S4 Q u p r (mk:JL) (v:JL) (w:JL) hC (by omega) (ks.get _ _ e)
   unfold aO at gw1;refine gw1 _ λt14 S5 e14 _ k5=>?_
   have gc:=λ(to:Jy JL)=>Dr (kvs:=kvs) (to:=to) hC (mk:=(mk:JL)) (v:=(v:JL)) (w:=(w:JL)) ⟨by omega,by omega⟩ ⟨by omega,by omega⟩ ⟨by omega,by omega⟩
   generalize qf kvs bs.length u p r (mk:JL) (v:JL) (w:JL) u.length=gr at e14 gc more;refine⟨t14,gr.map λto=>aK (u++[((mk:JL),to)]),λj ρ S'=>(∃a14,ρ=[gV R,gV (.ref q),gV (aK u),gV (.tup [.int p.1,.tup (p.2.map W.int)]),gV (.tup [.int r.1,.tup (r.2.map W.int)]),gV (.ref lf),gV (.int t),gV (.int mk),gV (.int wa),gV (.int v),gV (.int w),gV (.ref l11),gV (.ref S3.length),gV (.tup [aO (p.1,p.2++[(v:JL)]),aO (r.1,r.2++[(w:JL)])]),a14])/\(∀to∈gr.take j,dB a bs kvs c (u++[((mk:JL),to)]) (p.1,p.2++[(v:JL)]) (r.1,r.2++[(w:JL)]))/\S'[t14]?=gV (.lst (gr.map λto=>aK (u++[((mk:JL),to)])))/\Ka S4 S',rfl,⟨⟨_,rfl⟩,(λto h=>by cases h),e14,k5⟩,λ_ _ _ h=>h.2.2.1,?_,?_⟩
   ·rintro j w0 ρ S6 hw ⟨⟨a14,rfl⟩,hno,f14,k6⟩;clear hK hK2;rw[JJ,JC]at hw;obtain⟨to,hto,rfl⟩:=hw;have hm:=(gc to).mp (JT hto);obtain⟨xC,xl,xh⟩:=u9 (bs:=bs) hC hm;dsimp only at xC xl xh;refine ab (show gd (.nm 14) (aK (u++[((mk:JL),to)])) [gV R,gV (.ref q),gV (aK u),gV (.tup [.int p.1,.tup (p.2.map W.int)]),gV (.tup [.int r.1,.tup (r.2.map W.int)]),gV (.ref lf),gV (.int t),gV (.int mk),gV (.int wa),gV (.int v),gV (.int w),gV (.ref l11),gV (.ref S3.length),gV (.tup [aO (p.1,p.2++[(v:JL)]),aO (r.1,r.2++[(w:JL)])]),a14] S6=gV ([gV R,gV (.ref q),gV (aK u),gV (.tup [.int p.1,.tup (p.2.map W.int)]),gV (.tup [.int r.1,.tup (r.2.map W.int)]),gV (.ref lf),gV (.int t),gV (.int mk),gV (.int wa),gV (.int v),gV (.int w),gV (.ref l11),gV (.ref S3.length),gV (.tup [aO (p.1,p.2++[(v:JL)]),aO (r.1,r.2++[(w:JL)])]),gV (aK (u++[((mk:JL),to)]))],S6)from rfl) ?_
    intro Q4 hn4 hr4;refine bj λK hK=>?_
    dsimp only[wS,wT,wE,wA,wV,wG];refine ae (by decide) rfl (ae (by decide) rfl ?_)
    refine ih d _ _ (u++[((mk:JL),to)]) (p.1,p.2++[(v:JL)]) (r.1,r.2++[(w:JL)]) S3.length xC ?_ (by omega) ((ks.trans k6).get _ _ e) (by rw[<- he to]; exact k6.get _ _ e12) λb S7 ht1 ht2 k7=>?_
    ·have hx:bV kvs bs (u++[((mk:JL),to)]) (p.1,p.2++[(v:JL)]) (r.1,r.2++[(w:JL)]) i=true:=by rw[<- he to]; dsimp only; rw[hh,Bool.or_true]
     have:=u8 (c:=c) hi xh h2 hx;unfold kR at hleft ⊢;omega
    refine ab (show ff S7 (.bl b)=gV b from rfl) ?_
    refine ap (Q0:=Q4) (λhb1 Q6 _ hr6=>?_) (λhb1 Q6 hn6 _=>bW (hn6 _ _ (hK _ _ (bW (hn4 _ _ ⟨⟨_,rfl⟩,λto' h'=>?_,k7.get _ _ f14,k6.trans k7⟩)))))
    ·refine st ?_;dsimp only[wS,wE];exact hr6 _ _ (hr4 _ _ (hr3 _ _ (hr2 _ _ (k true _ (λ_=>ht1 hb1) (λz=>by cases z) ((ks.trans k6).trans k7)))))
    ·rw[Kt,hto]at h';rcases Ko.mp h' with z|z
     ·exact hno to' z
     ·obtain rfl:to'=to:=by simpa using z
      exact ht2 hb1
   ·rintro ρ S6 ⟨⟨a14,rfl⟩,hno,f14,k6⟩;rw[Jz,Kw]at hno;exact hK2 _ _ (bW (hn3 _ _ (hK _ _ (bW (hn2 _ _ ⟨⟨_,_,_,_,_,_,_,_,_,rfl⟩,more λ_=>hno,ks.trans k6⟩)))))
  ·rintro ρ S1 ⟨⟨a6,a7,a8,a9,a10,a11,a12,a13,a14,rfl⟩,hno,k1⟩;refine hK _ _ (st ?_);dsimp only[wS,wE];refine k false _ (λz=>by cases z) (λ_=>zV hb cl hi h2 λx hx hxi=>?_) k1
   have hx':=hx;unfold jv at hx;obtain⟨y,hy,hc⟩:=KA.mp hx;obtain⟨g1,gg1,hc⟩:=KA.mp hc;obtain⟨g2,gg2,rfl⟩:=J4.mp hc;obtain⟨v,hv,rfl,_⟩:=fJ.mp gg1;obtain⟨w,hw,rfl,_⟩:=fJ.mp gg2;obtain⟨y1,y2,y3,_⟩:=fX.mp hy;obtain⟨mk,hmk⟩ : ∃mk:JF,y.1=mk:=⟨y.1.toNat,by omega⟩
   obtain⟨to,rfl⟩ : ∃to,y=((mk:JL),to):=⟨y.2,by rw[<- hmk]⟩
   obtain⟨t,ht,t1,t2,t3⟩:=Ja (a:=a) (n:=bs.length) (mk:=mk) (v:=v) (w:=w) ha3 hb3.2 (by omega) hv hw
   have:=hno t (by omega)
   rw[t1,t2,t3]at this;dsimp only at hxi ⊢;rw[vd hC.gp.len hC.gq.len,h2,NW]at hxi;exact this hxi to ((Dr hC ⟨by omega,by omega⟩ ⟨by omega,by omega⟩ ⟨by omega,by omega⟩).mpr hx')
end
noncomputable def fF:Ss:=
 (.cons (.loop (.nm 3) (.rng (.cons (.bi .len (.cons (.ix (.v 0) (.c (.int 0))) .nil)) .nil)) (.cons (.loop (.nm 4) (.rng2 (.cons (.v 3) (.cons (.bi .len (.cons (.ix (.v 0) (.c (.int 0))) .nil)) .nil))) (.cons (.set 5 (.bi .list (.cons (.bi .range (.cons (.bi .len (.cons (.ix (.v 0) (.c (.int 1))) .nil)) .nil)) .nil)))
 (.cons (.ite (.and (.cmp .eq (.v 3) (.v 4)) (.not (.v 2))) (.cons (.ex (.me .append (.v 5) (.cons (.neg (.c (.int 1))) .nil)))
 .nil) .nil)
 (.cons (.ite (.own "_law_search" 6 (.cons (.v 0) (.cons (.v 1) (.cons (.tup .nil) (.cons (.tup (.cons (.v 3) (.cons (.tup .nil) .nil))) (.cons (.tup (.cons (.v 4) (.cons (.tup .nil) .nil))) (.cons (.v 5) .nil))))))) (.cons (.ret (.c (.bl true)))
 .nil) .nil)
 .nil))))
 .nil))
 (.cons (.ret (.c (.bl false)))
 .nil))
theorem Aj {Φ:JZ->FF}{ρ:Fm}{S:aa}{e:E}{n:JF}{m:JL}{Q:QW}(hm:m=n)(he:∀Q:QW,Q (.int m,S)->wE Φ e ρ S Q)(hn:n<=1000)(k:∀(t:JF) S',S'[t]?=gV (.lst (az (JN n)))->S.length<=t->Ka S S'->Q (.ref t,S')):wE Φ (.bi .list (.cons (.bi .range (.cons e .nil)) .nil)) ρ S Q:=by
 have e1:Bi.range.fn [.int m] S=gV (.ref S.length,S++[.rng 0 m]):=by
  simp only[Bi.fn,o7];rw[Kd ⟨by omega,by omega⟩]
 have h:wO (Bi.list.fn [.ref S.length] (S++[O.rng 0 m])) Q:=by
  subst hm;exact CA ak hn (k _ _ ak (by simp) (Ka.push.trans .push))
 have g:wO (Bi.range.fn [.int m] S) λp=>wO (Bi.list.fn [p.1] p.2) Q:=by
  rw[e1];exact h
 dsimp only[wE,wA];exact he _ g
theorem vg {kvs:Jy (T×W)}{bs:Jy JL}{i j:JL}{t:JF}:bV kvs bs [] (i,[]) (j,[]) t=if t < bs.length then false else !(i==j):=by
 unfold bV Fw;split
 ·rfl
 ·simp
theorem rO {n:JF}{f:JF->Kc}(h:∀t < n,f t=false):af (fu n n f)=az (JN n):=by
 unfold fu af az;rw[OZ.mpr (λt ht=>by rw[h t (JY.mp ht)]; rfl),LI]
 refine KJ λt ht=>?_
 simp only[Rc,sa];rw[Kd (JY.mp ht)]
theorem rP {n:JF}{f:JF->Kc}(h:∀t < n,f t=false):af (fu (n+1) n f)=az (JN n)++(if f n then[]else[.int (-1)]):=by
 rw[<- rO h];unfold fu af;rw[KO,Lj,Kb,Kb,Mo,Ox];congr 1;cases f n with
 | true=>rfl
 | false=>
  show[W.int (sa n n)]=[W.int (-1)];unfold sa;rw[Ku (KQ n)]
section
variable{defs:Jy (JZ×Df)}{fuel d:JF}{S:aa}{Q:QW}
structure Nev (defs:Jy (JZ×Df)):Prop where
 bways:Is defs ("_law_barred_ways" : JZ) 4 9 bK
 grown:Is defs ("_law_grown_bases" : JZ) 6 18 bL
 search:Is defs ("_law_search" : JZ) 6 15 dI
 never:Is defs ("_law_never" : JZ) 3 6 fF
theorem vh (V:Nev defs){ms:Jy W}{b0:W}{ns:Jy JZ}{bs:Jy JL}{a q c:JF}{bw:Kc}{kvs:Jy (T×W)}(hb:GoodB bs)(hnl:ns.length=bs.length)(hml:ms.length=a)(ha1:0 < a)(ha3:a<=3)(cl:Cl bs kvs)(hc:c=if bw then bs.length else bs.length+1)(e:S[q]?=gV (.dic kvs))
  (k:∀(b:Kc) S',(b=true↔As a bs kvs c)->Ka S S'->Q (.bl b,S')) :
  wO (bx (ar defs fuel (d+8)) "_law_never" 3 [.tup [.tup ms,.tup (JR aU ns bs),b0],.ref q,.bl bw] S) Q:=by
 refine aB V.never rfl rfl λQ' hR=>?_
 replace k:∀(b:Kc) S',(b=true↔As a bs kvs c)->Ka S S'->Q' (.rt (.bl b),S'):=λb S' x y=>hR _ _ (k b S' x y)
 clear hR;show wZ _ _ fF [gV (.tup [.tup ms,.tup (JR aU ns bs),b0]),gV (.ref q),gV (.bl bw),td,td,td] S Q';have hb3:bs.length<=3:=by rcases hb with rfl|rfl|rfl|rfl|rfl|rfl <;> decide
 have hc0:bs.length<=c:=by rw[hc]; split <;> omega
 have hc1:c<=bs.length+1:=by rw[hc]; split <;> omega
 have zl:(JR aU ns bs).length=bs.length:=by rw[Ld,hnl]; omega
 have l0:∀(S:aa) (Q:QW),Q (.int (a:JL),S)->wO (kK (.tup [.tup ms,.tup (JR aU ns bs),b0]) (.int 0) S) λp=>wO (Bi.len.fn [p.1] p.2) Q:=λS Q q=>by
  refine ae (by decide) rfl (bH ?_)
  rw[hml]; exact q
 have l1:∀(S:aa) (Q:QW),Q (.int (bs.length:JL),S)->wO (kK (.tup [.tup ms,.tup (JR aU ns bs),b0]) (.int 1) S) λp=>wO (Bi.len.fn [p.1] p.2) Q:=λS Q q=>by
  refine ae (by decide) rfl (bH ?_)
  rw[zl]; exact q
 have se:∀(i j lf:JF) (S:aa) (Q:QW),i < a->j < a->S[q]?=gV (.dic kvs)->S[lf]?=gV (.lst (af (fu c bs.length (bV kvs bs [] ((i:JL),[]) ((j:JL),[])))))->(∀(b:Kc) S',(b=true->As a bs kvs c)->(b=false->dB a bs kvs c [] ((i:JL),[]) ((j:JL),[]))->Ka S S'->Q (.bl b,S'))->wO (bx (ar defs fuel (d+7)) "_law_search" 6 [.tup [.tup ms,.tup (JR aU ns bs),b0],.ref q,.tup [],.tup [.int i,.tup []],.tup [.int j,.tup []],.ref lf] S) Q:=λi j lf S Q hi hj e h5 h=>by
  rw[show d+7=(d+4 - c)+c+3 by omega]
  exact Ai V.bways V.grown V.search hb hnl hml ha1 ha3 cl hc1 c (d+4 - c) S Q [] ((i:JL),[]) ((j:JL),[]) lf (Aa hi hj) (by
   unfold kR;exact J8 (KC _ _) (by rw[J6]; exact JO _)) (by simp) e h5 h
 generalize W.tup [.tup ms,.tup (JR aU ns bs),b0]=R at l0 l1 se;dsimp only[fF];refine bj λK hK=>?_
 refine cD (a:JL) (λi ρ S'=>(∃a3 a4 a5,ρ=[gV R,gV (.ref q),gV (.bl bw),a3,a4,a5])/\(∀i' j',i' < i->i'<=j'->j' < a->dB a bs kvs c [] ((i':JL),[]) ((j':JL),[]))/\Ka S S') rfl rfl (by omega) ?_ ?_ ?_
 ·dsimp only[wE,wA,wV,wG];exact l0 _ _ ⟨rfl,⟨_,_,_,rfl⟩,(λi' j' h=>by omega),.refl⟩
 ·rintro i ρ S2 hi ⟨⟨a3,a4,a5,rfl⟩,hno,k2⟩ Q2 hn2 hr2;clear hK;have hia:i < a:=by omega
  dsimp only[JQ];refine bj λK hK=>?_
  refine jq (i:JL) (a:JL) (λm ρ S'=>(∃a4 a5,ρ=[gV R,gV (.ref q),gV (.bl bw),gV (.int i),a4,a5])/\(∀j',i<=j'->j' < i+m->dB a bs kvs c [] ((i:JL),[]) ((j':JL),[]))/\Ka S S') rfl rfl rfl (by omega) ?_ ?_ ?_
  ·dsimp only[wE,wA,wV,wG];exact⟨rfl,l0 _ _ ⟨rfl,⟨_,_,rfl⟩,(λj' h1 h2=>by omega),k2⟩⟩
  ·rintro m ρ S3 hm ⟨⟨a4,a5,rfl⟩,hno3,k3⟩ Q3 hn3 hr3;clear hK;rw[show(i:JL)+m=((i+m:JF):JL) by omega]
   have hja:i+m < a:=by omega
   generalize hj:i+m=j at hja;dsimp only[JQ];refine bj λK hK=>?_
   refine Aj (n:=bs.length) (m:=(bs.length:JL)) rfl (λQ q=>?_) (by omega) λl5 S4 e5 hl5 k4=>hK _ _ ?_
   ·dsimp only[wE,wA,wV,wG];exact l1 _ _ q
   clear hK K;dsimp only[JQ];refine bj λK hK=>?_
   have h0:∀t < bs.length,bV kvs bs [] ((i:JL),[]) ((j:JL),[]) t=false:=λt ht=>by rw[vg,Kd ht]
   have tl:∀S5:aa,S5[l5]?=gV (.lst (af (fu c bs.length (bV kvs bs [] ((i:JL),[]) ((j:JL),[])))))->Ka S S5->K [gV R,gV (.ref q),gV (.bl bw),gV (.int i),gV (.int j),gV (.ref l5)] S5:=by
    intro S5 f5 k5;refine hK _ _ ?_;clear hK K;refine bj λK hK=>?_
    dsimp only[wS,wT,wE,wA,wV,wG];refine se i j l5 _ _ hia hja (k5.get _ _ e) f5 λb S6 t1 t2 k6=>?_
    refine ab (show ff S6 (.bl b)=gV b from rfl) ?_
    refine ap (Q0:=Q3) (λhb1 Q6 _ hr6=>?_) (λhb1 Q6 hn6 _=>bW (hn6 _ _ (hK _ _ (bW (hn3 _ _ ⟨⟨_,_,rfl⟩,λj' h1 h2=>?_,k5.trans k6⟩)))))
    ·refine st ?_;dsimp only[wS,wE];exact hr6 _ _ (hr3 _ _ (hr2 _ _ (k true _ ⟨λ_=>t1 hb1,λ_=>rfl⟩ (k5.trans k6))))
    ·by_cases ej:j'=j
     ·rw[ej]; exact t2 hb1
     ·exact hno3 j' h1 (by omega)
   dsimp only[wS,wT,wE,wA,wV,wG];refine ab pH ?_;dsimp only[wB];cases bw with
   | true=>
    rw[Kd rfl]at hc;have f5:S4[l5]?=gV (.lst (af (fu c bs.length (bV kvs bs [] ((i:JL),[]) ((j:JL),[]))))):=by rw[hc,rO h0]; exact e5
    refine⟨λ_=>?_,λ_=>ap (Q0:=Q3) (λz=>by cases z) λ_ Q6 hn6 _=>bW (hn6 _ _ (tl S4 f5 (k3.trans k4)))⟩
    refine ab (show ff S4 (.bl true)=gV true from rfl) ?_
    exact ap (Q0:=Q3) (λz=>by cases z) λ_ Q6 hn6 _=>bW (hn6 _ _ (tl S4 f5 (k3.trans k4)))
   | false=>
    rw[Ku J5]at hc;have hs:bV kvs bs [] ((i:JL),[]) ((j:JL),[]) bs.length = !((i:JL)==(j:JL)):=by rw[vg,Ku (KQ _)]
    refine⟨λhij=>?_,λhij=>ap (Q0:=Q3) (λz=>by cases z) λ_ Q6 hn6 _=>bW (hn6 _ _ (tl S4 ?_ (k3.trans k4)))⟩
    ·refine ab (show ff S4 (.bl false)=gV false from rfl) ?_
     refine ap (Q0:=Q3) (λ_ Q6 hn6 _=>?_) (λz=>by cases z)
     refine st ?_;dsimp only[wS,wE,wA,wV,wG,wN];refine⟨dQ e5,ma e5 (by unfold az; rw[Jz,J6]; omega) (bW (hn6 _ _ (tl _ ?_ ((k3.trans k4).late ?_))))⟩
     ·rw[b9 e5,hc,rP h0,hs,hij]; rfl
     ·exact J8 k3.len hl5
    ·rw[hc,rP h0,hs,hij];show S4[l5]?=gV (.lst (az (JN bs.length)++[]));rw[K6]; exact e5
  ·rintro ρ S3 ⟨⟨a4,a5,rfl⟩,hno3,k3⟩;refine hK _ _ (bW (hn2 _ _ ⟨⟨_,_,_,rfl⟩,λi' j' h1 h2 h3=>?_,k3⟩))
   by_cases ei:i'=i
   ·subst ei;exact hno3 j' h2 (by omega)
   ·exact hno i' j' (by omega) h2 h3
 ·rintro ρ S2 ⟨⟨a3,a4,a5,rfl⟩,hno,k2⟩;refine hK _ _ (st ?_);dsimp only[wS,wE];have:=Dq hb cl hc0 λi j h1 h2 h3=>hno i j (by omega) h2 h3
  exact k false _ ⟨λz=>(by cases z),λz=>absurd z this⟩ k2
end
noncomputable def lB:Ss:=
 (.cons (.set 1 (.own "_law_flow" 1 (.cons (.v 0) .nil)))
 (.cons (.set 2 (.own "_law_some_rule" 1 (.cons (.v 1) .nil)))
 (.cons (.loop (.nm 3) (.rng (.cons (.c (.int 6)) .nil)) (.cons (.ite (.cmp .gt (.op .mul (.bi .len (.cons (.ix (.v 2) (.c (.int 0))) .nil)) (.bi .len (.cons (.ix (.v 2) (.c (.int 1))) .nil))) (.c (.int 4))) (.cons (.set 2 (.own "_law_some_rule" 1 (.cons (.v 1) .nil)))
 .nil) .nil)
 .nil))
 (.cons (.ite (.cmp .gt (.op .mul (.bi .len (.cons (.ix (.v 2) (.c (.int 0))) .nil)) (.bi .len (.cons (.ix (.v 2) (.c (.int 1))) .nil))) (.c (.int 4))) (.cons (.ret (.c (.bl true)))
 .nil) .nil)
 (.cons (.set 4 (.own "_law_bad" 1 (.cons (.v 2) .nil)))
 (.cons (.ite (.cmp .ne (.cmp .isnot (.own "unlaid" 1 (.cons (.v 2) .nil)) (.c .non)) (.own "_law_never" 3 (.cons (.v 2) (.cons (.v 4) (.cons (.c (.bl false)) .nil))))) (.cons (.ret (.c (.bl false)))
 .nil) .nil)
 (.cons (.ret (.cmp .eq (.cmp .isnot (.own "put_on" 1 (.cons (.v 2) .nil)) (.c .non)) (.own "_law_never" 3 (.cons (.v 2) (.cons (.v 4) (.cons (.c (.bl true)) .nil))))))
 .nil)))))))
structure Lw30 (defs:Jy (JZ×Df)):Prop where
 gen:Gen defs
 unl:Unl defs
 un:Is defs ("_law_unlaying_rule" : JZ) 1 10 bv
 some':Is defs ("_law_some_rule" : JZ) 1 2 cK
 flow:Is defs ("_law_flow" : JZ) 1 1 eY
 bad:Is defs ("_law_bad" : JZ) 1 4 fT
 nev:Nev defs
 law:Is defs ("law" : JZ) 1 5 lB
theorem Ak {kvs kvs':Jy (T×W)}{a c:JF}{bs:Jy JL}(h:∀t,(cC kvs t).isSome=(cC kvs' t).isSome):As a bs kvs c->As a bs kvs' c:=by
 rintro⟨U,P,Q,hC,hF⟩;have hm:∀p:Pt,j8 kvs U U.length p=true->j8 kvs' U U.length p=true:=λp mp=>eG.mpr λq hq i hi=>by
  have:=eG.mp mp q hq i hi;unfold dO at this ⊢;rw[<- h]; exact this
 refine⟨U,P,Q,⟨hC.gu,λk hk j hj i hi=>?_,hC.gp,hm P hC.mp,hC.gq,hm Q hC.mq⟩,λi hi=>?_⟩
 ·have:=hC.su k hk j hj i hi;unfold dC at this ⊢;rw[<- h]; exact this
 ·have:=hF i hi;unfold bV bd at this ⊢;simp only[h]at this;exact this
theorem rQ {a c:JF}{bs:Jy JL}{kvs kvs':Jy (T×W)}{gs:Jy Wd}{w:W}(h1:HasD kvs (dA bs gs))(h2:HasD kvs' (dA bs gs))(h:Fx a bs kvs c w):∃x:Kc,(∀S,cv .isnot w .non S=gV (.bl x,S))/\∀b:Kc,(b=true↔As a bs kvs' c)->x=b:=by
 rcases h with⟨rfl,hu⟩|⟨y,rfl,y1,y2,_⟩
 ·refine⟨false,λ_=>rfl,λb hb=>?_⟩
  cases b with
  | false=>rfl
  | true=>exact absurd (Ak (λt=>by rw[h1.get,h2.get]) (hb.mp rfl)) hu
 ·refine⟨true,λ_=>rfl,λb hb=>?_⟩
  rw[hb.mpr (Ak (λt=>by rw[h1.get,h2.get]) ⟨_,_,_,y1,y2⟩)]
theorem Hn {S:aa}{x y:Kc}:cv .ne (.bl x) (.bl y) S=gV (.bl (!(x==y)),S):=rfl
theorem Ho {S:aa}{x y:Kc}:cv .eq (.bl x) (.bl y) S=gV (.bl (x==y),S):=rfl
section
variable{defs:Jy (JZ×Df)}{fuel d:JF}
theorem Fe (hfu:20 < fuel)(G:Gen defs)(hu:Is defs ("_law_unlaying_rule" : JZ) 1 10 bv)(hs:Is defs ("_law_some_rule" : JZ) 1 2 cK){S:aa}{r:JF}{Q:QW}(hf:Fl S r)(k:∀w S',da w->Fl S' r->Kp r S S'->Q (w,S')):wO (bx (ar defs fuel (d+8)) "_law_some_rule" 1 [.ref r] S) Q:=by
 refine aB hs rfl rfl λQ' hR=>?_
 replace k:∀w S',da w->Fl S' r->Kp r S S'->Q' (.rt w,S'):=λz S' a b c=>hR _ _ (k z S' a b c)
 clear hR;show wZ _ _ cK [gV (.ref r),td] S Q';dsimp only[cK];refine bj λK hK=>?_
 dsimp only[wS,wE,wA,wV,wG,JQ];refine cV (d:=d+6) G.pick hf (by decide) (by decide) λv S1 v0 v7 f1 k1=>hK _ _ ?_
 clear hK K;refine bj λK hK=>?_
 dsimp only[wS,wT,wE,wV,wG,yT,bz,wB];refine ap (Q0:=Q') (λ_ Q2 _ hr=>?_) (λ_ Q2 hn _=>bW (hn _ _ (hK _ _ ?_)))
 ·refine st ?_;dsimp only[wS,wE,wA,wV,wG];exact sV (d:=d+1) hfu G f1 λw S2 a b c=>hr _ _ (k w S2 a b (k1.trans c))
 clear hK K hn;refine bj λK hK=>?_
 dsimp only[wS,wT,wE,wV,wG,yT,bz,wB];refine ap (Q0:=Q') (λ_ Q2 _ hr=>?_) (λ_ Q2 hn _=>bW (hn _ _ (hK _ _ ?_)))
 ·refine st ?_;dsimp only[wS,wE,wA,wV,wG];exact zG (d:=d) hfu G f1 λw S2 a b c=>hr _ _ (k w S2 a b (k1.trans c))
 refine st ?_;dsimp only[wS,wE,wA,wV,wG];exact sY (d:=d+1) hfu G hu f1 λw S2 a b c=>k w S2 a b (k1.trans c)
theorem Ds {Φ:JZ->FF}{ρ:Fm}{S:aa}{w:W}{Q:QB}(hw:da w)(hv:∀P:W->Prop,P w->wV ρ 2 P)(k:∀b,Q (b,S)):wT Φ (.cmp .gt (.op .mul (.bi .len (.cons (.ix (.v 2) (.c (.int 0))) .nil)) (.bi .len (.cons (.ix (.v 2) (.c (.int 1))) .nil))) (.c (.int 4))) ρ S Q:=by
 obtain⟨a,bs,ms,ns,gs0,rfl,hr⟩:=hw;have hb3:bs.length<=3:=by rcases hr.size.good with rfl|rfl|rfl|rfl|rfl|rfl <;> decide
 have zl:(JR aU ns bs).length=bs.length:=by rw[Ld,hr.nl]; omega
 dsimp only[wT];refine zI (x:=(a:JL)) (y:=(bs.length:JL)) (λQ q=>?_) (λQ q=>?_) (by omega) (by omega) ?_
 ·dsimp only[wE,wA];refine hv _ ?_;unfold cU;refine ae (by decide) rfl (bH ?_)
  rw[Jz,hr.ml]; exact q
 ·dsimp only[wE,wA];refine hv _ ?_;unfold cU;refine ae (by decide) rfl (bH ?_)
  rw[zl]; exact q
 ·dsimp only[wE];generalize(a:JL)*(bs.length:JL)=x;refine ab EZ ?_;exact k _
theorem Al (hfu:50 < fuel)(L:Lw30 defs){zs:Jy JL}:∃S',ar defs fuel (d+12) "law" [.ref 0] [.fro (zs.map W.int)]=gV (.bl true,S'):=by
 suffices h:wO (bx (ar defs fuel (d+12)) "law" 1 [.ref 0] [.fro (zs.map W.int)]) (λp=>p.1=.bl true) by
  obtain⟨⟨v,S'⟩,e,q⟩:=de h;cases(show v=.bl true from q)
  exact⟨S',e⟩
 have G:=L.gen;refine aB L.law rfl rfl λQ' hR=>?_
 show wZ _ _ lB [gV (.ref 0),td,td,td,td] [.fro (zs.map W.int)] Q';unfold lB;refine bj λK hK=>?_
 dsimp only[wS,wE,wA,wV,wG,JQ];refine Fb (d:=d+10) L.flow (ns:=zs) rfl λr S1 _ f1=>hK _ _ ?_
 clear hK K;have sr:∀(S:aa) (Q:QW),Fl S r->(∀w S',da w->Fl S' r->Q (w,S'))->wO (bx (ar defs fuel (d+11)) "_law_some_rule" 1 [.ref r] S) Q:=λS Q hf k=>Fe (d:=d+3) (by omega) G L.un L.some' hf λw S' x y _=>k w S' x y
 refine bj λK hK=>?_
 dsimp only[wS,wE,wA,wV,wG,JQ];refine sr _ _ f1 λw S2 hw f2=>hK _ _ ?_
 clear hK K f1;refine bj λK hK=>?_
 refine cD 6 (λi ρ S'=>∃(w:W) (a3:JE W),ρ=[gV (.ref 0),gV (.ref r),gV w,a3,td]/\da w/\Fl S' r) rfl rfl (by decide) ⟨rfl,w,_,rfl,hw,f2⟩ ?_ ?_
 ·rintro i ρ S3 hi ⟨w,a3,rfl,hw,f3⟩ Q2 hn _;clear hK;dsimp only[JQ];refine bj λK hK=>?_
  dsimp only[wS];refine Ds hw (λ_ h=>h) λb=>?_
  refine ap (Q0:=Q2) (λ_ Q3 hn3 _=>?_) (λ_ Q3 hn3 _=>bW (hn3 _ _ (hK _ _ (bW (hn _ _ ⟨w,_,rfl,hw,f3⟩)))))
  refine st ?_;dsimp only[wS,wE,wA,wV,wG,JQ];exact sr _ _ f3 λw' S4 hw' f4=>bW (hn3 _ _ (hK _ _ (bW (hn _ _ ⟨w',_,rfl,hw',f4⟩))))
 rintro ρ S3 ⟨w,a3,rfl,hw,f3⟩;refine hK _ _ ?_;clear hK K sr;refine bj λK hK=>?_
 dsimp only[wS];refine Ds hw (λ_ h=>h) λb=>?_
 refine ap (Q0:=Q') (λ_ Q3 _ hr3=>?_) (λ_ Q3 hn3 _=>bW (hn3 _ _ (hK _ _ ?_)))
 ·refine st ?_;dsimp only[wS,wE];exact hr3 _ _ (hR _ _ rfl)
 clear hn3 hK K;dsimp only;obtain⟨a,bs,ms,ns,gs0,rfl,hr⟩:=hw;have hb:=hr.size.good;have hnl:=hr.nl;have hml:=hr.ml;have hpos:=hr.size.pos;have ha3:=hr.size.a3;have pm:(jn gs0).Perm gs0:=ye;have hgs:∀g∈jn gs0,GoodW a bs.length g/\g.length=3:=λg hg=>wz hb (hr.mem g (pm.mem_iff.mp hg))
 have h64:(jn gs0).length<=100:=by
  have h1:=pL gs0 _ hr.nd hr.mem;have h2:=pN hr.size;rw[pm.length_eq]; omega
 clear hr pm;unfold cU;generalize jn gs0=gs at hgs h64;clear gs0;have ml:(ms.map W.str).length=a:=by rw[Jz,hml]
 refine bj λK hK=>?_
 dsimp only[wS,wE,wA,wV,wG,JQ];refine Hk (d:=d+8) G L.bad hb hnl hgs h64 λq kvs S4 e4 h4 _ _=>hK _ _ ?_
 clear hK K;have cl:=Do hb hgs h4;refine bj λK hK=>?_
 dsimp only[wS,wT,wE,wA,wV,wG];refine Ab (d:=d) (by omega) L.unl hb hnl ml ha3 hgs h64 λw kvs1 S5 h5 hf k5=>?_
 obtain⟨x,hx,hxb⟩:=rQ h5 h4 hf;refine ab (hx _) ?_;refine vh (d:=d+3) (bw:=false) L.nev hb hnl ml hpos ha3 cl rfl (k5.get _ _ e4) λb S6 hb1 k6=>?_
 rw[<- hxb b hb1];refine ab Hn ?_;dsimp only[wB];rw[KY];refine ap (Q0:=Q') (λz=>by cases z) (λ_ Q3 hn3 _=>bW (hn3 _ _ (hK _ _ ?_)))
 clear hn3 hK K;have e6:=(k5.trans k6).get _ _ e4;refine st ?_;dsimp only[wS,wE,wA,wV,wG];refine Ac (d:=d) (by omega) L.unl hb hnl ml ha3 hgs h64 λw kvs1 S7 h7 hf k7=>?_
 obtain⟨x,hx,hxb⟩:=rQ h7 h4 hf;refine ab (hx _) ?_;refine vh (d:=d+3) (bw:=true) L.nev hb hnl ml hpos ha3 cl rfl (k7.get _ _ e6) λb S8 hb1 k8=>?_
 rw[<- hxb b hb1];refine ab Ho (hR _ _ ?_);rw[KY]
end
noncomputable def aj (i:JF):Mg:=PySem.Challenge.pw_layworld_k30_whole_always_by_all_bases.main.body.getD i (.Pass ⟨0,0,0,0⟩)
noncomputable def iF:Df:=⟨["rule","world","i","j"],["rule","world","i","j"],uZ⟩
noncomputable def fK:Df:=⟨["rule","world","points"],["rule","world","points"],j6⟩
noncomputable def bA:Df:=⟨["rule","world","ahead","point"],["rule","world","ahead","point"],eF⟩
noncomputable def aW:Df:=⟨["orders","size"],["orders","size","longer","order"],ce⟩
noncomputable def fL:Df:=⟨["rule","way"],["rule","way"],kg⟩
noncomputable def aX:Df:=⟨["rule"],["rule","orders","barred","figure","order"],cJ⟩
noncomputable def b7:Df:=⟨["world","i","j","k"],["world","i","j","k","one","two"],cm⟩
noncomputable def bJ:Df:=⟨["barred","world"],["barred","world","last","point"],bI⟩
noncomputable def bn:Df:=⟨["rule","barred","world"],["rule","barred","world","found","mark","heads","size"],dh⟩
noncomputable def aY:Df:=⟨["rule","heads"],["rule","heads","longer","mark","ways"],cf⟩
noncomputable def cp:Df:=⟨["rule","barred","base","one","other"],["rule","barred","base","one","other","bars"],gx⟩
noncomputable def bQ:Df:=⟨["rule","base","one","other","number"],["rule","base","one","other","number"],dZ⟩
noncomputable def cq:Df:=⟨["one","other"],["one","other","apart"],eZ⟩
noncomputable def di:Df:=⟨["rule"],["rule"],jw⟩
noncomputable def dj:Df:=⟨["rule"],["rule"],jx⟩
noncomputable def aQ:Df:=⟨["rule","counted"],["rule","counted","barred","mark","other","found"],cZ⟩
noncomputable def aL:Df:=⟨["rule","barred","tried","counted"],["rule","barred","tried","counted","bars","place","longer","found"],cj⟩
noncomputable def aC:Df:=⟨["rule","barred","tried"],["rule","barred","tried","longer","point","base","others","one"],cw⟩
noncomputable def aM:Df:=⟨["rule","barred","base","wish"],["rule","barred","base","wish","longer"],ci⟩
noncomputable def bR:Df:=⟨["_law_script"],["_law_script"],eY⟩
noncomputable def bS:Df:=⟨["_law_flow_here","_law_many"],["_law_flow_here","_law_many","_law_cell","_law_digit"],du⟩
noncomputable def bB:Df:=⟨["_law_flow_here","_law_many"],["_law_flow_here","_law_many"],fE⟩
noncomputable def bf:Df:=⟨["_law_rule","_law_world","_law_i","_law_j"],["_law_rule","_law_world","_law_i","_law_j"],dU⟩
noncomputable def bT:Df:=⟨["_law_rule","_law_world","_law_points"],["_law_rule","_law_world","_law_points","_law_told","_law_k","_law_i"],gh⟩
noncomputable def bC:Df:=⟨[],[],gQ⟩
noncomputable def bo:Df:=⟨["_law_rule","_law_three"],["_law_rule","_law_three"],eA⟩
noncomputable def cr:Df:=⟨["_law_rule"],["_law_rule","_law_bad_here","_law_three","_law_points"],fT⟩
noncomputable def bD:Df:=⟨["_law_flow_here","_law_many"],["_law_flow_here","_law_many","_law_menu"],fB⟩
noncomputable def bg:Df:=⟨["_law_flow_here","_law_marks","_law_backs_here","_law_barred"],["_law_flow_here","_law_marks","_law_backs_here","_law_barred","_law_names_here","_law_ways"],dW⟩
noncomputable def aN:Df:=⟨["_law_flow_here","_law_marks","_law_ways"],["_law_flow_here","_law_marks","_law_ways","_law_told","_law_k"],cY⟩
noncomputable def bE:Df:=⟨["_law_flow_here"],["_law_flow_here","_law_menu"],fD⟩
noncomputable def aZ:Df:=⟨["_law_flow_here"],["_law_flow_here","_law_marks","_law_ways","_law_rule","_law_barred","_law_k"],dF⟩
noncomputable def aF:Df:=⟨["_law_flow_here"],["_law_flow_here","_law_menu"],cQ⟩
noncomputable def bq:Df:=⟨["_law_backs_here","_law_must","_law_to_one","_law_to_two","_law_between_here"],["_law_backs_here","_law_must","_law_to_one","_law_to_two","_law_between_here","_law_to","_law_pair","_law_x","_law_y","_law_z"],eB⟩
noncomputable def ba:Df:=⟨["_law_flow_here","_law_backs_here","_law_must"],["_law_flow_here","_law_backs_here","_law_must","_law_many","_law_menu","_law_some","_law_numbers","_law_told","_law_k","_law_other","_law_u","_law_v"],bZ⟩
noncomputable def aG:Df:=⟨["_law_flow_here"],["_law_flow_here","_law_form","_law_backs_here","_law_must","_law_most","_law_marks","_law_rule","_law_barred","_law_many","_law_at","_law_one","_law_two","_law_between_here","_law_some","_law_first"],cR⟩
noncomputable def br:Df:=⟨["_law_marks"],["_law_marks","_law_told","_law_i","_law_j"],eC⟩
noncomputable def aR:Df:=⟨["_law_flow_here"],["_law_flow_here","_law_marks","_law_ways","_law_rule","_law_k","_law_own","_law_free","_law_barred","_law_three"],dm⟩
noncomputable def aD:Df:=⟨["_law_flow_here"],["_law_flow_here","_law_marks","_law_barred"],cF⟩
noncomputable def aA:Df:=⟨["_law_flow_here"],["_law_flow_here","_law_form","_law_rule","_law_barred","_law_some","_law_one","_law_two","_law_between_here","_law_first","_law_marks"],bv⟩
noncomputable def aS:Df:=⟨["_law_flow_here"],["_law_flow_here","_law_form"],cK⟩
noncomputable def aH:Df:=⟨["_law_rule","_law_bad_here","_law_marks","_law_profile"],["_law_rule","_law_bad_here","_law_marks","_law_profile","_law_mark","_law_mine","_law_yours","_law_found","_law_number"],bK⟩
noncomputable def aI:Df:=⟨["_law_rule","_law_bad_here","_law_base","_law_one","_law_other","_law_profile"],["_law_rule","_law_bad_here","_law_base","_law_one","_law_other","_law_profile","_law_mark","_law_mine","_law_yours","_law_longer","_law_k","_law_further","_law_to","_law_number","_law_first","_law_seen","_law_i","_law_second"],bL⟩
noncomputable def bu:Df:=⟨["_law_rule","_law_bad_here","_law_base","_law_one","_law_other","_law_left"],["_law_rule","_law_bad_here","_law_base","_law_one","_law_other","_law_left","_law_at","_law_mark","_law_ways_at","_law_mine","_law_yours","_law_barring","_law_rest","_law_more","_law_grown"],dI⟩
noncomputable def bF:Df:=⟨["_law_rule","_law_bad_here","_law_by_ways"],["_law_rule","_law_bad_here","_law_by_ways","_law_one","_law_other","_law_left"],fF⟩
noncomputable def iG:Df:=⟨["_law_script"],["_law_script","_law_flow_here","_law_rule","_law_k","_law_bad_here"],lB⟩
noncomputable def kS:Jy (JZ×Df):=[(("way" : JZ),iF),(("part" : JZ),fK),(("point_over" : JZ),bA),(("longer_orders" : JZ),aW),(("back" : JZ),fL),(("barred_threes" : JZ),aX),(("three_at" : JZ),b7),(("first_bar" : JZ),bJ),(("wishes_over" : JZ),bn),(("longer_wishes" : JZ),aY),(("all_bars" : JZ),cp),(("with_both" : JZ),bQ),(("same_bar" : JZ),cq),(("unlaid" : JZ),di),(("put_on" : JZ),dj),(("first_unfilled" : JZ),aQ),(("unfilled_behind" : JZ),aL),(("longer_by_a_point" : JZ),aC),(("longer_by_a_way" : JZ),aM),(("_law_flow" : JZ),bR),(("_law_pick" : JZ),bS),(("_law_names" : JZ),bB),(("_law_between" : JZ),bf),(("_law_part" : JZ),bT),(("_law_turns" : JZ),bC),(("_law_figure" : JZ),bo),(("_law_bad" : JZ),cr),(("_law_backs" : JZ),bD),(("_law_rule_of" : JZ),bg),(("_law_free_three" : JZ),aN),(("_law_sizes" : JZ),bE),(("_law_any_rule" : JZ),aZ),(("_law_laying_kind" : JZ),aF),(("_law_breaks" : JZ),bq),(("_law_numbered" : JZ),ba),(("_law_laying_rule" : JZ),aG),(("_law_rising" : JZ),br),(("_law_free_rule" : JZ),aR),(("_law_one_way_rule" : JZ),aD),(("_law_unlaying_rule" : JZ),aA),(("_law_some_rule" : JZ),aS),(("_law_barred_ways" : JZ),aH),(("_law_grown_bases" : JZ),aI),(("_law_search" : JZ),bu),(("_law_never" : JZ),bF),(("law" : JZ),iG)]
noncomputable def CL:Jy (JZ×JF):=[(("way" : JZ),4),(("part" : JZ),3),(("point_over" : JZ),4),(("longer_orders" : JZ),2),(("back" : JZ),2),(("barred_threes" : JZ),1),(("three_at" : JZ),4),(("first_bar" : JZ),2),(("wishes_over" : JZ),3),(("longer_wishes" : JZ),2),(("all_bars" : JZ),5),(("with_both" : JZ),5),(("same_bar" : JZ),2),(("unlaid" : JZ),1),(("put_on" : JZ),1),(("first_unfilled" : JZ),2),(("unfilled_behind" : JZ),4),(("longer_by_a_point" : JZ),3),(("longer_by_a_way" : JZ),4),(("_law_flow" : JZ),1),(("_law_pick" : JZ),2),(("_law_names" : JZ),2),(("_law_between" : JZ),4),(("_law_part" : JZ),3),(("_law_turns" : JZ),0),(("_law_figure" : JZ),2),(("_law_bad" : JZ),1),(("_law_backs" : JZ),2),(("_law_rule_of" : JZ),4),(("_law_free_three" : JZ),3),(("_law_sizes" : JZ),1),(("_law_any_rule" : JZ),1),(("_law_laying_kind" : JZ),1),(("_law_breaks" : JZ),5),(("_law_numbered" : JZ),3),(("_law_laying_rule" : JZ),1),(("_law_rising" : JZ),1),(("_law_free_rule" : JZ),1),(("_law_one_way_rule" : JZ),1),(("_law_unlaying_rule" : JZ),1),(("_law_some_rule" : JZ),1),(("_law_barred_ways" : JZ),4),(("_law_grown_bases" : JZ),6),(("_law_search" : JZ),6),(("_law_never" : JZ),3),(("law" : JZ),1)]
noncomputable def Ff:Jy JZ:=["range","len","list","tuple","int","sorted","isinstance","bool","str","all","min","enumerate"]
noncomputable def d3:Md:=⟨CL,Ff⟩
theorem Fg:bO d3 (aj 1) iF:=by rfl
theorem Fh:FnScope iF.N iF.ps (ah (aj 1)):=⟨rfl,rfl,rfl,by decide +kernel,rfl,by decide +kernel,by decide +kernel⟩
theorem CM:bO d3 (aj 3) fK:=by rfl
theorem CN:FnScope fK.N fK.ps (ah (aj 3)):=⟨rfl,rfl,rfl,by decide +kernel,rfl,by decide +kernel,by decide +kernel⟩
theorem nv:bO d3 (aj 4) bA:=by rfl
theorem nw:FnScope bA.N bA.ps (ah (aj 4)):=⟨rfl,rfl,rfl,by decide +kernel,rfl,by decide +kernel,by decide +kernel⟩
theorem kh:bO d3 (aj 5) aW:=by rfl
theorem ki:FnScope aW.N aW.ps (ah (aj 5)):=⟨rfl,rfl,rfl,by decide +kernel,rfl,by decide +kernel,by decide +kernel⟩
theorem CO:bO d3 (aj 7) fL:=by rfl
theorem CP:FnScope fL.N fL.ps (ah (aj 7)):=⟨rfl,rfl,rfl,by decide +kernel,rfl,by decide +kernel,by decide +kernel⟩
theorem kj:bO d3 (aj 9) aX:=by rfl
theorem km:FnScope aX.N aX.ps (ah (aj 9)):=⟨rfl,rfl,rfl,by decide +kernel,rfl,by decide +kernel,by decide +kernel⟩
theorem rR:bO d3 (aj 10) b7:=by rfl
theorem rS:FnScope b7.N b7.ps (ah (aj 10)):=⟨rfl,rfl,rfl,by decide +kernel,rfl,by decide +kernel,by decide +kernel⟩
theorem pT:bO d3 (aj 11) bJ:=by rfl
theorem pU:FnScope bJ.N bJ.ps (ah (aj 11)):=⟨rfl,rfl,rfl,by decide +kernel,rfl,by decide +kernel,by decide +kernel⟩
theorem mF:bO d3 (aj 12) bn:=by rfl
theorem mG:FnScope bn.N bn.ps (ah (aj 12)):=⟨rfl,rfl,rfl,by decide +kernel,rfl,by decide +kernel,by decide +kernel⟩
theorem kn:bO d3 (aj 13) aY:=by rfl
theorem ko:FnScope aY.N aY.ps (ah (aj 13)):=⟨rfl,rfl,rfl,by decide +kernel,rfl,by decide +kernel,by decide +kernel⟩
theorem rT:bO d3 (aj 15) cp:=by rfl
theorem rV:FnScope cp.N cp.ps (ah (aj 15)):=⟨rfl,rfl,rfl,by decide +kernel,rfl,by decide +kernel,by decide +kernel⟩
theorem pV:bO d3 (aj 16) bQ:=by rfl
theorem pW:FnScope bQ.N bQ.ps (ah (aj 16)):=⟨rfl,rfl,rfl,by decide +kernel,rfl,by decide +kernel,by decide +kernel⟩
theorem rW:bO d3 (aj 17) cq:=by rfl
theorem rX:FnScope cq.N cq.ps (ah (aj 17)):=⟨rfl,rfl,rfl,by decide +kernel,rfl,by decide +kernel,by decide +kernel⟩
theorem wL:bO d3 (aj 19) di:=by rfl
theorem wM:FnScope di.N di.ps (ah (aj 19)):=⟨rfl,rfl,rfl,by decide +kernel,rfl,by decide +kernel,by decide +kernel⟩
theorem wQ:bO d3 (aj 20) dj:=by rfl
theorem wR:FnScope dj.N dj.ps (ah (aj 20)):=⟨rfl,rfl,rfl,by decide +kernel,rfl,by decide +kernel,by decide +kernel⟩
theorem jy:bO d3 (aj 21) aQ:=by rfl
theorem jz:FnScope aQ.N aQ.ps (ah (aj 21)):=⟨rfl,rfl,rfl,by decide +kernel,rfl,by decide +kernel,by decide +kernel⟩
theorem iQ:bO d3 (aj 22) aL:=by rfl
theorem iR:FnScope aL.N aL.ps (ah (aj 22)):=⟨rfl,rfl,rfl,by decide +kernel,rfl,by decide +kernel,by decide +kernel⟩
theorem gW:bO d3 (aj 23) aC:=by rfl
theorem gX:FnScope aC.N aC.ps (ah (aj 23)):=⟨rfl,rfl,rfl,by decide +kernel,rfl,by decide +kernel,by decide +kernel⟩
theorem iS:bO d3 (aj 24) aM:=by rfl
theorem iT:FnScope aM.N aM.ps (ah (aj 24)):=⟨rfl,rfl,rfl,by decide +kernel,rfl,by decide +kernel,by decide +kernel⟩
theorem pX:bO d3 (aj 26) bR:=by rfl
theorem pY:FnScope bR.N bR.ps (ah (aj 26)):=⟨rfl,rfl,rfl,by decide +kernel,rfl,by decide +kernel,by decide +kernel⟩
theorem pZ:bO d3 (aj 27) bS:=by rfl
theorem p4:FnScope bS.N bS.ps (ah (aj 27)):=⟨rfl,rfl,rfl,by decide +kernel,rfl,by decide +kernel,by decide +kernel⟩
theorem ny:bO d3 (aj 28) bB:=by rfl
theorem nz:FnScope bB.N bB.ps (ah (aj 28)):=⟨rfl,rfl,rfl,by decide +kernel,rfl,by decide +kernel,by decide +kernel⟩
theorem kZ:bO d3 (aj 29) bf:=by rfl
theorem lb:FnScope bf.N bf.ps (ah (aj 29)):=⟨rfl,rfl,rfl,by decide +kernel,rfl,by decide +kernel,by decide +kernel⟩
theorem p7:bO d3 (aj 30) bT:=by rfl
theorem p8:FnScope bT.N bT.ps (ah (aj 30)):=⟨rfl,rfl,rfl,by decide +kernel,rfl,by decide +kernel,by decide +kernel⟩
theorem nA:bO d3 (aj 31) bC:=by rfl
theorem nB:FnScope bC.N bC.ps (ah (aj 31)):=⟨rfl,rfl,rfl,by decide +kernel,rfl,by decide +kernel,by decide +kernel⟩
theorem mH:bO d3 (aj 32) bo:=by rfl
theorem mI:FnScope bo.N bo.ps (ah (aj 32)):=⟨rfl,rfl,rfl,by decide +kernel,rfl,by decide +kernel,by decide +kernel⟩
theorem rY:bO d3 (aj 33) cr:=by rfl
theorem rZ:FnScope cr.N cr.ps (ah (aj 33)):=⟨rfl,rfl,rfl,by decide +kernel,rfl,by decide +kernel,by decide +kernel⟩
theorem nC:bO d3 (aj 34) bD:=by rfl
theorem nD:FnScope bD.N bD.ps (ah (aj 34)):=⟨rfl,rfl,rfl,by decide +kernel,rfl,by decide +kernel,by decide +kernel⟩
theorem lc:bO d3 (aj 35) bg:=by rfl
theorem lg:FnScope bg.N bg.ps (ah (aj 35)):=⟨rfl,rfl,rfl,by decide +kernel,rfl,by decide +kernel,by decide +kernel⟩
theorem iU:bO d3 (aj 36) aN:=by rfl
theorem iV:FnScope aN.N aN.ps (ah (aj 36)):=⟨rfl,rfl,rfl,by decide +kernel,rfl,by decide +kernel,by decide +kernel⟩
theorem nE:bO d3 (aj 37) bE:=by rfl
theorem nF:FnScope bE.N bE.ps (ah (aj 37)):=⟨rfl,rfl,rfl,by decide +kernel,rfl,by decide +kernel,by decide +kernel⟩
theorem kq:bO d3 (aj 38) aZ:=by rfl
theorem kw:FnScope aZ.N aZ.ps (ah (aj 38)):=⟨rfl,rfl,rfl,by decide +kernel,rfl,by decide +kernel,by decide +kernel⟩
theorem ig:bO d3 (aj 39) aF:=by rfl
theorem ii:FnScope aF.N aF.ps (ah (aj 39)):=⟨rfl,rfl,rfl,by decide +kernel,rfl,by decide +kernel,by decide +kernel⟩
theorem mJ:bO d3 (aj 40) bq:=by rfl
theorem mK:FnScope bq.N bq.ps (ah (aj 40)):=⟨rfl,rfl,rfl,by decide +kernel,rfl,by decide +kernel,by decide +kernel⟩
theorem kz:bO d3 (aj 41) ba:=by rfl
theorem kA:FnScope ba.N ba.ps (ah (aj 41)):=⟨rfl,rfl,rfl,by decide +kernel,rfl,by decide +kernel,by decide +kernel⟩
theorem ij:bO d3 (aj 42) aG:=by rfl
theorem ik:FnScope aG.N aG.ps (ah (aj 42)):=⟨rfl,rfl,rfl,by decide +kernel,rfl,by decide +kernel,by decide +kernel⟩
theorem mL:bO d3 (aj 43) br:=by rfl
theorem mM:FnScope br.N br.ps (ah (aj 43)):=⟨rfl,rfl,rfl,by decide +kernel,rfl,by decide +kernel,by decide +kernel⟩
theorem jA:bO d3 (aj 44) aR:=by rfl
theorem jB:FnScope aR.N aR.ps (ah (aj 44)):=⟨rfl,rfl,rfl,by decide +kernel,rfl,by decide +kernel,by decide +kernel⟩
theorem gY:bO d3 (aj 45) aD:=by rfl
theorem gZ:FnScope aD.N aD.ps (ah (aj 45)):=⟨rfl,rfl,rfl,by decide +kernel,rfl,by decide +kernel,by decide +kernel⟩
theorem gF:bO d3 (aj 46) aA:=by rfl
theorem gG:FnScope aA.N aA.ps (ah (aj 46)):=⟨rfl,rfl,rfl,by decide +kernel,rfl,by decide +kernel,by decide +kernel⟩
theorem jC:bO d3 (aj 47) aS:=by rfl
theorem jD:FnScope aS.N aS.ps (ah (aj 47)):=⟨rfl,rfl,rfl,by decide +kernel,rfl,by decide +kernel,by decide +kernel⟩
theorem im:bO d3 (aj 48) aH:=by rfl
theorem io:FnScope aH.N aH.ps (ah (aj 48)):=⟨rfl,rfl,rfl,by decide +kernel,rfl,by decide +kernel,by decide +kernel⟩
theorem ip:bO d3 (aj 49) aI:=by rfl
theorem iq:FnScope aI.N aI.ps (ah (aj 49)):=⟨rfl,rfl,rfl,by decide +kernel,rfl,by decide +kernel,by decide +kernel⟩
theorem mN:bO d3 (aj 50) bu:=by rfl
theorem mO:FnScope bu.N bu.ps (ah (aj 50)):=⟨rfl,rfl,rfl,by decide +kernel,rfl,by decide +kernel,by decide +kernel⟩
theorem nG:bO d3 (aj 51) bF:=by rfl
theorem nH:FnScope bF.N bF.ps (ah (aj 51)):=⟨rfl,rfl,rfl,by decide +kernel,rfl,by decide +kernel,by decide +kernel⟩
theorem Am:bO d3 (aj 52) iG:=by rfl
theorem An:FnScope iG.N iG.ps (ah (aj 52)):=⟨rfl,rfl,rfl,by decide +kernel,rfl,by decide +kernel,by decide +kernel⟩
theorem al {α:Type}{x y:JZ}{n m:α}{L:Jy (JZ×α)}(h:((y,m)::L).lookup x=gV n):(x=y/\n=m)\/L.lookup x=gV n:=by
 rw[Ly]at h;split at h
 ·rename_i e;cases h;exact .inl ⟨eq_of_beq e,rfl⟩
 ·exact .inr h
theorem Hq:Lw30 kS:=⟨⟨⟨bS,rfl,rfl,rfl,rfl⟩,⟨bB,rfl,rfl,rfl,rfl⟩,⟨bf,rfl,rfl,rfl,rfl⟩,⟨bT,rfl,rfl,rfl,rfl⟩,⟨bC,rfl,rfl,rfl,rfl⟩,⟨bo,rfl,rfl,rfl,rfl⟩,⟨bD,rfl,rfl,rfl,rfl⟩,⟨bg,rfl,rfl,rfl,rfl⟩,⟨aN,rfl,rfl,rfl,rfl⟩,⟨bE,rfl,rfl,rfl,rfl⟩,⟨aZ,rfl,rfl,rfl,rfl⟩,⟨aF,rfl,rfl,rfl,rfl⟩,⟨bq,rfl,rfl,rfl,rfl⟩,⟨ba,rfl,rfl,rfl,rfl⟩,⟨aG,rfl,rfl,rfl,rfl⟩,⟨br,rfl,rfl,rfl,rfl⟩,⟨aR,rfl,rfl,rfl,rfl⟩,⟨aD,rfl,rfl,rfl,rfl⟩⟩,⟨⟨⟨⟨iF,rfl,rfl,rfl,rfl⟩,⟨bA,rfl,rfl,rfl,rfl⟩⟩,⟨fK,rfl,rfl,rfl,rfl⟩,⟨aW,rfl,rfl,rfl,rfl⟩,⟨aX,rfl,rfl,rfl,rfl⟩,⟨b7,rfl,rfl,rfl,rfl⟩,⟨bJ,rfl,rfl,rfl,rfl⟩,⟨fL,rfl,rfl,rfl,rfl⟩,⟨bQ,rfl,rfl,rfl,rfl⟩,⟨cq,rfl,rfl,rfl,rfl⟩,⟨cp,rfl,rfl,rfl,rfl⟩⟩,⟨⟨b7,rfl,rfl,rfl,rfl⟩,⟨bJ,rfl,rfl,rfl,rfl⟩,⟨aY,rfl,rfl,rfl,rfl⟩,⟨bn,rfl,rfl,rfl,rfl⟩,⟨aM,rfl,rfl,rfl,rfl⟩,⟨aC,rfl,rfl,rfl,rfl⟩⟩,⟨aL,rfl,rfl,rfl,rfl⟩,⟨aQ,rfl,rfl,rfl,rfl⟩,⟨di,rfl,rfl,rfl,rfl⟩,⟨dj,rfl,rfl,rfl,rfl⟩⟩,⟨aA,rfl,rfl,rfl,rfl⟩,⟨aS,rfl,rfl,rfl,rfl⟩,⟨bR,rfl,rfl,rfl,rfl⟩,⟨cr,rfl,rfl,rfl,rfl⟩,⟨⟨aH,rfl,rfl,rfl,rfl⟩,⟨aI,rfl,rfl,rfl,rfl⟩,⟨bu,rfl,rfl,rfl,rfl⟩,⟨bF,rfl,rfl,rfl,rfl⟩⟩,⟨iG,rfl,rfl,rfl,rfl⟩⟩
noncomputable def BD (x:JZ)(st:Mg)(df:Df):Prop:=∀(kV doc pm:JB) (an:JE JK) (cdv ct:JB) (us:Jy JB),us.length=df.ps.length->bindArgs (LG x x (en st) (dD st) (ah st) .none kV doc pm an cdv ct) ⟨us,[]⟩=pure (df.ps.zip us)
theorem Jw {us:Jy JB}(h:us.length=0):us=[]:=match us,h with|[],_=>rfl
theorem tL {us:Jy JB}(h:us.length=1):∃a,us=[a]:=match us,h with|[a],_=>⟨a,rfl⟩
theorem At {us:Jy JB}(h:us.length=2):∃a b,us=[a,b]:=match us,h with|[a,b],_=>⟨a,b,rfl⟩
theorem Fi {us:Jy JB}(h:us.length=3):∃a b c,us=[a,b,c]:=match us,h with|[a,b,c],_=>⟨a,b,c,rfl⟩
theorem Dt {us:Jy JB}(h:us.length=4):∃a b c d,us=[a,b,c,d]:=match us,h with|[a,b,c,d],_=>⟨a,b,c,d,rfl⟩
theorem Jb {us:Jy JB}(h:us.length=5):∃a b c d e,us=[a,b,c,d,e]:=match us,h with|[a,b,c,d,e],_=>⟨a,b,c,d,e,rfl⟩
theorem Jl {us:Jy JB}(h:us.length=6):∃a b c d e f,us=[a,b,c,d,e,f]:=match us,h with|[a,b,c,d,e,f],_=>⟨a,b,c,d,e,f,rfl⟩
theorem Fj:BD "way" (aj 1) iF:=λ_ _ _ _ _ _ us h=>by
 obtain⟨x0,x1,x2,x3,rfl⟩:=Dt h;rfl
theorem CQ:BD "part" (aj 3) fK:=λ_ _ _ _ _ _ us h=>by
 obtain⟨x0,x1,x2,rfl⟩:=Fi h;rfl
theorem nI:BD "point_over" (aj 4) bA:=λ_ _ _ _ _ _ us h=>by
 obtain⟨x0,x1,x2,x3,rfl⟩:=Dt h;rfl
theorem kB:BD "longer_orders" (aj 5) aW:=λ_ _ _ _ _ _ us h=>by
 obtain⟨x0,x1,rfl⟩:=At h;rfl
theorem CS:BD "back" (aj 7) fL:=λ_ _ _ _ _ _ us h=>by
 obtain⟨x0,x1,rfl⟩:=At h;rfl
theorem kC:BD "barred_threes" (aj 9) aX:=λ_ _ _ _ _ _ us h=>by
 obtain⟨x0,rfl⟩:=tL h;rfl
theorem r0:BD "three_at" (aj 10) b7:=λ_ _ _ _ _ _ us h=>by
 obtain⟨x0,x1,x2,x3,rfl⟩:=Dt h;rfl
theorem p9:BD "first_bar" (aj 11) bJ:=λ_ _ _ _ _ _ us h=>by
 obtain⟨x0,x1,rfl⟩:=At h;rfl
theorem mP:BD "wishes_over" (aj 12) bn:=λ_ _ _ _ _ _ us h=>by
 obtain⟨x0,x1,x2,rfl⟩:=Fi h;rfl
theorem kD:BD "longer_wishes" (aj 13) aY:=λ_ _ _ _ _ _ us h=>by
 obtain⟨x0,x1,rfl⟩:=At h;rfl
theorem r4:BD "all_bars" (aj 15) cp:=λ_ _ _ _ _ _ us h=>by
 obtain⟨x0,x1,x2,x3,x4,rfl⟩:=Jb h;rfl
theorem qa:BD "with_both" (aj 16) bQ:=λ_ _ _ _ _ _ us h=>by
 obtain⟨x0,x1,x2,x3,x4,rfl⟩:=Jb h;rfl
theorem r6:BD "same_bar" (aj 17) cq:=λ_ _ _ _ _ _ us h=>by
 obtain⟨x0,x1,rfl⟩:=At h;rfl
theorem wW:BD "unlaid" (aj 19) di:=λ_ _ _ _ _ _ us h=>by
 obtain⟨x0,rfl⟩:=tL h;rfl
theorem wX:BD "put_on" (aj 20) dj:=λ_ _ _ _ _ _ us h=>by
 obtain⟨x0,rfl⟩:=tL h;rfl
theorem jE:BD "first_unfilled" (aj 21) aQ:=λ_ _ _ _ _ _ us h=>by
 obtain⟨x0,x1,rfl⟩:=At h;rfl
theorem iW:BD "unfilled_behind" (aj 22) aL:=λ_ _ _ _ _ _ us h=>by
 obtain⟨x0,x1,x2,x3,rfl⟩:=Dt h;rfl
theorem g5:BD "longer_by_a_point" (aj 23) aC:=λ_ _ _ _ _ _ us h=>by
 obtain⟨x0,x1,x2,rfl⟩:=Fi h;rfl
theorem iX:BD "longer_by_a_way" (aj 24) aM:=λ_ _ _ _ _ _ us h=>by
 obtain⟨x0,x1,x2,x3,rfl⟩:=Dt h;rfl
theorem qb:BD "_law_flow" (aj 26) bR:=λ_ _ _ _ _ _ us h=>by
 obtain⟨x0,rfl⟩:=tL h;rfl
theorem qc:BD "_law_pick" (aj 27) bS:=λ_ _ _ _ _ _ us h=>by
 obtain⟨x0,x1,rfl⟩:=At h;rfl
theorem nJ:BD "_law_names" (aj 28) bB:=λ_ _ _ _ _ _ us h=>by
 obtain⟨x0,x1,rfl⟩:=At h;rfl
theorem lh:BD "_law_between" (aj 29) bf:=λ_ _ _ _ _ _ us h=>by
 obtain⟨x0,x1,x2,x3,rfl⟩:=Dt h;rfl
theorem qd:BD "_law_part" (aj 30) bT:=λ_ _ _ _ _ _ us h=>by
 obtain⟨x0,x1,x2,rfl⟩:=Fi h;rfl
theorem nK:BD "_law_turns" (aj 31) bC:=λ_ _ _ _ _ _ us h=>by
 obtain rfl:=Jw h;rfl
theorem mQ:BD "_law_figure" (aj 32) bo:=λ_ _ _ _ _ _ us h=>by
 obtain⟨x0,x1,rfl⟩:=At h;rfl
theorem r8:BD "_law_bad" (aj 33) cr:=λ_ _ _ _ _ _ us h=>by
 obtain⟨x0,rfl⟩:=tL h;rfl
theorem nL:BD "_law_backs" (aj 34) bD:=λ_ _ _ _ _ _ us h=>by
 obtain⟨x0,x1,rfl⟩:=At h;rfl
theorem ll:BD "_law_rule_of" (aj 35) bg:=λ_ _ _ _ _ _ us h=>by
 obtain⟨x0,x1,x2,x3,rfl⟩:=Dt h;rfl
theorem iY:BD "_law_free_three" (aj 36) aN:=λ_ _ _ _ _ _ us h=>by
 obtain⟨x0,x1,x2,rfl⟩:=Fi h;rfl
theorem nM:BD "_law_sizes" (aj 37) bE:=λ_ _ _ _ _ _ us h=>by
 obtain⟨x0,rfl⟩:=tL h;rfl
theorem kE:BD "_law_any_rule" (aj 38) aZ:=λ_ _ _ _ _ _ us h=>by
 obtain⟨x0,rfl⟩:=tL h;rfl
theorem ir:BD "_law_laying_kind" (aj 39) aF:=λ_ _ _ _ _ _ us h=>by
 obtain⟨x0,rfl⟩:=tL h;rfl
theorem mR:BD "_law_breaks" (aj 40) bq:=λ_ _ _ _ _ _ us h=>by
 obtain⟨x0,x1,x2,x3,x4,rfl⟩:=Jb h;rfl
theorem kF:BD "_law_numbered" (aj 41) ba:=λ_ _ _ _ _ _ us h=>by
 obtain⟨x0,x1,x2,rfl⟩:=Fi h;rfl
theorem iu:BD "_law_laying_rule" (aj 42) aG:=λ_ _ _ _ _ _ us h=>by
 obtain⟨x0,rfl⟩:=tL h;rfl
theorem mS:BD "_law_rising" (aj 43) br:=λ_ _ _ _ _ _ us h=>by
 obtain⟨x0,rfl⟩:=tL h;rfl
theorem jF:BD "_law_free_rule" (aj 44) aR:=λ_ _ _ _ _ _ us h=>by
 obtain⟨x0,rfl⟩:=tL h;rfl
theorem g6:BD "_law_one_way_rule" (aj 45) aD:=λ_ _ _ _ _ _ us h=>by
 obtain⟨x0,rfl⟩:=tL h;rfl
theorem gH:BD "_law_unlaying_rule" (aj 46) aA:=λ_ _ _ _ _ _ us h=>by
 obtain⟨x0,rfl⟩:=tL h;rfl
theorem jG:BD "_law_some_rule" (aj 47) aS:=λ_ _ _ _ _ _ us h=>by
 obtain⟨x0,rfl⟩:=tL h;rfl
theorem iw:BD "_law_barred_ways" (aj 48) aH:=λ_ _ _ _ _ _ us h=>by
 obtain⟨x0,x1,x2,x3,rfl⟩:=Dt h;rfl
theorem iy:BD "_law_grown_bases" (aj 49) aI:=λ_ _ _ _ _ _ us h=>by
 obtain⟨x0,x1,x2,x3,x4,x5,rfl⟩:=Jl h;rfl
theorem mT:BD "_law_search" (aj 50) bu:=λ_ _ _ _ _ _ us h=>by
 obtain⟨x0,x1,x2,x3,x4,x5,rfl⟩:=Jl h;rfl
theorem nN:BD "_law_never" (aj 51) bF:=λ_ _ _ _ _ _ us h=>by
 obtain⟨x0,x1,x2,rfl⟩:=Fi h;rfl
theorem Fk:BD "law" (aj 52) iG:=λ_ _ _ _ _ _ us h=>by
 obtain⟨x0,rfl⟩:=tL h;rfl
section
variable{P:Ki}{w:Kv}{K:JP}{mg:JZ->JE JB}{base:KH}
noncomputable def am (K:JP)(mg:JZ->JE JB)(x:JZ)(st:Mg)(df:Df):Prop:=∃(f:JK) (fd:LX),Fun K x x st f fd/\mg x=gV (.ref f)/\Lg K (.ref f)=true/\Binds K fd df.ps []
theorem Ao {h:KH}{x:JZ}{st:Mg}{df:Df}{f:JK}{oc:JB}{od an:JE JK}{osl:KD (JE JB)}{kV doc pm cdv ct:JB}(X:K.In h)(G:h.Ns mainGlobals mg)
  (b:BD x st df)
  (a:Lf K mainGlobals x=gV (gV (.ref f))) (l:K.lookup f=gV ⟨oc,od,.func (LG x x (en st) (dD st) (ah st) .none kV doc pm an cdv ct),osl⟩) (c:MC K cdv x=true) (k:Lg K (.ref f)=true):am K mg x st df:=
 have F:=xG (st:=st) l c k
 ⟨f,_,F,Rg X G a,k,F.binds b⟩
theorem Ap {fuel:JF}(hb:MdOk w K mg d3)(D:∀x n,CL.lookup x=gV n->∃st df,kS.lookup x=gV df/\df.ps.length=n/\FnScope df.N df.ps (ah st)/\bO d3 st df/\am K mg x st df):∀d,C8 P w K mg base d3 kS fuel d
 | 0=>λf n h=>by
  obtain⟨st,df,h1,h2,h3,h4,fa,fd,F,m,kp,b⟩:=D f n h;refine⟨fa,fd,df.ps,⟨λvs H Q E z=>?_,λA outer s H args us vs Q E hr he hbd hv z=>?_⟩,m,kp,b⟩
  all_goals
   obtain⟨_,_,_,_,_,_,_,_,z,_⟩:=z;cases z
 | d+1=>λf n h=>by
  obtain⟨st,df,h1,h2,h3,h4,fa,fd,F,m,kp,b⟩:=D f n h;refine⟨fa,fd,df.ps,?_,m,kp,b⟩;rw[<- h2];exact C9 F h3 h1 h4 hb (Ap hb D d)
theorem Hr (D1:am K mg "way" (aj 1) iF)(D3:am K mg "part" (aj 3) fK)(D4:am K mg "point_over" (aj 4) bA)(D5:am K mg "longer_orders" (aj 5) aW)(D7:am K mg "back" (aj 7) fL)(D9:am K mg "barred_threes" (aj 9) aX)(D10:am K mg "three_at" (aj 10) b7)(D11:am K mg "first_bar" (aj 11) bJ)(D12:am K mg "wishes_over" (aj 12) bn)(D13:am K mg "longer_wishes" (aj 13) aY)(D15:am K mg "all_bars" (aj 15) cp)(D16:am K mg "with_both" (aj 16) bQ)(D17:am K mg "same_bar" (aj 17) cq)(D19:am K mg "unlaid" (aj 19) di)(D20:am K mg "put_on" (aj 20) dj)(D21:am K mg "first_unfilled" (aj 21) aQ)(D22:am K mg "unfilled_behind" (aj 22) aL)(D23:am K mg "longer_by_a_point" (aj 23) aC)(D24:am K mg "longer_by_a_way" (aj 24) aM)(D26:am K mg "_law_flow" (aj 26) bR)(D27:am K mg "_law_pick" (aj 27) bS)(D28:am K mg "_law_names" (aj 28) bB)(D29:am K mg "_law_between" (aj 29) bf)(D30:am K mg "_law_part" (aj 30) bT)(D31:am K mg "_law_turns" (aj 31) bC)(D32:am K mg "_law_figure" (aj 32) bo)(D33:am K mg "_law_bad" (aj 33) cr)(D34:am K mg "_law_backs" (aj 34) bD)(D35:am K mg "_law_rule_of" (aj 35) bg)(D36:am K mg "_law_free_three" (aj 36) aN)(D37:am K mg "_law_sizes" (aj 37) bE)(D38:am K mg "_law_any_rule" (aj 38) aZ)(D39:am K mg "_law_laying_kind" (aj 39) aF)(D40:am K mg "_law_breaks" (aj 40) bq)(D41:am K mg "_law_numbered" (aj 41) ba)(D42:am K mg "_law_laying_rule" (aj 42) aG)(D43:am K mg "_law_rising" (aj 43) br)(D44:am K mg "_law_free_rule" (aj 44) aR)(D45:am K mg "_law_one_way_rule" (aj 45) aD)(D46:am K mg "_law_unlaying_rule" (aj 46) aA)(D47:am K mg "_law_some_rule" (aj 47) aS)(D48:am K mg "_law_barred_ways" (aj 48) aH)(D49:am K mg "_law_grown_bases" (aj 49) aI)(D50:am K mg "_law_search" (aj 50) bu)(D51:am K mg "_law_never" (aj 51) bF)(D52:am K mg "law" (aj 52) iG):∀x n,CL.lookup x=gV n->∃st df,kS.lookup x=gV df/\df.ps.length=n/\FnScope df.N df.ps (ah st)/\bO d3 st df/\am K mg x st df:=by
 intro x n h;unfold CL at h;rcases al h with⟨rfl,rfl⟩|h
 ·exact⟨aj 1,iF,by rfl,rfl,Fh,Fg,D1⟩
 rcases al h with⟨rfl,rfl⟩|h
 ·exact⟨aj 3,fK,by rfl,rfl,CN,CM,D3⟩
 rcases al h with⟨rfl,rfl⟩|h
 ·exact⟨aj 4,bA,by rfl,rfl,nw,nv,D4⟩
 rcases al h with⟨rfl,rfl⟩|h
 ·exact⟨aj 5,aW,by rfl,rfl,ki,kh,D5⟩
 rcases al h with⟨rfl,rfl⟩|h
 ·exact⟨aj 7,fL,by rfl,rfl,CP,CO,D7⟩
 rcases al h with⟨rfl,rfl⟩|h
 ·exact⟨aj 9,aX,by rfl,rfl,km,kj,D9⟩
 rcases al h with⟨rfl,rfl⟩|h
 ·exact⟨aj 10,b7,by rfl,rfl,rS,rR,D10⟩
 rcases al h with⟨rfl,rfl⟩|h
 ·exact⟨aj 11,bJ,by rfl,rfl,pU,pT,D11⟩
 rcases al h with⟨rfl,rfl⟩|h
 ·exact⟨aj 12,bn,by rfl,rfl,mG,mF,D12⟩
 rcases al h with⟨rfl,rfl⟩|h
 ·exact⟨aj 13,aY,by rfl,rfl,ko,kn,D13⟩
 rcases al h with⟨rfl,rfl⟩|h
 ·exact⟨aj 15,cp,by rfl,rfl,rV,rT,D15⟩
 rcases al h with⟨rfl,rfl⟩|h
 ·exact⟨aj 16,bQ,by rfl,rfl,pW,pV,D16⟩
 rcases al h with⟨rfl,rfl⟩|h
 ·exact⟨aj 17,cq,by rfl,rfl,rX,rW,D17⟩
 rcases al h with⟨rfl,rfl⟩|h
 ·exact⟨aj 19,di,by rfl,rfl,wM,wL,D19⟩
 rcases al h with⟨rfl,rfl⟩|h
 ·exact⟨aj 20,dj,by rfl,rfl,wR,wQ,D20⟩
 rcases al h with⟨rfl,rfl⟩|h
 ·exact⟨aj 21,aQ,by rfl,rfl,jz,jy,D21⟩
 rcases al h with⟨rfl,rfl⟩|h
 ·exact⟨aj 22,aL,by rfl,rfl,iR,iQ,D22⟩
 rcases al h with⟨rfl,rfl⟩|h
 ·exact⟨aj 23,aC,by rfl,rfl,gX,gW,D23⟩
 rcases al h with⟨rfl,rfl⟩|h
 ·exact⟨aj 24,aM,by rfl,rfl,iT,iS,D24⟩
 rcases al h with⟨rfl,rfl⟩|h
 ·exact⟨aj 26,bR,by rfl,rfl,pY,pX,D26⟩
 rcases al h with⟨rfl,rfl⟩|h
 ·exact⟨aj 27,bS,by rfl,rfl,p4,pZ,D27⟩
 rcases al h with⟨rfl,rfl⟩|h
 ·exact⟨aj 28,bB,by rfl,rfl,nz,ny,D28⟩
 rcases al h with⟨rfl,rfl⟩|h
 ·exact⟨aj 29,bf,by rfl,rfl,lb,kZ,D29⟩
 rcases al h with⟨rfl,rfl⟩|h
 ·exact⟨aj 30,bT,by rfl,rfl,p8,p7,D30⟩
 rcases al h with⟨rfl,rfl⟩|h
 ·exact⟨aj 31,bC,by rfl,rfl,nB,nA,D31⟩
 rcases al h with⟨rfl,rfl⟩|h
 ·exact⟨aj 32,bo,by rfl,rfl,mI,mH,D32⟩
 rcases al h with⟨rfl,rfl⟩|h
 ·exact⟨aj 33,cr,by rfl,rfl,rZ,rY,D33⟩
 rcases al h with⟨rfl,rfl⟩|h
 ·exact⟨aj 34,bD,by rfl,rfl,nD,nC,D34⟩
 rcases al h with⟨rfl,rfl⟩|h
 ·exact⟨aj 35,bg,by rfl,rfl,lg,lc,D35⟩
 rcases al h with⟨rfl,rfl⟩|h
 ·exact⟨aj 36,aN,by rfl,rfl,iV,iU,D36⟩
 rcases al h with⟨rfl,rfl⟩|h
 ·exact⟨aj 37,bE,by rfl,rfl,nF,nE,D37⟩
 rcases al h with⟨rfl,rfl⟩|h
 ·exact⟨aj 38,aZ,by rfl,rfl,kw,kq,D38⟩
 rcases al h with⟨rfl,rfl⟩|h
 ·exact⟨aj 39,aF,by rfl,rfl,ii,ig,D39⟩
 rcases al h with⟨rfl,rfl⟩|h
 ·exact⟨aj 40,bq,by rfl,rfl,mK,mJ,D40⟩
 rcases al h with⟨rfl,rfl⟩|h
 ·exact⟨aj 41,ba,by rfl,rfl,kA,kz,D41⟩
 rcases al h with⟨rfl,rfl⟩|h
 ·exact⟨aj 42,aG,by rfl,rfl,ik,ij,D42⟩
 rcases al h with⟨rfl,rfl⟩|h
 ·exact⟨aj 43,br,by rfl,rfl,mM,mL,D43⟩
 rcases al h with⟨rfl,rfl⟩|h
 ·exact⟨aj 44,aR,by rfl,rfl,jB,jA,D44⟩
 rcases al h with⟨rfl,rfl⟩|h
 ·exact⟨aj 45,aD,by rfl,rfl,gZ,gY,D45⟩
 rcases al h with⟨rfl,rfl⟩|h
 ·exact⟨aj 46,aA,by rfl,rfl,gG,gF,D46⟩
 rcases al h with⟨rfl,rfl⟩|h
 ·exact⟨aj 47,aS,by rfl,rfl,jD,jC,D47⟩
 rcases al h with⟨rfl,rfl⟩|h
 ·exact⟨aj 48,aH,by rfl,rfl,io,im,D48⟩
 rcases al h with⟨rfl,rfl⟩|h
 ·exact⟨aj 49,aI,by rfl,rfl,iq,ip,D49⟩
 rcases al h with⟨rfl,rfl⟩|h
 ·exact⟨aj 50,bu,by rfl,rfl,mO,mN,D50⟩
 rcases al h with⟨rfl,rfl⟩|h
 ·exact⟨aj 51,bF,by rfl,rfl,nH,nG,D51⟩
 rcases al h with⟨rfl,rfl⟩|h
 ·exact⟨aj 52,iG,by rfl,rfl,An,Am,D52⟩
 cases h
theorem Hs {h:KH}(X:K.In h)(G:h.Ns mainGlobals mg)(z0:Lf K mainGlobals "range" = gV td)(z1:Lf K mainGlobals "len" = gV td)(z2:Lf K mainGlobals "list" = gV td)(z3:Lf K mainGlobals "tuple" = gV td)(z4:Lf K mainGlobals "int" = gV td)(z5:Lf K mainGlobals "sorted" = gV td)(z6:Lf K mainGlobals "isinstance" = gV td)(z7:Lf K mainGlobals "bool" = gV td)(z8:Lf K mainGlobals "str" = gV td)(z9:Lf K mainGlobals "all" = gV td)(z10:Lf K mainGlobals "min" = gV td)(z11:Lf K mainGlobals "enumerate" = gV td):MdOk w K mg d3:=by
 refine⟨?_⟩;show ∀y∈Ff,mg y=td;intro y hy;unfold Ff at hy;simp only[Ke,KM,Mc]at hy;rcases hy with rfl|rfl|rfl|rfl|rfl|rfl|rfl|rfl|rfl|rfl|rfl|rfl
 ·exact KS X G z0
 ·exact KS X G z1
 ·exact KS X G z2
 ·exact KS X G z3
 ·exact KS X G z4
 ·exact KS X G z5
 ·exact KS X G z6
 ·exact KS X G z7
 ·exact KS X G z8
 ·exact KS X G z9
 ·exact KS X G z10
 ·exact KS X G z11
end
theorem Fn {l:Oo}{w:Kv}{K:JP}{h:KH}{mg:JZ->JE JB}{fa f:JK}(X:K.In h)(G:h.Ns mainGlobals mg)(hfa:mg "law" = gV (.ref fa))(hb:MdOk w K mg d3)
  (D1:am K mg "way" (aj 1) iF) (D3:am K mg "part" (aj 3) fK) (D4:am K mg "point_over" (aj 4) bA) (D5:am K mg "longer_orders" (aj 5) aW) (D7:am K mg "back" (aj 7) fL) (D9:am K mg "barred_threes" (aj 9) aX) (D10:am K mg "three_at" (aj 10) b7) (D11:am K mg "first_bar" (aj 11) bJ) (D12:am K mg "wishes_over" (aj 12) bn) (D13:am K mg "longer_wishes" (aj 13) aY) (D15:am K mg "all_bars" (aj 15) cp) (D16:am K mg "with_both" (aj 16) bQ) (D17:am K mg "same_bar" (aj 17) cq) (D19:am K mg "unlaid" (aj 19) di) (D20:am K mg "put_on" (aj 20) dj) (D21:am K mg "first_unfilled" (aj 21) aQ) (D22:am K mg "unfilled_behind" (aj 22) aL) (D23:am K mg "longer_by_a_point" (aj 23) aC) (D24:am K mg "longer_by_a_way" (aj 24) aM) (D26:am K mg "_law_flow" (aj 26) bR) (D27:am K mg "_law_pick" (aj 27) bS) (D28:am K mg "_law_names" (aj 28) bB) (D29:am K mg "_law_between" (aj 29) bf) (D30:am K mg "_law_part" (aj 30) bT) (D31:am K mg "_law_turns" (aj 31) bC) (D32:am K mg "_law_figure" (aj 32) bo) (D33:am K mg "_law_bad" (aj 33) cr) (D34:am K mg "_law_backs" (aj 34) bD) (D35:am K mg "_law_rule_of" (aj 35) bg) (D36:am K mg "_law_free_three" (aj 36) aN) (D37:am K mg "_law_sizes" (aj 37) bE) (D38:am K mg "_law_any_rule" (aj 38) aZ) (D39:am K mg "_law_laying_kind" (aj 39) aF) (D40:am K mg "_law_breaks" (aj 40) bq) (D41:am K mg "_law_numbered" (aj 41) ba) (D42:am K mg "_law_laying_rule" (aj 42) aG) (D43:am K mg "_law_rising" (aj 43) br) (D44:am K mg "_law_free_rule" (aj 44) aR) (D45:am K mg "_law_one_way_rule" (aj 45) aD) (D46:am K mg "_law_unlaying_rule" (aj 46) aA) (D47:am K mg "_law_some_rule" (aj 47) aS) (D48:am K mg "_law_barred_ways" (aj 48) aH) (D49:am K mg "_law_grown_bases" (aj 49) aI) (D50:am K mg "_law_search" (aj 50) bu) (D51:am K mg "_law_never" (aj 51) bF)
  {oc:JB} {od an:JE JK} {osl:KD (JE JB)} {kV doc pm cdv ct:JB} (a:Lf K mainGlobals "law" = gV (gV (.ref f))) (l':K.lookup f=gV ⟨oc,od,.func (LG "law" "law" (en (aj 52)) (dD (aj 52)) (ah (aj 52)) .none kV doc pm an cdv ct),osl⟩) (c:MC K cdv "law" = true) (k:Lg K (.ref f)=true) :
  ∃fd:LX,(∀(s:JD) (v:JB),Pz s fd ⟨[v],[]⟩ [("_law_script",v)])/\∀base:KH,K.In base->base.Ns mainGlobals mg->FnOk l.prog w K mg base w6 12 fa fd ["_law_script"] (yp w K 1 (ar kS 100 12 "law")):=by
 have e:=hfa.symm.trans (Rg X G a);cases e;have D52:am K mg "law" (aj 52) iG:=Ao X G Fk a l' c k;have F:=xG (st:=aj 52) l' c k;exact⟨LG "law" "law" (en (aj 52)) (dD (aj 52)) (ah (aj 52)) .none kV doc pm an cdv ct,λs v=>.of_eq rfl,λbase _ _=>C9 (df:=iG) F An (by rfl) Am hb (Ap hb (Hr D1 D3 D4 D5 D7 D9 D10 D11 D12 D13 D15 D16 D17 D19 D20 D21 D22 D23 D24 D26 D27 D28 D29 D30 D31 D32 D33 D34 D35 D36 D37 D38 D39 D40 D41 D42 D43 D44 D45 D46 D47 D48 D49 D50 D51 D52) 11)⟩
theorem Jc {l:Oo}{q:Ki}{loose:Jy JZ}{XP:(JZ->JE JB)->KH->Prop}{YP:Kv->KH->Prop}{d:DefRec}{K:QE->JP}(hn:l.most=gV 63)(hdf:d.params.defaults=[])
  (hY:∀(w:Kv) (h:KH),YP w h->(K w.params).In h)
  (F:∀(w:Kv) (mg:JZ->JE JB) (fa:JK) (h:KH),(K w.params).In h->h.Ns mainGlobals mg->mg d.name=gV (.ref fa)->
   ∃fd:LX,(∀(s:JD) (u:JB),Pz s fd ⟨[u],[]⟩ [("_law_script",u)])/\∀base:KH,(K w.params).In base->base.Ns mainGlobals mg->FnOk l.prog w (K w.params) mg base w6 12 fa fd ["_law_script"] (yp w (K w.params) 1 (ar kS 100 12 "law"))) :
  QZ q loose XP YP l.row.toRowW d [] (λf vs=>QF f vs):=
 L2.AW (n:=63) (k:=12) (x:="_law_script") (CX:=λ_=>w6) (sp:=λw=>yp w (K w.params) 1 (ar kS 100 12 "law")) hn (by decide) hdf ⟨rfl,by decide,by decide⟩ hY F
  (λw H a ns hl hO hS=>EN (Al (defs:=kS) (fuel:=100) (d:=0) (by decide) Hq) hO hS) λ_ _ _ _ _ z=>z
end Mi
open PySem PySem.W PyProof.Rows L2
set_option maxHeartbeats 0
namespace Mi
section
noncomputable def pw:Ki:=Nj
noncomputable def ge (P:QE)(n:JZ)(t:JF)(v:JB):LO:=⟨PyData.keyHash P n,.str n t,v⟩
noncomputable def kd (a:JF)(es:Jy LO)(n:JF):JK×Ll:=(a,⟨.type "dict",td,.dict es.toArray n,#[]⟩)
noncomputable def kt (a:JF)(c:JB)(vs:Jy JB)(n:JF):JK×Ll:=(a,⟨c,td,.seq vs.toArray n,#[]⟩)
noncomputable def kc (a:JF)(vs:Jy JB):JK×Ll:=(a,⟨.type "code",td,.fields vs.toArray,#[]⟩)
noncomputable def kf (a:JF)(st:Mg)(n:JZ)(pm cd:JB):JK×Ll:=(a,⟨.type "function",td,.func (LG n n (en st) (dD st) (ah st) .none .none .none pm td cd .none),#[]⟩)
noncomputable def K0 (P:QE):JP:=[kd 3 [ge P "__name__" 165 (.str "law_layworld_k30_whole_always_by_all_bases" 355),ge P "__doc__" 166 .none,ge P "__package__" 167 .none,ge P "__loader__" 168 (.builtin "__main__.__loader__#opaque"),ge P "__spec__" 169 .none,ge P "__annotations__" 170 (.ref 6),ge P "__builtins__" 171 (.ref 4),ge P "__file__" 173 (.str "/claim/cut.py" 172),ge P "__cached__" 174 .none,ge P "way" 198 (.ref 21),ge P "part" 206 (.ref 26),ge P "point_over" 212 (.ref 31),ge P "longer_orders" 218 (.ref 36),ge P "back" 228 (.ref 43),ge P "barred_threes" 241 (.ref 50),ge P "three_at" 253 (.ref 57),ge P "first_bar" 263 (.ref 64),ge P "wishes_over" 269 (.ref 69),ge P "longer_wishes" 275 (.ref 74),ge P "all_bars" 283 (.ref 79),ge P "with_both" 294 (.ref 86),ge P "same_bar" 300 (.ref 91),ge P "unlaid" 309 (.ref 98),ge P "put_on" 316 (.ref 105),ge P "first_unfilled" 328 (.ref 112),ge P "unfilled_behind" 342 (.ref 119),ge P "longer_by_a_point" 348 (.ref 124),ge P "longer_by_a_way" 354 (.ref 129),ge P "_law_flow" 363 (.ref 136),ge P "_law_pick" 373 (.ref 143),ge P "_law_names" 379 (.ref 148),ge P "_law_between" 389 (.ref 155),ge P "_law_part" 395 (.ref 160),ge P "_law_turns" 401 (.ref 167),ge P "_law_figure" 407 (.ref 172),ge P "_law_bad" 417 (.ref 179),ge P "_law_backs" 426 (.ref 186),ge P "_law_rule_of" 432 (.ref 191),ge P "_law_free_three" 438 (.ref 196),ge P "_law_sizes" 446 (.ref 203),ge P "_law_any_rule" 458 (.ref 210),ge P "_law_laying_kind" 466 (.ref 217),ge P "_law_breaks" 482 (.ref 224),ge P "_law_numbered" 488 (.ref 229),ge P "_law_laying_rule" 509 (.ref 236),ge P "_law_rising" 515 (.ref 241),ge P "_law_free_rule" 521 (.ref 246),ge P "_law_one_way_rule" 527 (.ref 251),ge P "_law_unlaying_rule" 533 (.ref 256),ge P "_law_some_rule" 541 (.ref 263),ge P "_law_barred_ways" 556 (.ref 270),ge P "_law_grown_bases" 562 (.ref 275),ge P "_law_search" 568 (.ref 280),ge P "_law_never" 580 (.ref 287),ge P "law" 591 (.ref 294)] 55,
 kc 20 [(.str "way" 189),(.str "way" 190),(.str "/claim/cut.py" 191),(.int 2 0),(.int 4 0),(.int 0 0),(.int 0 0),(.int 3 0),(.ref 15),(.bool true),(.int 181 0),(.ref 16),.none,(.ref 17),(.ref 18),(.ref 19),(.int 196 0),(.int 2 0),(.str "/claim/cut.py" 197)],
 kf 21 (aj 1) "way" (.str "layworld.worlds" 187) (.ref 20),
 kc 25 [(.str "part" 201),(.str "part" 202),(.str "/claim/cut.py" 203),(.int 7 0),(.int 3 0),(.int 0 0),(.int 0 0),(.int 3 0),(.ref 22),(.bool true),(.int 181 0),(.ref 23),.none,.none,.none,(.ref 24),(.int 204 0),(.int 7 0),(.str "/claim/cut.py" 205)],
 kf 26 (aj 3) "part" (.str "layworld.parts" 199) (.ref 25),
 kc 30 [(.str "point_over" 207),(.str "point_over" 208),(.str "/claim/cut.py" 209),(.int 9 0),(.int 4 0),(.int 0 0),(.int 0 0),(.int 3 0),(.ref 27),(.bool true),(.int 181 0),(.ref 28),.none,.none,.none,(.ref 29),(.int 210 0),(.int 9 0),(.str "/claim/cut.py" 211)],
 kf 31 (aj 4) "point_over" (.str "layworld.parts" 199) (.ref 30),
 kc 35 [(.str "longer_orders" 213),(.str "longer_orders" 214),(.str "/claim/cut.py" 215),(.int 11 0),(.int 2 0),(.int 0 0),(.int 0 0),(.int 3 0),(.ref 32),(.bool true),(.int 181 0),(.ref 33),.none,.none,.none,(.ref 34),(.int 216 0),(.int 11 0),(.str "/claim/cut.py" 217)],
 kf 36 (aj 5) "longer_orders" (.str "layworld.parts" 199) (.ref 35),
 kc 42 [(.str "back" 221),(.str "back" 222),(.str "/claim/cut.py" 223),(.int 17 0),(.int 2 0),(.int 0 0),(.int 0 0),(.int 3 0),(.ref 37),(.bool true),(.int 181 0),(.ref 38),.none,(.ref 39),(.ref 40),(.ref 41),(.int 226 0),(.int 17 0),(.str "/claim/cut.py" 227)],
 kf 43 (aj 7) "back" (.str "layworld.rules" 219) (.ref 42),
 kc 49 [(.str "barred_threes" 231),(.str "barred_threes" 232),(.str "/claim/cut.py" 233),(.int 20 0),(.int 1 0),(.int 0 0),(.int 0 0),(.int 3 0),(.ref 44),(.bool true),(.int 181 0),(.ref 45),.none,(.ref 46),(.ref 47),(.ref 48),(.int 239 0),(.int 20 0),(.str "/claim/cut.py" 240)],
 kf 50 (aj 9) "barred_threes" (.str "layworld.threes" 229) (.ref 49),
 kc 56 [(.str "three_at" 242),(.str "three_at" 243),(.str "/claim/cut.py" 244),(.int 29 0),(.int 4 0),(.int 0 0),(.int 0 0),(.int 3 0),(.ref 51),(.bool true),(.int 181 0),(.ref 52),.none,(.ref 53),(.ref 54),(.ref 55),(.int 251 0),(.int 29 0),(.str "/claim/cut.py" 252)],
 kf 57 (aj 10) "three_at" (.str "layworld.threes" 229) (.ref 56),
 kc 63 [(.str "first_bar" 254),(.str "first_bar" 255),(.str "/claim/cut.py" 256),(.int 33 0),(.int 2 0),(.int 0 0),(.int 0 0),(.int 3 0),(.ref 58),(.bool true),(.int 181 0),(.ref 59),.none,(.ref 60),(.ref 61),(.ref 62),(.int 261 0),(.int 33 0),(.str "/claim/cut.py" 262)],
 kf 64 (aj 11) "first_bar" (.str "layworld.threes" 229) (.ref 63),
 kc 68 [(.str "wishes_over" 264),(.str "wishes_over" 265),(.str "/claim/cut.py" 266),(.int 39 0),(.int 3 0),(.int 0 0),(.int 0 0),(.int 3 0),(.ref 65),(.bool true),(.int 181 0),(.ref 66),.none,.none,.none,(.ref 67),(.int 267 0),(.int 39 0),(.str "/claim/cut.py" 268)],
 kf 69 (aj 12) "wishes_over" (.str "layworld.threes" 229) (.ref 68),
 kc 73 [(.str "longer_wishes" 270),(.str "longer_wishes" 271),(.str "/claim/cut.py" 272),(.int 47 0),(.int 2 0),(.int 0 0),(.int 0 0),(.int 3 0),(.ref 70),(.bool true),(.int 181 0),(.ref 71),.none,.none,.none,(.ref 72),(.int 273 0),(.int 47 0),(.str "/claim/cut.py" 274)],
 kf 74 (aj 13) "longer_wishes" (.str "layworld.threes" 229) (.ref 73),
 kc 78 [(.str "all_bars" 278),(.str "all_bars" 279),(.str "/claim/cut.py" 280),(.int 53 0),(.int 5 0),(.int 0 0),(.int 0 0),(.int 3 0),(.ref 75),(.bool true),(.int 181 0),(.ref 76),.none,.none,.none,(.ref 77),(.int 281 0),(.int 53 0),(.str "/claim/cut.py" 282)],
 kf 79 (aj 15) "all_bars" (.str "layworld.fillings" 276) (.ref 78),
 kc 85 [(.str "with_both" 284),(.str "with_both" 285),(.str "/claim/cut.py" 286),(.int 56 0),(.int 5 0),(.int 0 0),(.int 0 0),(.int 3 0),(.ref 80),(.bool true),(.int 181 0),(.ref 81),.none,(.ref 82),(.ref 83),(.ref 84),(.int 292 0),(.int 56 0),(.str "/claim/cut.py" 293)],
 kf 86 (aj 16) "with_both" (.str "layworld.fillings" 276) (.ref 85),
 kc 90 [(.str "same_bar" 295),(.str "same_bar" 296),(.str "/claim/cut.py" 297),(.int 58 0),(.int 2 0),(.int 0 0),(.int 0 0),(.int 3 0),(.ref 87),(.bool true),(.int 181 0),(.ref 88),.none,.none,.none,(.ref 89),(.int 298 0),(.int 58 0),(.str "/claim/cut.py" 299)],
 kf 91 (aj 17) "same_bar" (.str "layworld.fillings" 276) (.ref 90),
 kc 97 [(.str "unlaid" 303),(.str "unlaid" 304),(.str "/claim/cut.py" 305),(.int 64 0),(.int 1 0),(.int 0 0),(.int 0 0),(.int 3 0),(.ref 92),(.bool true),(.int 181 0),(.ref 93),.none,(.ref 94),(.ref 95),(.ref 96),(.int 307 0),(.int 64 0),(.str "/claim/cut.py" 308)],
 kf 98 (aj 19) "unlaid" (.str "layworld.always" 301) (.ref 97),
 kc 104 [(.str "put_on" 310),(.str "put_on" 311),(.str "/claim/cut.py" 312),(.int 66 0),(.int 1 0),(.int 0 0),(.int 0 0),(.int 3 0),(.ref 99),(.bool true),(.int 181 0),(.ref 100),.none,(.ref 101),(.ref 102),(.ref 103),(.int 314 0),(.int 66 0),(.str "/claim/cut.py" 315)],
 kf 105 (aj 20) "put_on" (.str "layworld.always" 301) (.ref 104),
 kc 111 [(.str "first_unfilled" 317),(.str "first_unfilled" 318),(.str "/claim/cut.py" 319),(.int 68 0),(.int 2 0),(.int 0 0),(.int 0 0),(.int 3 0),(.ref 106),(.bool true),(.int 181 0),(.ref 107),.none,(.ref 108),(.ref 109),(.ref 110),(.int 326 0),(.int 68 0),(.str "/claim/cut.py" 327)],
 kf 112 (aj 21) "first_unfilled" (.str "layworld.always" 301) (.ref 111),
 kc 118 [(.str "unfilled_behind" 329),(.str "unfilled_behind" 330),(.str "/claim/cut.py" 331),(.int 76 0),(.int 4 0),(.int 0 0),(.int 0 0),(.int 3 0),(.ref 113),(.bool true),(.int 181 0),(.ref 114),.none,(.ref 115),(.ref 116),(.ref 117),(.int 340 0),(.int 76 0),(.str "/claim/cut.py" 341)],
 kf 119 (aj 22) "unfilled_behind" (.str "layworld.always" 301) (.ref 118),
 kc 123 [(.str "longer_by_a_point" 343),(.str "longer_by_a_point" 344),(.str "/claim/cut.py" 345),(.int 87 0),(.int 3 0),(.int 0 0),(.int 0 0),(.int 3 0),(.ref 120),(.bool true),(.int 181 0),(.ref 121),.none,.none,.none,(.ref 122),(.int 346 0),(.int 87 0),(.str "/claim/cut.py" 347)],
 kf 124 (aj 23) "longer_by_a_point" (.str "layworld.always" 301) (.ref 123),
 kc 128 [(.str "longer_by_a_way" 349),(.str "longer_by_a_way" 350),(.str "/claim/cut.py" 351),(.int 95 0),(.int 4 0),(.int 0 0),(.int 0 0),(.int 3 0),(.ref 125),(.bool true),(.int 181 0),(.ref 126),.none,.none,.none,(.ref 127),(.int 352 0),(.int 95 0),(.str "/claim/cut.py" 353)],
 kf 129 (aj 24) "longer_by_a_way" (.str "layworld.always" 301) (.ref 128),
 kc 135 [(.str "_law_flow" 357),(.str "_law_flow" 358),(.str "/claim/cut.py" 359),(.int 99 0),(.int 1 0),(.int 0 0),(.int 0 0),(.int 3 0),(.ref 130),(.bool true),(.int 181 0),(.ref 131),.none,(.ref 132),(.ref 133),(.ref 134),(.int 361 0),(.int 99 0),(.str "/claim/cut.py" 362)],
 kf 136 (aj 26) "_law_flow" (.str "law_layworld_k30_whole_always_by_all_bases" 355) (.ref 135),
 kc 142 [(.str "_law_pick" 364),(.str "_law_pick" 365),(.str "/claim/cut.py" 366),(.int 101 0),(.int 2 0),(.int 0 0),(.int 0 0),(.int 3 0),(.ref 137),(.bool true),(.int 181 0),(.ref 138),.none,(.ref 139),(.ref 140),(.ref 141),(.int 371 0),(.int 101 0),(.str "/claim/cut.py" 372)],
 kf 143 (aj 27) "_law_pick" (.str "law_layworld_k30_whole_always_by_all_bases" 355) (.ref 142),
 kc 147 [(.str "_law_names" 374),(.str "_law_names" 375),(.str "/claim/cut.py" 376),(.int 116 0),(.int 2 0),(.int 0 0),(.int 0 0),(.int 3 0),(.ref 144),(.bool true),(.int 181 0),(.ref 145),.none,.none,.none,(.ref 146),(.int 377 0),(.int 116 0),(.str "/claim/cut.py" 378)],
 kf 148 (aj 28) "_law_names" (.str "law_layworld_k30_whole_always_by_all_bases" 355) (.ref 147),
 kc 154 [(.str "_law_between" 380),(.str "_law_between" 381),(.str "/claim/cut.py" 382),(.int 118 0),(.int 4 0),(.int 0 0),(.int 0 0),(.int 3 0),(.ref 149),(.bool true),(.int 181 0),(.ref 150),.none,(.ref 151),(.ref 152),(.ref 153),(.int 387 0),(.int 118 0),(.str "/claim/cut.py" 388)],
 kf 155 (aj 29) "_law_between" (.str "law_layworld_k30_whole_always_by_all_bases" 355) (.ref 154),
 kc 159 [(.str "_law_part" 390),(.str "_law_part" 391),(.str "/claim/cut.py" 392),(.int 122 0),(.int 3 0),(.int 0 0),(.int 0 0),(.int 3 0),(.ref 156),(.bool true),(.int 181 0),(.ref 157),.none,.none,.none,(.ref 158),(.int 393 0),(.int 122 0),(.str "/claim/cut.py" 394)],
 kf 160 (aj 30) "_law_part" (.str "law_layworld_k30_whole_always_by_all_bases" 355) (.ref 159),
 kc 166 [(.str "_law_turns" 396),(.str "_law_turns" 397),(.str "/claim/cut.py" 398),(.int 128 0),(.int 0 0),(.int 0 0),(.int 0 0),(.int 3 0),(.ref 161),(.bool true),(.int 181 0),(.ref 162),.none,(.ref 163),(.ref 164),(.ref 165),(.int 399 0),(.int 128 0),(.str "/claim/cut.py" 400)],
 kf 167 (aj 31) "_law_turns" (.str "law_layworld_k30_whole_always_by_all_bases" 355) (.ref 166),
 kc 171 [(.str "_law_figure" 402),(.str "_law_figure" 403),(.str "/claim/cut.py" 404),(.int 130 0),(.int 2 0),(.int 0 0),(.int 0 0),(.int 3 0),(.ref 168),(.bool true),(.int 181 0),(.ref 169),.none,.none,.none,(.ref 170),(.int 405 0),(.int 130 0),(.str "/claim/cut.py" 406)],
 kf 172 (aj 32) "_law_figure" (.str "law_layworld_k30_whole_always_by_all_bases" 355) (.ref 171),
 kc 178 [(.str "_law_bad" 408),(.str "_law_bad" 409),(.str "/claim/cut.py" 410),(.int 132 0),(.int 1 0),(.int 0 0),(.int 0 0),(.int 3 0),(.ref 173),(.bool true),(.int 181 0),(.ref 174),.none,(.ref 175),(.ref 176),(.ref 177),(.int 415 0),(.int 132 0),(.str "/claim/cut.py" 416)],
 kf 179 (aj 33) "_law_bad" (.str "law_layworld_k30_whole_always_by_all_bases" 355) (.ref 178),
 kc 185 [(.str "_law_backs" 418),(.str "_law_backs" 419),(.str "/claim/cut.py" 420),(.int 138 0),(.int 2 0),(.int 0 0),(.int 0 0),(.int 3 0),(.ref 180),(.bool true),(.int 181 0),(.ref 181),.none,(.ref 182),(.ref 183),(.ref 184),(.int 424 0),(.int 138 0),(.str "/claim/cut.py" 425)],
 kf 186 (aj 34) "_law_backs" (.str "law_layworld_k30_whole_always_by_all_bases" 355) (.ref 185),
 kc 190 [(.str "_law_rule_of" 427),(.str "_law_rule_of" 428),(.str "/claim/cut.py" 429),(.int 141 0),(.int 4 0),(.int 0 0),(.int 0 0),(.int 3 0),(.ref 187),(.bool true),(.int 181 0),(.ref 188),.none,.none,.none,(.ref 189),(.int 430 0),(.int 141 0),(.str "/claim/cut.py" 431)],
 kf 191 (aj 35) "_law_rule_of" (.str "law_layworld_k30_whole_always_by_all_bases" 355) (.ref 190),
 kc 195 [(.str "_law_free_three" 433),(.str "_law_free_three" 434),(.str "/claim/cut.py" 435),(.int 145 0),(.int 3 0),(.int 0 0),(.int 0 0),(.int 3 0),(.ref 192),(.bool true),(.int 181 0),(.ref 193),.none,.none,.none,(.ref 194),(.int 436 0),(.int 145 0),(.str "/claim/cut.py" 437)],
 kf 196 (aj 36) "_law_free_three" (.str "law_layworld_k30_whole_always_by_all_bases" 355) (.ref 195),
 kc 202 [(.str "_law_sizes" 439),(.str "_law_sizes" 440),(.str "/claim/cut.py" 441),(.int 150 0),(.int 1 0),(.int 0 0),(.int 0 0),(.int 3 0),(.ref 197),(.bool true),(.int 181 0),(.ref 198),.none,(.ref 199),(.ref 200),(.ref 201),(.int 444 0),(.int 150 0),(.str "/claim/cut.py" 445)],
 kf 203 (aj 37) "_law_sizes" (.str "law_layworld_k30_whole_always_by_all_bases" 355) (.ref 202),
 kc 209 [(.str "_law_any_rule" 447),(.str "_law_any_rule" 448),(.str "/claim/cut.py" 449),(.int 153 0),(.int 1 0),(.int 0 0),(.int 0 0),(.int 3 0),(.ref 204),(.bool true),(.int 181 0),(.ref 205),.none,(.ref 206),(.ref 207),(.ref 208),(.int 456 0),(.int 153 0),(.str "/claim/cut.py" 457)],
 kf 210 (aj 38) "_law_any_rule" (.str "law_layworld_k30_whole_always_by_all_bases" 355) (.ref 209),
 kc 216 [(.str "_law_laying_kind" 459),(.str "_law_laying_kind" 460),(.str "/claim/cut.py" 461),(.int 160 0),(.int 1 0),(.int 0 0),(.int 0 0),(.int 3 0),(.ref 211),(.bool true),(.int 181 0),(.ref 212),.none,(.ref 213),(.ref 214),(.ref 215),(.int 464 0),(.int 160 0),(.str "/claim/cut.py" 465)],
 kf 217 (aj 39) "_law_laying_kind" (.str "law_layworld_k30_whole_always_by_all_bases" 355) (.ref 216),
 kc 223 [(.str "_law_breaks" 467),(.str "_law_breaks" 468),(.str "/claim/cut.py" 469),(.int 169 0),(.int 5 0),(.int 0 0),(.int 0 0),(.int 3 0),(.ref 218),(.bool true),(.int 181 0),(.ref 219),.none,(.ref 220),(.ref 221),(.ref 222),(.int 480 0),(.int 169 0),(.str "/claim/cut.py" 481)],
 kf 224 (aj 40) "_law_breaks" (.str "law_layworld_k30_whole_always_by_all_bases" 355) (.ref 223),
 kc 228 [(.str "_law_numbered" 483),(.str "_law_numbered" 484),(.str "/claim/cut.py" 485),(.int 177 0),(.int 3 0),(.int 0 0),(.int 0 0),(.int 3 0),(.ref 225),(.bool true),(.int 181 0),(.ref 226),.none,.none,.none,(.ref 227),(.int 486 0),(.int 177 0),(.str "/claim/cut.py" 487)],
 kf 229 (aj 41) "_law_numbered" (.str "law_layworld_k30_whole_always_by_all_bases" 355) (.ref 228),
 kc 235 [(.str "_law_laying_rule" 489),(.str "_law_laying_rule" 490),(.str "/claim/cut.py" 491),(.int 192 0),(.int 1 0),(.int 0 0),(.int 0 0),(.int 3 0),(.ref 230),(.bool true),(.int 181 0),(.ref 231),.none,(.ref 232),(.ref 233),(.ref 234),(.int 507 0),(.int 192 0),(.str "/claim/cut.py" 508)],
 kf 236 (aj 42) "_law_laying_rule" (.str "law_layworld_k30_whole_always_by_all_bases" 355) (.ref 235),
 kc 240 [(.str "_law_rising" 510),(.str "_law_rising" 511),(.str "/claim/cut.py" 512),(.int 212 0),(.int 1 0),(.int 0 0),(.int 0 0),(.int 3 0),(.ref 237),(.bool true),(.int 181 0),(.ref 238),.none,.none,.none,(.ref 239),(.int 513 0),(.int 212 0),(.str "/claim/cut.py" 514)],
 kf 241 (aj 43) "_law_rising" (.str "law_layworld_k30_whole_always_by_all_bases" 355) (.ref 240),
 kc 245 [(.str "_law_free_rule" 516),(.str "_law_free_rule" 517),(.str "/claim/cut.py" 518),(.int 218 0),(.int 1 0),(.int 0 0),(.int 0 0),(.int 3 0),(.ref 242),(.bool true),(.int 181 0),(.ref 243),.none,.none,.none,(.ref 244),(.int 519 0),(.int 218 0),(.str "/claim/cut.py" 520)],
 kf 246 (aj 44) "_law_free_rule" (.str "law_layworld_k30_whole_always_by_all_bases" 355) (.ref 245),
 kc 250 [(.str "_law_one_way_rule" 522),(.str "_law_one_way_rule" 523),(.str "/claim/cut.py" 524),(.int 231 0),(.int 1 0),(.int 0 0),(.int 0 0),(.int 3 0),(.ref 247),(.bool true),(.int 181 0),(.ref 248),.none,.none,.none,(.ref 249),(.int 525 0),(.int 231 0),(.str "/claim/cut.py" 526)],
 kf 251 (aj 45) "_law_one_way_rule" (.str "law_layworld_k30_whole_always_by_all_bases" 355) (.ref 250),
 kc 255 [(.str "_law_unlaying_rule" 528),(.str "_law_unlaying_rule" 529),(.str "/claim/cut.py" 530),(.int 235 0),(.int 1 0),(.int 0 0),(.int 0 0),(.int 3 0),(.ref 252),(.bool true),(.int 181 0),(.ref 253),.none,.none,.none,(.ref 254),(.int 531 0),(.int 235 0),(.str "/claim/cut.py" 532)],
 kf 256 (aj 46) "_law_unlaying_rule" (.str "law_layworld_k30_whole_always_by_all_bases" 355) (.ref 255),
 kc 262 [(.str "_law_some_rule" 534),(.str "_law_some_rule" 535),(.str "/claim/cut.py" 536),(.int 250 0),(.int 1 0),(.int 0 0),(.int 0 0),(.int 3 0),(.ref 257),(.bool true),(.int 181 0),(.ref 258),.none,(.ref 259),(.ref 260),(.ref 261),(.int 539 0),(.int 250 0),(.str "/claim/cut.py" 540)],
 kf 263 (aj 47) "_law_some_rule" (.str "law_layworld_k30_whole_always_by_all_bases" 355) (.ref 262),
 kc 269 [(.str "_law_barred_ways" 542),(.str "_law_barred_ways" 543),(.str "/claim/cut.py" 544),(.int 257 0),(.int 4 0),(.int 0 0),(.int 0 0),(.int 3 0),(.ref 264),(.bool true),(.int 181 0),(.ref 265),.none,(.ref 266),(.ref 267),(.ref 268),(.int 554 0),(.int 257 0),(.str "/claim/cut.py" 555)],
 kf 270 (aj 48) "_law_barred_ways" (.str "law_layworld_k30_whole_always_by_all_bases" 355) (.ref 269),
 kc 274 [(.str "_law_grown_bases" 557),(.str "_law_grown_bases" 558),(.str "/claim/cut.py" 559),(.int 264 0),(.int 6 0),(.int 0 0),(.int 0 0),(.int 3 0),(.ref 271),(.bool true),(.int 181 0),(.ref 272),.none,.none,.none,(.ref 273),(.int 560 0),(.int 264 0),(.str "/claim/cut.py" 561)],
 kf 275 (aj 49) "_law_grown_bases" (.str "law_layworld_k30_whole_always_by_all_bases" 355) (.ref 274),
 kc 279 [(.str "_law_search" 563),(.str "_law_search" 564),(.str "/claim/cut.py" 565),(.int 280 0),(.int 6 0),(.int 0 0),(.int 0 0),(.int 3 0),(.ref 276),(.bool true),(.int 181 0),(.ref 277),.none,.none,.none,(.ref 278),(.int 566 0),(.int 280 0),(.str "/claim/cut.py" 567)],
 kf 280 (aj 50) "_law_search" (.str "law_layworld_k30_whole_always_by_all_bases" 355) (.ref 279),
 kc 286 [(.str "_law_never" 569),(.str "_law_never" 570),(.str "/claim/cut.py" 571),(.int 294 0),(.int 3 0),(.int 0 0),(.int 0 0),(.int 3 0),(.ref 281),(.bool true),(.int 181 0),(.ref 282),.none,(.ref 283),(.ref 284),(.ref 285),(.int 578 0),(.int 294 0),(.str "/claim/cut.py" 579)],
 kf 287 (aj 51) "_law_never" (.str "law_layworld_k30_whole_always_by_all_bases" 355) (.ref 286),
 kc 293 [(.str "law" 581),(.str "law" 582),(.str "/claim/cut.py" 583),(.int 303 0),(.int 1 0),(.int 0 0),(.int 0 0),(.int 3 0),(.ref 288),(.bool true),(.int 181 0),(.ref 289),.none,(.ref 290),(.ref 291),(.ref 292),(.int 589 0),(.int 303 0),(.str "/claim/cut.py" 590)],
 kf 294 (aj 52) "law" (.str "law_layworld_k30_whole_always_by_all_bases" 355) (.ref 293)]
noncomputable def Jm:Jy JF:=[3,20,21,25,26,30,31,35,36,42,43,49,50,56,57,63,64,68,69,73,74,78,79,85,86,90,91,97,98,104,105,111,112,118,119,123,124,128,129,135,136,142,143,147,148,154,155,159,160,166,167,171,172,178,179,185,186,190,191,195,196,202,203,209,210,216,217,223,224,228,229,235,236,240,241,245,246,250,251,255,256,262,263,269,270,274,275,279,280,286,287,293,294]
noncomputable def vq:Ki:={ pw with main:={ pw.main with body:=[aj 52] } }
noncomputable def lo:Jy JZ:=[("way" : JZ),("part" : JZ),("point_over" : JZ),("longer_orders" : JZ),("back" : JZ),("barred_threes" : JZ),("three_at" : JZ),("first_bar" : JZ),("wishes_over" : JZ),("longer_wishes" : JZ),("all_bars" : JZ),("with_both" : JZ),("same_bar" : JZ),("unlaid" : JZ),("put_on" : JZ),("first_unfilled" : JZ),("unfilled_behind" : JZ),("longer_by_a_point" : JZ),("longer_by_a_way" : JZ),("_law_flow" : JZ),("_law_pick" : JZ),("_law_names" : JZ),("_law_between" : JZ),("_law_part" : JZ),("_law_turns" : JZ),("_law_figure" : JZ),("_law_bad" : JZ),("_law_backs" : JZ),("_law_rule_of" : JZ),("_law_free_three" : JZ),("_law_sizes" : JZ),("_law_any_rule" : JZ),("_law_laying_kind" : JZ),("_law_breaks" : JZ),("_law_numbered" : JZ),("_law_laying_rule" : JZ),("_law_rising" : JZ),("_law_free_rule" : JZ),("_law_one_way_rule" : JZ),("_law_unlaying_rule" : JZ),("_law_some_rule" : JZ),("_law_barred_ways" : JZ),("_law_grown_bases" : JZ),("_law_search" : JZ),("_law_never" : JZ)]
theorem aE {K:JP}{h:KH}{mg:JZ->JE JB}{x:JZ}{st:Mg}{df:Df}(a:JF)(pm cd:JB)(X:K.In h)(G:h.Ns mainGlobals mg)
  (b:BD x st df)
  (e:Lf K mainGlobals x=gV (gV (.ref a))) (l:K.lookup a=gV (kf a st x pm cd).2) (c:MC K cd x=true) (k:Lg K (.ref a)=true):am K mg x st df:=Ao X G b e l c k
theorem eK:∀P,Jm=(K0 P).map (·.1):=λ_=>by kernel_rfl
noncomputable def hk:PySem.W.Hook:=PySem.W.kHook K0 Jm eK
theorem hl:PySem.W.LeftO pw vq lo (λs=>Ru vq [] s&&Rh [] s) hk.obs hk.val 2974:=λw=>by kernel_rfl
end
end Mi
end ZZ.Lean
open ZZ.Lean
theorem PySem.Challenge.cw_layworld_k30_whole_always_by_all_bases_holds : PySem.Challenge.rw_layworld_k30_whole_always_by_all_bases.Holds := by
 w_on
 refine PySem.W.holds_law (by kernel_rfl) (λsaid=>?_)
 refine PySem.W.holds_open (q:=Mi.vq) (loose:=Mi.lo) (Xt:=λs=>Ru Mi.vq [] s&&Rh [] s) (XP:=PySem.W.XL Mi.vq []) (Yf:=Mi.hk.obs) (Ya:=Mi.hk.val) (YP:=Mi.hk.says) (N:=2974) Mi.hl Mi.hk.of Mi.hk.keeps (λs e=>PySem.W.xl_of s (OQ.mp e).1) R8 (by rfl) (by rfl) (by rfl) (λs e=>PySem.W.recFacts_of (OQ.mp e).2) (by rfl) said (by decide +kernel) ⟨rfl,rfl,rfl,rfl,rfl,by decide +kernel⟩ ?hw ?hc
 case hw=>w_witness2
 case hc=>
 refine Mi.Jc (l:=Nk) (K:=Mi.K0) rfl rfl (λw h Y=>PySem.W.kIn_of Y) ?F
 case F=>
  intro w mg fa h KX G hmg;exact Mi.Fn KX G hmg (Mi.Hs KX G (by kernel_rfl) (by kernel_rfl) (by kernel_rfl) (by kernel_rfl) (by kernel_rfl) (by kernel_rfl) (by kernel_rfl) (by kernel_rfl) (by kernel_rfl) (by kernel_rfl) (by kernel_rfl) (by kernel_rfl))
   (Mi.aE 21 (.str "layworld.worlds" 187) (.ref 20) (x:="way") (st:=Mi.aj 1) (df:=Mi.iF) KX G Mi.Fj (by kernel_rfl) (by kernel_rfl) (by kernel_rfl) (by kernel_rfl))
   (Mi.aE 26 (.str "layworld.parts" 199) (.ref 25) (x:="part") (st:=Mi.aj 3) (df:=Mi.fK) KX G Mi.CQ (by kernel_rfl) (by kernel_rfl) (by kernel_rfl) (by kernel_rfl))
   (Mi.aE 31 (.str "layworld.parts" 199) (.ref 30) (x:="point_over") (st:=Mi.aj 4) (df:=Mi.bA) KX G Mi.nI (by kernel_rfl) (by kernel_rfl) (by kernel_rfl) (by kernel_rfl))
   (Mi.aE 36 (.str "layworld.parts" 199) (.ref 35) (x:="longer_orders") (st:=Mi.aj 5) (df:=Mi.aW) KX G Mi.kB (by kernel_rfl) (by kernel_rfl) (by kernel_rfl) (by kernel_rfl))
   (Mi.aE 43 (.str "layworld.rules" 219) (.ref 42) (x:="back") (st:=Mi.aj 7) (df:=Mi.fL) KX G Mi.CS (by kernel_rfl) (by kernel_rfl) (by kernel_rfl) (by kernel_rfl))
   (Mi.aE 50 (.str "layworld.threes" 229) (.ref 49) (x:="barred_threes") (st:=Mi.aj 9) (df:=Mi.aX) KX G Mi.kC (by kernel_rfl) (by kernel_rfl) (by kernel_rfl) (by kernel_rfl))
   (Mi.aE 57 (.str "layworld.threes" 229) (.ref 56) (x:="three_at") (st:=Mi.aj 10) (df:=Mi.b7) KX G Mi.r0 (by kernel_rfl) (by kernel_rfl) (by kernel_rfl) (by kernel_rfl))
   (Mi.aE 64 (.str "layworld.threes" 229) (.ref 63) (x:="first_bar") (st:=Mi.aj 11) (df:=Mi.bJ) KX G Mi.p9 (by kernel_rfl) (by kernel_rfl) (by kernel_rfl) (by kernel_rfl))
   (Mi.aE 69 (.str "layworld.threes" 229) (.ref 68) (x:="wishes_over") (st:=Mi.aj 12) (df:=Mi.bn) KX G Mi.mP (by kernel_rfl) (by kernel_rfl) (by kernel_rfl) (by kernel_rfl))
   (Mi.aE 74 (.str "layworld.threes" 229) (.ref 73) (x:="longer_wishes") (st:=Mi.aj 13) (df:=Mi.aY) KX G Mi.kD (by kernel_rfl) (by kernel_rfl) (by kernel_rfl) (by kernel_rfl))
   (Mi.aE 79 (.str "layworld.fillings" 276) (.ref 78) (x:="all_bars") (st:=Mi.aj 15) (df:=Mi.cp) KX G Mi.r4 (by kernel_rfl) (by kernel_rfl) (by kernel_rfl) (by kernel_rfl))
   (Mi.aE 86 (.str "layworld.fillings" 276) (.ref 85) (x:="with_both") (st:=Mi.aj 16) (df:=Mi.bQ) KX G Mi.qa (by kernel_rfl) (by kernel_rfl) (by kernel_rfl) (by kernel_rfl))
   (Mi.aE 91 (.str "layworld.fillings" 276) (.ref 90) (x:="same_bar") (st:=Mi.aj 17) (df:=Mi.cq) KX G Mi.r6 (by kernel_rfl) (by kernel_rfl) (by kernel_rfl) (by kernel_rfl))
   (Mi.aE 98 (.str "layworld.always" 301) (.ref 97) (x:="unlaid") (st:=Mi.aj 19) (df:=Mi.di) KX G Mi.wW (by kernel_rfl) (by kernel_rfl) (by kernel_rfl) (by kernel_rfl))
   (Mi.aE 105 (.str "layworld.always" 301) (.ref 104) (x:="put_on") (st:=Mi.aj 20) (df:=Mi.dj) KX G Mi.wX (by kernel_rfl) (by kernel_rfl) (by kernel_rfl) (by kernel_rfl))
   (Mi.aE 112 (.str "layworld.always" 301) (.ref 111) (x:="first_unfilled") (st:=Mi.aj 21) (df:=Mi.aQ) KX G Mi.jE (by kernel_rfl) (by kernel_rfl) (by kernel_rfl) (by kernel_rfl))
   (Mi.aE 119 (.str "layworld.always" 301) (.ref 118) (x:="unfilled_behind") (st:=Mi.aj 22) (df:=Mi.aL) KX G Mi.iW (by kernel_rfl) (by kernel_rfl) (by kernel_rfl) (by kernel_rfl))
   (Mi.aE 124 (.str "layworld.always" 301) (.ref 123) (x:="longer_by_a_point") (st:=Mi.aj 23) (df:=Mi.aC) KX G Mi.g5 (by kernel_rfl) (by kernel_rfl) (by kernel_rfl) (by kernel_rfl))
   (Mi.aE 129 (.str "layworld.always" 301) (.ref 128) (x:="longer_by_a_way") (st:=Mi.aj 24) (df:=Mi.aM) KX G Mi.iX (by kernel_rfl) (by kernel_rfl) (by kernel_rfl) (by kernel_rfl))
   (Mi.aE 136 (.str "law_layworld_k30_whole_always_by_all_bases" 355) (.ref 135) (x:="_law_flow") (st:=Mi.aj 26) (df:=Mi.bR) KX G Mi.qb (by kernel_rfl) (by kernel_rfl) (by kernel_rfl) (by kernel_rfl))
   (Mi.aE 143 (.str "law_layworld_k30_whole_always_by_all_bases" 355) (.ref 142) (x:="_law_pick") (st:=Mi.aj 27) (df:=Mi.bS) KX G Mi.qc (by kernel_rfl) (by kernel_rfl) (by kernel_rfl) (by kernel_rfl))
   (Mi.aE 148 (.str "law_layworld_k30_whole_always_by_all_bases" 355) (.ref 147) (x:="_law_names") (st:=Mi.aj 28) (df:=Mi.bB) KX G Mi.nJ (by kernel_rfl) (by kernel_rfl) (by kernel_rfl) (by kernel_rfl))
   (Mi.aE 155 (.str "law_layworld_k30_whole_always_by_all_bases" 355) (.ref 154) (x:="_law_between") (st:=Mi.aj 29) (df:=Mi.bf) KX G Mi.lh (by kernel_rfl) (by kernel_rfl) (by kernel_rfl) (by kernel_rfl))
   (Mi.aE 160 (.str "law_layworld_k30_whole_always_by_all_bases" 355) (.ref 159) (x:="_law_part") (st:=Mi.aj 30) (df:=Mi.bT) KX G Mi.qd (by kernel_rfl) (by kernel_rfl) (by kernel_rfl) (by kernel_rfl))
   (Mi.aE 167 (.str "law_layworld_k30_whole_always_by_all_bases" 355) (.ref 166) (x:="_law_turns") (st:=Mi.aj 31) (df:=Mi.bC) KX G Mi.nK (by kernel_rfl) (by kernel_rfl) (by kernel_rfl) (by kernel_rfl))
   (Mi.aE 172 (.str "law_layworld_k30_whole_always_by_all_bases" 355) (.ref 171) (x:="_law_figure") (st:=Mi.aj 32) (df:=Mi.bo) KX G Mi.mQ (by kernel_rfl) (by kernel_rfl) (by kernel_rfl) (by kernel_rfl))
   (Mi.aE 179 (.str "law_layworld_k30_whole_always_by_all_bases" 355) (.ref 178) (x:="_law_bad") (st:=Mi.aj 33) (df:=Mi.cr) KX G Mi.r8 (by kernel_rfl) (by kernel_rfl) (by kernel_rfl) (by kernel_rfl))
   (Mi.aE 186 (.str "law_layworld_k30_whole_always_by_all_bases" 355) (.ref 185) (x:="_law_backs") (st:=Mi.aj 34) (df:=Mi.bD) KX G Mi.nL (by kernel_rfl) (by kernel_rfl) (by kernel_rfl) (by kernel_rfl))
   (Mi.aE 191 (.str "law_layworld_k30_whole_always_by_all_bases" 355) (.ref 190) (x:="_law_rule_of") (st:=Mi.aj 35) (df:=Mi.bg) KX G Mi.ll (by kernel_rfl) (by kernel_rfl) (by kernel_rfl) (by kernel_rfl))
   (Mi.aE 196 (.str "law_layworld_k30_whole_always_by_all_bases" 355) (.ref 195) (x:="_law_free_three") (st:=Mi.aj 36) (df:=Mi.aN) KX G Mi.iY (by kernel_rfl) (by kernel_rfl) (by kernel_rfl) (by kernel_rfl))
   (Mi.aE 203 (.str "law_layworld_k30_whole_always_by_all_bases" 355) (.ref 202) (x:="_law_sizes") (st:=Mi.aj 37) (df:=Mi.bE) KX G Mi.nM (by kernel_rfl) (by kernel_rfl) (by kernel_rfl) (by kernel_rfl))
   (Mi.aE 210 (.str "law_layworld_k30_whole_always_by_all_bases" 355) (.ref 209) (x:="_law_any_rule") (st:=Mi.aj 38) (df:=Mi.aZ) KX G Mi.kE (by kernel_rfl) (by kernel_rfl) (by kernel_rfl) (by kernel_rfl))
   (Mi.aE 217 (.str "law_layworld_k30_whole_always_by_all_bases" 355) (.ref 216) (x:="_law_laying_kind") (st:=Mi.aj 39) (df:=Mi.aF) KX G Mi.ir (by kernel_rfl) (by kernel_rfl) (by kernel_rfl) (by kernel_rfl))
   (Mi.aE 224 (.str "law_layworld_k30_whole_always_by_all_bases" 355) (.ref 223) (x:="_law_breaks") (st:=Mi.aj 40) (df:=Mi.bq) KX G Mi.mR (by kernel_rfl) (by kernel_rfl) (by kernel_rfl) (by kernel_rfl))
   (Mi.aE 229 (.str "law_layworld_k30_whole_always_by_all_bases" 355) (.ref 228) (x:="_law_numbered") (st:=Mi.aj 41) (df:=Mi.ba) KX G Mi.kF (by kernel_rfl) (by kernel_rfl) (by kernel_rfl) (by kernel_rfl))
   (Mi.aE 236 (.str "law_layworld_k30_whole_always_by_all_bases" 355) (.ref 235) (x:="_law_laying_rule") (st:=Mi.aj 42) (df:=Mi.aG) KX G Mi.iu (by kernel_rfl) (by kernel_rfl) (by kernel_rfl) (by kernel_rfl))
   (Mi.aE 241 (.str "law_layworld_k30_whole_always_by_all_bases" 355) (.ref 240) (x:="_law_rising") (st:=Mi.aj 43) (df:=Mi.br) KX G Mi.mS (by kernel_rfl) (by kernel_rfl) (by kernel_rfl) (by kernel_rfl))
   (Mi.aE 246 (.str "law_layworld_k30_whole_always_by_all_bases" 355) (.ref 245) (x:="_law_free_rule") (st:=Mi.aj 44) (df:=Mi.aR) KX G Mi.jF (by kernel_rfl) (by kernel_rfl) (by kernel_rfl) (by kernel_rfl))
   (Mi.aE 251 (.str "law_layworld_k30_whole_always_by_all_bases" 355) (.ref 250) (x:="_law_one_way_rule") (st:=Mi.aj 45) (df:=Mi.aD) KX G Mi.g6 (by kernel_rfl) (by kernel_rfl) (by kernel_rfl) (by kernel_rfl))
   (Mi.aE 256 (.str "law_layworld_k30_whole_always_by_all_bases" 355) (.ref 255) (x:="_law_unlaying_rule") (st:=Mi.aj 46) (df:=Mi.aA) KX G Mi.gH (by kernel_rfl) (by kernel_rfl) (by kernel_rfl) (by kernel_rfl))
   (Mi.aE 263 (.str "law_layworld_k30_whole_always_by_all_bases" 355) (.ref 262) (x:="_law_some_rule") (st:=Mi.aj 47) (df:=Mi.aS) KX G Mi.jG (by kernel_rfl) (by kernel_rfl) (by kernel_rfl) (by kernel_rfl))
   (Mi.aE 270 (.str "law_layworld_k30_whole_always_by_all_bases" 355) (.ref 269) (x:="_law_barred_ways") (st:=Mi.aj 48) (df:=Mi.aH) KX G Mi.iw (by kernel_rfl) (by kernel_rfl) (by kernel_rfl) (by kernel_rfl))
   (Mi.aE 275 (.str "law_layworld_k30_whole_always_by_all_bases" 355) (.ref 274) (x:="_law_grown_bases") (st:=Mi.aj 49) (df:=Mi.aI) KX G Mi.iy (by kernel_rfl) (by kernel_rfl) (by kernel_rfl) (by kernel_rfl))
   (Mi.aE 280 (.str "law_layworld_k30_whole_always_by_all_bases" 355) (.ref 279) (x:="_law_search") (st:=Mi.aj 50) (df:=Mi.bu) KX G Mi.mT (by kernel_rfl) (by kernel_rfl) (by kernel_rfl) (by kernel_rfl))
   (Mi.aE 287 (.str "law_layworld_k30_whole_always_by_all_bases" 355) (.ref 286) (x:="_law_never") (st:=Mi.aj 51) (df:=Mi.bF) KX G Mi.nN (by kernel_rfl) (by kernel_rfl) (by kernel_rfl) (by kernel_rfl))
   (f:=294) (oc:=.type "function") (od:=td) (an:=td) (osl:=#[]) (kV:=.none) (doc:=.none) (pm:=(.str "law_layworld_k30_whole_always_by_all_bases" 355)) (cdv:=(.ref 293)) (ct:=.none) (by kernel_rfl) (by kernel_rfl) (by kernel_rfl) (by kernel_rfl)
