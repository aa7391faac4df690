import PyProof.Rows.All
import Wide.All
import OpenK.AllK
import Wide.FinOn
import Lean
import PyProof.EqAt
import PyProof.EqKinds
import PyProof.TupleCall
import KE.KDictList
import PyProof.SetKind
import PyProof.IsRules
import KE.KSortTup
import PyProof.ZipIter
import PyProof.Draws
import PyProof.EnumMake
import PyProof.WalksEnum
import PySem.Challenge.RW_layworld_k29_put_on
noncomputable section
open Option renaming some→gV,none→td
local macro_rules|`(#v[])=>`((by decide))|`(#v[$x:term])=>`(.cons $x .nil)|`(#v[$x:term,$y:term,*])=>`(.cons $x #v[$y,*])
local macro_rules|`(#[$x:term])=>`(⟨$x⟩)|`(#[$x:term,$y:term,*])=>`(⟨$x,$y,*⟩)
local macro_rules|`(∅)=>`((by omega))
open _root_ renaming List→Hj,Option→Hr,Nat→Hs,Int→Hy,Bool→HX,if_pos→HY,decide_eq_false→Iq,decide_eq_true_eq→Ir,if_neg→Iy,Array→IF,beq_self_eq_true→IS,of_decide_eq_true→IW,False→IY,decide_eq_true→IZ,String→Jf,if_false→Kg,if_true→Kq,or_false→Ku,DecidableEq→KH,of_decide_eq_false→K9,beq_eq_false_iff_ne→Lz,forall_congr'→Ng,bne_self_eq_false→NU,True→Oy,not_or→Pj,dif_pos→P1
open List renaming length_map→Hk,length_append→Hn,getElem?_map→Ht,set→Hz,zipWith→HA,mem_singleton→HE,mem_of_getElem?→HF,getElem?_eq_some_iff→HG,getElem?_eq_getElem→HH,range→HJ,size_toArray→HK,mem_range→HL,getD_eq_getElem?_getD→HP,all_eq_true→HS,mem_map→HU,map_append→HV,mem_cons→HZ,length_take→Ic,mem_append→Ig,length_range→Ii,replicate→Ik,getElem?_append_left→Il,length_singleton→Im,mem_append_right→Iu,length_cons→Iz,take_add_one→IB,getElem?_append_right→ID,take_length→IH,all_cons→II,mem_cons_of_mem→IL,map_congr_left→IP,getElem_mem→IT,not_mem_nil→IU,length_zipWith→Jb,mem_flatMap→Jc,map_cons→Jd,flatMap_cons→Je,mem_cons_self→Jk,append_nil→Jo,lookup_cons→Jp,replicate_succ→Jq,length_filter_le→Jt,nodup_cons→Jv,length_nil→Jw,range_succ→Jz,getElem?_set→JD,mem_filter→JE,getElem?_eq_none_iff→JG,filter_append→JJ,mem_append_left→JM,length_dropLast→JQ,getElem?_range→JU,flatMap_append→JV,map_map→J0,getElem_inj→J1,find?_eq_none→J6,findIdx?_eq_some_iff_getElem→J8,flatten_cons→Kh,any_cons→Kk,length_drop→Kt,zip_cons_cons→Kw,find?_cons→Ky,getElem?_eq_none→KA,take_append_drop→KD,append_assoc→KG,mem_of_mem_take→KN,filterMap_cons→KS,getElem?_take_of_lt→KW,map_take→K5,length_eq_zero_iff→Lb,take_of_length_le→Lh,getElem_take→Li,getElem?_dropLast→Lj,length_replicate→Lk,ext_getElem→Lq,isEmpty_iff→Ls,mem_iff_getElem→Lw,eq_nil_of_length_eq_zero→Lx,length_pos_iff→LB,mem_eraseDups→LO,findSome?_eq_none_iff→LP,getLastD_eq_getLast?→LV,getLast?_eq_getElem?→LW,ext_getElem?→L1,nodup_append→L3,pairwise_map→L4,filter_congr→L5,filter_cons_of_pos→Mj,filter_cons_of_neg→Mk,getElem?_set_self→Mm,range_succ_eq_map→Mp,length_pos_of_mem→Mu,drop_of_length_le→Mv,filter_eq_nil_iff→Mw,of_mem_zip→My,forIn_cons→MA,find?_some→MF,getElem?_set_ne→MM,nodup_nil→MS,take_zero→MU,eraseDups_cons→M6,getElem_of_mem→M8,mem_filterMap→Nn,getElem?_take→Ny,take_sublist→NG,map_nil→NN,zip_nil_left→NO,all_eq_false→NR,any_eq_false→NW,range'_succ→N8,any_toArray→N9,flatMap_nil→Oe,perm_middle→Of,filter_cons→Og,any_eq_true→Oh,length_set→Oo,nil_append→Oq,foldr_cons→Ot,foldl→OD,forIn_nil→OO,drop_zero→OQ,all_map→Pi,map_set→Pk,length→Pp,range'→Px,Nodup→PX,map→Qc
open PySem renaming wpAny_bind→Hl,Value→Hm,Shared→Hq,Addr→Hw,wpAny_pure→HB,Str→HM,Expr→HW,Program→Io,Around→Ix,World→IA,Heap→IJ,wpAny_newObj_type→IK,sizeLine_eq→IN,wpAny_callSpecial?_slot→IX,wpAny_call_entry→Ji,wpAny_truthy_bool→Jj,wpAny_holding→Jn,Obj→Jr,codeAny_builtin→Jy,wpAny_mono→JA,NameKind→JC,wpAny_field→JO,wpAny_typeNameOfWhole_keyiter→JP,DictEntry→JR,Pos→J2,Spec→J3,FuncData→J4,wpAny_passesOwn→Kb,wpAny_typeNameOf_keyiter→Km,Stmt→Kn,mem_of_lookup→Ko,plainId_quiet→Kz,Scope→KF,wpAny_seqItems→KM,wpAny_loadPart'→K6,wpAny_Call_Name_kw→K7,wpAny_dictEntries→Lg,call_meets→Lp,wpAny_standAt→Lu,wpAny_letGo→Lv,wpAny_typeOf→LC,IsPart→LJ,wpAny_setField→LL,wpAny_tryCatch→LM,wpAny_pyIter_list→LZ,wpAny_attempt→L8,wpAny_comprehension_free→Ma,noFill_tuple_add→Mc,wpAny_forIn_list→Mf,wpAny_isInstance→Mg,Paired→Ml,codeAny_mono→Mn,Builtin→Mq,ItemsOf→Ms,wpAny_execs_nil→Mx,wpAny_dictEpoch→MB,wpAny_updateSeq→MC,wpAny_isOneOf_keyiter→MJ,GenState→ML,wpAny_of_eq→MO,wpAny_pyIter_keyiter→MP,wpAny_runValue→MR,PassesOwn→M1,rangeSize_one→M9,seq_tuple_add→Na,wpAny_newList→Nf,wpAny_rule→Nl,wpAny_load→Nm,Params→Nq,wpAny_pyIter_tuple→Nv,Env→NB,wpAny_assign_Name→NC,Operator→NE,BindsTo→NF,concat_meets→NH,wpAny_sequenceKey→NJ,seqIndex_neg→NK,list_append→NL,wpAny_pyIter_enum→NV,wpAny_pyHash_int→NZ,wpAny_pyHash_str→N1,Result→N3,CmpOp→Oi,seqIndex_of→Oj,wpAny_mkInt→Ol,Keyword→Ow,wpAny_Name→Oz,wpAny_bindName→OA,typeIs_int→OC,fitsIndex_both→OE,call→OG,SetTable→OH,wpAny_fieldsOf→OJ,isSubtype_stop→OL,wpAny_newTuple→ON,intBits_le_64→OW,evalPart_none→OY,call_list_seq→O0,wpAny_handled→O5,small_one→Pc,call_range_1→Pf,Sem→Pn,IsRangeIter→Po,wpAny_throw→Py,BoolOp→PU,IsEnum→PV,Model→PZ,IsRange→P2,Drawn→Qa,Walks→Qb,Tok→Qg
open Option renaming map_eq_some_iff→Ho,map_some→Iv,isSome_iff_exists→IR,getD_none→N5,getD_some→Oc,toList→O7
open PySem.Heap renaming get?_push_of_some→Hu,get?_push_size→HQ,lt_size→HR,get?_update_other→IQ,get?_update_self→J7,SameBut→Kf,get?_update_ne→KU,ExtBut→MN,size_update→Ob,size_push→OP
open Bool renaming and_eq_true→Hv,false_ne_true→HN,false_eq_true→Jg,or_eq_true→JT,eq_iff_iff→Ke,not_eq_true'→Ki,eq_false_iff→Kj,true_and→K1,and_eq_false_iff→Ll,and_eq_true_iff→MX,and_true→Nb,not_true→Nc,false_or→Nd,not_not→NX,or_false→OZ
open Int renaming natCast_nonneg→Hx,toNat_natCast→HI,emod_lt_of_pos→JI,emod_nonneg→Kd,toNat_of_nonneg→Kr,zero_add→LG,ediv_nonneg→Ou
open Nat renaming le_refl→HC,le_trans→Ih,lt_of_lt_of_le→Ij,ne_of_lt→Ip,lt_irrefl→Ja,lt_succ_self→JH,min_self→JL,zero_le→JN,lt_trans→JY,ne_of_gt→Kv,lt_or_gt_of_ne→Kx,le_of_ble_eq_true→KC,le_succ→KL,sub_self→KO,le_of_lt→Ld,succ_le_succ→Lo,succ_mul→LD,lt_of_succ_lt_succ→Mr,mul_le_mul_right→MT,pow_le_pow_right→MV,pow_le_pow_left→M7,add_sub_cancel→Nr,lt_of_le_of_lt→Nx,sub_zero→NP,lt_or_ge→NQ,min_eq_right→Od,not_lt_zero→Os,min_eq_left→Ov,not_lt→OM,mul_le_mul→OR,add_assoc→O3,add_comm→Pg,mul_comm→Ph,ble→Qi
open PySem.W renaming Frag→HD,look_both→IC,keepIn→Jh,fnOf→JK,kia_one→Kc,codeIn→Ks,nsIn→KP,methodObj→LX,cellsFrom_some→Mo,OpenLaw→Mz,kat_nil→ME,KdlSrc→MQ,kas_sort→Oa,WalkO→O1,Looks→O6,mg_of→Pa,recOk→Pb,xlAt→Pl
open Array renaming length_toList→Iw,getElem?_toList→Js,getElem?_eq_some_iff→J5,getElem?_eq_getElem→KR,perm_iff_toList_perm→LN,append_assoc→Nj,forIn_toList→Nt,toList→Pe,getD→PR
open PySem.Value renaming ref→IE,none→IM,bool→JS,type→KI,str→Lm,int→Mb
open Option.some renaming injEq→IG,inj→IV
open PySem.Obj renaming mapSeq→Jl,data_mapFields→K8,isFreed_of_fields→MK,cls_mapFields→NS,mapFields→O4
open PySem.Around renaming under_plainId→Jm
open PySem.Builtin.Tuple renaming tupleExact→Ju,tupleItemsOf→KJ,tupleHashOf→LQ,tupleCompareSizes→NY,tupleIsExact→OI
open ForInStep renaming yield→Jx
open PySem.Builtin.Range renaming rangeSize→JB,small→LA
open PyProof.Rows renaming slot_tuple_getitem→JF,callWith_type1→JW,subscriptTail_builtinR→Lf,assignInOrder_cons→LI,AllBare→LY,listUpdate_at→L9,SortKind→Mh,get?_update_seq→MD,entry_tuple_getitem→M3,lt_int→M4,args_tuple_getitem→No,IsTup→NA,assignInOrder_nil→ND,listItems_at→NT,callWith_builtin1→N4,seqEpoch_at→Om,IntsAre→Ox,slicePart_none→OB,tupleItemsOf_→OX
open PySem.Str renaming ofString→JX
open PySem.Builtin.List renaming listExtendWith→JZ,listTooLong→Kl,listFitsIndex→OF
open PySem.Builtin.Slice renaming slicePlaces→J9,sliceAdjust→KQ,sliceApplied→LK,slicePartIndex→On,sliceFields→OS
open PySem.Heap.SameBut renaming update→KT,refl→P3
open PySem.F renaming args_tuple_add_2→KY,entry_tuple_add→La,plainAttrs_list→Lc,slot_tuple_add→Le,slot_tuple_index→L7,slot_dict_get→MG
open PySem.Builtin.SmallTypes renaming ownedTupleIsFree→KZ,nextOf→LU,ownedTupleHandOut→M5
open PySem.NameKind renaming free→K4,cell→Qe
open PySem.SeqAt renaming EqAt→Ln,notIn_listAt→Np,in_tupleAt→N6,in_listAt→Op
open True renaming intro→Lr
open PySem.Builtin.Dict_items renaming ownsTuple→Ly
open PySem.Builtin.Builtins renaming bindParams→LF
open PySem.Calls renaming Name_function_global→LH,call_function_entry→LS,Constant_str→Nk
open Classical renaming byContradiction→LR,propDecidable→Pd
open Function renaming comp_def→L0,comp→O8
open PySem.Paired renaming length→L6
open PySem.Env renaming kindOf→Mt
open PySem.Builtin.Dict renaming showsAll→MH,dictSlotNone→OU,pendingCount→OV
open PySem.Challenge renaming pw_layworld_k29_put_on→MW,rw_layworld_k29_put_on→MY
open Sum renaming inl→MZ,inr→M0
open PySem.Expr renaming Name→M2
open PySem.SeqAt.EqAt renaming int_str→Nh,str_int→Ni,none_bool→Pr,bool_none→Ps,bool_bool→Pu,none_int→Pz,none_str→PC,bool_int→PD,bool_str→PF,int_none→PH,int_bool→PJ,str_none→PK,str_bool→PL,int_int→PN,str_str→PP,same→P7
open PUnit renaming unit→Nu
open PySem.ScopeKind renaming function→Nw
open PySem.AutoListH renaming list___mul___list_int_3→Nz
open PySem.AutoSeq1 renaming list_extend_list_list_0→NM,sub_tuple_tuple→O2
open PyProof.Rows.IsTup renaming new→N2
open PySem.IsL renaming update→N7
open PySem.Builtin.Str renaming tooLong→OT
open Prod.mk renaming injEq→O9
open Prod renaming ext→Pq
open PySem.MeetsSeq renaming list_pop_at→Pw
open PySem.Heap.IsSliceOf renaming new→PM
open PySem.Walks renaming list→PQ
open List.Nodup renaming sublist→PY
open List.Pairwise renaming nil→P0
open PySem.Flow renaming next→P4
open PySem.W.Looks renaming ld→P5
open PySem.W.XL renaming keeps→P6
open PySem.PassesOwn renaming never→P8
open List.cons renaming injEq→P9,inj→Qf
open List.Perm renaming map→Qd
open PySem.Txt renaming mul→Qh
set_option genSizeOf false
namespace ZZ.Lean
set_option Elab.async false
set_option linter.all false
set_option maxRecDepth 100000
namespace L2
open PySem PySem.Spec PyProof.Rows
noncomputable abbrev mC:=Sum Hy HM
noncomputable def AH:mC->Hm->HX
 | .inl k,v=>Value.isInt k v
 | .inr x,v=>Value.isStrOf x v
noncomputable def Fq (w:IA):mC->Hy
 | .inl k=>hashInt k
 | .inr x=>hashStr w x
theorem bB:∀ {k:mC} {v:Hm},AH k v=true->(∃i t,k=MZ i/\v=Mb i t)\/(∃x t,k=M0 x/\v=Lm x t)
 | .inl i,v,h=>by
  obtain⟨t,e⟩:=Value.isInt_shape (k:=i) (v:=v) h;exact .inl #[i,t,rfl,e]
 | .inr x,v,h=>by
  obtain⟨t,e⟩:=Value.isStrOf_shape (x:=x) (v:=v) h;exact .inr #[x,t,rfl,e]
theorem Bn (a b:Hy):decide ((MZ a:mC)=MZ b)=(a==b):=by
 by_cases e:a=b
 ·subst e; simp
 ·have h:¬ (MZ a:mC)=MZ b:=λq=>e (Sum.inl.inj q)
  rw[Iq h];exact(Lz.mpr e).symm
theorem Bo (a b:HM):decide ((M0 a:mC)=M0 b)=decide (a=b):=by
 by_cases e:a=b
 ·subst e; simp
 ·have h:¬ (M0 a:mC)=M0 b:=λq=>e (Sum.inr.inj q)
  rw[Iq h,Iq e]
theorem Bp (a:Hy)(b:HM):decide ((MZ a:mC)=M0 b)=false:=Iq (λq=>nomatch q)
theorem Bq (a:HM)(b:Hy):decide ((M0 a:mC)=MZ b)=false:=Iq (λq=>nomatch q)
noncomputable def mD (prog:Io)(w:IA):PySem.KeyKind prog w mC where
 is:=AH
 hash:=Fq w
 inj:=λv a b ha hb=>by
  rcases bB ha with⟨i,t,rfl,rfl⟩|⟨x,t,rfl,rfl⟩
  ·rcases bB hb with⟨j,u,rfl,e⟩|⟨y,u,rfl,e⟩
   ·injection e with e1 _; rw[e1]
   ·exact nomatch e
  ·rcases bB hb with⟨j,u,rfl,e⟩|⟨y,u,rfl,e⟩
   ·exact nomatch e
   ·injection e with e1 _; rw[e1]
 byValue:=λk v h=>by
  rcases bB h with⟨i,t,rfl,rfl⟩|⟨x,t,rfl,rfl⟩ <;> rfl
 pyHash:=λhv h=>by
  rcases bB hv with⟨i,t,rfl,rfl⟩|⟨x,t,rfl,rfl⟩
  ·exact NZ h
  ·exact N1 h
 eqBool:=λhu hv h=>by
  rcases bB hu with⟨i,t,rfl,rfl⟩|⟨x,t,rfl,rfl⟩
  ·rcases bB hv with⟨j,u,rfl,rfl⟩|⟨y,u,rfl,rfl⟩
   ·rw[Bn]at h; exact wpAny_eqBool_int h
   ·rw[Bp]at h; exact Nh i t y u _ _ _ _ h
  ·rcases bB hv with⟨j,u,rfl,rfl⟩|⟨y,u,rfl,rfl⟩
   ·rw[Bq]at h; exact Ni x t j u _ _ _ _ h
   ·rw[Bo]at h; exact wpAny_eqBool_str h
 «strs»:=λk x t v h=>by
  rcases bB h with⟨i,u,rfl,e⟩|⟨y,u,rfl,e⟩
  ·exact nomatch e
  ·injection e with e1 _
   subst e1;cases v <;> rfl
inductive V where
 | non|bl (b:HX)|int (i:Hy)|str (x:HM)|byt (b:IF UInt8)|flt (b:UInt64)|ref (a:Hw)|ty (n:Jf)
 deriving KH
noncomputable def RelV:V->Hm->Prop
 | .non,u=>u=IM
 | .bl b,u=>u=JS b
 | .int i,u=>∃t,u=Mb i t
 | .str x,u=>∃t,u=Lm x t
 | .byt b,u=>∃t,u=Value.bytes b t
 | .flt b,u=>∃t,u=Value.float b t
 | .ref a,u=>u=IE a
 | .ty n,u=>u=KI n
noncomputable abbrev Vals:Hj V->Hj Hm->Prop:=Ml RelV
theorem Vals.length {xs:Hj V}{us:Hj Hm}(r:Vals xs us):xs.length=us.length:=L6 r
theorem Vals.get:∀ {xs:Hj V} {us:Hj Hm} {i:Hs} {x:V},Vals xs us->xs[i]?=gV x->∃u,us[i]?=gV u/\RelV x u
 | _,_,_,_,.nil,e=>by simp at e
 | _,_,0,_,.cons r _,e=>by simp at e; subst e; exact#[_,rfl,r]
 | _,_,i+1,x,.cons _ t,e=>by
  obtain⟨u,h1,h2⟩:=Vals.get (i:=i) (x:=x) t (by simpa using e)
  exact#[u,by simpa using h1,h2]
theorem Vals.set {x:V}{u:Hm}(r:RelV x u):∀ {xs:Hj V} {us:Hj Hm} (i:Hs),Vals xs us->Vals (xs.set i x) (us.set i u)
 | _,_,_,.nil=>.nil
 | _,_,0,.cons _ t=>.cons r t
 | _,_,i+1,.cons q t=>.cons q (Vals.set r i t)
theorem Vals.append:∀ {xs ys:Hj V} {us ws:Hj Hm},Vals xs us->Vals ys ws->Vals (xs++ys) (us++ws)
 | _,_,_,_,.nil,s=>s
 | _,_,_,_,.cons r t,s=>.cons r (Vals.append t s)
theorem Vals.take:∀ {xs:Hj V} {us:Hj Hm} (n:Hs),Vals xs us->Vals (xs.take n) (us.take n)
 | _,_,0,_=>.nil
 | _,_,_+1,.nil=>.nil
 | _,_,n+1,.cons r t=>.cons r (Vals.take n t)
theorem Vals.drop:∀ {xs:Hj V} {us:Hj Hm} (n:Hs),Vals xs us->Vals (xs.drop n) (us.drop n)
 | _,_,0,r=>r
 | _,_,_+1,.nil=>.nil
 | _,_,n+1,.cons _ t=>Vals.drop n t
noncomputable def Dq:Hr V->Hr Hm->Prop
 | some v,gV u=>RelV v u
 | none,td=>Oy
 | _,_=>IY
noncomputable def KV {κ:Type}:Hj (κ×V)->Hj (κ×Hm)->Prop:=Ml λ(p:κ×V) (q:κ×Hm)=>p.1=q.1/\RelV p.2 q.2
noncomputable def kV:mC->V
 | .inl i=>.int i
 | .inr x=>.str x
inductive HO where
 | lst (xs:Hj V)
 | tup (xs:Hj V)
 | dK (kvs:Hj (mC×V))|dT (kvs:Hj (Hj mC×V))
 | set (S:Hy->HX) (n:Hs)
 | ins (C dx:Hw) (fs:Hj (HM×V))
 | own (x:Hw)
 | xd (fs:Hj (HM×V))
 | met (f x:Hw)
 | rng (lo hi:Hy)
 | frz (o:Jr) (u:HO)
 | tbl (ps:IF Hm)
 | ext (φ:IJ->Prop)
noncomputable abbrev Hp:=Hw->Hr HO
noncomputable def bR (H:Hp)(a:Hw)(o:HO):Hp:=λb=>if b=a then gV o else H b
theorem aZ {H:Hp}{a:Hw}{o:HO}:bR H a o a=gV o:=by unfold bR; rw[HY rfl]
theorem aH {H:Hp}{a b:Hw}{o:HO}(h:b≠a):bR H a o b=H b:=by unfold bR; rw[Iy h]
theorem dX {H:Hp}{a b:Hw}{o:HO}(h:H a=gV o)(h':H b=td):a≠b:=by
 intro e; subst e; rw[h]at h'; cases h'
section
variable (P:Io) (w:IA)
noncomputable def NoD (h:IJ)(a:Hw):Prop:=∃o,h.get? a=gV o/\o.dict=td
theorem NoD.new (h:IJ)(its:IF Hm)(n:Hs):NoD (h.push { cls:=.type "tuple",data:=.seq its n }) h.objs.size:=#[_,HQ _ rfl,rfl]
noncomputable def ObjOk (H:Hp)(h:IJ)(a:Hw):HO->Prop
 | .lst xs=>xs.length<=sizeLine/\∃(its:Hj Hm) (n:Hs),Vals xs its/\h.get? a=gV { cls:=.type "list",data:=.seq its.toArray n }
 | .tup xs=>(xs.length<=sizeLine/\NoD h a)/\∃its:Hj Hm,Vals xs its/\NA h a its.toArray
 | .dK kvs=>kvs.length<=sizeLine/\(a==sysModules)=false/\∃vs,KV kvs vs/\h.DictOf (mD P w) a vs
 | .dT kvs=>kvs.length<=sizeLine/\(a==sysModules)=false/\∃xs:Hj (Hj mC×Hw×Hm),
   Ml (λ(p:Hj mC×V) (q:Hj mC×Hw×Hm)=>p.1=q.1/\H q.2.1=gV (.tup (p.1.map kV))/\RelV p.2 q.2.2) kvs xs/\
   ∃o es ep,h.get? a=gV o/\o.ExactDict/\o.data=.dict es ep/\es.toList=xs.map (entryOfKey (tupleKind (mD P w)))/\(xs.map (·.1)).Nodup
 | .set S n=>h.SetOf (intKind P w) a S n
 | .ins C dx fs=>H dx=gV (.own a)/\fs.length<=1000/\dx≠a/\h.get? a=gV (PySem.W.instObj C dx)/\
   ∃mA,h.Ns1 dx mA/\(∀f,Dq (fs.lookup f) (mA f))/\PySem.Within mA (fs.map (·.1))
 | .own _=>∃o,h.get? a=gV o
 | .xd fs=>∃mA,h.Ns1 a mA/\∀f,Dq (fs.lookup f) (mA f)
 | .rng lo hi=>∃t u v,h.get? a=gV { cls:=.type "range",data:=.fields [.int lo t,.int hi u,.int 1 v].toArray }
 | .frz o u=>h.get? a=gV o/\ObjOk H h a u
 | .tbl ps=>h.get? a=gV { cls:=.none,data:=.fields ps }
 | .met f x=>h.get? a=gV (LX (.ref f) (.ref x))
 | .ext φ=>φ h/\(∃o,h.get? a=gV o)/\∀h1 h2:IJ,φ h1->(∀o,h1.get? a=gV o->h2.get? a=gV o)->φ h2
noncomputable def HOk (H:Hp)(h:IJ):Prop:=∀a o,H a=gV o->ObjOk P w H h a o
end
section
variable{P:Io}{w:IA}{H H':Hp}{h h':IJ}{a:Hw}{o:HO}
theorem ObjOk.lt (x:ObjOk P w H h a o):a < h.objs.size:=by
 cases o with
 | lst xs=>obtain⟨_,_,_,_,e⟩:=x; exact HR e
 | tup xs=>obtain⟨_,_,_,p⟩:=x; exact p.lt
 | dK kvs=>obtain⟨_,_,_,_,o,_,_,e,_⟩:=x; exact HR e
 | dT kvs=>obtain⟨_,_,_,_,o,_,_,e,_⟩:=x; exact HR e
 | set S n=>obtain⟨o,_,_,_,e,_⟩:=x; exact HR e
 | ins C dx fs=>obtain⟨_,_,_,e,_⟩:=x; exact HR e
 | own y=>obtain⟨_,e⟩:=x; exact HR e
 | xd fs=>obtain⟨_,⟨_,_,_,e,_⟩,_⟩:=x; exact HR e
 | rng lo hi=>obtain⟨_,_,_,e⟩:=x; exact HR e
 | frz ob u=>obtain⟨e,_⟩:=x; exact HR e
 | tbl ps=>exact HR (show h.get? a=gV _ from x)
 | met f y=>exact HR (show h.get? a=gV _ from x)
 | ext φ=>obtain⟨_,⟨_,e⟩,_⟩:=x; exact HR e
theorem Paired.mapP {α β:Type}{F G:α->β->Prop}:∀ {l₁:Hj α} {l₂:Hj β},Ml F l₁ l₂->(∀a b,F a b->G a b)->Ml G l₁ l₂
 | _,_,.nil,_=>.nil
 | _,_,.cons r t,f=>.cons (f _ _ r) (Paired.mapP t f)
theorem ObjOk.stay (x:ObjOk P w H h a o)(k:∀b u,(b=a\/H b=gV (.own a))->h.get? b=gV u->h'.get? b=gV u)
  (ho:∀b,H b=gV (.own a)->H' b=gV (.own a)) (ht:∀b xs,H b=gV (.tup xs)->H' b=gV (.tup xs)):ObjOk P w H' h' a o:=by
 induction o with
 | lst xs=>obtain⟨z,its,n,r,e⟩:=x; exact#[z,its,n,r,k _ _ (.inl rfl) e]
 | tup xs=>obtain⟨⟨z,ob',e',d⟩,its,r,ob,e,c⟩:=x; exact#[#[z,ob',k _ _ (.inl rfl) e',d],its,r,ob,k _ _ (.inl rfl) e,c]
 | dK kvs=>obtain⟨z,y,vs,r,ob,es,ep,e,c⟩:=x; exact#[z,y,vs,r,ob,es,ep,k _ _ (.inl rfl) e,c]
 | dT kvs=>
  obtain⟨z,y,xs,r,ob,es,ep,e,c⟩:=x;exact#[z,y,xs,Paired.mapP r λp q z=>#[z.1,ht _ _ z.2.1,z.2.2],ob,es,ep,k _ _ (.inl rfl) e,c]
 | set S n=>obtain⟨ob,es,ep,t,e,c⟩:=x; exact#[ob,es,ep,t,k _ _ (.inl rfl) e,c]
 | ins C dx fs=>
  obtain⟨d,z,ne,e,mA,⟨od,es,ep,e2,c⟩,r⟩:=x;exact#[ho _ d,z,ne,k _ _ (.inl rfl) e,mA,#[od,es,ep,k _ _ (.inr d) e2,c],r]
 | own y=>obtain⟨ob,e⟩:=x; exact#[ob,k _ _ (.inl rfl) e]
 | xd fs=>obtain⟨mA,⟨od,es,ep,e,c⟩,r⟩:=x; exact#[mA,#[od,es,ep,k _ _ (.inl rfl) e,c],r]
 | rng lo hi=>obtain⟨t,u,v,e⟩:=x; exact#[t,u,v,k _ _ (.inl rfl) e]
 | frz ob u ih=>obtain⟨e,q⟩:=x; exact#[k _ _ (.inl rfl) e,ih q]
 | tbl ps=>
  have e:h.get? a=gV { cls:=.none,data:=.fields ps }:=x;show h'.get? a=gV { cls:=.none,data:=.fields ps };exact k a _ (.inl rfl) e
 | met f y=>
  have e:h.get? a=gV (LX (.ref f) (.ref y)):=x;show h'.get? a=gV (LX (.ref f) (.ref y));exact k a _ (.inl rfl) e
 | ext φ=>obtain⟨p,⟨o,e⟩,st⟩:=x; exact#[st _ _ p λo q=>k _ _ (.inl rfl) q,#[o,k _ _ (.inl rfl) e],st]
theorem HOk.lt (x:HOk P w H h)(e:H a=gV o):a < h.objs.size:=(x a o e).lt
theorem HOk.fresh (x:HOk P w H h)(e:h.objs.size<=a):H a=td:=by
 cases q:H a with
 | none=>rfl
 | some u=>exact absurd (Ij (x.lt q) e) (Ja _)
theorem HOk.kept (x:HOk P w H h)(k:∀b u,h.get? b=gV u->h'.get? b=gV u):HOk P w H h':=λa o e=>
 (x a o e).stay (λb u _ q=>k b u q) (λ_ q=>q) λ_ _ q=>q
theorem HOk.laid (x:HOk P w H h)(k:∀b u,h.get? b=gV u->h'.get? b=gV u)(hp:h.objs.size<=a)(new:ObjOk P w (bR H a o) h' a o):HOk P w (bR H a o) h':=λb u e=>by
 have hn:=x.fresh hp
 by_cases hb:b=a
 ·subst hb; rw[aZ]at e; cases e; exact new
 ·rw[aH hb]at e;exact(x b u e).stay (λc v _ q=>k c v q) (λc q=>by rw[aH (dX q hn)]; exact q) λc xs q=>by rw[aH (dX q hn)]; exact q
end
noncomputable def Rd (H:Hp)(a:Hw)(u:HO):Prop:=H a=gV u\/∃o,H a=gV (.frz o u)
theorem Rd.ok {P:Io}{w:IA}{H:Hp}{h:IJ}{a:Hw}{u:HO}(r:Rd H a u)(x:HOk P w H h):ObjOk P w H h a u:=by
 rcases r with r|⟨o,r⟩
 ·exact x a u r
 ·obtain⟨_,q⟩:=x a _ r;exact q
noncomputable def Dr:Hr HO->Prop
 | some (.lst _)=>Oy
 | some (.dK _)=>Oy
 | some (.dT _)=>Oy
 | some (.set _ _)=>Oy
 | some (.ins _ _ _)=>Oy
 | some (.ext _)=>Oy
 | _=>IY
section
variable{P:Io}{w:IA}{H:Hp}{h h':IJ}{x e:Hw}{o':HO}
theorem HOk.write (ok:HOk P w H h)(mu:Dr (H x))(he:e=x\/H e=gV (.own x))(k:∀b u,b≠e->h.get? b=gV u->h'.get? b=gV u)(heo:∃u,h'.get? e=gV u)
  (new:ObjOk P w (bR H x o') h' x o'):HOk P w (bR H x o') h':=λb u q=>by
 have nown:∀c y,H c=gV (.own y)->c≠x:=λc y r z=>by subst z; rw[r]at mu; exact mu
 have ntup:∀c xs,H c=gV (.tup xs)->c≠x:=λc xs r z=>by subst z; rw[r]at mu; exact mu
 by_cases hb:b=x
 ·subst hb; rw[aZ]at q; cases q; exact new
 ·rw[aH hb]at q
  by_cases hbe:b=e
  ·have q':H b=gV (.own x):=by
    rcases he with z|z
    ·exact absurd (hbe.trans z) hb
    ·rw[hbe]; exact z
   rw[q]at q'; cases q'
   obtain⟨v,hv⟩:=heo;exact#[v,by rw[hbe]; exact hv]
  ·refine(ok b u q).stay (λc v hc r=>k c v ?_ r) (λc r=>by rw[aH (nown c b r)]; exact r) λc xs r=>by rw[aH (ntup c xs r)]; exact r
   rcases hc with rfl|hc
   ·exact hbe
   ·rintro rfl;rcases he with z|z
    ·exact nown c b hc z
    ·rw[hc]at z; cases z; exact hb rfl
end
structure Un (fs ex:Hj Hw)(H H':Hp)(h h':IJ):Prop where
 keep:∀b o,h.get? b=gV o->H b=td->b∉fs->b∉ex->h'.get? b=gV o
 slot:∀b o,h.get? b=gV o->H b=td->b∈fs->b∉ex->∃sl,h'.get? b=gV { o with slots:=sl }
 free:∀b o,h.get? b=gV o->H b=td->b∉ex->H' b=td
 there:∀b o,h.get? b=gV o->b∉ex->∃o',h'.get? b=gV o'
 tups:∀b xs,H b=gV (.tup xs)->H' b=gV (.tup xs)
 frzs:∀b o u,H b=gV (.frz o u)->H' b=gV (.frz o u)
 tbls:∀b ps,H b=gV (.tbl ps)->∃more,H' b=gV (.tbl (ps++more))
section
variable{fs fs' ex ex':Hj Hw}{H H1 H2:Hp}{h h1 h2 h':IJ}{a x e:Hw}{o:HO}
theorem Un.any (u:Un fs ex H H1 h h1){b:Hw}{ob:Jr}(q:h.get? b=gV ob)(n:H b=td)(hx:b∉ex):∃sl,h1.get? b=gV { ob with slots:=sl }:=by
 by_cases hb:b∈fs
 ·exact u.slot b ob q n hb hx
 ·exact#[ob.slots,u.keep b ob q n hb hx]
theorem Un.trans (a:Un fs ex H H1 h h1)(b:Un fs ex H1 H2 h1 h2):Un fs ex H H2 h h2 where
 keep:=λc ob q n hc hx=>b.keep c ob (a.keep c ob q n hc hx) (a.free c ob q n hx) hc hx
 slot:=λc ob q n hc hx=>by
  obtain⟨sl,e1⟩:=a.slot c ob q n hc hx;obtain⟨sl',e2⟩:=b.slot c _ e1 (a.free c ob q n hx) hc hx;exact#[sl',e2]
 free:=λc ob q n hx=>by
  obtain⟨o',e1⟩:=a.there c ob q hx;exact b.free c o' e1 (a.free c ob q n hx) hx
 there:=λc ob q hx=>by
  obtain⟨o',e1⟩:=a.there c ob q hx;exact b.there c o' e1 hx
 tups:=λc xs q=>b.tups c xs (a.tups c xs q)
 frzs:=λc ob xs q=>b.frzs c ob xs (a.frzs c ob xs q)
 tbls:=λc ps q=>by
  obtain⟨m1,e1⟩:=a.tbls c ps q;obtain⟨m2,e2⟩:=b.tbls c _ e1;exact#[m1++m2,by rw[e2,Nj]]
theorem Un.kept (k:∀b u,h.get? b=gV u->h'.get? b=gV u):Un fs ex H H h h':=
 #[λb ob q _ _ _=>k b ob q,λb ob q _ _ _=>#[ob.slots,k b ob q],λ_ _ _ n _=>n,λb ob q _=>#[ob,k b ob q],λ_ _ q=>q,λ_ _ _ q=>q,λ_ ps q=>#[#[],by rw[q]; simp]]
theorem Un.refl:Un fs ex H H h h:=Un.kept λ_ _ q=>q
theorem Un.laid (k:∀b u,h.get? b=gV u->h'.get? b=gV u)(hp:h.objs.size<=a)(hn:H a=td):Un fs ex H (bR H a o) h h' where
 keep:=λb u q _ _ _=>k b u q
 slot:=λb u q _ _ _=>#[u.slots,k b u q]
 free:=λb u q n _=>by rw[aH (Ip (Ij (HR q) hp))]; exact n
 there:=λb u q _=>#[u,k b u q]
 tups:=λb xs q=>by rw[aH (dX q hn)]; exact q
 frzs:=λb u xs q=>by rw[aH (dX q hn)]; exact q
 tbls:=λb ps q=>#[#[],by rw[aH (dX q hn),q]; simp]
theorem Un.write (mu:Dr (H x))(he:e=x\/H e=gV (.own x))(k:∀b u,b≠e->h.get? b=gV u->h'.get? b=gV u)(heo:∃u,h'.get? e=gV u):Un fs ex H (bR H x o) h h':=by
 have hx:∀b,H b=td->b≠x:=λb n z=>by subst z; rw[n]at mu; exact mu
 have hb:∀b,H b=td->b≠e:=λb n z=>by
  subst z;rcases he with r|r
  ·exact hx b n r
  ·rw[n]at r; cases r
 have hm:∀b u,H b=gV u->¬ Dr (gV u)->b≠x:=λb u q nm z=>by subst z; rw[q]at mu; exact nm mu
 refine#[λb u q n _ _=>k b u (hb b n) q,λb u q n _ _=>#[u.slots,k b u (hb b n) q],λb u q n _=>by rw[aH (hx b n)]; exact n,λb u q _=>?_,
  λb xs q=>by rw[aH (hm b _ q λz=>z)]; exact q,λb u xs q=>by rw[aH (hm b _ q λz=>z)]; exact q,λb ps q=>#[#[],by rw[aH (hm b _ q λz=>z),q]; simp]]
 by_cases hbe:b=e
 ·subst hbe; exact heo
 ·exact#[u,k b u hbe q]
end
noncomputable def Fe (h:IJ)(H:Hp):Hj Hw:=(HJ h.objs.size).filter λa=>(H a).isSome
noncomputable def mE (h:IJ)(H:Hp):IJ:=PySem.W.hideAll h (Fe h H)
theorem sN (h:IJ)(H:Hp):(mE h H).objs.size=h.objs.size:=PySem.W.hideAll_size _ _
theorem uI {h:IJ}{H:Hp}{b:Hw}{o:Jr}(e:h.get? b=gV o)(n:H b=td):(mE h H).get? b=gV o:=
 PySem.W.hideAll_get _ e λhm=>by
  have q:(H b).isSome=true:=(JE.mp hm).2;rw[n]at q; simp at q
theorem yp {h:IJ}{H:Hp}{b:Hw}{o:Jr}(e:(mE h H).get? b=gV o):h.get? b=gV o/\H b=td:=by
 have e':h.get? b=gV o:=PySem.W.of_hideAll (Fe h H) e;refine#[e',?_];cases q:H b with
 | none=>rfl
 | some x=>
  have hm:b∈Fe h H:=JE.mpr #[HL.mpr (HR e'),by simp[q]]
  have z:(mE h H).get? b=td:=PySem.W.hideAll_none (Fe h H) hm;rw[z]at e; cases e
noncomputable def yq (g h:IJ)(L:Hw):Hj (Hw×Jr):=(HJ h.objs.size).filterMap λa=>if a=L\/(g.get? a).isSome=true then td else(h.get? a).map λo=>(a,o)
noncomputable def cw (g h:IJ)(L d:Hw):Hj (Hw×Jr):=(yq g h L).filter λp=>decide (p.1≠d)
structure Mod (K:HD)(mg:HM->Hr Hm)(base:IJ):Prop where
 kin:K.In base
 glob:base.Ns mainGlobals mg
 blt:∃mb,base.Ns builtinsNs mb/\∀x:HM,x≠"__name__"->mb x=bootBuiltins x
 nolimit:base.NoLimit
structure Cx where
 prog:Io
 w:IA
 K:HD
 mg:HM->Hr Hm
 base:IJ
 A:Ix
 N:Hj HM
 s₀:Hq
 H₀:Hp
 env:NB
 outer:Hj NB
 stack:Hj NB
 ex:Hj Hw
 fn:HM->HX
 calm:HX
 pn:Hj (Hw×Jr)
 xe:Hm->Hq->Prop
noncomputable def pR (l:Hj NB):Hj Hw:=l.filterMap (·.frame)
noncomputable abbrev Cx.fs (X:Cx):Hj Hw:=pR X.outer
noncomputable def Fs (sc:KF)(x:HM):Prop:=sc.names.lookup x=gV .local\/sc.names.lookup x=gV .cell\/sc.names.lookup x=gV .free
noncomputable def yr (sc:KF)(x:HM):Prop:=sc.names.lookup x=gV .local\/sc.names.lookup x=gV .cell
noncomputable def Ft (env:NB)(h:IJ)(m:HM->Hr Hm)(x:HM)(u:Hm):Prop:=
 (env.kindOf x=gV .local/\m x=gV u)\/((env.kindOf x=gV .cell\/env.kindOf x=gV .free)/\∃c,env.cells.lookup x=gV c/\h.IsCell c (gV u))
structure Cx.Ok (X:Cx):Prop where
 mod:Mod X.K X.mg X.base
 kind:X.env.scope.kind=.function
 glob:X.env.globals=mainGlobals
 blt:X.env.builtins=builtinsNs
 above:X.s₀.heap.objs.size<=X.env.locals
 inj:∀x y c,X.env.cells.lookup x=gV c->X.env.cells.lookup y=gV c->x=y
 has:∀x,(X.env.kindOf x=gV .cell\/X.env.kindOf x=gV .free)->∃c,X.env.cells.lookup x=gV c
 cab:∀x c,X.fn x=true->X.env.cells.lookup x=gV c->X.s₀.heap.objs.size<=c
 hd:X.calm=true->X.A.handled=td
 frames:X.A.frames=gV X.stack
 stk:X.stack=X.outer\/(X.stack=X.env::X.outer/\X.env.frame=gV X.env.locals)
 exf:∀b∈X.ex,b≠X.env.locals/\∀x c,X.env.cells.lookup x=gV c->c≠b
 bs:∀b o,X.base.get? b=gV o->X.s₀.heap.get? b=gV o/\X.H₀ b=td
 bsz:X.base.objs.size<=X.s₀.heap.objs.size
 noex:∀b o,X.base.get? b=gV o->b∉X.ex
 exfs:∀b∈X.ex,b∉X.fs
 funs:X.s₀.heap.FunFrames X.base X.outer
 frf:∀b∈X.fs,X.H₀ b=td
structure Inv (X:Cx)(pins:Hj (Hw×Jr))(σ:Hj (Hr V))(H:Hp)(s:Hq):Prop where
 ok:X.Ok
 os:s.os=X.s₀.os
 bare:LY s.gens
 base:Un X.fs X.ex X.H₀ H X.s₀.heap s.heap
 loc:∃m,s.heap.Ns X.env.locals m/\∀(i:Hs) (x:HM) (v:V),X.N[i]?=gV x->σ[i]?=gV (gV v)->Fs X.env.scope x->∃u,RelV v u/\Ft X.env s.heap m x u
 cell:∀x c,X.env.cells.lookup x=gV c->∃v,s.heap.IsCell c v
 free:H X.env.locals=td
 freeC:∀x c,X.env.cells.lookup x=gV c->H c=td
 pin:∀p∈X.pn++pins,s.heap.get? p.1=gV p.2/\H p.1=td/\p.1≠X.env.locals/\p.1∉X.fs/\∀v,p.2.data≠.cell v
 hok:HOk X.prog X.w H s.heap
 len:σ.length=X.N.length
section
variable{X:Cx}{pins:Hj (Hw×Jr)}{σ:Hj (Hr V)}{H H':Hp}{s:Hq}{h':IJ}
theorem Cx.Ok.nofr (ok:X.Ok){b:Hw}{o:Jr}(e:X.base.get? b=gV o):b∉X.fs:=λhb=>by
 have:=(ok.funs.mem hb).1;rw[e]at this; cases this
theorem Inv.bs (I:Inv X pins σ H s):∀b o,X.base.get? b=gV o->s.heap.get? b=gV o/\H b=td:=λb o e=>
 #[I.base.keep b o (I.ok.bs b o e).1 (I.ok.bs b o e).2 (I.ok.nofr e) (I.ok.noex b o e),I.base.free b o (I.ok.bs b o e).1 (I.ok.bs b o e).2 (I.ok.noex b o e)]
theorem Inv.bk (I:Inv X pins σ H s):∀b o,X.base.get? b=gV o->s.heap.get? b=gV o:=λb o e=>(I.bs b o e).1
theorem Inv.mod (I:Inv X pins σ H s):Mod X.K X.mg X.base:=I.ok.mod
theorem Inv.kIn (I:Inv X pins σ H s):X.K.In s.heap:=I.ok.mod.kin.keeps I.bk
theorem Inv.lt (I:Inv X pins σ H s):X.env.locals < s.heap.objs.size:=let ⟨_,hn,_⟩:=I.loc; hn.lt
theorem Inv.sz (I:Inv X pins σ H s):X.s₀.heap.objs.size<=s.heap.objs.size:=Ih I.ok.above (Ld I.lt)
theorem Inv.nofs (I:Inv X pins σ H s){a:Hw}(h:s.heap.objs.size<=a):a∉X.fs:=λhb=>by
 obtain⟨_,o,ho,_⟩:=I.ok.funs.mem hb;exact absurd (Ij (HR ho) (Ih I.sz h)) (Ja _)
theorem Inv.cne (I:Inv X pins σ H s):∀x c,X.env.cells.lookup x=gV c->c≠X.env.locals:=λx c e z=>by
 obtain⟨v,o,ho,hd⟩:=I.cell x c e;obtain⟨m,⟨o',es,ep,ho',hd',_⟩,_⟩:=I.loc;rw[z,ho']at ho; cases ho; rw[hd']at hd; cases hd
theorem Inv.funs (I:Inv X pins σ H s):s.heap.FunFrames X.base X.outer:=by
 have all:∀(l:Hj NB),(∀b∈pR l,b∈X.fs)->X.s₀.heap.FunFrames X.base l->s.heap.FunFrames X.base l:=by
  intro l
  induction l with
  | nil=>intro _ _; trivial
  | cons env r ih=>
   intro hs hl;obtain⟨hk,⟨L,o,hf,hn,ho,hd⟩,hr⟩:=hl;have hL:L∈X.fs:=hs L (by unfold pR; rw[KS,hf]; exact Jk)
   obtain⟨sl,e⟩:=I.base.slot L o ho (I.ok.frf L hL) hL λz=>I.ok.exfs L z hL
   exact#[hk,#[L,_,hf,hn,e,hd],ih (λb hb=>hs b (by unfold pR; rw[KS,hf]; exact IL _ hb)) hr]
 exact all X.outer (λ_ hb=>hb) I.ok.funs
theorem Inv.stack (I:Inv X pins σ H s):s.heap.FunFrames X.base X.stack:=by
 rcases I.ok.stk with e|⟨e,hf⟩
 ·rw[e]; exact I.funs
 ·rw[e];obtain⟨m,hn,_⟩:=I.loc;refine .cons (by rw[I.ok.kind]; decide) hf hn ?_ I.funs
  exact Heap.get?_none_of_le (Ih I.ok.bsz I.ok.above)
theorem Inv.stkSub (I:Inv X pins σ H s):∀b∈pR X.stack,b∈X.env.locals::X.fs:=λb hb=>by
 rcases I.ok.stk with e|⟨e,hf⟩
 ·rw[e]at hb; exact IL _ hb
 ·rw[e]at hb;unfold pR at hb;rw[KS,hf]at hb;exact hb
theorem Inv.stkFree (I:Inv X pins σ H s):∀b∈pR X.stack,H b=td:=λb hb=>by
 rcases HZ.mp (I.stkSub b hb)with e|hb
 ·rw[e]; exact I.free
 ·obtain⟨_,o,ho,_⟩:=I.ok.funs.mem hb;exact I.base.free b o ho (I.ok.frf b hb) λz=>I.ok.exfs b z hb
theorem Inv.step {g':IF ML}{t':Hs}{d':Qa}{ch:Hj Hw}(I:Inv X pins σ H s)
  (hch:∀b∈ch,(b∈X.ex\/X.s₀.heap.objs.size<=b)/\b≠X.env.locals/\(∀x c,X.env.cells.lookup x=gV c->c≠b)/\∀p∈X.pn++pins,p.1≠b)
  (keep:∀b o,b≠X.env.locals->b∉X.fs->b∉ch->s.heap.get? b=gV o->H b=td->h'.get? b=gV o)
  (slot:∀b o,b≠X.env.locals->b∈X.fs->b∉ch->s.heap.get? b=gV o->H b=td->∃sl,h'.get? b=gV { o with slots:=sl }) (free:∀b o,b∉ch->s.heap.get? b=gV o->H b=td->H' b=td)
  (there:∀b o,b∉ch->s.heap.get? b=gV o->∃o',h'.get? b=gV o')
  (tups:∀b xs,H b=gV (.tup xs)->H' b=gV (.tup xs)) (frzs:∀b o u,H b=gV (.frz o u)->H' b=gV (.frz o u)) (tbls:∀b ps,H b=gV (.tbl ps)->∃more,H' b=gV (.tbl (ps++more)))
  (ns:∀m,s.heap.Ns X.env.locals m->h'.Ns X.env.locals m) (hok:HOk X.prog X.w H' h') (hg:LY g') :
  Inv X pins σ H' { s with heap:=h',gens:=g',drawn:=d',toks:=t' }:=by
 have neL:∀b o,X.s₀.heap.get? b=gV o->b≠X.env.locals:=λb o e=>Ip (Ij (HR e) I.ok.above)
 have neC:∀b o,X.s₀.heap.get? b=gV o->b∉X.ex->b∉ch:=λb o e hx hb=>by
  rcases(hch b hb).1 with z|z
  ·exact hx z
  ·exact absurd (Ij (HR e) z) (Ja _)
 have cellK:∀x c,X.env.cells.lookup x=gV c->∀v,s.heap.IsCell c v->h'.IsCell c v:=λx c e v #[o,ho,hd]=>by
  have nch:c∉ch:=λz=>(hch c z).2.2.1 x c e rfl
  by_cases hc:c∈X.fs
  ·obtain⟨sl,q⟩:=slot c o (I.cne x c e) hc nch ho (I.freeC x c e);exact#[_,q,hd]
  ·exact#[o,keep c o (I.cne x c e) hc nch ho (I.freeC x c e),hd]
 refine#[I.ok,I.os,hg,#[λb o e n hb hx=>?_,λb o e n hb hx=>?_,λb o e n hx=>?_,λb o e hx=>?_,λb xs e=>tups b xs (I.base.tups b xs e),λb o xs e=>frzs b o xs (I.base.frzs b o xs e),λb ps e=>?_],?_,λx c e=>?_,?_,λx c e=>?_,λp hp=>?_,hok,I.len]
 ·exact keep b o (neL b o e) hb (neC b o e hx) (I.base.keep b o e n hb hx) (I.base.free b o e n hx)
 ·obtain⟨sl,e1⟩:=I.base.slot b o e n hb hx;obtain⟨sl',e2⟩:=slot b _ (neL b o e) hb (neC b o e hx) e1 (I.base.free b o e n hx);exact#[sl',e2]
 ·obtain⟨o',e1⟩:=I.base.there b o e hx;exact free b o' (neC b o e hx) e1 (I.base.free b o e n hx)
 ·obtain⟨o',e1⟩:=I.base.there b o e hx;exact there b o' (neC b o e hx) e1
 ·obtain⟨m1,e1⟩:=I.base.tbls b ps e;obtain⟨m2,e2⟩:=tbls b _ e1;exact#[m1++m2,by rw[e2,Nj]]
 ·obtain⟨m,hn,hl⟩:=I.loc;refine#[m,ns m hn,λi x v e1 e2 e3=>?_]
  obtain⟨u,r,l⟩:=hl i x v e1 e2 e3;refine#[u,r,?_];rcases l with l|⟨k,c,e,z⟩
  ·exact .inl l
  ·exact .inr #[k,c,e,cellK x c e _ z]
 ·obtain⟨v,z⟩:=I.cell x c e;exact#[v,cellK x c e v z]
 ·obtain⟨m,⟨o,_,_,ho,_⟩,_⟩:=I.loc;exact free _ o (λz=>(hch _ z).2.1 rfl) ho I.free
 ·obtain⟨v,o,ho,hd⟩:=I.cell x c e;exact free c o (λz=>(hch c z).2.2.1 x c e rfl) ho (I.freeC x c e)
 ·obtain⟨e,n,ne,nf,d⟩:=I.pin p hp;have nch:p.1∉ch:=λz=>(hch p.1 z).2.2.2 p hp rfl
  exact#[keep p.1 p.2 ne nf nch e n,free p.1 p.2 nch e n,ne,nf,d]
theorem Inv.un {t':Hs}(I:Inv X pins σ H s)(u:Un X.fs [] H H' s.heap h')(hok:HOk X.prog X.w H' h'):Inv X pins σ H' { s with heap:=h',toks:=t' }:=by
 obtain⟨m,⟨o,es,ep,ho,r⟩,_⟩:=id I.loc;obtain⟨sl,hL⟩:=u.any ho I.free (by simp)
 exact I.step (g':=s.gens) (d':=s.drawn) (ch:=[]) (λ_ z=>nomatch z) (λb o _ hb _ e n=>u.keep b o e n hb (by simp)) (λb o _ hb _ e n=>u.slot b o e n hb (by simp)) (λb o _ e n=>u.free b o e n (by simp)) (λb o _ e=>u.there b o e (by simp)) u.tups u.frzs u.tbls (λm' hm=>by
  obtain⟨o',es',ep',ho',r'⟩:=hm;rw[ho]at ho'; cases ho'
  exact#[_,es',ep',hL,r']) hok I.bare
theorem Inv.call {g':IF ML}{t':Hs}{d':Qa}{ch:Hj Hw}(I:Inv X pins σ H s)(u:Un (pR X.stack) ch H H' s.heap h')(hok:HOk X.prog X.w H' h')(hg:LY g')
  (hch:∀b∈ch,(b∈X.ex\/X.s₀.heap.objs.size<=b)/\b≠X.env.locals/\(∀x c,X.env.cells.lookup x=gV c->c≠b)/\∀p∈X.pn++pins,p.1≠b) :
  Inv X pins σ H' { s with heap:=h',gens:=g',drawn:=d',toks:=t' }:=by
 obtain⟨m,⟨o,es,ep,ho,r⟩,_⟩:=id I.loc;obtain⟨sl,hL⟩:=u.any ho I.free λz=>(hch _ z).2.1 rfl
 exact I.step (ch:=ch) hch (λb o hL hb hc e n=>u.keep b o e n (λz=>(HZ.mp (I.stkSub b z)).elim hL hb) hc) (λb o _ _ hc e n=>u.any e n hc) (λb o hc e n=>u.free b o e n hc) (λb o hc e=>u.there b o e hc) u.tups u.frzs u.tbls (λm' hm=>by
  obtain⟨o',es',ep',ho',r'⟩:=hm;rw[ho]at ho'; cases ho'
  exact#[_,es',ep',hL,r']) hok hg
theorem Inv.turned {t':Hs}{it:Hw}(I:Inv X pins σ H s)(k:∀b o,b≠it->s.heap.get? b=gV o->h'.get? b=gV o)(hn:H it=td)(hL:it≠X.env.locals)
  (h1:it∈X.ex\/X.s₀.heap.objs.size<=it) (h2:∀x c,X.env.cells.lookup x=gV c->c≠it) (h3:∀p∈X.pn++pins,p.1≠it):Inv X pins σ H { s with heap:=h',toks:=t' }:=by
 have nit:∀b u,H b=gV u->b≠it:=λb u e z=>by rw[z,hn]at e; cases e
 refine I.step (g':=s.gens) (d':=s.drawn) (ch:=[it]) (λb hb=>?_) (λb o _ _ hc e _=>k b o (λz=>hc (by simp[z])) e) (λb o _ _ hc e _=>#[o.slots,k b o (λz=>hc (by simp[z])) e]) (λ_ _ _ _ n=>n)
  (λb o hc e=>#[o,k b o (λz=>hc (by simp[z])) e]) (λ_ _ e=>e) (λ_ _ _ e=>e) (λb ps e=>#[#[],by rw[e]; simp]) (λm hm=>?_) (λb u e=>?_) I.bare
 ·have e:b=it:=by simpa using hb
  subst e;exact#[h1,hL,h2,h3]
 ·obtain⟨o,es,ep,ho,r⟩:=hm;exact#[o,es,ep,k _ o (Ne.symm hL) ho,r]
 ·refine(I.hok b u e).stay (λc v hc q=>k c v ?_ q) (λ_ q=>q) λ_ _ q=>q
  rcases hc with z|z
  ·rw[z]; exact nit b u e
  ·exact nit c _ z
theorem Inv.tok (I:Inv X pins σ H s)(t:Hs):Inv X pins σ H { s with toks:=t }:=I.un (h':=s.heap) (t':=t) Un.refl I.hok
theorem Inv.kept {t':Hs}(I:Inv X pins σ H s)(k:∀b u,s.heap.get? b=gV u->h'.get? b=gV u):Inv X pins σ H { s with heap:=h',toks:=t' }:=I.un (Un.kept k) (I.hok.kept k)
theorem Inv.laid {a:Hw}{o:HO}{t':Hs}(I:Inv X pins σ H s)(k:∀b u,s.heap.get? b=gV u->h'.get? b=gV u)(hp:s.heap.objs.size<=a)(new:ObjOk X.prog X.w (bR H a o) h' a o) :
  Inv X pins σ (bR H a o) { s with heap:=h',toks:=t' }:=I.un (Un.laid k hp (I.hok.fresh hp)) (I.hok.laid k hp new)
theorem Inv.write {x e:Hw}{o:HO}{t':Hs}(I:Inv X pins σ H s)(mu:Dr (H x))(he:e=x\/H e=gV (.own x))(k:∀b u,b≠e->s.heap.get? b=gV u->h'.get? b=gV u)(heo:∃u,h'.get? e=gV u)
  (new:ObjOk X.prog X.w (bR H x o) h' x o):Inv X pins σ (bR H x o) { s with heap:=h',toks:=t' }:=I.un (Un.write mu he k heo) (I.hok.write mu he k heo new)
theorem Inv.pins_of {pins':Hj (Hw×Jr)}(I:Inv X pins σ H s)(h:∀p∈pins',s.heap.get? p.1=gV p.2/\H p.1=td/\p.1≠X.env.locals/\p.1∉X.fs/\∀v,p.2.data≠.cell v):Inv X pins' σ H s:=
 #[I.ok,I.os,I.bare,I.base,I.loc,I.cell,I.free,I.freeC,λp hp=>(Ig.mp hp).elim (λz=>I.pin p (JM _ z)) (h p),I.hok,I.len]
theorem n6 {N:Hj HM}(hN:N.Nodup){i j:Hs}{x:HM}(a:N[i]?=gV x)(b:N[j]?=gV x):i=j:=by
 obtain⟨h1,e1⟩:=HG.mp a;obtain⟨h2,e2⟩:=HG.mp b;exact(J1 hN).mp (e1.trans e2.symm)
theorem sO {M:PZ}{A:Ix}{E:Hm->Hq->Prop}{i:Hs}{x:HM}{v:V}{u:Hm}{Q:Unit->Hq->Prop}(I:Inv X pins σ H s)(hN:X.N.Nodup)(hi:X.N[i]?=gV x)(hx:yr X.env.scope x)(r:RelV v u)
  (h:∀s',Inv X pins (σ.set i (gV v)) H s'->(∃a,Kf a s.heap s'.heap/\(a=X.env.locals\/X.env.cells.lookup x=gV a))->Q () s') (hf:X.fn x=true\/X.env.scope.names.lookup x=gV .local):wpAny M A (storeName X.env x u) Q E s:=by
 obtain⟨m,hn,hl⟩:=id I.loc;have hcls:(X.env.scope.kind==.class||(X.env.scope.kind==.module&&X.env.locals != X.env.globals))=false:=by rw[I.ok.kind]; rfl
 have hiσ:i < σ.length:=by rw[I.len]; exact(HG.mp hi).1
 have cne:=I.cne;have tracked:∀ {a:Hw} {h':IJ},(∃o,s.heap.get? a=gV o/\H a=td)->Kf a s.heap h'->HOk X.prog X.w H h':=λ{a h'} ha hs b ob e=>by
  obtain⟨_,_,hfree⟩:=ha;refine(I.hok b ob e).stay (λc w' hc q=>(hs.2 c ?_).trans q) (λ_ q=>q) λ_ _ q=>q
  rintro rfl;rcases hc with rfl|hc
  ·rw[hfree]at e; cases e
  ·rw[hfree]at hc; cases hc
 rcases hx with hk|hk
 ·refine wpAny_storeName_local hk hn (λh' hn' hs=>?_) hcls
  obtain⟨oL,_,_,hoL,_⟩:=id hn;refine h _ #[I.ok,I.os,I.bare,#[λb o e n hb hx=>?_,λb o e n hb hx=>?_,I.base.free,λb o e hx=>?_,I.base.tups,I.base.frzs,I.base.tbls],#[_,hn',λj y v' e1 e2 e3=>?_],λy c e=>?_,I.free,I.freeC,λp hp=>?_,tracked #[oL,hoL,I.free] hs,by simpa using I.len] #[_,hs,.inl rfl]
  ·exact(hs.2 b (Ip (Ij (HR e) I.ok.above))).trans (I.base.keep b o e n hb hx)
  ·obtain⟨sl,e1⟩:=I.base.slot b o e n hb hx;exact#[sl,(hs.2 b (Ip (Ij (HR e) I.ok.above))).trans e1]
  ·obtain⟨o',e1⟩:=I.base.there b o e hx;exact#[o',(hs.2 b (Ip (Ij (HR e) I.ok.above))).trans e1]
  ·by_cases hj:j=i
   ·subst hj;rw[hi]at e1; cases e1
    rw[Mm hiσ]at e2;cases e2;exact#[u,r,.inl #[hk,by simp]]
   ·rw[MM (Ne.symm hj)]at e2;obtain⟨u',r',q⟩:=hl j y v' e1 e2 e3;refine#[u',r',?_];rcases q with⟨k,e⟩|⟨k,c,e,z⟩
    ·refine .inl #[k,?_];have:y≠x:=λe=>hj (n6 hN e1 (e ▸ hi))
     simp[this,e]
    ·exact .inr #[k,c,e,z.sameBut hs (cne y c e)]
  ·obtain⟨w',z⟩:=I.cell y c e;exact#[w',z.sameBut hs (cne y c e)]
  ·obtain⟨e,n,ne,nf,d⟩:=I.pin p hp;exact#[(hs.2 p.1 ne).trans e,n,ne,nf,d]
 ·have hfn:X.fn x=true:=by
   rcases hf with z|z
   ·exact z
   ·rw[z]at hk; cases hk
  obtain⟨c,hc⟩:=I.ok.has x (.inl hk);obtain⟨w',z⟩:=I.cell x c hc;refine wpAny_storeName_cell I.ok.kind hk hc z (λh' hc' hs=>?_)
  obtain⟨oc,hoc,hocd⟩:=id z;refine h { s with heap:=h' } #[I.ok,I.os,I.bare,#[λb o e n hb hx=>?_,λb o e n hb hx=>?_,I.base.free,λb o e hx=>?_,I.base.tups,I.base.frzs,I.base.tbls],#[m,hn.sameBut hs (Ne.symm (cne x c hc)),λj y v' e1 e2 e3=>?_],λy c' e=>?_,I.free,I.freeC,λp hp=>?_,tracked #[oc,hoc,I.freeC x c hc] hs,by simpa using I.len] #[c,hs,.inr hc]
  ·exact(hs.2 b (Ip (Ij (HR e) (I.ok.cab x c hfn hc)))).trans (I.base.keep b o e n hb hx)
  ·obtain⟨sl,e1⟩:=I.base.slot b o e n hb hx;exact#[sl,(hs.2 b (Ip (Ij (HR e) (I.ok.cab x c hfn hc)))).trans e1]
  ·obtain⟨o',e1⟩:=I.base.there b o e hx;exact#[o',(hs.2 b (Ip (Ij (HR e) (I.ok.cab x c hfn hc)))).trans e1]
  ·by_cases hj:j=i
   ·subst hj;rw[hi]at e1; cases e1
    rw[Mm hiσ]at e2;cases e2;exact#[u,r,.inr #[.inl hk,c,hc,hc']]
   ·rw[MM (Ne.symm hj)]at e2;obtain⟨u',r',q⟩:=hl j y v' e1 e2 e3;refine#[u',r',?_];rcases q with q|⟨k,c',e,z'⟩
    ·exact .inl q
    ·refine .inr #[k,c',e,z'.sameBut hs ?_];rintro rfl;exact hj (n6 hN e1 (I.ok.inj _ _ _ e hc ▸ hi))
  ·by_cases hcc:c'=c
   ·subst hcc; exact#[_,hc']
   ·obtain⟨w2,z2⟩:=I.cell y c' e;exact#[w2,z2.sameBut hs hcc]
  ·obtain⟨e,n,ne,nf,d⟩:=I.pin p hp;refine#[(hs.2 p.1 ?_).trans e,n,ne,nf,d];intro q;rw[q,hoc]at e;have q':oc=p.2:=IV e;exact d w' (by rw[<- q']; exact hocd)
theorem g8 {M:PZ}{A:Ix}{E:Hm->Hq->Prop}{i:Hs}{x:HM}{v:V}{u:Hm}{Q:Unit->Hq->Prop}(I:Inv X pins σ H s)(hN:X.N.Nodup)(hi:X.N[i]?=gV x)(hx:yr X.env.scope x)(r:RelV v u)
  (h:∀s',Inv X pins (σ.set i (gV v)) H s'->Q () s') (hf:X.fn x=true\/X.env.scope.names.lookup x=gV .local):wpAny M A (storeName X.env x u) Q E s:=
 sO I hN hi hx r (λs' I' _=>h s' I') hf
theorem Inv.call' {s':Hq}{ch:Hj Hw}(I:Inv X pins σ H s)(ho:s'.os=s.os)(u:Un (pR X.stack) ch H H' s.heap s'.heap)(hok:HOk X.prog X.w H' s'.heap)(hg:LY s'.gens)
  (hch:∀b∈ch,(b∈X.ex\/X.s₀.heap.objs.size<=b)/\b≠X.env.locals/\(∀x c,X.env.cells.lookup x=gV c->c≠b)/\∀p∈X.pn++pins,p.1≠b):Inv X pins σ H' s':=by
 obtain⟨h',g',d',t',o'⟩:=s';have e:o'=s.os:=ho;subst e;exact I.call (g':=g') (t':=t') (d':=d') u hok hg hch
end
noncomputable abbrev XK:=Hm->Hr Hw->Hp->Prop
noncomputable abbrev St:=Hj (Hr V)
noncomputable abbrev VK:=V->Hp->Prop
noncomputable abbrev TE:=St->Hp->VK->Prop
noncomputable abbrev TT:=St->Hp->(HX->Hp->Prop)->Prop
noncomputable abbrev TA:=St->Hp->(Hj V->Hp->Prop)->Prop
structure Ends where
 nx:St->Hp->Prop
 rt:VK
 bk:St->Hp->Prop:=λ_ _=>IY
 ct:St->Hp->Prop:=λ_ _=>IY
noncomputable abbrev TS:=Ends->St->Hp->Prop
noncomputable def EP (X:Cx)(pins:Hj (Hw×Jr))(σ:St)(Q:VK)(u:Hm)(s':Hq):Prop:=∃v H',Inv X pins σ H' s'/\RelV v u/\Q v H'
noncomputable def TP (X:Cx)(pins:Hj (Hw×Jr))(σ:St)(Q:HX->Hp->Prop)(b:HX)(s':Hq):Prop:=∃H',Inv X pins σ H' s'/\Q b H'
noncomputable def AP (X:Cx)(pins:Hj (Hw×Jr))(σ:St)(Q:Hj V->Hp->Prop)(us:Hj Hm)(s':Hq):Prop:=∃vs H',Inv X pins σ H' s'/\Vals vs us/\Q vs H'
noncomputable def SP (X:Cx)(pins:Hj (Hw×Jr))(D:Ends)(f:Flow)(s':Hq):Prop:=
 match f with
 | .next=>∃σ' H',Inv X pins σ' H' s'/\D.nx σ' H'
 | .brk=>∃σ' H',Inv X pins σ' H' s'/\D.bk σ' H'
 | .cont=>∃σ' H',Inv X pins σ' H' s'/\D.ct σ' H'
 | .ret u=>∃v σ' H',Inv X pins σ' H' s'/\RelV v u/\D.rt v H'
noncomputable def PE (X:Cx)(e:HW)(t:TE):Prop:=
 ∀(pins:Hj (Hw×Jr)) (s:Hq) (σ:St) (H:Hp) (Q:VK),Inv X pins σ H s->t σ H Q->wpAny (model X.prog X.w) X.A (eval e X.env) (EP X pins σ Q) X.xe s
noncomputable def PT (X:Cx)(e:HW)(t:TT):Prop:=
 ∀(pins:Hj (Hw×Jr)) (s:Hq) (σ:St) (H:Hp) (Q:HX->Hp->Prop),Inv X pins σ H s->t σ H Q->wpAny (model X.prog X.w) X.A (isTrue e X.env (eval e X.env)) (TP X pins σ Q) X.xe s
noncomputable def PW (X:Cx)(e:HW)(t:TT):Prop:=
 ∀(whole:Pn Hm) (pins:Hj (Hw×Jr)) (s:Hq) (σ:St) (H:Hp) (Q:HX->Hp->Prop),Inv X pins σ H s->t σ H Q->wpAny (model X.prog X.w) X.A (isTrue e X.env whole) (TP X pins σ Q) X.xe s
theorem PW.pt {X:Cx}{e:HW}{t:TT}(h:PW X e t):PT X e t:=h _
noncomputable def PA (X:Cx)(es:Hj HW)(t:TA):Prop:=
 ∀(pos:J2) (pins:Hj (Hw×Jr)) (s:Hq) (σ:St) (H:Hp) (Q:Hj V->Hp->Prop),Inv X pins σ H s->t σ H Q->wpAny (model X.prog X.w) X.A (spliced (backTo pos (starEach es X.env))) (AP X pins σ Q) X.xe s
noncomputable def PS (X:Cx)(st:Kn)(t:TS):Prop:=
 ∀(pins:Hj (Hw×Jr)) (s:Hq) (σ:St) (H:Hp) (D:Ends),Inv X pins σ H s->t D σ H->wpAny (model X.prog X.w) X.A (exec st X.env) (SP X pins D) X.xe s
noncomputable def PSs (X:Cx)(st:Hj Kn)(t:TS):Prop:=
 ∀(pins:Hj (Hw×Jr)) (s:Hq) (σ:St) (H:Hp) (D:Ends),Inv X pins σ H s->t D σ H->wpAny (model X.prog X.w) X.A (execs st X.env) (SP X pins D) X.xe s
theorem bo {α:Type}{t:Pn α}{Q Q':α->Hq->Prop}{M:PZ}{A:Ix}{E:Hm->Hq->Prop}{s:Hq}(h:wpAny M A t Q E s)(hQ:∀a s,Q a s->Q' a s):wpAny M A t Q' E s:=JA h hQ λ_ _ x=>x
section
variable{X:Cx}
theorem Hi {a b:HW}{ta tb:TE}(ha:PE X a ta)(hb:PE X b tb){pins:Hj (Hw×Jr)}{s:Hq}{σ:St}{H:Hp}{R:V->V->Hp->Prop}(I:Inv X pins σ H s)(h:ta σ H λx H1=>tb σ H1 λy H2=>R x y H2)
  {α:Type} {Q:α->Hq->Prop} {f:Hm->Hm->Pn α}
  (hf:∀v u s2 x y H2,Inv X pins σ H2 s2->RelV x v->RelV y u->R x y H2->wpAny (model X.prog X.w) X.A (f v u) Q X.xe s2) :
  wpAny (model X.prog X.w) X.A (eval a X.env) (λv s₁=>wpAny (model X.prog X.w) X.A (eval b X.env) (λu s₂=>wpAny (model X.prog X.w) X.A (f v u) Q X.xe s₂) X.xe s₁) X.xe s:=by
 refine bo (ha pins s σ H _ I h) λv s1 #[x,H1,I1,r1,q1]=>?_
 refine bo (hb pins s1 σ H1 _ I1 q1) λu s2 #[y,H2,I2,r2,q2]=>?_
 exact hf v u s2 x y H2 I2 r1 r2 q2
noncomputable def Ds (i:Hs):TE:=λσ H Q=>∃v,σ[i]?=gV (gV v)/\Q v H
noncomputable def tC (v:V):TE:=λ_ H Q=>Q v H
theorem Br {i:Hs}{x:HM}{pos:J2}(hN:X.N[i]?=gV x)(hv:Fs X.env.scope x)(hd:(x==("__debug__" : HM))=false:=by decide)(hcd:(x==("__classdict__" : HM))=false:=by decide):PE X (.Name x pos) (Ds i):=by
 intro pins s σ H Q I h;obtain⟨v,e,h⟩:=h;obtain⟨m,hn,hl⟩:=I.loc;obtain⟨u,r,l⟩:=hl i x v hN e hv;have fin:EP X pins σ Q u s:=#[v,H,I,r,h];rcases l with⟨hk,hm⟩|⟨hk,c,hc,hcell⟩
 ·exact Oz (wpAny_loadName_local I.ok.kind hk hn hm fin) hd
 ·rcases hk with hk|hk
  ·exact Oz (wpAny_loadName_cell I.ok.kind hk hc hcell fin) hd
  ·exact Oz (wpAny_loadName_free I.ok.kind hk hc hcell fin hcd) hd
theorem uJ {i j pos}:PE X (.Constant (.int i) j pos) (tC (.int i)):=λ_ _ _ H _ I h=>wpAny_Constant_int #[.int i,H,I.tok _,#[_,rfl],h]
theorem AI {b j pos}:PE X (.Constant (.bool b) j pos) (tC (.bl b)):=λ_ _ _ H _ I h=>Constant_bool #[.bl b,H,I,rfl,h]
theorem uK {j pos}:PE X (.Constant .none j pos) (tC .non):=λ_ _ _ H _ I h=>Constant_none #[.non,H,I,rfl,h]
theorem uL {x j pos}:PE X (.Constant (.str x) j pos) (tC (.str x)):=λ_ _ _ H _ I h=>Nk #[.str x,H,I.tok _,#[_,rfl],h]
noncomputable def Gl (X:Cx)(x:HM):Prop:=X.env.kindOf x=gV .globalImplicit
theorem q9 {E:Hm->Hq->Prop}{pins:Hj (Hw×Jr)}{s:Hq}{σ:St}{H:Hp}{x:HM}{u:Hm}{pos:J2}{Q:Hm->Hq->Prop}(I:Inv X pins σ H s)(hg:Gl X x)(hm:X.mg x=gV u)(h:Q u s)
  (hd:(x==("__debug__" : HM))=false:=by decide):wpAny (model X.prog X.w) X.A (eval (.Name x pos) X.env) Q E s:=
 LH I.ok.kind hg (Calls.loadGlobal_global (by rw[I.ok.glob]; exact I.mod.glob.keeps I.bk) hm h) hd
theorem iL {E:Hm->Hq->Prop}{pins:Hj (Hw×Jr)}{s:Hq}{σ:St}{H:Hp}{x:HM}{u:Hm}{pos:J2}{Q:Hm->Hq->Prop}(I:Inv X pins σ H s)(hg:Gl X x)(hm:X.mg x=td)(hv:bootBuiltins x=gV u)(h:Q u s)
  (hn:x≠"__name__":=by decide) (hd:(x==("__debug__" : HM))=false:=by decide):wpAny (model X.prog X.w) X.A (eval (.Name x pos) X.env) Q E s:=by
 obtain⟨mb,h1,h2⟩:=I.mod.blt;exact LH I.ok.kind hg (Calls.loadGlobal_builtin (by rw[I.ok.glob]; exact I.mod.glob.keeps I.bk) hm (by rw[I.ok.blt]; exact h1.keeps I.bk) ((h2 x hn).trans hv) h) hd
theorem yt {x:HM}{v:V}{u:Hm}{pos:J2}(hg:Gl X x)(hm:X.mg x=td)(hv:bootBuiltins x=gV u)(r:RelV v u)(hn:x≠"__name__":=by decide)(hd:(x==("__debug__" : HM))=false:=by decide):PE X (.Name x pos) (tC v):=
 λ_ _ _ H _ I h=>iL I hg hm hv #[v,H,I,r,h] hn hd
variable{a b:HW}{ta tb:TE}{pos:J2}
variable{tA tB':TT}{cw:Hj HW}
noncomputable def Dt (t u:TT):TT:=λσ H Q=>t σ H λc H1=>if c=true then u σ H1 Q else Q false H1
noncomputable def GL (t u:TT):TT:=λσ H Q=>t σ H λc H1=>if c=true then Q true H1 else u σ H1 Q
noncomputable def Fu (t:TT):TT:=λσ H Q=>t σ H λc H1=>Q (!c) H1
theorem yu (ha:PT X a tA):PW X (.BoolOp .And [a] pos) tA:=by
 intro wh pins s σ H Q I h;refine isTrue_and (bo (ha pins s σ H Q I h) λc s1 e=>?_)
 cases c with
 | true=>exact isTrue_and_nil e
 | false=>exact e
theorem Bs (ha:PT X a tA):PW X (.BoolOp .Or [a] pos) tA:=by
 intro wh pins s σ H Q I h;refine isTrue_or (bo (ha pins s σ H Q I h) λc s1 e=>?_)
 cases c with
 | false=>exact isTrue_or_nil e
 | true=>exact e
theorem Bt (ha:PT X a tA)(hb:PW X (.BoolOp .And (b::cw) pos) tB'):PW X (.BoolOp .And (a::b::cw) pos) (Dt tA tB'):=by
 intro wh pins s σ H Q I h;refine isTrue_and (bo (ha pins s σ H _ I h) λc s1 #[H1,I1,q1]=>?_)
 cases c with
 | true=>exact hb wh pins s1 σ H1 Q I1 q1
 | false=>exact#[H1,I1,q1]
theorem Du (ha:PT X a tA)(hb:PW X (.BoolOp .Or (b::cw) pos) tB'):PW X (.BoolOp .Or (a::b::cw) pos) (GL tA tB'):=by
 intro wh pins s σ H Q I h;refine isTrue_or (bo (ha pins s σ H _ I h) λc s1 #[H1,I1,q1]=>?_)
 cases c with
 | true=>exact#[H1,I1,q1]
 | false=>exact hb wh pins s1 σ H1 Q I1 q1
theorem Bu (ha:PT X a tA):PT X (.UnaryOp .Not a pos) (Fu tA):=by
 intro pins s σ H Q I h;exact isTrue_not (ha pins s σ H (λc H1=>Q (!c) H1) I h)
noncomputable def Dv (ta tb:TE):TE:=λσ H Q=>ta σ H λx H1=>∃c,x=.bl c/\if c=true then tb σ H1 Q else Q (.bl false) H1
noncomputable def Fv (ta tb:TE):TE:=λσ H Q=>ta σ H λx H1=>∃c,x=.bl c/\if c=true then Q (.bl true) H1 else tb σ H1 Q
noncomputable def Dw (ta:TE):TE:=λσ H Q=>ta σ H λx H1=>∃c,x=.bl c/\Q (.bl (!c)) H1
theorem Bv {op}{t:TE}(h:PE X a t):PE X (.BoolOp op [a] pos) t:=λpins s σ H Q I hw=>BoolOp_one (h pins s σ H Q I hw)
theorem Bw (ha:PE X a ta)(hb:PE X (.BoolOp .And (b::cw) pos) tb):PE X (.BoolOp .And (a::b::cw) pos) (Dv ta tb):=by
 intro pins s σ H Q I h;refine BoolOp_and (bo (ha pins s σ H _ I h) λv s1 #[x,H1,I1,r1,q1]=>?_)
 obtain⟨c,rfl,q1⟩:=q1;cases r1;refine Jj ?_;cases c with
 | true=>exact hb pins s1 σ H1 Q I1 q1
 | false=>exact#[.bl false,H1,I1,rfl,q1]
theorem Dx (ha:PE X a ta)(hb:PE X (.BoolOp .Or (b::cw) pos) tb):PE X (.BoolOp .Or (a::b::cw) pos) (Fv ta tb):=by
 intro pins s σ H Q I h;refine BoolOp_or (bo (ha pins s σ H _ I h) λv s1 #[x,H1,I1,r1,q1]=>?_)
 obtain⟨c,rfl,q1⟩:=q1;cases r1;refine Jj ?_;cases c with
 | false=>exact hb pins s1 σ H1 Q I1 q1
 | true=>exact#[.bl true,H1,I1,rfl,q1]
theorem Bx (ha:PE X a ta):PE X (.UnaryOp .Not a pos) (Dw ta):=by
 intro pins s σ H Q I h;refine UnaryOp_ (bo (ha pins s σ H _ I h) λv s1 #[x,H1,I1,r1,q1]=>?_)
 obtain⟨c,rfl,q1⟩:=q1;cases r1;exact not_of (Jj #[.bl (!c),H1,I1,rfl,q1])
noncomputable def GZ (t:TT)(ta tb:TE):TE:=λσ H Q=>t σ H λc H1=>if c=true then ta σ H1 Q else tb σ H1 Q
theorem uM {c:HW}(hc:PT X c tA)(ha:PE X a ta)(hb:PE X b tb):PE X (.IfExp c a b pos) (GZ tA ta tb):=by
 intro pins s σ H Q I h;refine wpAny_IfExp (bo (hc pins s σ H _ I h) λd s1 #[H1,I1,q1]=>?_)
 cases d with
 | true=>exact ha pins s1 σ H1 Q I1 q1
 | false=>exact hb pins s1 σ H1 Q I1 q1
end
noncomputable def SqL (K:HD)(H:Hp)(a:Hw)(xs:Hj V):Prop:=
 Rd H a (.lst xs)\/
  ∃(o:Jr) (its:IF Hm) (n:Hs),K.lookup a=gV o/\o.cls=.type "list"/\o.dict=td/\o.data=.seq its n/\its.size<=sizeLine/\Vals xs its.toList
noncomputable def SqT (K:HD)(H:Hp)(a:Hw)(xs:Hj V):Prop:=
 Rd H a (.tup xs)\/
  ∃(o:Jr) (its:IF Hm) (n:Hs),K.lookup a=gV o/\o.cls=.type "tuple"/\o.dict=td/\o.data=.seq its n/\its.size<=sizeLine/\Vals xs its.toList
noncomputable def Fw:Hm->Hr V
 | .none=>gV .non
 | .bool b=>gV (.bl b)
 | .int i _=>gV (.int i)
 | .str x _=>gV (.str x)
 | .bytes b _=>gV (.byt b)
 | .float b _=>gV (.flt b)
 | .ref a=>gV (.ref a)
 | .type n=>gV (.ty n)
 | _=>td
theorem RelV.abs {x:V}{u:Hm}(r:RelV x u):Fw u=gV x:=by
 cases x with
 | non=>cases r; rfl
 | bl _=>cases r; rfl
 | int _=>obtain⟨t,rfl⟩:=r; rfl
 | str _=>obtain⟨t,rfl⟩:=r; rfl
 | byt _=>obtain⟨t,rfl⟩:=r; rfl
 | flt _=>obtain⟨t,rfl⟩:=r; rfl
 | ref _=>cases r; rfl
 | ty _=>cases r; rfl
theorem RelV.inj {x y:V}{u:Hm}(r:RelV x u)(q:RelV y u):x=y:=IV (r.abs.symm.trans q.abs)
theorem Vals.inj:∀ {xs ys:Hj V} {us:Hj Hm},Vals xs us->Vals ys us->xs=ys
 | _,_,_,.nil,.nil=>rfl
 | _,_,_,.cons r t,.cons r' t'=>by rw[r.inj r',Vals.inj t t']
section
variable{X:Cx}{pins:Hj (Hw×Jr)}{σ:St}{H:Hp}{s:Hq}{a:Hw}{xs ys:Hj V}
theorem SqL.of {K:HD}(h:H a=gV (.lst xs)):SqL K H a xs:=.inl (.inl h)
theorem SqT.of {K:HD}(h:H a=gV (.tup xs)):SqT K H a xs:=.inl (.inl h)
theorem Inv.list (I:Inv X pins σ H s)(h:SqL X.K H a xs):∃its:Hj Hm,Vals xs its/\PlainL s.heap a its.toArray/\xs.length<=sizeLine:=by
 rcases h with h|⟨o,its,n,hk,hc,hd,hs,hz,r⟩
 ·obtain⟨z,its,n,r,e⟩:=h.ok I.hok;exact#[its,r,#[_,n,e,rfl,rfl,rfl],z]
 ·refine#[its.toList,r,#[o,n,I.kIn a o hk,hc,hd,by simpa using hs],?_]
  have e:=r.length;simp only[Iw]at e;omega
theorem Inv.tuple (I:Inv X pins σ H s)(h:SqT X.K H a xs):∃its:Hj Hm,Vals xs its/\NA s.heap a its.toArray/\xs.length<=sizeLine:=by
 rcases h with h|⟨o,its,n,hk,hc,hd,hs,hz,r⟩
 ·obtain⟨z,its,r,p⟩:=h.ok I.hok;exact#[its,r,p,z.1]
 ·refine#[its.toList,r,#[o,I.kIn a o hk,hc,n,by simpa using hs],?_]
  have e:=r.length;simp only[Iw]at e;omega
theorem Inv.list_inj (I:Inv X pins σ H s)(h:SqL X.K H a xs)(h':SqL X.K H a ys):xs=ys:=by
 obtain⟨its,r,⟨o,n,e,_,_,d⟩,_⟩:=I.list h;obtain⟨its',r',⟨o',n',e',_,_,d'⟩,_⟩:=I.list h';rw[e]at e'; cases e'
 rw[d]at d';injection d' with d1 _
 have:its=its':=by simpa using congrArg Pe d1
 subst this;exact r.inj r'
theorem Inv.tuple_inj (I:Inv X pins σ H s)(h:SqT X.K H a xs)(h':SqT X.K H a ys):xs=ys:=by
 obtain⟨its,r,⟨o,e,_,n,d⟩,_⟩:=I.tuple h;obtain⟨its',r',⟨o',e',_,n',d'⟩,_⟩:=I.tuple h';rw[e]at e'; cases e'
 rw[d]at d';injection d' with d1 _
 have:its=its':=by simpa using congrArg Pe d1
 subst this;exact r.inj r'
end
noncomputable abbrev Cx.wish (X:Cx)(E:Hm->Hq->Prop):Cx:={ X with xe:=E }
noncomputable abbrev Cx.nox (X:Cx):Cx:=X.wish λ_ _=>IY
theorem Cx.Ok.wish {X:Cx}(ok:X.Ok)(E:Hm->Hq->Prop):(X.wish E).Ok:=
 #[ok.mod,ok.kind,ok.glob,ok.blt,ok.above,ok.inj,ok.has,ok.cab,ok.hd,ok.frames,ok.stk,ok.exf,ok.bs,ok.bsz,ok.noex,ok.exfs,ok.funs,ok.frf]
theorem Cx.Ok.unwish {X:Cx}{E:Hm->Hq->Prop}(ok:(X.wish E).Ok):X.Ok:=
 #[ok.mod,ok.kind,ok.glob,ok.blt,ok.above,ok.inj,ok.has,ok.cab,ok.hd,ok.frames,ok.stk,ok.exf,ok.bs,ok.bsz,ok.noex,ok.exfs,ok.funs,ok.frf]
section
variable{X:Cx}{pins:Hj (Hw×Jr)}{σ:St}{H:Hp}{s:Hq}{E:Hm->Hq->Prop}
theorem Inv.wish (I:Inv X pins σ H s)(E:Hm->Hq->Prop):Inv (X.wish E) pins σ H s:=#[I.ok.wish E,I.os,I.bare,I.base,I.loc,I.cell,I.free,I.freeC,I.pin,I.hok,I.len]
theorem Inv.unwish (I:Inv (X.wish E) pins σ H s):Inv X pins σ H s:=#[I.ok.unwish,I.os,I.bare,I.base,I.loc,I.cell,I.free,I.freeC,I.pin,I.hok,I.len]
theorem SP.unwish {D:Ends}{f:Flow}{s':Hq}(h:SP (X.wish E) pins D f s'):SP X pins D f s':=by
 cases f with
 | next=>obtain⟨σ',H',I,q⟩:=h; exact#[σ',H',I.unwish,q]
 | brk=>obtain⟨σ',H',I,q⟩:=h; exact#[σ',H',I.unwish,q]
 | cont=>obtain⟨σ',H',I,q⟩:=h; exact#[σ',H',I.unwish,q]
 | ret u=>obtain⟨v,σ',H',I,r,q⟩:=h; exact#[v,σ',H',I.unwish,r,q]
theorem PSs.nox {st:Hj Kn}{t:TS}(h:PSs X.nox st t):PSs X st t:=λpins s σ H D I hw=>
 JA (h pins s σ H D (I.wish _) hw) (λ_ _ q=>q.unwish) λ_ _ z=>IY.elim z
end
section
variable{X:Cx}{st:Kn}{cw:Hj Kn}{t u:TS}{e:HW}{te:TE}{pos:J2}
noncomputable def uN:TS:=λD σ H=>D.nx σ H
noncomputable def Fx (t u:TS):TS:=λD σ H=>t { D with nx:=u D } σ H
theorem yv:PSs X [] uN:=λ_ _ σ H _ I h=>Mx #[σ,H,I,h]
theorem uO (h1:PS X st t)(h2:PSs X cw u):PSs X (st::cw) (Fx t u):=by
 intro pins s σ H D I h;refine wpAny_execs_cons (bo (h1 pins s σ H { D with nx:=u D } I h) λf s1 q=>?_)
 cases f with
 | next=>
  obtain⟨σ',H',I',q⟩:=q;exact h2 pins s1 σ' H' D I' q
 | ret v=>exact q
 | brk=>exact q
 | cont=>exact q
noncomputable def By:TS:=λD σ H=>D.bk σ H
noncomputable def Dy:TS:=λD σ H=>D.ct σ H
theorem yw:PS X (.Pass pos) uN:=λ_ _ σ H _ I h=>wpAny_Pass #[σ,H,I,h]
theorem uP:PS X (.Break pos) By:=λ_ _ σ H _ I h=>wpAny_Break #[σ,H,I,h]
theorem n8:PS X (.Continue pos) Dy:=λ_ _ σ H _ I h=>wpAny_Continue #[σ,H,I,h]
theorem Inv.quiet {pins:Hj (Hw×Jr)}{σ:St}{H:Hp}{s:Hq}(I:Inv X pins σ H s):interactive X.env=false:=by simp[interactive,I.ok.kind]
theorem Bz {x j pos pos'}:PS X (.Expr (.Constant (.str x) j pos) pos') uN:=λ_ s σ H _ I h=>wpAny_Expr (Nk (show SP X _ _ .next { s with toks:=s.toks+1 } from#[σ,H,I.tok _,h])) I.quiet
noncomputable def Dz (te:TE):TS:=λD σ H=>te σ H λ_ H1=>D.nx σ H1
theorem yy (he:PE X e te)(hs:swapsWith e td pos.line X.env=pure false:=by rfl):PS X (.Expr e pos) (Dz te):=by
 intro pins s σ H D I h;exact wpAny_Expr_any (bo (he pins s σ H _ I h) λv s1 #[x,H1,I1,r1,q1]=>#[σ,H1,I1,q1]) I.quiet hs
noncomputable def Fy (te:TE):TS:=λD σ H=>te σ H D.rt
theorem BA (he:PE X e te):PS X (.Return (gV e) pos) (Fy te):=by
 intro pins s σ H D I h;exact wpAny_Return_some (bo (he pins s σ H _ I h) λv s1 #[x,H1,I1,r1,q1]=>#[x,σ,H1,I1,r1,q1])
noncomputable def DA:TS:=λD _ H=>D.rt .non H
theorem yz:PS X (.Return td pos) DA:=λ_ _ σ H _ I h=>wpAny_Return_none #[.non,σ,H,I,rfl,h]
noncomputable def Fz (c:TT)(t u:TS):TS:=λD σ H=>c σ H λb H1=>if b=true then t D σ H1 else u D σ H1
theorem DB {c:HW}{a b:Hj Kn}{tc:TT}(hc:PT X c tc)(ha:PSs X a t)(hb:PSs X b u):PS X (.If c a b pos) (Fz tc t u):=by
 intro pins s σ H D I h;refine wpAny_If (bo (hc pins s σ H _ I h) λd s1 #[H1,I1,q1]=>?_)
 cases d with
 | true=>exact ha pins s1 σ H1 D I1 q1
 | false=>exact hb pins s1 σ H1 D I1 q1
end
noncomputable abbrev TG:=V->St->Hp->(St->Hp->Prop)->Prop
noncomputable abbrev BB:=Hj V->St->Hp->(St->Hp->Prop)->Prop
noncomputable def PG (X:Cx)(target:HW)(t:TG):Prop:=
 ∀(pins:Hj (Hw×Jr)) (s:Hq) (σ:St) (H:Hp) (v:V) (u:Hm) (Q:St->Hp->Prop),Inv X pins σ H s->RelV v u->t v σ H Q->
  wpAny (model X.prog X.w) X.A (assign target X.env u) (λ_ s'=>∃σ' H',Inv X pins σ' H' s'/\Q σ' H') X.xe s
noncomputable def DC (X:Cx)(ts:Hj HW)(t:BB):Prop:=
 ∀(pins:Hj (Hw×Jr)) (s:Hq) (σ:St) (H:Hp) (vs:Hj V) (us:Hj Hm) (Q:St->Hp->Prop),Inv X pins σ H s->Vals vs us->t vs σ H Q->
  wpAny (model X.prog X.w) X.A (assignInOrder ((assignEach ts X.env).map (·.2)) us) (λ_ s'=>∃σ' H',Inv X pins σ' H' s'/\Q σ' H') X.xe s
noncomputable abbrev BC:=V->V->V->Hp->(Hp->Prop)->Prop
noncomputable def BE (X:Cx)(t:BC):Prop:=
 ∀(pins:Hj (Hw×Jr)) (s:Hq) (σ:St) (H:Hp) (o i v:V) (ov iv u:Hm) (Q:Hp->Prop),Inv X pins σ H s->RelV o ov->RelV i iv->RelV v u->t o i v H Q->
  wpAny (model X.prog X.w) X.A (setItem ov iv u) (λ_ s'=>∃H',Inv X pins σ H' s'/\Q H') X.xe s
section
variable{X:Cx}{pos:J2}
noncomputable def DD (i:Hs):TG:=λv σ H Q=>Q (σ.set i (gV v)) H
theorem rc {i:Hs}{x:HM}(hN:X.N.Nodup)(hi:X.N[i]?=gV x)(hx:yr X.env.scope x)(hf:X.fn x=true\/X.env.scope.names.lookup x=gV .local):PG X (.Name x pos) (DD i):=by
 intro pins s σ H v u Q I r h;exact NC (g8 I hN hi hx r (λs' I'=>#[_,H,I',h]) hf)
noncomputable def FB:BB:=λvs σ H Q=>vs=[]/\Q σ H
noncomputable def DE (t:TG)(u:BB):BB:=λvs σ H Q=>∃v r,vs=v::r/\t v σ H λσ' H'=>u r σ' H' Q
theorem yA:DC X [] FB:=by
 intro pins s σ H vs us Q I r h;obtain⟨e,h⟩:=h;subst e;cases r;exact ND #[σ,H,I,h]
theorem uQ {e:HW}{es:Hj HW}{t:TG}{u:BB}(h1:PG X e t)(h2:DC X es u)
  (hs:(assignEach (e::es) X.env).map (·.2)=assign e X.env::(assignEach es X.env).map (·.2):=by rfl):DC X (e::es) (DE t u):=by
 intro pins s σ H vs us Q I r h;obtain⟨v,vr,e1,h⟩:=h;subst e1;cases r with
 | cons r rr=>
  rw[hs];refine LI (bo (h1 pins s σ H _ _ _ I r h) λ_ s1 #[σ1,H1,I1,q1]=>?_)
  exact h2 pins s1 σ1 H1 _ _ Q I1 rr q1
noncomputable def FC (K:HD)(n:Hs)(t:BB):TG:=λv σ H Q=>∃a xs,v=.ref a/\SqT K H a xs/\xs.length=n/\t xs σ H Q
theorem BF {es:Hj HW}{k:Hs}{t:BB}{n:Hs}(hc:X.calm=true)(h:DC X es t)
  (hn:(assignEach es X.env).length=n:=by rfl) (hst:(assignEach es X.env).findIdx? (·.1)=td:=by rfl):PG X (.Tuple es k pos) (FC X.K n t):=by
 intro pins s σ H v u Q I r hw;obtain⟨a,xs,e1,hq,hl,hw⟩:=hw;subst e1;cases r;obtain⟨its,rv,ht,hz⟩:=I.tuple hq;refine assign_Tuple_tuple (I.ok.hd hc) ht (by simp[hn,<- hl,rv.length]) hst λh' hx=>?_
 have I1:Inv X pins σ H { s with heap:=h' }:=I.kept (t':=s.toks) λb o e=>hx b o (Ip (HR e)) e
 exact h pins _ σ H xs _ Q I1 (by simpa using rv) hw
noncomputable def FD (to ti:TE)(t:BC):TG:=λv σ H Q=>to σ H λo H1=>ti σ H1 λi H2=>t o i v H2 λH3=>Q σ H3
theorem BG {o i:HW}{to ti:TE}{t:BC}(ho:PE X o to)(hi:PE X i ti)(hs:BE X t)
  (ha:∀v,assign (.Subscript o i pos) X.env v=(do
   let ov <- holding [v] (eval o X.env)
   let iv <- holding [v,ov] (eval i X.env)
   standAt pos
   holding [v,ov,iv] (setItem ov iv v)
   release [v,ov,iv] []):=by intro _; rfl):PG X (.Subscript o i pos) (FD to ti t):=by
 intro pins s σ H v u Q I r h;rw[ha];refine Hl (Jn (bo (ho pins s σ H _ I h) λov s1 #[x,H1,I1,r1,q1]=>?_))
 refine Hl (Jn (bo (hi pins s1 σ H1 _ I1 q1) λiv s2 #[y,H2,I2,r2,q2]=>?_))
 refine Hl (Lu (Hl (Jn (bo (hs pins s2 σ H2 x y v ov iv u _ I2 r1 r2 r q2) λ_ s3 #[H3,I3,q3]=>?_))))
 exact wpAny_release #[σ,H3,I3,q3]
noncomputable def FH (te:TE)(g:TG):TS:=λD σ H=>te σ H λx H1=>g x σ H1 D.nx
theorem BH {tg e:HW}{te:TE}{g:TG}(he:PE X e te)(hg:PG X tg g)(hs:swapsWithSole [tg] e pos.line X.env=pure false:=by rfl)(hw:swappedStores [tg] e X.env=pure td:=by rfl)
  (h1:(assignEach [tg] X.env).map (·.2)=[assign tg X.env]:=by rfl):PS X (.Assign [tg] e pos) (FH te g):=by
 intro pins s σ H D I h;refine wpAny_Assign_stores (bo (he pins s σ H _ I h) λv s1 #[x,H1,I1,r1,q1]=>?_) hs hw
 rw[h1];exact bo (hg pins s1 σ H1 x v _ I1 r1 q1) λ_ s2 q=>q
noncomputable def FJ (i j:Hs)(ta:TA):TS:=λD σ H=>ta σ H λvs H1=>∃v w,vs=[v,w]/\D.nx ((σ.set i (gV v)).set j (gV w)) H1
theorem BI {i j:Hs}{x y:HM}{a b:HW}{ta:TA}{px py pt:J2}{kt k2 pt2}(hc:X.calm=true)(hN:X.N.Nodup)(hi:X.N[i]?=gV x)(hj:X.N[j]?=gV y)(hij:i≠j)
  (hx:X.env.scope.names.lookup x=gV .local) (hy:X.env.scope.names.lookup y=gV .local) (ha:PA X [a,b] ta)
  (hw:swappedStores [.Tuple [.Name x px,.Name y py] kt pt] (.Tuple [a,b] k2 pt2) X.env=pure (gV [x,y]))
  (hs:swapsWithSole [.Tuple [.Name x px,.Name y py] kt pt] (.Tuple [a,b] k2 pt2) pos.line X.env=pure false:=by rfl) :
  PS X (.Assign [.Tuple [.Name x px,.Name y py] kt pt] (.Tuple [a,b] k2 pt2) pos) (FJ i j ta):=by
 intro pins s σ H D I h;rw[exec_Assign_arm];refine Hl (Lu ?_);rw[hs];refine Hl (HB ?_);rw[Iy #v[]]
 refine Hl (Tuple_ (bo (ha _ pins s σ H _ I h) λus s1 #[vs,H1,I1,r1,q1]=>?_))
 obtain⟨v,w,e1,q1⟩:=q1;subst e1;obtain⟨u1,u2,rfl,rv,rw'⟩ : ∃u1 u2,us=[u1,u2]/\RelV v u1/\RelV w u2:=by
  cases r1 with
  | cons p q=>
   cases q with
   | cons p' q'=>
    cases q';exact#[_,_,rfl,p,p']
 refine IK ?_ (by show 2<=sizeLine; decide)
 have I2:Inv X pins σ H1 { s1 with heap:=s1.heap.push { cls:=.type "tuple",data:=.seq [u1,u2].toArray } }:=I1.kept (t':=s1.toks) λb o e=>Hu _ e
 rw[hw];refine Hl (HB ?_);show wpAny (model X.prog X.w) X.A (do rule "assign.swapped-stores"; let items <- unpackItems (.ref s1.heap.objs.size) 2 td; assignInOrder [λv=>bindName X.env y v,λv=>bindName X.env x v] items.reverse; pure P4) _ _ _
 refine Hl (Nl (Hl (unpackItems_tuple (items:=[u1,u2].toArray) (I.ok.hd hc) (N2 s1.heap _) λh' hx'=>?_)))
 have I3:=I2.kept (h':=h') (t':=s1.toks) λb o e=>hx' b o (Ip (HR e)) e
 show wpAny _ _ (assignInOrder [λv=>bindName X.env y v,λv=>bindName X.env x v] [u2,u1] >>= λ_=>pure P4) _ _ _
 refine Hl (LI (OA (g8 I3 hN hj (.inl hy) rw' (λs2 I4=>?_) (.inr hy))))
 refine LI (OA (g8 I4 hN hi (.inl hx) rv (λs3 I5=>ND (HB ?_)) (.inr hx)))
 rw[List.set_comm _ _ (Ne.symm hij)]at I5;exact#[_,H1,I5,q1]
end
section
variable{X:Cx}{pos:J2}
noncomputable def BJ (c:TT)(tb:TS):TS:=λD σ H=>∃W:Hs->St->Hp->Prop,(∃m,W m σ H)/\∀m σ H,W m σ H->
 c σ H λb H1=>if b=true then ∃N:St->Hp->Prop,(∀σ' H',N σ' H'->∃m',m' < m/\W m' σ' H')/\tb { D with nx:=N,ct:=N,bk:=D.nx } σ H1 else D.nx σ H1
theorem uR {c:HW}{body:Hj Kn}{tc:TT}{tb:TS}(hp:M1 (model X.prog X.w) X.A X.env X.xe)(hc:PT X c tc)(hb:PSs X body tb):PS X (.While c body [] pos) (BJ tc tb):=by
 intro pins s σ H D I h;obtain⟨W,⟨m0,w0⟩,turn⟩:=h;refine wpAny_While (codeAny_whileLoop (λn s'=>∃σ' H',Inv X pins σ' H' s'/\W n σ' H') ?_ m0 #[σ,H,I,w0])
 rintro n s1 ⟨σ1,H1,I1,w1⟩;refine Kb hp (bo (hc pins s1 σ1 H1 _ I1 (turn n σ1 H1 w1)) λb s2 #[H2,I2,q2]=>?_)
 cases b with
 | true=>
  obtain⟨N,hN,q2⟩:=q2;rw[HY rfl];refine Kb hp (bo (hb pins s2 σ1 H2 _ I2 q2) λf s3 q3=>?_)
  cases f with
  | next=>
   obtain⟨σ3,H3,I3,n3⟩:=q3;obtain⟨m',hm,w3⟩:=hN σ3 H3 n3;exact#[m',hm,σ3,H3,I3,w3]
  | cont=>
   obtain⟨σ3,H3,I3,n3⟩:=q3;obtain⟨m',hm,w3⟩:=hN σ3 H3 n3;exact#[m',hm,σ3,H3,I3,w3]
  | brk=>exact q3
  | ret v=>exact q3
 | false=>
  rw[Iy HN];exact Mx #[σ1,H2,I2,q2]
end
structure It where
 go:Hs->Hp->Prop
 yld:Hs->Hp->V->Hp->Prop
 stop:Hs->Hp->Prop
noncomputable def iM (X:Cx)(pins:Hj (Hw×Jr))(H:Hp)(b:Hw):Prop:=
 H b=td/\b≠X.env.locals/\b∉X.fs/\(b∈X.ex\/X.s₀.heap.objs.size<=b)/\(∀x c,X.env.cells.lookup x=gV c->c≠b)/\∀p∈X.pn++pins,p.1≠b
theorem Inv.fpOk {X:Cx}{pins:Hj (Hw×Jr)}{σ:St}{H H':Hp}{s:Hq}{b:Hw}(I:Inv X pins σ H s)(hb:s.heap.objs.size<=b)(hn:H' b=td):iM X pins H' b:=by
 refine#[hn,Kv (Ij I.lt hb),I.nofs hb,.inr (Ih I.sz hb),λx c e z=>?_,λp hp z=>?_]
 ·obtain⟨v,q⟩:=I.cell x c e;exact absurd (Ij q.lt (by rw[z]; exact hb)) (Ja _)
 ·exact absurd (Ij (HR (I.pin p hp).1) (by rw[z]; exact hb)) (Ja _)
structure Turn (P:Io)(w:IA)(K:HD)(tg:HW)(J:It)(fp:Hj Hw)(it:Hw)(tn:Hs->IJ->Prop):Prop where
 mem:it∈fp
 obj:∀i h,tn i h->∀b∈fp,∃o,h.get? b=gV o/\∀v,o.data≠.cell v
 keep:∀i h h',tn i h->(∀b∈fp,∀o,h.get? b=gV o->h'.get? b=gV o)->tn i h'
 item:∀(X:Cx),X.prog=P->X.w=w->X.K=K->X.calm=true->∀(i:Hs) (pins:Hj (Hw×Jr)) (s:Hq) (σ:St) (H:Hp) (E:Hm->Hq->Prop),Inv X pins σ H s->(∀b∈fp,iM X pins H b)->tn i s.heap->J.go i H->
  wpAny (model P w) X.A (pyNext (.ref it)) (λr s1=>∃u,r=gV u/\
   wpAny (model P w) X.A (letOwnedTupleGo tg (.ref it) u) (λ_ s2=>∃x H',Inv X pins σ H' s2/\RelV x u/\J.yld i H x H'/\tn (i+1) s2.heap/\∀b∈fp,H' b=td) E s1) E s
 done:∀(X:Cx),X.prog=P->X.w=w->X.K=K->X.calm=true->∀(i:Hs) (pins:Hj (Hw×Jr)) (s:Hq) (σ:St) (H:Hp) (E:Hm->Hq->Prop),Inv X pins σ H s->(∀b∈fp,iM X pins H b)->tn i s.heap->J.stop i H->
  wpAny (model P w) X.A (pyNext (.ref it)) (λr s1=>r=td/\Inv X pins σ H s1) E s
 self:∀(A:Ix) (i:Hs) (s:Hq) (Q:Hm->Hq->Prop) (E:Hm->Hq->Prop),tn i s.heap->Q (.ref it) s->wpAny (model P w) A (pyIter (.ref it)) Q E s
noncomputable abbrev TI:=St->Hp->(It->Hp->Prop)->Prop
noncomputable def Ff (X:Cx)(pins:Hj (Hw×Jr))(σ:St)(tg:HW)(R:It->Hp->Prop)(itv:Hm)(s2:Hq):Prop:=
 ∃(it:Hw) (fp:Hj Hw) (tn:Hs->IJ->Prop) (J:It) (H':Hp),itv=.ref it/\Inv X pins σ H' s2/\Turn X.prog X.w X.K tg J fp it tn/\tn 0 s2.heap/\(∀b∈fp,iM X pins H' b)/\R J H'
noncomputable def PI (X:Cx)(tg iter:HW)(wi:TI):Prop:=
 ∀(pins:Hj (Hw×Jr)) (s:Hq) (σ:St) (H:Hp) (R:It->Hp->Prop),Inv X pins σ H s->wi σ H R->
  wpAny (model X.prog X.w) X.A (eval iter X.env) (λv s1=>wpAny (model X.prog X.w) X.A (pyIter v) (Ff X pins σ tg R) X.xe s1) X.xe s
theorem re {M:PZ}{A:Ix}{E:Hm->Hq->Prop}{s:Hq}{tg:HW}{it:Hw}{u:Hm}{o:Jr}{n:Jf}{vs:IF Hm}{Q:Unit->Hq->Prop}(ho:s.heap.get? it=gV o)(hc:o.cls=.type n)(hd:o.data=.fields vs)
    (hn:["enumerate","zip","dict_itemiterator","dict_reverseitemiterator","odict_iterator","itertools.zip_longest","itertools.pairwise"].contains n=false) (hQ:Q () s):wpAny M A (letOwnedTupleGo tg (.ref it) u) Q E s:=by
  unfold letOwnedTupleGo;cases tg <;> first
    | exact HB hQ
    | (cases u <;> first
        | exact HB hQ
        | (refine Hl (Nm ho ?_)
           rw[hc,hd];show wpAny M A (if (["enumerate","zip","dict_itemiterator","dict_reverseitemiterator","odict_iterator","itertools.zip_longest","itertools.pairwise"].contains n&&vs[0]?==gV (rawInt _))=true then _ else _) Q E s
           rw[Iy (by intro h; rw[hn,Bool.false_and]at h; cases h)]
           exact HB hQ))
noncomputable def FK (K:HD)(a:Hw):It:=
 #[λi H=>∃xs x,SqL K H a xs/\xs[i]?=gV x,λi H x H'=>H'=H/\∀xs,SqL K H a xs->xs[i]?=gV x,λi H=>∃xs,SqL K H a xs/\xs.length<=i]
noncomputable def Dj (K:HD)(a:Hw):It:=
 #[λi H=>∃xs x,SqT K H a xs/\xs[i]?=gV x,λi H x H'=>H'=H/\∀xs,SqT K H a xs->xs[i]?=gV x,λi H=>∃xs,SqT K H a xs/\xs.length<=i]
noncomputable def DF (lo:Hy)(n:Hs):It:=#[λi _=>i < n,λi H x H'=>H'=H/\x=.int (lo+i),λi _=>n<=i]
theorem sP {P:Io}{w:IA}{K:HD}{tg:HW}(a it:Hw):Turn P w K tg (FK K a) [it] it (λi h=>h.IsListIter it a i) where
 mem:=by simp
 obj:=λi h st b hb=>by
  have e:b=it:=by simpa using hb
  subst e;obtain⟨o,e,c,d⟩:=st;exact#[o,e,λv z=>by rw[d]at z; cases z]
 keep:=λi h h' st k=>st.at λo e=>k it (by simp) o e
 item:=by
  intro X hP hw hK hc i pins s σ H E I hf st hg;subst hP hw hK;obtain⟨xs,x,hq,hx⟩:=hg;obtain⟨its,rv,p,hz⟩:=I.list hq;obtain⟨u,hu,ru⟩:=rv.get hx;obtain⟨f0,f1,f2,f3,f4,f5⟩:=hf it (by simp)
  refine wpAny_pyNext_list_item st p.isList (x:=u) (by simpa using hu) λh' st' sb=>?_
  have I1:Inv X pins σ H { s with heap:=h' }:=I.turned (t':=s.toks) (λb o hb e=>(sb.2 b hb).trans e) f0 f1 f3 f4 f5
  obtain⟨o,e,c,d⟩:=id st';exact#[u,rfl,re (s:={ s with heap:=h' }) e c d #v[] #[x,H,I1,ru,#[rfl,λys hy=>by rw[I.list_inj hy hq]; exact hx],st',λb hb=>(hf b hb).1]]
 done:=by
  intro X hP hw hK hc i pins s σ H E I hf st hg;subst hP hw hK;obtain⟨xs,hq,hx⟩:=hg;obtain⟨its,rv,p,hz⟩:=I.list hq;obtain⟨f0,f1,f2,f3,f4,f5⟩:=hf it (by simp)
  have hl:=rv.length;exact wpAny_pyNext_list_end (I.ok.hd hc) st p.isList (by simp; omega) λh' eb=>#[rfl,I.turned (t':=s.toks) (λb o hb e=>eb b o hb e) f0 f1 f3 f4 f5]
 self:=λ_ _ _ _ _ st h=>wpAny_pyIter_listiter st h
theorem pS {P:Io}{w:IA}{K:HD}{tg:HW}(a it:Hw):Turn P w K tg (Dj K a) [it] it (λi h=>h.IsTupleIter it a i) where
 mem:=by simp
 obj:=λi h st b hb=>by
  have e:b=it:=by simpa using hb
  subst e;obtain⟨o,e,c,d⟩:=st;exact#[o,e,λv z=>by rw[d]at z; cases z]
 keep:=λi h h' st k=>st.at λo e=>k it (by simp) o e
 item:=by
  intro X hP hw hK hc i pins s σ H E I hf st hg;subst hP hw hK;obtain⟨xs,x,hq,hx⟩:=hg;obtain⟨its,rv,p,hz⟩:=I.tuple hq;obtain⟨u,hu,ru⟩:=rv.get hx;obtain⟨f0,f1,f2,f3,f4,f5⟩:=hf it (by simp)
  refine wpAny_pyNext_tuple_item st (show s.heap.IsTuple a its.toArray from p) (x:=u) (by simpa using hu) λh' st' sb=>?_
  have I1:Inv X pins σ H { s with heap:=h' }:=I.turned (t':=s.toks) (λb o hb e=>(sb.2 b hb).trans e) f0 f1 f3 f4 f5
  obtain⟨o,e,c,d⟩:=id st';exact#[u,rfl,re (s:={ s with heap:=h' }) e c d #v[] #[x,H,I1,ru,#[rfl,λys hy=>by rw[I.tuple_inj hy hq]; exact hx],st',λb hb=>(hf b hb).1]]
 done:=by
  intro X hP hw hK hc i pins s σ H E I hf st hg;subst hP hw hK;obtain⟨xs,hq,hx⟩:=hg;obtain⟨its,rv,p,hz⟩:=I.tuple hq;obtain⟨f0,f1,f2,f3,f4,f5⟩:=hf it (by simp)
  have hl:=rv.length;exact wpAny_pyNext_tuple_end (I.ok.hd hc) st (show s.heap.IsTuple a its.toArray from p) (by simp; omega) λh' eb=>#[rfl,I.turned (t':=s.toks) (λb o hb e=>eb b o hb e) f0 f1 f3 f4 f5]
 self:=λ_ _ _ _ _ st h=>wpAny_pyIter_tupleiter st h
theorem pT {P:Io}{w:IA}{K:HD}{tg:HW}(it:Hw)(lo:Hy)(n:Hs):Turn P w K tg (DF lo n) [it] it (λi h=>Po h it (lo+(i:Hs)*1) ((n:Hy) - (i:Hs)) 1) where
 mem:=by simp
 obj:=λi h st b hb=>by
  have e:b=it:=by simpa using hb
  subst e;exact#[_,st,λv z=>by
   have z':Data.fields _=Data.cell v:=z;cases z']
 keep:=λi h h' st k=>k it (by simp) _ st
 item:=by
  intro X hP hw hK hc i pins s σ H E I hf st hg;subst hP hw hK;obtain⟨f0,f1,f2,f3,f4,f5⟩:=hf it (by simp)
  have W:=Walks.range (prog:=X.prog) (w:=X.w) (I.ok.hd hc) it lo 1 n;refine W.item i s _ _ hg st λv h' tk hv st' kk=>?_
  obtain⟨t,rfl⟩:=hv;have I1:Inv X pins σ H { s with heap:=h',toks:=tk }:=I.turned (λb o hb e=>kk b o (by simpa using hb) e) f0 f1 f3 f4 f5
  refine#[_,rfl,re (s:={ s with heap:=h',toks:=tk }) (n:="range_iterator") st' rfl rfl #v[] #[.int (lo+i),H,I1,#[t,?_],#[rfl,rfl],st',λb hb=>(hf b hb).1]]
  rw[Int.mul_one]
 done:=by
  intro X hP hw hK hc i pins s σ H E I hf st hg;subst hP hw hK;obtain⟨f0,f1,f2,f3,f4,f5⟩:=hf it (by simp)
  exact wpAny_pyNext_range_end (I.ok.hd hc) st (by have:n<=i:=hg; omega) λh' eb=>#[rfl,I.turned (t':=s.toks) (λb o hb e=>eb b o hb e) f0 f1 f3 f4 f5]
 self:=λ_ _ _ _ _ st h=>wpAny_pyIter_rangeiter st h
section
variable{X:Cx}{tg:HW}
theorem og {pins:Hj (Hw×Jr)}{σ:St}{H:Hp}{s:Hq}{R:It->Hp->Prop}{E:Hm->Hq->Prop}{lo hi:Hy}{t u v:Qg}{tk:Hs}(I:Inv X pins σ H s)(h1 : -(2 ^ 62)<=lo)(h2:lo < 2 ^ 62)(h3 : -(2 ^ 62)<=hi)(h4:hi < 2 ^ 62)
  (q:R (DF lo (hi - lo).toNat) H):wpAny (model X.prog X.w) X.A (pyIter (.ref s.heap.objs.size)) (Ff X pins σ tg R) E { s with heap:=s.heap.push { cls:=.type "range",data:=.fields [.int lo t,.int hi u,.int 1 v].toArray },toks:=tk }:=by
 refine wpAny_pyIter_range (IsRange.new ..) (Pc h1 h2 h3 h4) ?_;have I1:Inv X pins σ H { s with heap:=s.heap.push { cls:=.type "range",data:=.fields [.int lo t,.int hi u,.int 1 v].toArray },toks:=tk }:=I.kept λb o e=>Hu _ e
 refine#[(s.heap.push { cls:=.type "range",data:=.fields [.int lo t,.int hi u,.int 1 v].toArray }).objs.size,[(s.heap.push { cls:=.type "range",data:=.fields [.int lo t,.int hi u,.int 1 v].toArray }).objs.size],_,_,H,rfl,
  I1.kept (t':=tk) λb o e=>Hu _ e,pT _ lo (hi - lo).toNat,?_,λb hb=>?_,q]
 ·have e1:lo+((0:Hs):Hy)*1=lo:=by simp
  have e2:(((hi - lo).toNat:Hs):Hy) - ((0:Hs):Hy)=JB lo hi 1:=by rw[M9]; split <;> omega
  show Po _ _ (lo+((0:Hs):Hy)*1) ((((hi - lo).toNat:Hs):Hy) - ((0:Hs):Hy)) 1;rw[e1,e2];exact HQ _ rfl
 ·have e:b=(s.heap.push { cls:=.type "range",data:=.fields [.int lo t,.int hi u,.int 1 v].toArray }).objs.size:=by simpa using hb
  subst e;exact I1.fpOk (HC _) (I1.hok.fresh (HC _))
noncomputable def DH (ta:TA):TI:=λσ H R=>ta σ H λvs H1=>∃j:Hy,vs=[.int j]/\-(2 ^ 62)<=j/\j < 2 ^ 62/\R (DF 0 j.toNat) H1
noncomputable def iRng2 (ta:TA):TI:=λσ H R=>ta σ H λvs H1=>∃i j:Hy,vs=[.int i,.int j]/\(-(2 ^ 62)<=i/\i < 2 ^ 62/\-(2 ^ 62)<=j/\j < 2 ^ 62)/\R (DF i (j - i).toNat) H1
theorem sQ {a:HW}{ta:TA}{p pos:J2}(hg:Gl X "range")(hm:X.mg "range" = td)(ha:PA X [a] ta)(hs:starEach [a] X.env=[(false,eval a X.env)]:=by rfl):PI X tg (.Call (.Name "range" p) [a] [] pos) (DH ta):=by
 intro pins s σ H R I h;refine Call_ (iL I hg hm boot_range (JW (bo (ha pos pins s σ H _ I h) λus s1 #[vs,H1,I1,r1,q1]=>?_) hs rfl))
 obtain⟨j,e,q1,q2,q⟩:=q1;subst e;cases r1 with
 | cons r rr=>
  cases rr;obtain⟨t,rfl⟩:=r;exact Pf (og I1 ∅ ∅ q1 q2 (by simpa using q))
theorem sR {a b:HW}{ta:TA}{p pos:J2}(hg:Gl X "range")(hm:X.mg "range" = td)(ha:PA X [a,b] ta)(hs:starEach [a,b] X.env=[(false,eval a X.env),(false,eval b X.env)]:=by rfl)(hs2:starEach [b] X.env=[(false,eval b X.env)]:=by rfl) :
  PI X tg (.Call (.Name "range" p) [a,b] [] pos) (iRng2 ta):=by
 intro pins s σ H R I h;refine Call_ (iL I hg hm boot_range (JW (bo (ha pos pins s σ H _ I h) λus s1 #[vs,H1,I1,r1,q1]=>?_) (by rw[hs,hs2]) (by rw[hs2]; rfl)))
 obtain⟨i,j,e,⟨q1,q2,q3,q4⟩,q⟩:=q1;subst e;cases r1 with
 | cons r rr=>
  cases rr with
  | cons r' rr=>
   cases rr;obtain⟨t,rfl⟩:=r;obtain⟨t',rfl⟩:=r';exact call_range_2 (og I1 q1 q2 q3 q4 q)
noncomputable def FL (wi:TI)(g:TG)(tb:TS):TS:=λD σ H=>wi σ H λJ H1=>∃W:Hs->Hs->St->Hp->Prop,(∃m,W 0 m σ H1)/\∀i m σ H,W i m σ H->
 (J.stop i H/\D.nx σ H)\/(J.go i H/\∃N:St->Hp->Prop,(∀σ' H',N σ' H'->∃m',m' < m/\W (i+1) m' σ' H')/\∀x H',J.yld i H x H'->g x σ H' λσ2 H2=>tb { D with nx:=N,ct:=N,bk:=D.nx } σ2 H2)
noncomputable def iN (fp:Hj Hw)(h:IJ):Hj (Hw×Jr):=fp.filterMap λb=>(h.get? b).map λo=>(b,o)
theorem eY {fp:Hj Hw}{h:IJ}{b:Hw}{o:Jr}(hb:b∈fp)(e:h.get? b=gV o):(b,o)∈iN fp h:=Nn.mpr #[b,hb,by rw[e]; rfl]
theorem sS {fp:Hj Hw}{h:IJ}{p:Hw×Jr}(hp:p∈iN fp h):p.1∈fp/\h.get? p.1=gV p.2:=by
 obtain⟨b,hb,e⟩:=Nn.mp hp;cases q:h.get? b with
 | none=>rw[q]at e; cases e
 | some o=>
  rw[q]at e;have e':(b,o)=p:=IV e;subst e';exact#[hb,q]
theorem Inv.pinned {pins:Hj (Hw×Jr)}{σ:St}{H:Hp}{s:Hq}{fp:Hj Hw}(I:Inv X pins σ H s)(hf:∀b∈fp,iM X pins H b)(ho:∀b∈fp,∃o,s.heap.get? b=gV o/\∀v,o.data≠.cell v):Inv X (pins++iN fp s.heap) σ H s:=
 I.pins_of λp hp=>(Ig.mp hp).elim (λz=>I.pin p (Iu _ z)) λz=>by
  obtain⟨hb,e⟩:=sS z;obtain⟨f0,f1,f2,_⟩:=hf p.1 hb;obtain⟨o,e',d⟩:=ho p.1 hb;rw[e]at e'; cases e'
  exact#[e,f0,f1,f2,d]
theorem Inv.unpinned {pins pl:Hj (Hw×Jr)}{σ:St}{H:Hp}{s:Hq}(I:Inv X (pins++pl) σ H s):Inv X pins σ H s:=I.pins_of λp hp=>I.pin p (Iu _ (JM _ hp))
theorem BK {iter:HW}{body:Hj Kn}{wi:TI}{g:TG}{tb:TS}{pos:J2}(hp:M1 (model X.prog X.w) X.A X.env X.xe)(hc:X.calm=true)(hi:PI X tg iter wi)(hg:PG X tg g)(hb:PSs X body tb)
  (hs:∀x,foldedSetIterable iter X.env x=pure x:=by intro _; rfl):PS X (.For tg iter body [] pos) (FL wi g tb):=by
 intro pins s σ H D I h;refine wpAny_For (bo (hi pins s σ H _ I h) λv s1 h1=>bo h1 λitv s2 h2=>?_) hs
 obtain⟨it,fp,tn,J,H2,e,I2,T,aF,f2,W,⟨m0,w0⟩,turn⟩:=h2;subst e;have stat:∀ {H':Hp},(∀b∈fp,H' b=td)->∀b∈fp,iM X pins H' b:=λhn b hb=>#[hn b hb,(f2 b hb).2]
 refine codeAny_forLoop_any (λn s'=>∃i σ' H',Inv X pins σ' H' s'/\tn i s'.heap/\(∀b∈fp,H' b=td)/\W i n σ' H') ?_ m0 #[0,σ,H2,I2,aF,λb hb=>(f2 b hb).1,w0]
 rintro n s3 ⟨i,σ3,H3,I3,st3,fr3,w3⟩;rcases turn i n σ3 H3 w3 with⟨stop,qn⟩|⟨go,N,hN,step⟩
 ·refine Kb hp (bo (T.done X rfl rfl rfl hc i pins s3 σ3 H3 X.xe I3 (stat fr3) st3 stop) λr s4 #[hr,I4]=>?_)
  subst hr;exact Mx #[σ3,H3,I4,qn]
 ·refine Kb hp (bo (T.item X rfl rfl rfl hc i pins s3 σ3 H3 X.xe I3 (stat fr3) st3 go) λr s4 #[u,hr,h4]=>?_)
  subst hr;refine Kb hp (bo h4 λ_ s5 #[x,H5,I5,r5,y5,st5,fr5]=>?_)
  have I5':=I5.pinned (stat fr5) (T.obj _ _ st5);refine Kb hp (bo (hg _ s5 σ3 H5 x u _ I5' r5 (step x H5 y5)) λ_ s6 #[σ6,H6,I6,q6]=>?_)
  refine Kb hp (bo (hb _ s6 σ6 H6 _ I6 q6) λf s7 q7=>?_)
  have again:∀ {σ7:St} {H7:Hp},Inv X (pins++iN fp s5.heap) σ7 H7 s7->N σ7 H7->∃m,m < n/\∃i σ' H',Inv X pins σ' H' s7/\tn i s7.heap/\(∀b∈fp,H' b=td)/\W i m σ' H':=λ{σ7 H7} I7 n7=>by
   obtain⟨m',hm,w7⟩:=hN σ7 H7 n7;refine#[m',hm,i+1,σ7,H7,I7.unpinned,T.keep _ _ _ st5 λb hb o e=>(I7.pin (b,o) (Iu _ (Iu _ (eY hb e)))).1,λb hb=>?_,w7]
   obtain⟨o,e,d⟩:=T.obj _ _ st5 b hb;exact(I7.pin (b,o) (Iu _ (Iu _ (eY hb e)))).2.1
  cases f with
  | next=>obtain⟨σ7,H7,I7,n7⟩:=q7; exact again I7 n7
  | cont=>obtain⟨σ7,H7,I7,n7⟩:=q7; exact again I7 n7
  | brk=>obtain⟨σ7,H7,I7,q7⟩:=q7; exact#[σ7,H7,I7.unpinned,q7]
  | ret v=>obtain⟨x7,σ7,H7,I7,r7,q7⟩:=q7; exact#[x7,σ7,H7,I7.unpinned,r7,q7]
end
theorem for_tup {K:HD}{a:Hw}{xs:Hj V}{g:TG}{tb:TS}{D:Ends}{σ:St}{H:Hp}(Pv:Hs->St->Hp->Prop)(h0:Pv 0 σ H)(hl:∀i σ H,i<=xs.length->Pv i σ H->SqT K H a xs)
  (hs:∀i x σ H,xs[i]?=gV x->Pv i σ H->g x σ H λσ2 H2=>tb { D with nx:=Pv (i+1),ct:=Pv (i+1),bk:=D.nx } σ2 H2) (hd:∀σ H,Pv xs.length σ H->D.nx σ H) :
  ∃W:Hs->Hs->St->Hp->Prop,(∃m,W 0 m σ H)/\∀i m σ H,W i m σ H->
   ((Dj K a).stop i H/\D.nx σ H)\/((Dj K a).go i H/\∃N:St->Hp->Prop,(∀σ' H',N σ' H'->∃m',m' < m/\W (i+1) m' σ' H')/\∀x H',(Dj K a).yld i H x H'->g x σ H' λσ2 H2=>tb { D with nx:=N,ct:=N,bk:=D.nx } σ2 H2):=by
 refine#[λi m σ H=>m=xs.length - i/\i<=xs.length/\Pv i σ H,#[xs.length,by simp,JN _,h0],?_]
 rintro i m σ H ⟨rfl,hi,p⟩;have q:=hl i σ H hi p
 by_cases hlt:i < xs.length
 ·refine .inr #[#[xs,xs[i],q,by simp[hlt]],Pv (i+1),λσ' H' p'=>#[xs.length - (i+1),∅,rfl,hlt,p'],λx H' y=>?_]
  obtain⟨e,y⟩:=y;subst e;exact hs i x σ _ (y xs q) p
 ·have e:i=xs.length:=∅
  subst e;exact .inl #[#[xs,q,HC _],hd σ H p]
noncomputable abbrev R2:=V->V->Hp->VK->Prop
noncomputable def OpR (X:Cx)(f:Hm->Hm->Pn Hm)(r:R2):Prop:=
 ∀(pins:Hj (Hw×Jr)) (s:Hq) (σ:St) (H:Hp) (x y:V) (v u:Hm) (Q:VK),Inv X pins σ H s->RelV x v->RelV y u->r x y H Q->
  wpAny (model X.prog X.w) X.A (f v u) (EP X pins σ Q) X.xe s
noncomputable def FM (X:Cx)(f:Hm->Pn Hm)(r:V->Hp->VK->Prop):Prop:=
 ∀(pins:Hj (Hw×Jr)) (s:Hq) (σ:St) (H:Hp) (x:V) (v:Hm) (Q:VK),Inv X pins σ H s->RelV x v->r x H Q->
  wpAny (model X.prog X.w) X.A (f v) (EP X pins σ Q) X.xe s
noncomputable def CallR (X:Cx)(f:Hm)(r:Hj V->Hp->VK->Prop):Prop:=
 ∀(pins:Hj (Hw×Jr)) (s:Hq) (σ:St) (H:Hp) (xs:Hj V) (us:Hj Hm) (Q:VK),Inv X pins σ H s->Vals xs us->r xs H Q->
  wpAny (model X.prog X.w) X.A (call f us) (EP X pins σ Q) X.xe s
noncomputable def FN (X:Cx)(r:V->Hp->(HX->Hp->Prop)->Prop):Prop:=
 ∀(pins:Hj (Hw×Jr)) (s:Hq) (σ:St) (H:Hp) (x:V) (v:Hm) (Q:HX->Hp->Prop),Inv X pins σ H s->RelV x v->r x H Q->
  wpAny (model X.prog X.w) X.A (truthy v) (TP X pins σ Q) X.xe s
noncomputable def Fg (r:R2)(ta tb:TE):TE:=λσ H Q=>ta σ H λx H1=>tb σ H1 λy H2=>r x y H2 Q
noncomputable def G0 (r:V->Hp->VK->Prop)(ta:TE):TE:=λσ H Q=>ta σ H λx H1=>r x H1 Q
noncomputable def rI (C:Hy->Hy->Prop)(g:Hy->Hy->V):R2:=λx y H Q=>∃i j,x=.int i/\y=.int j/\C i j/\Q (g i j) H
noncomputable def AJ (g:Hy->Hy->V):R2:=λx y H Q=>∃i j,x=.int i/\y=.int j/\Q (g i j) H
noncomputable def rU (g:Hy->V):V->Hp->VK->Prop:=λx H Q=>∃i,x=.int i/\Q (g i) H
section
variable{X:Cx}{a b c:HW}{ta tb tc:TE}{pos:J2}
theorem BL (ha:PE X a ta)(hb:PE X b tb){pins:Hj (Hw×Jr)}{s:Hq}{σ:St}{H:Hp}{R:V->V->Hp->Prop}(I:Inv X pins σ H s)
  (h:ta σ H λx H1=>tb σ H1 λy H2=>R x y H2) {Q:Hm->Hq->Prop} {f:Hm->Hm->Pn Hm}
  (hf:∀v u s2 x y H2,Inv X pins σ H2 s2->RelV x v->RelV y u->R x y H2->wpAny (model X.prog X.w) X.A (f v u) Q X.xe s2) :
  wpAny (model X.prog X.w) X.A (eval a X.env) (λv s₁=>wpAny (model X.prog X.w) X.A (eval b X.env) (λu s₂=>wpAny (model X.prog X.w) X.A (f v u) Q X.xe s₂) X.xe s₁) X.xe s:=by
 refine bo (ha pins s σ H _ I h) λv s1 #[x,H1,I1,r1,q1]=>?_
 refine bo (hb pins s1 σ H1 _ I1 q1) λu s2 #[y,H2,I2,r2,q2]=>?_
 exact hf v u s2 x y H2 I2 r1 r2 q2
theorem DI {op:NE}{r:R2}(ho:OpR X (binaryOp op) r)(ha:PE X a ta)(hb:PE X b tb):PE X (.BinOp a op b pos) (Fg r ta tb):=by
 intro pins s σ H Q I h;exact wpAny_BinOp (BL ha hb I h λv u s2 x y H2 I2 rx ry q=>ho pins s2 σ H2 x y v u Q I2 rx ry q)
theorem DJ {op:UnaryOp}{r:V->Hp->VK->Prop}(ho:FM X (unaryOp op) r)(ha:PE X a ta):PE X (.UnaryOp op a pos) (G0 r ta):=by
 intro pins s σ H Q I h;exact UnaryOp_ (bo (ha pins s σ H _ I h) λv s1 #[x,H1,I1,r1,q1]=>ho pins s1 σ H1 x v Q I1 r1 q1)
theorem Fh {f:Hm->Hm->Pn Hm}{C:Hy->Hy->Prop}{g:Hy->Hy->Hy}
  (rule:∀(i j:Hy) (t u:Qg) (s:Hq) (Q:Hm->Hq->Prop) (E:Hm->Hq->Prop),C i j->Q (.int (g i j) s.toks) { s with toks:=s.toks+1 }->wpAny (model X.prog X.w) X.A (f (.int i t) (.int j u)) Q E s) :
  OpR X f (rI C λi j=>.int (g i j)):=by
 intro pins s σ H x y v u Q I rx ry h;obtain⟨i,j,rfl,rfl,hc,q⟩:=h;obtain⟨t,rfl⟩:=rx;obtain⟨t',rfl⟩:=ry;exact rule i j t t' s _ _ hc #[.int (g i j),H,I.tok _,#[_,rfl],q]
theorem DK {f:Hm->Hm->Pn Hm}{g:Hy->Hy->Hy}
  (rule:∀(i j:Hy) (t u:Qg) (s:Hq) (Q:Hm->Hq->Prop) (E:Hm->Hq->Prop),Q (.int (g i j) s.toks) { s with toks:=s.toks+1 }->wpAny (model X.prog X.w) X.A (f (.int i t) (.int j u)) Q E s) :
  OpR X f (AJ λi j=>.int (g i j)):=by
 intro pins s σ H x y v u Q I rx ry h;obtain⟨i,j,rfl,rfl,q⟩:=h;obtain⟨t,rfl⟩:=rx;obtain⟨t',rfl⟩:=ry;exact rule i j t t' s _ _ #[.int (g i j),H,I.tok _,#[_,rfl],q]
theorem yB {f:Hm->Hm->Pn Hm}{g:Hy->Hy->HX}
  (rule:∀(i j:Hy) (t u:Qg) (s:Hq) (Q:Hm->Hq->Prop) (E:Hm->Hq->Prop),Q (.bool (g i j)) s->wpAny (model X.prog X.w) X.A (f (.int i t) (.int j u)) Q E s) :
  OpR X f (AJ λi j=>.bl (g i j)):=by
 intro pins s σ H x y v u Q I rx ry h;obtain⟨i,j,rfl,rfl,q⟩:=h;obtain⟨t,rfl⟩:=rx;obtain⟨t',rfl⟩:=ry;exact rule i j t t' s _ _ #[.bl (g i j),H,I,rfl,q]
noncomputable def FP (i j:Hy):Prop:=0 < j/\j < 1073741824
noncomputable def FQ (i j:Hy):Prop:=0<=j/\j<=1000000/\i.natAbs < 2 ^ 64
noncomputable def CMul (i j:Hy):Prop:=(-(2 ^ 64) < i/\i < 2 ^ 64)\/(-(2 ^ 64) < j/\j < 2 ^ 64)
theorem CMul.ok {i j:Hy}(h:CMul i j):IntMulOk i j:=by
 rcases h with⟨h1,h2⟩|⟨h1,h2⟩
 ·exact .of_left (OW h1 h2)
 ·exact .of_right (OW h1 h2)
theorem BM:OpR X (binaryOp .Add) (AJ λi j=>.int (i+j)):=DK λ_ _ _ _ _ _ _ q=>add_int q
theorem BN:OpR X (binaryOp .Sub) (AJ λi j=>.int (i - j)):=DK λ_ _ _ _ _ _ _ q=>sub_int q
theorem BO:OpR X (binaryOp .Mult) (rI CMul λi j=>.int (i*j)):=Fh λ_ _ _ _ _ _ _ hc q=>mul_int q hc.ok
theorem yC:OpR X (binaryOp .FloorDiv) (rI FP λi j=>.int (i / j)):=Fh λi j _ _ _ _ _ hc q=>by
 have h1:(0:Hy) < j:=hc.1;have h2:j < 1073741824:=hc.2;exact floordiv_int ∅ (by rw[Int.fdiv_eq_ediv_of_nonneg i ∅]; exact q) (.inl (PyProof.noPylong_small ∅))
theorem BP:OpR X (binaryOp .Mod) (rI (λ_ j=>0 < j) λi j=>.int (i % j)):=Fh λi j _ _ _ _ _ hc q=>by
 have h1:(0:Hy) < j:=hc;exact mod_int' ∅ (by rw[Int.fmod_eq_emod_of_nonneg i ∅]; exact q)
theorem BQ:OpR X (binaryOp .Pow) (rI FQ λi j=>.int (i ^ j.toNat)):=Fh λ_ _ _ _ _ _ _ hc q=>pow_int_small hc.1 hc.2.1 hc.2.2 q
theorem G1 {f:Hm->Pn Hm}{g:Hy->Hy}
  (rule:∀(i:Hy) (t:Qg) (s:Hq) (Q:Hm->Hq->Prop) (E:Hm->Hq->Prop),Q (.int (g i) s.toks) { s with toks:=s.toks+1 }->wpAny (model X.prog X.w) X.A (f (.int i t)) Q E s) :
  FM X f (rU λi=>.int (g i)):=by
 intro pins s σ H x v Q I rx h;obtain⟨i,rfl,q⟩:=h;obtain⟨t,rfl⟩:=rx;exact rule i t s _ _ #[.int (g i),H,I.tok _,#[_,rfl],q]
theorem BR:FM X (unaryOp .USub) (rU λi=>.int (-i)):=G1 λ_ _ _ _ _ q=>neg_int q
end
section
variable{X:Cx}{a b c:HW}{ta tb tc:TE}{pos:J2}
theorem uS {pins:Hj (Hw×Jr)}{σ:St}{H:Hp}{s:Hq}{Q:VK}{k k':HX}(I:Inv X pins σ H s)(q:Q (.bl k) H)(e:k=k'):EP X pins σ Q (.bool k') s:=by
 subst e;exact#[.bl k,H,I,rfl,q]
theorem DL:OpR X (compareOp .Lt) (AJ λi j=>.bl (decide (i < j))):=yB λ_ _ _ _ _ _ _ q=>lt_int q
theorem DM:OpR X (compareOp .LtE) (AJ λi j=>.bl (decide (i<=j))):=yB λ_ _ _ _ _ _ _ q=>le_int q
theorem DN:OpR X (compareOp .Gt) (AJ λi j=>.bl (decide (j < i))):=yB λ_ _ _ _ _ _ _ q=>gt_int q
theorem DO:OpR X (compareOp .GtE) (AJ λi j=>.bl (decide (j<=i))):=yB λ_ _ _ _ _ _ _ q=>ge_int q
theorem BS:OpR X (compareOp .Is) (λx y H Q=>y=.non/\Q (.bl (decide (x=.non))) H):=by
 intro pins s σ H x y v u Q I rx ry h;obtain⟨rfl,q⟩:=h;cases ry;refine is_none_gen (uS I q ?_);cases x <;> first
  | (cases rx; rfl)
  | (obtain⟨t,rfl⟩:=rx; rfl)
theorem yD:OpR X (compareOp .IsNot) (λx y H Q=>y=.non/\Q (.bl (!decide (x=.non))) H):=by
 intro pins s σ H x y v u Q I rx ry h;obtain⟨rfl,q⟩:=h;cases ry;refine isnot_none_gen (uS I q ?_);cases x <;> first
  | (cases rx; rfl)
  | (obtain⟨t,rfl⟩:=rx; rfl)
theorem yE {op:Oi}{r:R2}(ho:OpR X (compareOp op) r)(ha:PE X a ta)(hb:PE X b tb)(hm:behindInMarks op b=false):PE X (.Compare a [op] [b] pos) (Fg r ta tb):=by
 intro pins s σ H Q I h;exact wpAny_Compare1 (BL ha hb I h λv u s2 x y H2 I2 rx ry q=>ho pins s2 σ H2 x y v u Q I2 rx ry q) hm
noncomputable def AK (t:TE):TT:=λσ H Q=>t σ H λx H'=>∃k,x=.bl k/\Q k H'
theorem yF {op:Oi}{r:R2}(ho:OpR X (compareOp op) r)(ha:PE X a ta)(hb:PE X b tb)(hm:behindInMarks op b=false):PT X (.Compare a [op] [b] pos) (AK (Fg r ta tb)):=by
 intro pins s σ H Q I h;refine wpAny_isTrue_Compare1 (bo (ha pins s σ H _ I h) λv s1 #[x,H1,I1,r1,q1]=>bo (hb pins s1 σ H1 _ I1 q1) λu s2 #[y,H2,I2,r2,q2]=>
  bo (ho pins s2 σ H2 x y v u _ I2 r1 r2 q2) λc s3 #[z,H3,I3,r3,k,e,q3]=>?_) hm
 subst e;cases r3;exact Jj #[H3,I3,q3]
noncomputable def pU (r r':R2)(ta tb tc:TE):TE:=λσ H Q=>ta σ H λx H1=>tb σ H1 λy H2=>r x y H2 λz H3=>∃k,z=.bl k/\
 (if k=true then tc σ H3 λw' H4=>r' y w' H4 Q else Q (.bl false) H3)
theorem uT {op op':Oi}{r r':R2}(ho:OpR X (compareOp op) r)(ho':OpR X (compareOp op') r')(ha:PE X a ta)(hb:PE X b tb)(hc:PE X c tc)
  (hm:lastMarks [op,op'] [b,c]=false:=by with_unfolding_all rfl):PE X (.Compare a [op,op'] [b,c] pos) (pU r r' ta tb tc):=by
 intro pins s σ H Q I h;refine Compare_chain (bo (ha pins s σ H _ I h) λv s1 #[x,H1,I1,r1,q1]=>chain_link (bo (hb pins s1 σ H1 _ I1 q1) λu s2 #[y,H2,I2,r2,q2]=>
  bo (ho pins s2 σ H2 x y v u _ I2 r1 r2 q2) λd s3 #[z,H3,I3,r3,k,e,q3]=>?_)) hm
 subst e;cases r3;refine Jj ?_;cases k with
 | false=>exact ite_ff #[.bl false,H3,I3,rfl,q3]
 | true=>exact ite_tt (chain_last (bo (hc pins s3 σ H3 _ I3 q3) λw' s4 #[z',H4,I4,r4,q4]=>ho' pins s4 σ H4 y z' u w' Q I4 r2 r4 q4))
theorem uU {op op':Oi}{r r':R2}(ho:OpR X (compareOp op) r)(ho':OpR X (compareOp op') r')(ha:PE X a ta)(hb:PE X b tb)(hc:PE X c tc)
  (hm:lastMarks [op,op'] [b,c]=false:=by with_unfolding_all rfl):PT X (.Compare a [op,op'] [b,c] pos) (AK (pU r r' ta tb tc)):=by
 intro pins s σ H Q I h;refine isTrue_chain (bo (ha pins s σ H _ I h) λv s1 #[x,H1,I1,r1,q1]=>test_link (bo (hb pins s1 σ H1 _ I1 q1) λu s2 #[y,H2,I2,r2,q2]=>
  bo (ho pins s2 σ H2 x y v u _ I2 r1 r2 q2) λd s3 #[z,H3,I3,r3,k,e,q3]=>?_)) hm
 subst e;cases r3;refine Jj ?_;cases k with
 | false=>
  obtain⟨k',e',q'⟩:=q3;cases e';exact ite_ff #[H3,I3,q']
 | true=>
  refine ite_tt (test_last (bo (hc pins s3 σ H3 _ I3 q3) λw' s4 #[z',H4,I4,r4,q4]=>bo (ho' pins s4 σ H4 y z' u w' _ I4 r2 r4 q4) λd' s5 #[z2,H5,I5,r5,k2,e2,q5]=>?_))
  subst e2;cases r5;exact Jj #[H5,I5,q5]
noncomputable def FR (K:HD)(x:V)(H:Hp)(k:HX):Prop:=
 match x with
 | .non=>k=false
 | .bl b=>k=b
 | .int i=>k=(i != 0)
 | .str y=>y.length<=sizeLine/\k=((y.length:Hy) != 0)
 | .byt y=>y.size<=sizeLine/\k=((y.size:Hy) != 0)
 | .ref p=>(∃xs,SqL K H p xs/\k = !xs.isEmpty)\/(∃xs,SqT K H p xs/\k = !xs.isEmpty)\/∃kvs,H p=gV (.dK kvs)/\k = !kvs.isEmpty
 | _=>IY
theorem pV {κ:Type}{kvs:Hj (κ×V)}{vs:Hj (κ×Hm)}(r:KV kvs vs):(!vs.isEmpty) = !kvs.isEmpty:=by
 cases r <;> rfl
theorem jF {xs:Hj V}{its:Hj Hm}(r:Vals xs its):(!its.toArray.isEmpty) = !xs.isEmpty:=by
 cases r <;> simp
theorem iO:(sizeLine:Hs) < 2 ^ 63:=by rw[IN]; decide
theorem BU:FN X (λx H Q=>∃k,FR X.K x H k/\Q k H):=by
 intro pins s σ H x v Q I rx h;obtain⟨k,e,q⟩:=h;have hl:=iO;have hs:sizeLine=16777216:=IN;cases x with
 | non=>
  cases rx;have e':k=false:=e;subst e';exact truthy_none #[H,I,q]
 | bl b=>
  cases rx;have e':k=b:=e;subst e';exact Jj #[H,I,q]
 | int i=>
  obtain⟨t,rfl⟩:=rx;have e':k=(i != 0):=e;subst e';exact PySem.P.truthy_int #[H,I,q]
 | str y=>
  obtain⟨t,rfl⟩:=rx;obtain⟨hy,e'⟩ : y.length<=sizeLine/\k=((y.length:Hy) != 0):=e;subst e';exact PySem.P.truthy_str ∅ #[H,I.tok _,q]
 | byt y=>
  obtain⟨t,rfl⟩:=rx;obtain⟨hy,e'⟩ : y.size<=sizeLine/\k=((y.size:Hy) != 0):=e;subst e';exact PySem.W.truthy_bytes ∅ #[H,I.tok _,q]
 | ref p=>
  cases rx;have e':(∃xs,SqL X.K H p xs/\k = !xs.isEmpty)\/(∃xs,SqT X.K H p xs/\k = !xs.isEmpty)\/∃kvs,H p=gV (.dK kvs)/\k = !kvs.isEmpty:=e;rcases e' with⟨xs,hx,e'⟩|⟨xs,hx,e'⟩|⟨kvs,hx,e'⟩
  ·subst e';obtain⟨its,r,pl,hz⟩:=I.list hx;have hlen:=r.length;exact wpAny_truthy_list pl.isList (by simp only[HK]; omega) #[H,I.tok _,by rw[jF r]; exact q]
  ·subst e';obtain⟨its,r,pl,hz⟩:=I.tuple hx;have hlen:=r.length;exact truthy_tuple pl (by simp only[HK]; omega) #[H,I.tok _,by rw[jF r]; exact q]
  ·subst e';obtain⟨hz,hS,vs,r,m⟩ : kvs.length<=sizeLine/\(p==sysModules)=false/\∃vs,KV kvs vs/\s.heap.DictOf (mD X.prog X.w) p vs:=I.hok p _ hx;have hlen:kvs.length=vs.length:=L6 r;exact wpAny_truthy_dict hS m ∅ #[H,I.tok _,by rw[pV r]; exact q]
 | _=>exact(show IY from e).elim
theorem pW:OpR X (binaryOp .Add) (λx y H Q=>∃i j,x=.str i/\y=.str j/\i.length+j.length<=sizeLine/\Q (.str (i++j)) H):=by
 intro pins s σ H x y v u Q I rx ry h;obtain⟨i,j,rfl,rfl,hz,q⟩:=h;obtain⟨t,rfl⟩:=rx;obtain⟨t',rfl⟩:=ry;exact add_str (λt' tk=>#[.str (i++j),H,I.tok _,#[_,rfl],q]) hz
theorem ln {x:V}{us:Hj Hm}(r:Vals [x] us):∃u,us=[u]/\RelV x u:=by
 cases r with
 | cons r1 r2=>cases r2; exact#[_,rfl,r1]
theorem lq:CallR X (.type "int") (λxs H Q=>(∃i,xs=[.int i]/\Q (.int i) H)\/∃k,xs=[.bl k]/\Q (.int (if k then 1 else 0)) H):=by
 intro pins s σ H xs us Q I r h;rcases h with⟨i,rfl,q⟩|⟨k,rfl,q⟩
 ·obtain⟨u,rfl,t,rfl⟩:=ln r;exact call_int_int #[.int i,H,I,#[_,rfl],q]
 ·obtain⟨u,rfl,r1⟩:=ln r;cases r1;exact call_int_bool #[.int (if k then 1 else 0),H,I.tok _,#[_,rfl],q]
noncomputable def FU (K:HD)(x:V)(H:Hp)(n:Hs):Prop:=
 match x with
 | .str y=>y.length<=sizeLine/\n=y.length
 | .byt y=>y.size<=sizeLine/\n=y.size
 | .ref p=>(∃xs,SqL K H p xs/\n=xs.length)\/∃xs,SqT K H p xs/\n=xs.length
 | _=>IY
theorem jG:CallR X (.builtin "len") (λxs H Q=>∃x n,xs=[x]/\FU X.K x H n/\Q (.int n) H):=by
 intro pins s σ H xs us Q I r h;obtain⟨x,n,rfl,e,q⟩:=h;obtain⟨u,rfl,rx⟩:=ln r;have hl:=iO;have hs:sizeLine=16777216:=IN;cases x with
 | str y=>
  obtain⟨t,rfl⟩:=rx;obtain⟨hy,e'⟩ : y.length<=sizeLine/\n=y.length:=e;subst e';exact len_str ∅ #[.int _,H,I.tok _,#[_,rfl],q]
 | byt y=>
  obtain⟨t,rfl⟩:=rx;obtain⟨hy,e'⟩ : y.size<=sizeLine/\n=y.size:=e;subst e';exact PySem.W.len_bytes ∅ #[.int _,H,I.tok _,#[_,rfl],q]
 | ref p=>
  cases rx;have e':(∃xs,SqL X.K H p xs/\n=xs.length)\/∃xs,SqT X.K H p xs/\n=xs.length:=e;rcases e' with⟨xs,hx,e'⟩|⟨xs,hx,e'⟩
  ·subst e';obtain⟨its,r',pl,hz⟩:=I.list hx;have hlen:=r'.length;exact Calls.call_len_list pl.isList (by simp only[HK]; omega) #[.int xs.length,H,I.tok _,#[_,by simp only[HK]; rw[hlen]],q]
  ·subst e';obtain⟨its,r',pl,hz⟩:=I.tuple hx;have hlen:=r'.length;exact len_tuple pl (by simp only[HK]; omega) #[.int xs.length,H,I.tok _,#[_,by simp only[HK]; rw[hlen]],q]
 | _=>exact(show IY from e).elim
end
structure Room (k:Hs)(A:Ix):Prop where
 hd:A.handled=td
 dp:A.depth+3*k+5 < recursionLimit
 un:A.units+16*k+200 < cLine
theorem Room.deeper {k:Hs}{A:Ix}(r:Room (k+1) A)(env:NB):Room k (A.deeper env):=
 #[r.hd,by have:=r.dp; show A.depth+1+3*k+5 < _; omega,by have:=r.un; show A.units+3+16*k+200 < _; omega]
theorem Room.depth {k:Hs}{A:Ix}(r:Room k A):A.depth < recursionLimit:=by have:=r.dp; omega
noncomputable def DP:TA:=λ_ H Q=>Q [] H
noncomputable def DQ (ta:TE)(tr:TA):TA:=λσ H Q=>ta σ H λx H1=>tr σ H1 λxs H2=>Q (x::xs) H2
section
variable{X:Cx}{e:HW}{es:Hj HW}{te:TE}{t:TA}{pos:J2}
theorem uV:PA X [] DP:=λ_ _ _ _ H Q I h=>Calls.spliced_nil #[[],H,I,.nil,h]
theorem mF (ha:PE X e te)(hr:PA X es t)(hs:starEach (e::es) X.env=(false,eval e X.env)::starEach es X.env:=by rfl):PA X (e::es) (DQ te t):=by
 intro pos pins s σ H Q I h;rw[hs];show wpAny _ _ (spliced ((false,eval e X.env)::backTo pos (starEach es X.env))) _ _ s;refine Calls.spliced_cons (bo (ha pins s σ H _ I h) λu s1 #[x,H1,I1,r1,q1]=>?_)
 exact bo (hr pos pins s1 σ H1 _ I1 q1) λus s2 #[xs,H2,I2,r2,q2]=>#[x::xs,H2,I2,.cons r1 r2,q2]
noncomputable def FV (t:TA):TE:=λσ H Q=>t σ H λxs H1=>xs.length<=sizeLine/\∀p,H1 p=td->Q (.ref p) (bR H1 p (.tup xs))
noncomputable def FW (t:TA):TE:=λσ H Q=>t σ H λxs H1=>xs.length<=sizeLine/\∀p,H1 p=td->Q (.ref p) (bR H1 p (.lst xs))
theorem BV {x1}(h:PA X es t):PE X (.Tuple es x1 pos) (FV t):=by
 intro pins s σ H Q I hq;refine wpAny_Tuple_spliced (bo (h pos pins s σ H _ I hq) λus s1 #[xs,H1,I1,r,z,q]=>#[by rw[<- r.length]; exact z,?_])
 have hf:H1 s1.heap.objs.size=td:=I1.hok.fresh (HC _);refine#[.ref s1.heap.objs.size,bR H1 s1.heap.objs.size (.tup xs),I1.laid (t':=s1.toks) (λb u e=>Hu _ e) (HC _) ?_,rfl,q _ hf]
 exact#[#[z,NoD.new _ _ _],us,r,#[_,HQ _ rfl,rfl,_,rfl]]
theorem BW (h:PA X es t):PE X (.List es pos) (FW t):=by
 intro pins s σ H Q I hq;refine wpAny_List_spliced (bo (h pos pins s σ H _ I hq) λus s1 #[xs,H1,I1,r,z,q]=>#[by rw[<- r.length]; exact z,?_])
 have hf:H1 s1.heap.objs.size=td:=I1.hok.fresh (HC _);refine#[.ref s1.heap.objs.size,bR H1 s1.heap.objs.size (.lst xs),I1.laid (t':=s1.toks) (λb u e=>Hu _ e) (HC _) ?_,rfl,q _ hf]
 exact#[z,us,0,r,HQ _ rfl]
end
noncomputable abbrev Sp:=Hj V->Hp->VK->XK->Prop
noncomputable abbrev uW:=Hj NB->Hp->Hq->XK->Hm->Hq->Prop
structure Env0 (P:Io)(w:IA)(K:HD)(mg:HM->Hr Hm)(base:IJ)(A:Ix)(outer:Hj NB)(s:Hq)(H:Hp):Prop where
 frames:A.frames=gV outer
 mod:Mod K mg base
 bs:∀b o,base.get? b=gV o->s.heap.get? b=gV o/\H b=td
 bsz:base.objs.size<=s.heap.objs.size
 funs:s.heap.FunFrames base outer
 frf:∀b∈pR outer,H b=td
 hok:HOk P w H s.heap
 bare:LY s.gens
noncomputable def CE (outer:Hj NB)(P:Io)(w:IA)(H:Hp)(s:Hq)(Q:VK)(u:Hm)(s':Hq):Prop:=
 ∃v H',s'.os=s.os/\LY s'.gens/\Un (pR outer) [] H H' s.heap s'.heap/\HOk P w H' s'.heap/\RelV v u/\Q v H'
noncomputable def CR (CX:uW)(outer:Hj NB)(P:Io)(w:IA)(H:Hp)(s:Hq)(Q:VK)(E:XK)(r:N3)(s':Hq):Prop:=
 match r with
 | .ok (.ret u)=>CE outer P w H s Q u s'
 | .ok _=>IY
 | .error e=>CX outer H s E e s'
structure FnOk (P:Io)(w:IA)(K:HD)(mg:HM->Hr Hm)(base:IJ)(CX:uW)(k:Hs)(f:Hw)(fd:J4)(ps:Hj HM)(sp:Sp):Prop where
 len:∀vs H Q E,sp vs H Q E->vs.length=ps.length
 run:∀(A:Ix) (outer:Hj NB) (s:Hq) (H:Hp) (args:Args) (us:Hj Hm) (vs:Hj V) (Q:VK) (E:XK),Room k A->Env0 P w K mg base A outer s H->NF s fd args (ps.zip us)->Vals vs us->sp vs H Q E->
  codeAny (model P w) A (.call (.ref f) args) (CR CX outer P w H s Q E) s
section
variable{X:Cx}{pins:Hj (Hw×Jr)}{σ:St}{H:Hp}{s s':Hq}
theorem Inv.env0 (I:Inv X pins σ H s):Env0 X.prog X.w X.K X.mg X.base X.A X.stack s H:=
 #[I.ok.frames,I.ok.mod,I.bs,Ih I.ok.bsz I.sz,I.stack,I.stkFree,I.hok,I.bare]
theorem Inv.after {Q:VK}{u:Hm}(I:Inv X pins σ H s)(h:CE X.stack X.prog X.w H s Q u s'):EP X pins σ Q u s':=by
 obtain⟨v,H',os,bare,un,hok,r,q⟩:=h;obtain⟨hh,g,d,t,os'⟩:=s';obtain rfl:os'=s.os:=os;exact#[v,H',I.call (h':=hh) (g':=g) (d':=d) (t':=t) (ch:=[]) un hok bare (λb z=>absurd z (by simp)),r,q]
end
noncomputable def uX (sp:Sp)(dvs:Hj V)(E:XK)(t:TA):TE:=λσ H Q=>t σ H λvs H1=>sp (vs++dvs) H1 Q E
noncomputable def Binds (K:HD)(fd:J4)(ps:Hj HM)(ds:Hj Hm):Prop:=
 ∀(s:Hq) (us:Hj Hm),K.In s.heap->(us++ds).length=ps.length->NF s fd #[us,[]] (ps.zip (us++ds))
theorem Binds.all {K:HD}{fd:J4}{ps:Hj HM}(h:∀us:Hj Hm,us.length=ps.length->bindArgs fd #[us,[]]=pure (ps.zip us)):Binds K fd ps []:=λs us _ hl=>by
 rw[Jo]at hl ⊢;exact .of_eq (h us hl)
noncomputable def mG (CX:uW)(X:Cx)(E:XK):Prop:=∀(pins:Hj (Hw×Jr)) (σ:St) (H:Hp) (s:Hq) (e:Hm) (s':Hq),Inv X pins σ H s->CX X.stack H s E e s'->X.xe e s'
section
variable{X:Cx}{CX:uW}{k:Hs}{f C:Hw}{fd:J4}{ps:Hj HM}{sp:Sp}{dvs:Hj V}{ds:Hj Hm}{E:XK}{x m:HM}{p pos apos:J2}{e o:HW}{es:Hj HW}{ta:TE}{t:TA}
theorem uY {pins:Hj (Hw×Jr)}{σ:St}{H:Hp}{s:Hq}{Q:VK}{us:Hj Hm}{vs:Hj V}(F:FnOk X.prog X.w X.K X.mg X.base CX k f fd ps sp)(hr:Room k X.A)(hb:Binds X.K fd ps ds)(hd:Vals dvs ds)(hx:mG CX X E)
  (I:Inv X pins σ H s) (r:Vals vs us) (h:sp (vs++dvs) H Q E):wpAny (model X.prog X.w) X.A (call (.ref f) us) (EP X pins σ Q) X.xe s:=by
 have r2:Vals (vs++dvs) (us++ds):=r.append hd;have hl:(us++ds).length=ps.length:=by rw[<- r2.length]; exact F.len _ _ _ _ h
 refine wpAny_call (Mn (F.run X.A X.stack s H #[us,[]] (us++ds) (vs++dvs) Q E hr I.env0 (hb s us I.kIn hl) r2 h) λr s' hq=>?_)
 cases r with
 | error e=>exact hx pins σ H s e s' I hq
 | ok fl=>
  cases fl with
  | ret u=>exact I.after hq
  | next=>exact IY.elim hq
  | brk=>exact IY.elim hq
  | cont=>exact IY.elim hq
theorem yG (F:FnOk X.prog X.w X.K X.mg X.base CX k f fd ps sp)(hr:Room k X.A)(hg:Gl X x)(hm:X.mg x=gV (.ref f))(hk:Jh X.K (.ref f)=true)(hb:Binds X.K fd ps ds)(hd:Vals dvs ds)(hx:mG CX X E)
  (ha:PA X (e::es) t) (hdb:(x==("__debug__" : HM))=false:=by decide) (he:starEach (e::es) X.env=(false,eval e X.env)::starEach es X.env:=by rfl) (hpl:(backTo pos (starEach es X.env)).any (·.1)=false:=by rfl) :
  PE X (.Call (.Name x p) (e::es) [] pos) (uX sp dvs E t):=by
 intro pins s σ H Q I h;refine K7 (q9 I hg hm ?_ hdb);refine PySem.W.callWith_K (h₀:=X.base) I.ok.mod.kin hk (bo (ha pos pins s σ H _ I h) λus s1 #[vs,H1,I1,r,q]=>#[I1.kIn,?_]) he hpl
 exact uY F hr hb hd hx I1 r q
theorem uZ (F:FnOk X.prog X.w X.K X.mg X.base CX k f fd ps sp)(hr:Room k X.A)(hg:Gl X x)(hm:X.mg x=gV (.ref f))(hk:Jh X.K (.ref f)=true)(hb:Binds X.K fd ps ds)(hd:Vals dvs ds)(hx:mG CX X E)
  (hdb:(x==("__debug__" : HM))=false:=by decide):PE X (.Call (.Name x p) [] [] pos) (uX sp dvs E DP):=by
 intro pins s σ H Q I h;refine K7 (q9 I hg hm ?_ hdb);exact PySem.W.callWith_K0 I.kIn hk (uY (us:=[]) F hr hb hd hx I .nil h)
end
structure FnScope (N P:Hj HM)(sc:KF):Prop where
 kind:sc.kind=.function
 co:sc.isCoroutine=false
 gen:sc.isGenerator=false
 nd:N.Nodup
 pre:N.take P.length=P
 par:∀x∈P,sc.names.lookup x=gV .local\/sc.names.lookup x=gV .cell
 nofree:∀y∈sc.names,y.2≠.free
theorem lu {kindOf:HM->Hr JC}{x:HM}:∀ {binds:Hj (HM×Hm)} {m:HM->Hr Hm},(∀v,(x,v)∉binds)->bindL kindOf binds m x=m x
 | [],_,_=>rfl
 | (n,v)::r,m,h=>by
  unfold bindL;rw[lu λw hw=>h w (IL _ hw)]
  split
  ·have:x≠n:=by rintro rfl; exact h v Jk
   simp[this]
  ·rfl
theorem lv {kindOf:HM->Hr JC}{x:HM}:∀ {binds:Hj (HM×Hm)} {m:HM->Hr Hm},(∀v,(x,v)∉binds)->bindC kindOf binds m x=m x
 | [],_,_=>rfl
 | (n,v)::r,m,h=>by
  unfold bindC;rw[lv λw hw=>h w (IL _ hw)]
  split
  ·rfl
  ·have:x≠n:=by rintro rfl; exact h v Jk
   simp[this]
theorem lA {kindOf:HM->Hr JC}{x:HM}{v:Hm}:∀ {P:Hj HM} {vs:Hj Hm} {i:Hs} {m:HM->Hr Hm},P.Nodup->P[i]?=gV x->vs[i]?=gV v->kindOf x=gV .local->
  bindL kindOf (P.zip vs) m x=gV v
 | [],_,_,_,_,h,_,_=>by simp at h
 | _::_,[],_,_,_,_,h,_=>by simp at h
 | p::P,w::vs,0,m,nd,h1,h2,hk=>by
  simp at h1 h2; subst h1; subst h2
  show bindL kindOf ((p,w)::P.zip vs) m p=_;unfold bindL;rw[lu λv hv=>(Jv.mp nd).1 (My hv).1,HY hk]
  simp
 | p::P,w::vs,i+1,m,nd,h1,h2,hk=>by
  show bindL kindOf ((p,w)::P.zip vs) m x=_;unfold bindL;exact lA (i:=i) (Jv.mp nd).2 (by simpa using h1) (by simpa using h2) hk
theorem lB {kindOf:HM->Hr JC}{x:HM}{v:Hm}:∀ {P:Hj HM} {vs:Hj Hm} {i:Hs} {m:HM->Hr Hm},P.Nodup->P[i]?=gV x->vs[i]?=gV v->kindOf x≠gV .local->
  bindC kindOf (P.zip vs) m x=gV v
 | [],_,_,_,_,h,_,_=>by simp at h
 | _::_,[],_,_,_,_,h,_=>by simp at h
 | p::P,w::vs,0,m,nd,h1,h2,hk=>by
  simp at h1 h2; subst h1; subst h2
  show bindC kindOf ((p,w)::P.zip vs) m p=_;unfold bindC;rw[lv λv hv=>(Jv.mp nd).1 (My hv).1,Iy hk]
  simp
 | p::P,w::vs,i+1,m,nd,h1,h2,hk=>by
  show bindC kindOf ((p,w)::P.zip vs) m x=_;unfold bindC;exact lB (i:=i) (Jv.mp nd).2 (by simpa using h1) (by simpa using h2) hk
noncomputable def fK (N:Hj HM)(vs:Hj V):St:=vs.map gV++Ik (N.length - vs.length) td
noncomputable def pX (CX:uW)(P:Io)(w:IA)(K:HD)(mg:HM->Hr Hm)(base:IJ)(N:Hj HM)(qual:HM)(scope:KF)(f:Hw)(cd:Hm)(A:Ix)(outer:Hj NB)(s:Hq)(H:Hp)(E:XK):Cx where
 prog:=P
 w:=w
 K:=K
 mg:=mg
 base:=base
 A:=A.deeper (envOfC qual scope s.heap.objs.size f cd)
 N:=N
 s₀:=s
 H₀:=H
 env:=envOfC qual scope s.heap.objs.size f cd
 outer:=outer
 stack:=envOfC qual scope s.heap.objs.size f cd::outer
 ex:=[]
 calm:=true
 fn:=λ_=>true
 pn:=[]
 xe:=λe s'=>wpAny (model P w) (A.deeper (envOfC qual scope s.heap.objs.size f cd)) (leaving (envOfC qual scope s.heap.objs.size f cd) e) (λ_ s''=>CX outer H s E e s'') (λe' s''=>CX outer H s E e' s'') s'
theorem oh {sc:KF}{n:Hs}{x:HM}(h:sc.names.lookup x=gV .cell):∃c,(cellsFrom n sc.names []).lookup x=gV c:=by
 have q:=Mo sc.names n [] (.inl h);exact IR.mp q
theorem sT {CX:uW}{P:Io}{w:IA}{K:HD}{mg:HM->Hr Hm}{base:IJ}{N ps:Hj HM}{qual:HM}{scope:KF}{f:Hw}{cd:Hm}{A:Ix}{outer:Hj NB}{s s1:Hq}{H:Hp}{E:XK}{us:Hj Hm}{vs:Hj V}
  (S:FnScope N ps scope) (hd:A.handled=td) (e0:Env0 P w K mg base A outer s H) (hl:vs.length=ps.length) (r:Vals vs us)
  (x:InCallC s s.heap.objs.size (bindL (envOfC qual scope s.heap.objs.size f cd).kindOf (ps.zip us) λ_=>td) (cellsFrom (s.heap.objs.size+1) scope.names []) (bindC (envOfC qual scope s.heap.objs.size f cd).kindOf (ps.zip us) λ_=>td) s1) :
  Inv (pX CX P w K mg base N qual scope f cd A outer s H E) [] (fK N vs) H s1:=by
 have hpl:ps.length<=N.length:=by have:=congrArg Pp S.pre; rw[Ic]at this; omega
 obtain⟨h1,tk,rfl,hk⟩:=x.done;have noA:∀b:Hw,b∉(pX CX P w K mg base N qual scope f cd A outer s H E).ex:=λb z=>absurd (show b∈([]:Hj Hw)from z) (by simp)
 refine#[#[e0.mod,S.kind,rfl,rfl,HC _,λy z c h1 h2=>?_,λy hy=>?_,λy c _ h=>?_,λ_=>hd,Around.frames_deeper e0.frames,.inr #[rfl,rfl],λb z=>absurd z (noA b),e0.bs,e0.bsz,λb _ _=>noA b,λb z=>absurd z (noA b),e0.funs,e0.frf],
  rfl,e0.bare,Un.kept hk,#[_,x.toInCall.ns,λi y v h1 h2 h3=>?_],λy c h=>#[_,x.cell y c h],e0.hok.fresh (HC _),λy c h=>?_,λp hp=>absurd (show p∈([]:Hj (Hw×Jr))from hp) (by simp),e0.hok.kept hk,?_]
 ·exact name_of_addr x.apart (Ko h1) (Ko h2)
 ·have hy:scope.names.lookup y=gV .cell\/scope.names.lookup y=gV .free:=hy;rcases hy with hy|hy
  ·exact oh hy
  ·exact absurd rfl (S.nofree _ (Ko hy))
 ·exact Ld (x.above y c (Ko h))
 ·have hi:i < vs.length:=by
   unfold fK at h2
   by_cases hi:i < vs.length
   ·exact hi
   ·rw[ID (by simpa using hi)]at h2
    rw[List.getElem?_replicate]at h2;split at h2 <;> cases h2
  have ha:vs[i]?=gV v:=by
   unfold fK at h2;rw[Il (by simpa using hi),Ht]at h2
   cases e:vs[i]? with
   | none=>rw[e]at h2; cases h2
   | some a=>rw[e]at h2; cases h2; rfl
  obtain⟨u,hu,rv⟩:=r.get ha;have hp:ps[i]?=gV y:=by
   rw[<- S.pre,KW ∅]; exact h1
  have ndP:ps.Nodup:=by rw[<- S.pre]; exact S.nd.sublist (NG _ _)
  refine#[u,rv,?_];rcases S.par y (HF hp)with k|k
  ·exact .inl #[k,lA ndP hp hu k]
  ·obtain⟨c,e⟩:=oh (n:=s.heap.objs.size+1) k;refine .inr #[.inl k,c,e,?_];have q:=x.cell y c e;rw[lB ndP hp hu (by show scope.names.lookup y≠_; rw[k]; decide)]at q
   exact q
 ·exact e0.hok.fresh (Ld (x.above y c (Ko h)))
 ·unfold fK;show _=N.length;rw[Hn,Hk,Lk];omega
theorem DR {CX:uW}{P:Io}{w:IA}{K:HD}{mg:HM->Hr Hm}{base:IJ}{k:Hs}{f:Hw}{name qual:HM}{params:Arguments}{body:Hj Kn}{scope:KF}{dV kV doc pm cdv ct oc:Hm}{an od:Hr Hw}
  {osl:IF (Hr Hm)} {N ps:Hj HM} {sp:Sp} (lk:K.lookup f=gV #[oc,od,.func (JK name qual params body scope dV kV doc pm an cdv ct),osl]) (hcd:Ks K cdv qual=true) (S:FnScope N ps scope)
  (len:∀vs H Q E,sp vs H Q E->vs.length=ps.length)
  (hbody:∀(A:Ix) (outer:Hj NB) (s:Hq) (H:Hp) (vs:Hj V) (Q:VK) (E:XK),Room k (A.deeper (envOfC qual scope s.heap.objs.size f cdv))->sp vs H Q E->
   ∃t,PSs (pX CX P w K mg base N qual scope f cdv A outer s H E) body t/\t { nx:=λ_ H'=>Q .non H',rt:=Q } (fK N vs) H) :
  FnOk P w K mg base CX (k+1) f (JK name qual params body scope dV kV doc pm an cdv ct) ps sp:=by
 refine#[len,λA outer s H args us vs Q E hr e0 hb r hsp=>?_]
 have hl:=len _ _ _ _ hsp;have KX:K.In s.heap:=e0.mod.kin.keeps λb o e=>(e0.bs b o e).1
 have lim:s.heap.NoLimit:=e0.mod.nolimit.keeps λb o e=>(e0.bs b o e).1
 have hkind:∀y∈ps.zip us,scope.names.lookup y.1=gV .local\/(scope.names.lookup y.1=gV .cell/\((cellsFrom (s.heap.objs.size+1) scope.names []).lookup y.1).isSome=true):=λ#[n,v] hy=>by
  rcases S.par n (My hy).1 with q|q
  ·exact .inl q
  ·exact .inr #[q,Mo _ _ _ (.inl q)]
 refine codeAny_call_function hr.depth (KX _ _ lk) rfl S.co S.gen rfl (PySem.W.codeRec_of KX hcd) (hb _ _ _ _ ?_);refine wpAny_newFunctionEnv_cells S.kind hkind λenv he s1 x=>?_
 subst he;refine#[lim.keeps x.toInCall.keep,codeAny_func ?_];obtain⟨t,ht,hq⟩:=hbody A outer s H vs Q E (hr.deeper _) hsp;have I:Inv (pX CX P w K mg base N qual scope f cdv A outer s H E) [] (fK N vs) H s1:=sT S hr.hd e0 hl r x;refine JA (ht [] s1 (fK N vs) H _ I hq) (λfl s' hs=>?_) λe s' hs=>hs
 have fin:∀ {σ':St} {H':Hp} {v:V} {u:Hm},Inv (pX CX P w K mg base N qual scope f cdv A outer s H E) [] σ' H' s'->RelV v u->Q v H'->CE outer P w H s Q u s':=
  λ{σ' H' v u} J rv q=>#[v,H',J.os,J.bare,J.base,J.hok,rv,q]
 cases fl with
 | ret u=>
  obtain⟨v,σ',H',J,rv,q⟩:=hs;exact fin J rv q
 | next=>
  obtain⟨σ',H',J,q⟩:=hs;exact fin (v:=V.non) (u:=IM) J rfl q
 | brk=>
  obtain⟨_,_,_,q⟩:=hs;exact IY.elim q
 | cont=>
  obtain⟨_,_,_,q⟩:=hs;exact IY.elim q
section
variable{X:Cx}{x:HM}{p pos:J2}{e:HW}{es:Hj HW}{t:TA}{id T:Jf}{r:Hj V->Hp->VK->Prop}
noncomputable def GM (r:Hj V->Hp->VK->Prop)(t:TA):TE:=λσ H Q=>t σ H λvs H1=>r vs H1 Q
theorem ol (hc:CallR X (.builtin id) r)(hg:Gl X x)(hm:X.mg x=td)(hv:bootBuiltins x=gV (.builtin id))(ha:PA X (e::es) t)(hn:x≠"__name__":=by decide)(hdb:(x==("__debug__" : HM))=false:=by decide)
  (he:starEach (e::es) X.env=(false,eval e X.env)::starEach es X.env:=by rfl) (hpl:(backTo pos (starEach es X.env)).any (·.1)=false:=by rfl):PE X (.Call (.Name x p) (e::es) [] pos) (GM r t):=by
 intro pins s σ H Q I h;refine K7 (iL I hg hm hv ?_ hn hdb);exact N4 (bo (ha pos pins s σ H _ I h) λus s1 #[vs,H1,I1,r1,q1]=>hc pins s1 σ H1 vs us Q I1 r1 q1) he hpl
theorem sU (hc:CallR X (.type T) r)(hg:Gl X x)(hm:X.mg x=td)(hv:bootBuiltins x=gV (.type T))(ha:PA X (e::es) t)(hn:x≠"__name__":=by decide)(hdb:(x==("__debug__" : HM))=false:=by decide)
  (he:starEach (e::es) X.env=(false,eval e X.env)::starEach es X.env:=by rfl) (hpl:(backTo pos (starEach es X.env)).any (·.1)=false:=by rfl):PE X (.Call (.Name x p) (e::es) [] pos) (GM r t):=by
 intro pins s σ H Q I h;refine K7 (iL I hg hm hv ?_ hn hdb);exact JW (bo (ha pos pins s σ H _ I h) λus s1 #[vs,H1,I1,r1,q1]=>hc pins s1 σ H1 vs us Q I1 r1 q1) he hpl
end
end L2
namespace HT
open PySem PyProof.Rows
section
open PySem.SeqAt
open PySem.AutoSeq1 (wpAny_loadPart')
open PySem.MeetsSeq PySem.MeetsSeq2 PySem.MeetsSeq3
end
section
variable{prog:Io}{w:IA}{A:Ix}{E:Hm->Hq->Prop}{s:Hq}
theorem yH {t b:Hw}{vs ws:Hj Hm}{Q:Hm->Hq->Prop}(ht:NA s.heap t vs.toArray)(hb:NA s.heap b ws.toArray)(hv:vs≠[])
  (h1:ws=[]->Q (.ref t) s) (h2:ws≠[]->Q (.ref s.heap.objs.size) { s with heap:=s.heap.push { cls:=.type "tuple",data:=.seq (vs++ws).toArray } })
  (hsz:vs.length+ws.length<=sizeLine):wpAny (model prog w) A (binaryOp .Add (.ref t) (.ref b)) Q E s:=by
 obtain⟨⟨cls,dd,data,sl⟩,ho,hc,n,hd⟩:=id ht;obtain⟨⟨cls2,dd2,data2,sl2⟩,ho2,hc2,n2,hd2⟩:=id hb;simp only at hc hd hc2 hd2;subst hc hd hc2 hd2;have e:vs.toArray++ws.toArray=(vs++ws).toArray:=by simp
 by_cases hw:ws=[]
 ·exact NH #[_,ho,rfl] #[_,ho2,rfl] Mc Na Le La (KY _ _)
   (tuple_addW1 t b vs.toArray ws.toArray n n2 dd dd2 sl sl2 (by simpa using hv) (by simp[hw])) #[ho,ho2,h1 hw]
 ·refine NH #[_,ho,rfl] #[_,ho2,rfl] Mc Na Le La (KY _ _)
   (tuple_addW2 t b vs.toArray ws.toArray n n2 dd dd2 sl sl2 (by simpa using hv) (by simpa using hw) (by rw[HK,HK]; exact hsz)) #[ho,ho2,?_]
  rw[e];exact h2 hw
noncomputable def cv (n d:Hs):Hr Hy->Hs
 | none=>d
 | some v=>if v < 0 then(v+(n:Hy)).toNat else min v.toNat n
theorem jH (n d:Hs):cv n d td=d:=rfl
theorem rf (n d k:Hs):cv n d (gV (k:Hy))=min k n:=by
 show(if (k:Hy) < 0 then((k:Hy)+(n:Hy)).toNat else min (k:Hy).toNat n)=min k n
 rw[Iy ∅,HI]
theorem BX (n d:Hs)(hd:d<=n)(o:Hr Hy):cv n d o<=n:=by
 cases o with
 | none=>exact hd
 | some v=>
  show(if v < 0 then(v+(n:Hy)).toNat else min v.toNat n)<=n
  by_cases hv:v < 0
  ·rw[HY hv]; omega
  ·rw[Iy hv]; exact Nat.min_le_right _ _
theorem rg (v:Hy)(n d:Hs):(if v < 0 then max (v+(n:Hy)) 0 else min v (n:Hy))=((cv n d (gV v):Hs):Hy):=by
 show(if v < 0 then max (v+(n:Hy)) 0 else min v (n:Hy))=(((if v < 0 then(v+(n:Hy)).toNat else min v.toNat n):Hs):Hy)
 by_cases hv:v < 0
 ·simp only[HY hv]; omega
 ·simp only[Iy hv]; omega
theorem pY (lo hi:Hr Hy)(n:Hs):KQ lo hi 1 (n:Hy)=(((cv n 0 lo:Hs):Hy),((cv n n hi:Hs):Hy)):=by
 have h1:¬ ((1:Hy) < 0):=∅
 unfold KQ;simp only[h1,Kg];refine Pq ?_ ?_
 ·cases lo with
  | none=>rfl
  | some v=>exact rg v n 0
 ·cases hi with
  | none=>rfl
  | some v=>exact rg v n n
theorem pZ (i j:Hs):J9 (i:Hy) (j:Hy) 1=j - i:=by
 unfold J9;have h1:(1:Hy) > 0:=∅
 simp only[h1,Kq,Int.ediv_one];split <;> omega
theorem jI {v:Hm}{o:Hr Hy}{Q:Hr Hy->Hq->Prop}(p:LJ v o)(h:Q o s):wpAny (model prog w) A (On v) Q E s:=by
 cases p with
 | none=>exact OB h
 | int i t=>exact slicePart_int h
theorem eL {sl:Hw}{vl vu:Hm}{lo hi:Hr Hy}{n:Hs}{Q:Hy×Hy×Hs->Hq->Prop}(hs:s.heap.IsSliceOf sl vl vu .none)(pl:LJ vl lo)(pu:LJ vu hi)
  (h:Q (((cv n 0 lo:Hs):Hy),1,cv n n hi - cv n 0 lo) s):wpAny (model prog w) A (LK (.ref sl) (pure (n:Hy))) Q E s:=by
 obtain⟨os,hos,hcs,hds⟩:=id hs;unfold LK OS;refine Hl (Hl (JO hos hds (x:=vl) rfl (Hl (JO hos hds (x:=vu) rfl (Hl (JO hos hds (x:=.none) rfl (HB ?_)))))));refine Hl (OB ?_);show wpAny _ _ (if ((1:Hy)==0)=true then _ else _) _ _ s
 rw[Iy #v[]]
 refine Hl (jI pl (Hl (jI pu (Hl (HB ?_)))));show wpAny _ _ (match KQ lo hi 1 (n:Hy)with|(lo,hi)=>pure (lo,(1:Hy),J9 lo hi 1)) _ _ s
 rw[pY lo hi n];show wpAny _ _ (pure (((cv n 0 lo:Hs):Hy),(1:Hy),J9 ((cv n 0 lo:Hs):Hy) ((cv n n hi:Hs):Hy) 1)) _ _ s;rw[pZ];exact HB h
theorem u4 (xs:IF Hm)(i k:Hs):((HJ k).filterMap λ(m:Hs)=>xs[((i:Hy)+(m:Hy)*1).toNat]?).toArray=((xs.toList.drop i).take k).toArray:=by
 have e:(λ(m:Hs)=>xs[((i:Hy)+(m:Hy)*1).toNat]?)=λm=>xs[i+m]?:=by
  funext m
  have:((i:Hy)+(m:Hy)*1).toNat=i+m:=∅
  rw[this]
 rw[e];have:=pick_run xs i k;rw[List.filterMap_map]at this;have e2:((λx=>xs[x]?)∘λx=>i+x)=λm=>xs[i+m]?:=rfl
 rw[e2]at this;rw[this]
theorem g9 {t sl:Hw}{items:IF Hm}{vl vu:Hm}{lo hi:Hr Hy}{Q:Hm->Hq->Prop}(ht:NA s.heap t items)(hs:s.heap.IsSliceOf sl vl vu .none)(pl:LJ vl lo)(pu:LJ vu hi)
  (hw:¬ (cv items.size 0 lo=0/\cv items.size items.size hi=items.size))
  (h:Q (.ref s.heap.objs.size) { s with heap:=s.heap.push { cls:=.type "tuple",data:=.seq ((items.toList.drop (cv items.size 0 lo)).take (cv items.size items.size hi - cv items.size 0 lo)).toArray } })
  (hsz:items.size<=sizeLine):wpAny (model prog w) A (getItem (.ref t) (.ref sl)) Q E s:=by
 have htake:sizeOk (.seq ((items.toList.drop (cv items.size 0 lo)).take (cv items.size items.size hi - cv items.size 0 lo)).toArray):=by
  show((items.toList.drop (cv items.size 0 lo)).take (cv items.size items.size hi - cv items.size 0 lo)).toArray.size<=sizeLine;rw[HK,Ic,Kt,Iw];omega
 have hj:cv items.size items.size hi<=items.size:=BX _ _ (HC _) hi;obtain⟨os,hos,hcs,hds⟩:=id hs;have hTs:s.TypeIs (.ref sl) "slice":=#[os,hos,hcs];unfold getItem
 try with_reducible refine Jn ?_
 first|refine Hl (HB ?_)|skip
 refine Hl (NJ ht.typeIs #v[] ?_)
 refine Hl (IX (name:=JX "__getitem__") ht.typeIs JF
  (Ji JF ht.typeIs M3 ?_ (No _ _)))
 show wpAny _ _ (KJ (.ref t) >>= _) _ _ s;refine Hl (OX ht ?_);refine Hl (LC hTs ?_);rw[HY #v[]]
 refine Hl (eL hs pl pu ?_);have hno:¬ ((((cv items.size 0 lo:Hs):Hy)==0&&(1:Hy)==1&&(cv items.size items.size hi - cv items.size 0 lo)==items.size)=true):=by
  intro q;rw[Hv,Hv]at q;have q1:((cv items.size 0 lo:Hs):Hy)=0:=eq_of_beq q.1.1;have q2:cv items.size items.size hi - cv items.size 0 lo=items.size:=eq_of_beq q.2;exact hw #[∅,∅]
 show wpAny _ _ (if (((cv items.size 0 lo:Hs):Hy)==0&&(1:Hy)==1&&(cv items.size items.size hi - cv items.size 0 lo)==items.size)=true then _ else _) _ _ s
 rw[Iy hno,u4]
 first
  | exact Hl (m:=Ju _) (IK (HB #[_,rfl,HB h]) htake)
  | exact Hl (m:=Ju _) (IK (Hl (HB (HB #[_,rfl,HB h]))) htake)
  | exact Hl (Hl (m:=Ju _) (IK (HB (HB #[_,rfl,HB h])) htake))
  | exact Hl (Hl (m:=Ju _) (IK (HB #[_,rfl,HB h]) htake))
end
end HT
namespace L2
open PySem PySem.Spec PyProof.Rows
noncomputable abbrev TO:=St->Hp->(Hr Hy->Hp->Prop)->Prop
noncomputable def PO (X:Cx)(e:Hr HW)(t:TO):Prop:=
 ∀(pins:Hj (Hw×Jr)) (s:Hq) (σ:St) (H:Hp) (Q:Hr Hy->Hp->Prop),Inv X pins σ H s->t σ H Q->
  wpAny (model X.prog X.w) X.A (evalPart e X.env) (λu s'=>∃o H',Inv X pins σ H' s'/\LJ u o/\Q o H') X.xe s
noncomputable def yI:TO:=λ_ H Q=>Q td H
noncomputable def DS (t:TE):TO:=λσ H Q=>t σ H λx H1=>∃i,x=.int i/\Q (gV i) H1
section
variable{X:Cx}{e:HW}{te:TE}{lo hi:Hr HW}{tl th:TO}{pos p2:J2}
theorem yJ:PO X td yI:=by
 intro pins s σ H Q I h;rw[OY];exact HB #[td,H,I,.none,h]
theorem yK (h:PE X e te):PO X (gV e) (DS te):=by
 intro pins s σ H Q I hw;rw[evalPart_some];refine bo (h pins s σ H _ I hw) λu s1 #[x,H1,I1,r1,q1]=>?_
 obtain⟨i,rfl,q⟩:=q1;obtain⟨t,rfl⟩:=r1;exact#[gV i,H1,I1,.int i t,q]
noncomputable def DT (X:Cx)(r:V->Hr Hy->Hr Hy->Hp->VK->Prop):Prop:=
 ∀(pins:Hj (Hw×Jr)) (s:Hq) (σ:St) (H:Hp) (x:V) (v vl vu:Hm) (lo hi:Hr Hy) (sl:Hw) (Q:VK),Inv X pins σ H s->RelV x v->s.heap.IsSliceOf sl vl vu .none->LJ vl lo->LJ vu hi->r x lo hi H Q->
  ∃T id,typeLookup (.type T) "__getitem__" = pure (gV (.builtin id))/\s.TypeIs v T/\wpAny (model X.prog X.w) X.A (getItem v (.ref sl)) (EP X pins σ Q) X.xe s
noncomputable def G2 (r:V->Hr Hy->Hr Hy->Hp->VK->Prop)(te:TE)(tl th:TO):TE:=λσ H Q=>te σ H λx H1=>tl σ H1 λl H2=>th σ H2 λu H3=>r x l u H3 Q
theorem u5 {r:V->Hr Hy->Hr Hy->Hp->VK->Prop}(hr:DT X r)(he:PE X e te)(hl:PO X lo tl)(hu:PO X hi th):PE X (.Subscript e (.Slice lo hi td p2) pos) (G2 r te tl th):=by
 intro pins s σ H Q I h;refine Subscript_ (bo (he pins s σ H _ I h) λv s1 #[x,H1,I1,r1,q1]=>?_)
 refine wpAny_Slice (bo (hl pins s1 σ H1 _ I1 q1) λvl s2 #[l,H2,I2,pl,q2]=>bo (hu pins s2 σ H2 _ I2 q2) λvu s3 #[u,H3,I3,pu,q3]=>?_)
 rw[OY];refine HB ?_;have I4:Inv X pins σ H3 { s3 with heap:=s3.heap.push { cls:=.type "slice",data:=.fields [vl,vu,.none].toArray } }:=I3.kept (t':=s3.toks) λb ob q=>Hu _ q
 obtain⟨T,id,hT,ht,hg⟩:=hr pins { s3 with heap:=s3.heap.push { cls:=.type "slice",data:=.fields [vl,vu,.none].toArray } } σ H3 x v vl vu l u s3.heap.objs.size Q I4 r1 (PM ..) pl pu q3
 show wpAny (model X.prog X.w) X.A (subscriptTail e (.Slice lo hi td p2) v (.ref s3.heap.objs.size)) (EP X pins σ Q) X.xe { s3 with heap:=s3.heap.push { cls:=.type "slice",data:=.fields [vl,vu,.none].toArray } }
 exact tail_any (ops:=[.ref s3.heap.objs.size,v]) ht hT hg (by with_unfolding_all rfl)
noncomputable def jJ (xs:Hj V)(lo hi:Hr Hy):Hj V:=(xs.drop (HT.cv xs.length 0 lo)).take (HT.cv xs.length xs.length hi - HT.cv xs.length 0 lo)
theorem jf (xs:Hj V)(lo hi:Hr Hy):(jJ xs lo hi).length<=xs.length:=by
 unfold jJ;rw[Ic,Kt];omega
noncomputable def FX (K:HD):V->Hr Hy->Hr Hy->Hp->VK->Prop:=λx lo hi H Q=>∃a xs,x=.ref a/\SqT K H a xs/\
 ¬ (HT.cv xs.length 0 lo=0/\HT.cv xs.length xs.length hi=xs.length)/\∀p,H p=td->Q (.ref p) (bR H p (.tup (jJ xs lo hi)))
theorem BY:DT X (FX X.K):=by
 intro pins s σ H x v vl vu lo hi sl Q I rx hs pl pu h;obtain⟨a,xs,rfl,hx,hw,q⟩:=h;cases rx;obtain⟨its,r,ht,hz⟩:=I.tuple hx;have hlen:its.toArray.size=xs.length:=by rw[HK]; exact r.length.symm
 refine#["tuple",_,PyProof.Rows.slot_tuple_getitem.lookup,ht.typeIs,?_];refine HT.g9 ht hs pl pu (by rw[hlen]; exact hw) ?_ (by rw[hlen]; exact hz)
 rw[hlen];refine#[.ref s.heap.objs.size,_,I.laid (t':=s.toks) (o:=.tup (jJ xs lo hi)) (λb ob q=>Hu _ q) (HC _) ?_,rfl,q _ (I.hok.fresh (HC _))]
 exact#[#[Ih (jf xs lo hi) hz,NoD.new _ _ _],_,(r.drop (HT.cv xs.length 0 lo)).take (HT.cv xs.length xs.length hi - HT.cv xs.length 0 lo),N2 _ _]
theorem Vals.nil_iff {xs:Hj V}{us:Hj Hm}(r:Vals xs us):us=[]↔xs=[]:=by
 cases r with
 | nil=>simp
 | cons _ _=>simp
end
noncomputable def rh (n:Hs)(i:Hy):Hr Hs:=if 0<=i then(if i < n then gV i.toNat else td)else if -(n:Hy)<=i then gV (i+n).toNat else td
noncomputable def om {α:Type}(xs:Hj α)(i:Hy):Hr α:=(rh xs.length i).bind λj=>xs[j]?
theorem rj {n:Hs}{i:Hy}{j:Hs}(h:rh n i=gV j):seqIndex? i n=gV j/\j < n/\-(n:Hy)<=i/\i < n:=by
 unfold rh at h
 by_cases h0:0<=i
 ·rw[HY h0]at h
  by_cases h1:i < n
  ·rw[HY h1]at h;have e:i.toNat=j:=IV h;exact#[by rw[Oj h0 h1,e],∅,∅,h1]
  ·rw[Iy h1]at h; cases h
 ·rw[Iy h0]at h
  by_cases h1 : -(n:Hy)<=i
  ·rw[HY h1]at h;have e:(i+n).toNat=j:=IV h;exact#[by rw[NK ∅ h1,e],∅,h1,∅]
  ·rw[Iy h1]at h; cases h
theorem mH {α:Type}{xs:Hj α}{i:Hy}{v:α}(h:om xs i=gV v):∃j,seqIndex? i xs.length=gV j/\xs[j]?=gV v/\j < xs.length/\-(xs.length:Hy)<=i/\i < xs.length:=by
 unfold om at h;cases e:rh xs.length i with
 | none=>rw[e]at h; cases h
 | some j=>
  rw[e]at h;obtain⟨h1,h2,h3,h4⟩:=rj e;exact#[j,h1,h,h2,h3,h4]
theorem atI_nat {α:Type}{xs:Hj α}{j:Hs}{v:α}(h:xs[j]?=gV v):om xs (j:Hy)=gV v:=by
 have hj:j < xs.length:=(HG.mp h).1;have e:rh xs.length (j:Hy)=gV j:=by
  unfold rh;rw[HY ∅,HY ∅]; simp
 unfold om; rw[e]; exact h
noncomputable def mI (b:HW):Prop:=∀o i,subscripted b false o i=operate [o,i] (getItem o i)
noncomputable def IxR (X:Cx)(r:R2):Prop:=
 ∀(value slice:HW) (pins:Hj (Hw×Jr)) (s:Hq) (σ:St) (H:Hp) (x y:V) (v u:Hm) (Q:VK),Inv X pins σ H s->RelV x v->RelV y u->r x y H Q->
  subscripted slice false v u=operate [v,u] (getItem v u)->wpAny (model X.prog X.w) X.A (subscriptTail value slice v u) (EP X pins σ Q) X.xe s
noncomputable def MtR (X:Cx)(id:Jf)(r:V->Hj V->Hp->VK->Prop):Prop:=
 ∀(pins:Hj (Hw×Jr)) (s:Hq) (σ:St) (H:Hp) (x:V) (xs:Hj V) (v:Hm) (us:Hj Hm) (Q:VK),Inv X pins σ H s->RelV x v->Vals xs us->r x xs H Q->
  wpAny (model X.prog X.w) X.A (call (.builtin id) (v::us)) (EP X pins σ Q) X.xe s
section
variable{X:Cx}{a b:HW}{ta tb:TE}{pos:J2}
theorem DU {r:R2}(hr:IxR X r)(ha:PE X a ta)(hb:PE X b tb)(hs:mI b):PE X (.Subscript a b pos) (Fg r ta tb):=by
 intro pins s σ H Q I h;exact Subscript_ (BL ha hb I h λv u s2 x y H2 I2 rx ry q=>hr a b pins s2 σ H2 x y v u Q I2 rx ry q (hs _ _))
noncomputable def FY (K:HD):R2:=λx y H Q=>∃p xs i v,x=.ref p/\y=.int i/\SqL K H p xs/\om xs i=gV v/\Q v H
noncomputable def FZ (K:HD):R2:=λx y H Q=>∃p xs i v,x=.ref p/\y=.int i/\SqT K H p xs/\om xs i=gV v/\Q v H
noncomputable def F0:R2:=λx y H Q=>∃z i c,x=.str z/\y=.int i/\z.length<=sizeLine/\om z.cps.toList i=gV c/\Q (.str #[[c].toArray]) H
theorem yL:IxR X (FY X.K):=by
 intro value slice pins s σ H x y v u Q I rx ry h hs;obtain⟨p,xs,i,z,rfl,rfl,hq,he,q⟩:=h;cases rx;obtain⟨t,rfl⟩:=ry;obtain⟨its,r,pl,hz⟩:=I.list hq;obtain⟨j,h1,h2,h3,h4,h5⟩:=mH he;obtain⟨w,ew,rw'⟩:=r.get h2;have hl:=r.length;have hn:=iO;have fin:EP X pins σ Q w s:=#[z,H,I,rw',q]
 by_cases h0:0<=i
 ·have hj:i.toNat=j:=by
   rw[Oj h0 h5]at h1;exact IV h1
  exact item_listR pl.isList h0 ∅ (by rw[hj]; simpa using ew) fin hs
 ·have hj:(i+(its.toArray.size:Hy)).toNat=j:=by
   rw[NK ∅ h4]at h1
   rw[HK,<- hl];exact IV h1
  exact Lf (x:=w) pl.isList.typeIs slot_list_getitem.lookup
   (wpAny_getItem_list_neg (Q:=λr s'=>r=w/\EP X pins σ Q r s') pl.isList ∅ (by rw[HK] <;> omega) ∅ (by rw[hj]; simpa using ew) #[rfl,fin]) hs
theorem BZ:IxR X (FZ X.K):=by
 intro value slice pins s σ H x y v u Q I rx ry h hs;obtain⟨p,xs,i,z,rfl,rfl,hq,he,q⟩:=h;cases rx;obtain⟨t,rfl⟩:=ry;obtain⟨its,r,pl,hz⟩:=I.tuple hq;obtain⟨j,h1,h2,h3,h4,h5⟩:=mH he;obtain⟨w,ew,rw'⟩:=r.get h2;have hl:=r.length;have hn:=iO;have fin:EP X pins σ Q w s:=#[z,H,I,rw',q];exact Lf (x:=w) pl.typeIs slot_tuple_getitem.lookup
  (getItem_tuple (j:=j) (Q:=λr s'=>r=w/\EP X pins σ Q r s') pl ∅ ∅ (by rw[HK,<- hl]; exact h1) (by simpa using ew) #[rfl,fin]) hs
theorem B0:IxR X F0:=by
 intro value slice pins s σ H x y v u Q I rx ry h hs;obtain⟨z,i,c,rfl,rfl,hz,he,q⟩:=h;obtain⟨t,rfl⟩:=rx;obtain⟨t',rfl⟩:=ry;obtain⟨j,h1,h2,h3,h4,h5⟩:=mH he;have hl:z.cps.toList.length=z.length:=by simp[Str.length]
 rw[hl]at h1 h4 h5;have hn:=iO;exact tail_any (typeIs_str s z t) slot_str_getitem.lookup (getItem_str (c:=c) (by
  have e1:decide (i < -(2 ^ 63:Hy))=false:=Iq ∅
  have e2:decide (i>=2 ^ 63)=false:=Iq ∅
  rw[e1,e2,OZ]) (by rw[h1]; simpa using h2) #[.str #[[c].toArray],H,I.tok _,#[_,rfl],q]) hs
theorem p4 (its:Hj Hm)(n j:Hs)(u:Hm):Jl (·.setIfInBounds j u) { cls:=.type "list",data:=.seq its.toArray n }={ cls:=.type "list",data:=.seq (its.set j u).toArray n }:=by
 simp[Jl]
theorem Inv.lst {pins:Hj (Hw×Jr)}{σ:St}{H:Hp}{s:Hq}{p:Hw}{xs:Hj V}(I:Inv X pins σ H s)(h:H p=gV (.lst xs)) :
  ∃(its:Hj Hm) (n:Hs),Vals xs its/\s.heap.get? p=gV { cls:=.type "list",data:=.seq its.toArray n }/\xs.length<=sizeLine:=by
 obtain⟨z,its,n,r,e⟩:=I.hok p _ h;exact#[its,n,r,e,z]
theorem Inv.lstUpd {pins:Hj (Hw×Jr)}{σ:St}{H:Hp}{s:Hq}{p:Hw}{xs ys:Hj V}{its its':Hj Hm}{n n':Hs}{f:Jr->Jr}(I:Inv X pins σ H s)(h:H p=gV (.lst xs))
  (ho:s.heap.get? p=gV { cls:=.type "list",data:=.seq its.toArray n }) (hf:f { cls:=.type "list",data:=.seq its.toArray n }={ cls:=.type "list",data:=.seq its'.toArray n' }) (r:Vals ys its') (hz:ys.length<=sizeLine) (t:Hs) :
  Inv X pins σ (bR H p (.lst ys)) { s with heap:=s.heap.update p f,toks:=t }:=by
 have e:(s.heap.update p f).get? p=gV { cls:=.type "list",data:=.seq its'.toArray n' }:=by
  rw[J7 f ho (by rw[hf] <;> rfl),hf]
 refine I.write (x:=p) (e:=p) (by rw[h]; trivial) (.inl rfl) (λb u hb q=>(IQ _ _ (Ne.symm hb)).trans q) #[_,e] ?_
 exact#[hz,its',n',r,e]
noncomputable def DV:V->V->V->Hp->(Hp->Prop)->Prop:=λo i v H Q=>∃p xs k j,o=.ref p/\i=.int k/\H p=gV (.lst xs)/\rh xs.length k=gV j/\Q (bR H p (.lst (xs.set j v)))
theorem u6:BE X DV:=by
 intro pins s σ H o i v ov iv u Q I ro ri rv h;obtain⟨p,xs,k,j,rfl,rfl,hp,hj,q⟩:=h;cases ro;obtain⟨t,rfl⟩:=ri;obtain⟨its,n,r,ho,hz⟩:=I.lst hp;obtain⟨h1,h2,h3,h4⟩:=rj hj;have hl:=r.length;have hn:=iO;have I':Inv X pins σ (bR H p (.lst (xs.set j v))) { s with heap:=s.heap.update p (Jl (·.setIfInBounds j u)) }:=
  I.lstUpd hp ho (p4 its n j u) (r.set rv j) (by rw[Oo]; exact hz) s.toks
 by_cases h0:0<=k
 ·have hk:k.toNat=j:=by
   rw[Oj h0 h4]at h1;exact IV h1
  exact PySem.W.ki_setAt ho h0 ∅ (by rw[HK,<- hl]; exact h4) (by rw[hk]; exact#[_,I',q])
 ·have hk:(k+(its.toArray.size:Hy)).toNat=j:=by
   rw[NK ∅ h3]at h1
   rw[HK,<- hl];exact IV h1
  exact PySem.W.ki_setBack ho ∅ (by rw[HK,<- hl]; exact h3) ∅ (by rw[hk]; exact#[_,I',q])
theorem mJ (lo hi:Hr Hy)(n:Hs):(sliceBounds lo hi td n).1=((HT.cv n 0 lo:Hs):Hy)/\(sliceBounds lo hi td n).2.1=((HT.cv n n hi:Hs):Hy)/\(sliceBounds lo hi td n).2.2=1:=by
 refine#[?_,?_,rfl]
 ·cases lo with
  | none=>simp[sliceBounds,HT.cv]
  | some i=>
   simp only[sliceBounds,HT.cv,N5,show(1:Hy) > 0 by decide,Kq]
   by_cases h:i < 0
   ·simp only[h,Kq] <;> omega
   ·simp only[h,Kg] <;> omega
 ·cases hi with
  | none=>simp[sliceBounds,HT.cv]
  | some i=>
   simp only[sliceBounds,HT.cv,N5,show(1:Hy) > 0 by decide,Kq]
   by_cases h:i < 0
   ·simp only[h,Kq] <;> omega
   ·simp only[h,Kg] <;> omega
theorem kW (its:Hj Hm)(lo hi:Hr Hy):slicePick its.toArray lo hi td=((its.drop (HT.cv its.length 0 lo)).take (HT.cv its.length its.length hi - HT.cv its.length 0 lo)).toArray:=by
 obtain⟨h1,h2,h3⟩:=mJ lo hi its.toArray.size;unfold slicePick;rw[h1,h2,h3];simp only[sliceRange_one,pick_run,HK] <;> rfl
noncomputable def F1 (K:HD):V->Hr Hy->Hr Hy->Hp->VK->Prop:=λx lo hi H Q=>∃a xs,x=.ref a/\SqL K H a xs/\∀p,H p=td->Q (.ref p) (bR H p (.lst (jJ xs lo hi)))
theorem yM:DT X (F1 X.K):=by
 intro pins s σ H x v vl vu lo hi sl Q I rx hs pl pu h;obtain⟨a,xs,rfl,hx,q⟩:=h;cases rx;obtain⟨its,r,ht,hz⟩:=I.list hx;have hlen:=r.length;refine#["list",_,slot_list_getitem.lookup,ht.isList.typeIs,?_];refine wpAny_getItem_list_slice ht.isList hs pl pu .none (by simp) ?_ (by rw[HK] <;> omega)
 rw[kW,<- hlen];refine#[.ref s.heap.objs.size,_,I.laid (t':=s.toks) (o:=.lst (jJ xs lo hi)) (λb ob q=>Hu _ q) (HC _) ?_,rfl,q _ (I.hok.fresh (HC _))]
 exact#[Ih (jf xs lo hi) hz,_,0,(r.drop (HT.cv xs.length 0 lo)).take (HT.cv xs.length xs.length hi - HT.cv xs.length 0 lo),HQ _ rfl]
noncomputable def gH:V->HX
 | .non=>true
 | .bl _=>true
 | .int _=>true
 | .str _=>true
 | _=>false
noncomputable def yN:V->V->HX
 | .non,.non=>true
 | .bl a,.bl b=>a==b
 | .bl a,.int b=>(if a then 1 else 0)==b
 | .int a,.bl b=>a==(if b then 1 else 0)
 | .int a,.int b=>a==b
 | .str a,.str b=>a==b
 | _,_=>false
theorem B1 {A:Ix}{s:Hq}{y x:V}{u v:Hm}(ry:RelV y u)(rx:RelV x v)(fy:gH y=true)(fx:gH x=true):Ln A s u v (yN y x):=by
 cases y with
 | non=>
  cases ry;cases x with
  | non=>cases rx; exact P7 _
  | bl b=>cases rx; exact Pr b
  | int b=>obtain⟨t,rfl⟩:=rx; exact Pz b t
  | str b=>obtain⟨t,rfl⟩:=rx; exact PC b t
  | _=>exact absurd (show false=true from fx) HN
 | bl a=>
  cases ry;cases x with
  | non=>cases rx; exact Ps a
  | bl b=>cases rx; exact Pu a b
  | int b=>obtain⟨t,rfl⟩:=rx; exact PD a b t
  | str b=>obtain⟨t,rfl⟩:=rx; exact PF a b t
  | _=>exact absurd (show false=true from fx) HN
 | int a=>
  obtain⟨t',rfl⟩:=ry;cases x with
  | non=>cases rx; exact PH a t'
  | bl b=>cases rx; exact PJ a t' b
  | int b=>obtain⟨t,rfl⟩:=rx; exact PN a t' b t
  | str b=>obtain⟨t,rfl⟩:=rx; exact Nh a t' b t
  | _=>exact absurd (show false=true from fx) HN
 | str a=>
  obtain⟨t',rfl⟩:=ry;cases x with
  | non=>cases rx; exact PK a t'
  | bl b=>cases rx; exact PL a t' b
  | int b=>obtain⟨t,rfl⟩:=rx; exact Ni a t' b t
  | str b=>obtain⟨t,rfl⟩:=rx; exact PP a t' b t
  | _=>exact absurd (show false=true from fx) HN
 | _=>exact absurd (show false=true from fy) HN
noncomputable def on (x:V)(u:Hm):HX:=match u with
 | .none=>yN .non x
 | .bool b=>yN (.bl b) x
 | .int i _=>yN (.int i) x
 | .str z _=>yN (.str z) x
 | _=>false
theorem p7 {x y:V}{u:Hm}(r:RelV y u)(f:gH y=true):on x u=yN y x:=by
 cases y with
 | non=>cases r; rfl
 | bl b=>cases r; rfl
 | int i=>obtain⟨t,rfl⟩:=r; rfl
 | str z=>obtain⟨t,rfl⟩:=r; rfl
 | _=>exact absurd (show false=true from f) HN
theorem hG {x:V}:∀ {xs:Hj V} {us:Hj Hm},Vals xs us->xs.all gH=true->us.any (on x)=xs.any λy=>yN y x
 | _,_,.nil,_=>rfl
 | y::xs,u::us,.cons r t,f=>by
  rw[II,Hv]at f;rw[Kk,Kk,p7 r f.1,hG t f.2]
theorem eM {A:Ix}{s:Hq}{x:V}{v:Hm}(rx:RelV x v)(fx:gH x=true):∀ {xs:Hj V} {us:Hj Hm},Vals xs us->xs.all gH=true->∀u∈us,Ln A s u v (on x u)
 | _,_,.nil,_=>λu hu=>by cases hu
 | y::xs,u::us,.cons r t,f=>λu' hu=>by
  rw[II,Hv]at f;rcases HZ.mp hu with rfl|hu
  ·rw[p7 r f.1]; exact B1 r rx f.1 fx
  ·exact eM rx fx t f.2 u' hu
noncomputable def Fi (x:V)(xs:Hj V):HX:=xs.any λy=>yN y x
noncomputable def F2 (K:HD)(neg:HX):R2:=λx y H Q=>∃p xs,y=.ref p/\(SqL K H p xs\/SqT K H p xs)/\gH x=true/\xs.all gH=true/\Q (.bl (if neg then !Fi x xs else Fi x xs)) H
theorem sV:OpR X (compareOp .In) (F2 X.K false):=by
 intro pins s σ H x y v u Q I rx ry h;obtain⟨p,xs,rfl,hq,fx,fs,q⟩:=h;cases ry;rcases hq with hq|hq
 ·obtain⟨its,r,pl,hz⟩:=I.list hq;refine Op (on x) pl.isList (λw hw=>eM rx fx r fs w (by simpa using hw)) #[.bl _,H,I,rfl,?_]
  rw[show its.toArray.any (on x)=its.any (on x) by simp,hG r fs]
  exact q
 ·obtain⟨its,r,pl,hz⟩:=I.tuple hq;refine N6 (on x) pl (λw hw=>eM rx fx r fs w (by simpa using hw)) #[.bl _,H,I,rfl,?_]
  rw[show its.toArray.any (on x)=its.any (on x) by simp,hG r fs]
  exact q
theorem mK:OpR X (compareOp .NotIn) (F2 X.K true):=by
 intro pins s σ H x y v u Q I rx ry h;obtain⟨p,xs,rfl,hq,fx,fs,q⟩:=h;cases ry;rcases hq with hq|hq
 ·obtain⟨its,r,pl,hz⟩:=I.list hq;refine Np (on x) pl.isList (λw hw=>eM rx fx r fs w (by simpa using hw)) #[.bl _,H,I,rfl,?_]
  rw[show its.toArray.any (on x)=its.any (on x) by simp,hG r fs]
  exact q
 ·obtain⟨its,r,pl,hz⟩:=I.tuple hq;refine SeqAt.notIn_tupleAt (on x) pl (λw hw=>eM rx fx r fs w (by simpa using hw)) #[.bl _,H,I,rfl,?_]
  rw[show its.toArray.any (on x)=its.any (on x) by simp,hG r fs]
  exact q
theorem mL:CallR X (.type "list") (λxs H Q=>∃p ys,xs=[.ref p]/\(SqL X.K H p ys\/SqT X.K H p ys)/\∀l,H l=td->Q (.ref l) (bR H l (.lst ys))):=by
 intro pins s σ H xs us Q I r h;obtain⟨p,ys,rfl,hq,q⟩:=h;obtain⟨u,rfl,rx⟩:=ln r;cases rx;have fin:∀(its:Hj Hm),Vals ys its->ys.length<=sizeLine->∀(h':IJ) (c':Hs),(∀b o',s.heap.get? b=gV o'->h'.get? b=gV o')->
   h'.get? s.heap.objs.size=gV { cls:=.type "list",dict:=td,data:=.seq its.toArray c',slots:=#[] }->EP X pins σ Q (.ref s.heap.objs.size) { s with heap:=h' }:=λits r' hz h' c' kp e=>
  #[.ref s.heap.objs.size,_,I.laid (t':=s.toks) kp (HC _) (show ObjOk X.prog X.w _ h' _ (.lst ys)from#[hz,its,c',r',e]),rfl,q _ (I.hok.fresh (HC _))]
 rcases hq with hq|hq
 ·obtain⟨its,r',pl,hz⟩:=I.list hq;have hlen:=r'.length;obtain⟨o,ho,hc,n,hd⟩:=pl.isList;exact O0 p (.inl rfl) ho hc hd (λh' c' kp e=>fin its r' hz h' c' kp e) (by simp only[HK] <;> omega)
 ·obtain⟨its,r',pl,hz⟩:=I.tuple hq;have hlen:=r'.length;obtain⟨o,ho,hc,n,hd⟩:=pl;exact O0 p (.inr rfl) ho hc hd (λh' c' kp e=>fin its r' hz h' c' kp e) (by simp only[HK] <;> omega)
theorem gI:CallR X (.type "tuple") (λxs H Q=>∃p ys,xs=[.ref p]/\((SqL X.K H p ys/\∀l,H l=td->Q (.ref l) (bR H l (.tup ys)))\/(SqT X.K H p ys/\Q (.ref p) H))):=by
 intro pins s σ H xs us Q I r h;obtain⟨p,ys,rfl,h⟩:=h;obtain⟨u,rfl,rx⟩:=ln r;cases rx;rcases h with⟨hq,q⟩|⟨hq,q⟩
 ·obtain⟨its,r',pl,hz⟩:=I.list hq;have hlen:=r'.length;refine call_tuple_list pl.isList (λh' kp=>?_) (by simp only[HK] <;> omega)
  have I1:Inv X pins σ H { s with heap:=h' }:=I.kept (t':=s.toks) kp
  have I2:Inv X pins σ (bR H h'.objs.size (.tup ys)) { s with heap:=h'.push { cls:=.type "tuple",data:=.seq its.toArray } }:=
   I1.laid (t':=s.toks) (λb o e=>Hu _ e) (HC _) (show ObjOk X.prog X.w _ _ _ (.tup ys)from#[#[hz,NoD.new _ _ _],its,r',N2 _ _])
  exact#[.ref h'.objs.size,_,I2,rfl,q _ (I1.hok.fresh (HC _))]
 ·obtain⟨its,r',pl,hz⟩:=I.tuple hq;exact call_tuple_same pl #[.ref p,H,I,rfl,q]
noncomputable def F3 (K:HD)(T:Jf)(x:V)(H:Hp):Prop:=match x with
 | .str _=>T = "str"
 | .int _=>T = "int"
 | .ref p=>(T = "list"/\∃xs,SqL K H p xs)\/(T = "tuple"/\∃o,K.lookup p=gV o/\o.cls=.type "tuple"/\o.dict=td)\/
   (T = "dict"/\((∃kvs,H p=gV (.dK kvs))\/∃kvs,H p=gV (.dT kvs)))\/(T = "set"/\∃S n,H p=gV (.set S n))
 | _=>IY
theorem u7 {pins:Hj (Hw×Jr)}{σ:St}{H:Hp}{s:Hq}{T:Jf}{x:V}{v:Hm}(I:Inv X pins σ H s)(r:RelV x v)(ty:F3 X.K T x H) :
  s.TypeIs v T/\∀a,v=.ref a->∃ob,s.heap.get? a=gV ob/\ob.dict=td:=by
 cases x with
 | str z=>
  obtain⟨t,rfl⟩:=r;cases(show T = "str" from ty)
  exact#[typeIs_str s z t,λ_ e=>nomatch e]
 | int i=>
  obtain⟨t,rfl⟩:=r;cases(show T = "int" from ty)
  exact#[OC s i t,λ_ e=>nomatch e]
 | ref p=>
  cases r;rcases ty with⟨rfl,xs,hq⟩|⟨rfl,o,hk,hc,hd⟩|⟨rfl,hk⟩|⟨rfl,S,n,hk⟩
  ·obtain⟨its,_,pl,_⟩:=I.list hq;refine#[pl.isList.typeIs,λa e=>?_]
   cases e;obtain⟨o,n,e,c,hd,_⟩:=pl;exact#[o,e,hd]
  ·refine#[#[o,I.kIn p o hk,hc],λa e=>?_]
   cases e;exact#[o,I.kIn _ o hk,hd]
  ·have z:∃o,s.heap.get? p=gV o/\o.ExactDict:=by
    rcases hk with⟨kvs,hk⟩|⟨kvs,hk⟩
    ·obtain⟨_,_,_,_,o,_,_,e,ex,_⟩:=I.hok p _ hk;exact#[o,e,ex]
    ·obtain⟨_,_,_,_,o,_,_,e,ex,_⟩:=I.hok p _ hk;exact#[o,e,ex]
   obtain⟨o,e,ex⟩:=z;refine#[#[o,e,ex.1],λa e2=>?_]
   cases e2;exact#[o,e,ex.2.1]
  ·obtain⟨o,_,_,_,e,ex,_⟩:=I.hok p _ hk;refine#[#[o,e,ex.1],λa e2=>?_]
   cases e2;exact#[o,e,ex.2.1]
 | _=>exact IY.elim ty
variable{o e:HW}{es:Hj HW}{to:TE}{t:TA}{name:HM}{apos cpos:J2}{T id:Jf}{r:V->Hj V->Hp->VK->Prop}
end
noncomputable def F4 (X:Cx)(id:Jf)(r:V->Hj V->Hp->VK->Prop):Prop:=
 ∀(pins:Hj (Hw×Jr)) (s:Hq) (σ:St) (H:Hp) (x:V) (xs:Hj V) (v:Hm) (us:Hj Hm) (Q:VK),Inv X pins σ H s->RelV x v->Vals xs us->r x xs H Q->
  wpAny (model X.prog X.w) X.A (call (.builtin id) (v::us)) (EP X pins σ Q) X.xe s
theorem Vals.one:∀ {x:V} {us:Hj Hm},Vals [x] us->∃u,us=[u]/\RelV x u
 | _,_,.cons r .nil=>#[_,rfl,r]
theorem Vals.eraseIdx:∀ {xs:Hj V} {us:Hj Hm} (i:Hs),Vals xs us->Vals (xs.eraseIdx i) (us.eraseIdx i)
 | _,_,_,.nil=>.nil
 | _,_,0,.cons _ t=>t
 | _,_,i+1,.cons r t=>.cons r (Vals.eraseIdx i t)
theorem Vals.rep {xs:Hj V}{us:Hj Hm}(h:Vals xs us):∀k:Hs,Vals (Ik k xs).flatten (Ik k us).flatten
 | 0=>.nil
 | k+1=>by
  rw[Jq,Jq,Kh,Kh];exact Vals.append h (Vals.rep h k)
theorem lC {α:Type}:∀(l:Hj α) (i:Hs),(l.eraseIdx i).length<=l.length
 | [],_=>HC _
 | _::_,0=>KL _
 | _::r,i+1=>Lo (lC r i)
theorem lD (its:Hj Hm):∀(k:Hs) (acc:Hj Hm),
  OD (λx1 x2=>x1++x2) acc.toArray (Ik k its.toArray)=(acc++(Ik k its).flatten).toArray
 | 0,acc=>by simp
 | k+1,acc=>by
  have e:acc.toArray++its.toArray=(acc++its).toArray:=by simp
  have e2:(acc++its)++(Ik k its).flatten=acc++(Ik (k+1) its).flatten:=by
   rw[Jq,Kh,KG]
  rw[<- e2,<- lD its k (acc++its),<- e,Jq,List.foldl_cons]
section
variable{X:Cx}{pins:Hj (Hw×Jr)}{σ:St}{H:Hp}{s:Hq}{l b:Hw}{xs ys zs:Hj V}
theorem Inv.lset {its its':Hj Hm}{n:Hs}{f:IF Hm->IF Hm}{t':Hs}(I:Inv X pins σ H s)(hH:H l=gV (.lst xs))
  (e:s.heap.get? l=gV { cls:=.type "list",data:=.seq its.toArray n }) (hf:f its.toArray=its'.toArray) (hv:Vals ys its') (hz:ys.length<=sizeLine) :
  Inv X pins σ (bR H l (.lst ys)) { s with heap:=s.heap.update l (Jl f),toks:=t' }:=by
 have q:=N7 e f;rw[hf]at q;refine I.write (x:=l) (e:=l) (by rw[hH]; exact trivial) (.inl rfl) (λb' u hb hu=>(IQ s.heap (Jl f) (Ne.symm hb)).trans hu) #[_,q] ?_
 exact#[hz,its',_,hv,q]
theorem Inv.lnew {its:Hj Hm}{t':Hs}(I:Inv X pins σ H s)(hv:Vals ys its)(hz:ys.length<=sizeLine) :
  Inv X pins σ (bR H s.heap.objs.size (.lst ys)) { s with heap:=s.heap.push { cls:=.type "list",data:=.seq its.toArray },toks:=t' }:=
 I.laid (λ_ _ q=>Hu _ q) (HC _) #[hz,its,0,hv,HQ _ rfl]
theorem Inv.fresh (I:Inv X pins σ H s):H s.heap.objs.size=td:=I.hok.fresh (HC _)
theorem Inv.lstM (I:Inv X pins σ H s)(hH:H l=gV (.lst xs)):xs.length<=sizeLine/\∃(its:Hj Hm) (n:Hs),Vals xs its/\xs.length=its.length/\s.heap.get? l=gV { cls:=.type "list",data:=.seq its.toArray n }:=by
 obtain⟨z,its,n,r,e⟩:=I.hok l _ hH;exact#[z,its,n,r,r.length,e]
theorem oo {n:Hs}(h:n<=sizeLine):Kl n=false:=by
 unfold Kl;exact Iq ∅
end
section
variable{X:Cx}
noncomputable def yO:V->Hj V->Hp->VK->Prop:=λx vs H Q=>∃l xs y,x=.ref l/\vs=[y]/\H l=gV (.lst xs)/\xs.length < sizeLine/\Q .non (bR H l (.lst (xs++[y])))
theorem sW:F4 X "list.append" yO:=by
 intro pins s σ H x vs v us Q I rx rv h;obtain⟨l,xs,y,rfl,rfl,hH,hz,q⟩:=h;cases rx;obtain⟨u,rfl,ru⟩:=rv.one;obtain⟨z,its,n,r,hl,e⟩:=I.lstM hH;refine Lp F.slot_list_append #[_,e,rfl] F.entry_list_append (F.args_list_append_2 _ _) (NL l its.toArray n u (by rw[HK]; omega)) #[e,?_]
 refine#[.non,_,I.lset (its':=its++[u]) hH e (by simp) (r.append #v[ru]) ?_,rfl,q]
 rw[Hn,Im];omega
noncomputable def yP:V->Hj V->Hp->VK->Prop:=λx vs H Q=>∃l b xs zs,x=.ref l/\vs=[.ref b]/\H l=gV (.lst xs)/\H b=gV (.lst zs)/\xs.length+zs.length<=sizeLine/\Q .non (bR H l (.lst (xs++zs)))
theorem sX:F4 X "list.extend" yP:=by
 intro pins s σ H x vs v us Q I rx rv h;obtain⟨l,b,xs,zs,rfl,rfl,hH,hB,hz,q⟩:=h;cases rx;obtain⟨u,rfl,ru⟩:=rv.one;cases ru;obtain⟨z,its,n,r,hl,e⟩:=I.lstM hH;obtain⟨z2,its2,n2,r2,hl2,e2⟩:=I.lstM hB;have hsz:its.toArray.size+its2.toArray.size<=sizeLine:=by rw[HK,HK]; omega
 have hlong:¬ (!its.toArray.isEmpty&&Kl (its.toArray.size+its2.toArray.size))=true:=by
  rw[oo hsz,Bool.and_false];exact HN
 refine Lp F.slot_list_extend #[_,e,rfl] F.entry_list_extend (F.args_list_extend_2 _ _)
  (NM l its.toArray n b its2.toArray n2 hlong (by rw[HK]; omega) ∅) #[e,e2,?_]
 refine#[.non,_,I.lset (its':=its++its2) hH e (by simp) (r.append r2) ?_,rfl,q]
 rw[Hn];omega
noncomputable def B2:V->Hj V->Hp->VK->Prop:=λx vs H Q=>∃l xs i k y,x=.ref l/\vs=[.int i]/\H l=gV (.lst xs)/\-(2 ^ 63)<=i/\i < 2 ^ 63/\seqIndex? i xs.length=gV k/\xs[k]?=gV y/\Q y (bR H l (.lst (xs.eraseIdx k)))
theorem u8:F4 X "list.pop" B2:=by
 intro pins s σ H x vs v us Q I rx rv h;obtain⟨l,xs,i,k,y,rfl,rfl,hH,h1,h2,hk,hy,q⟩:=h;cases rx;obtain⟨u,rfl,ru⟩:=rv.one;obtain⟨t,rfl⟩:=ru;obtain⟨z,its,n,r,hl,e⟩:=I.lstM hH;obtain⟨w,hw,rw'⟩:=r.get hy;refine Lp F.slot_list_pop #[_,e,rfl] F.entry_list_pop (F.args_list_pop_2 _ _)
  (Pw l its.toArray n i t k w (OE h1 h2) (by rw[HK,<- hl]; exact hk) (by rw[<- Js]; exact hw) (by rw[HK]; omega)) #[e,?_]
 refine#[y,_,I.lset (its':=its.eraseIdx k) hH e ?_ (r.eraseIdx k) ?_,rw',q]
 ·show its.toArray.eraseIdxIfInBounds k=(its.eraseIdx k).toArray;rw[List.eraseIdxIfInBounds_toArray]
 ·have:=lC xs k;omega
noncomputable def F5:R2:=λx y H Q=>∃l b xs zs,x=.ref l/\y=.ref b/\H l=gV (.lst xs)/\H b=gV (.lst zs)/\xs.length+zs.length<=sizeLine/\∀p,H p=td->Q (.ref p) (bR H p (.lst (xs++zs)))
theorem B3:OpR X (binaryOp .Add) F5:=by
 intro pins s σ H x y v u Q I rx ry h;obtain⟨l,b,xs,zs,rfl,rfl,hH,hB,hz,q⟩:=h;cases rx;cases ry;obtain⟨z,its,n,r,hl,e⟩:=I.lstM hH;obtain⟨z2,its2,n2,r2,hl2,e2⟩:=I.lstM hB;refine PySem.P.add_list e e2 ?_ (by rw[HK,HK]; omega)
 have ea:its.toArray++its2.toArray=(its++its2).toArray:=by simp
 rw[ea];exact#[.ref _,_,I.lnew (t':=s.toks) (r.append r2) (by rw[Hn]; omega),rfl,q _ I.fresh]
noncomputable def F6:R2:=λx y H Q=>∃l k xs,x=.ref l/\y=.int k/\H l=gV (.lst xs)/\-(2 ^ 63)<=k/\k < 2 ^ 63/\xs.length*k.toNat<=sizeLine/\
 ∀p,H p=td->Q (.ref p) (bR H p (.lst (Ik k.toNat xs).flatten))
theorem yQ {α:Type}(xs:Hj α)(k:Hs):(Ik k xs).flatten.length=k*xs.length:=by
 induction k with
 | zero=>simp
 | succ k ih=>rw[Jq,Kh,Hn,ih,LD,Pg]
theorem B4:OpR X (binaryOp .Mult) F6:=by
 intro pins s σ H x y v u Q I rx ry h;obtain⟨l,k,xs,rfl,rfl,hH,h1,h2,hz,q⟩:=h;cases rx;obtain⟨t,rfl⟩:=ry;obtain⟨z,its,n,r,hl,e⟩:=I.lstM hH;have hlen:its.toArray.size*k.toNat<=sizeLine:=by rw[HK,<- hl]; exact hz
 have hcap:¬ its.toArray.size*k.toNat > (2 ^ 63 - 1) / 8:=by
  have:(sizeLine:Hs)<=(2 ^ 63 - 1) / 8:=by decide
  omega
 have hfit:¬ (!OF k)=true:=by
  rw[OE h1 h2];exact HN
 have hlong:¬ Kl (its.toArray.size*k.toNat)=true:=by
  rw[oo hlen];exact HN
 have hnew:OD (λx1 x2=>x1++x2) #[] (Ik (if its.toArray.isEmpty=true then 0 else k.toNat) its.toArray)=(Ik k.toNat its).flatten.toArray:=by
  have f0:∀m:Hs,OD (λx1 x2=>x1++x2) #[] (Ik m its.toArray)=(Ik m its).flatten.toArray:=λm=>by
   have:=lD its m [];rw[Oq]at this;exact this
  rw[f0];cases its with
  | nil=>simp
  | cons a r'=>rw[Iy (by simp)]
 refine wpAny_binaryOp_repeat_ref (T:="list") (U:="int") #v[] #[_,e,rfl] (λs'=>OC s' k t) noFill_list_mul F.fills_int_mul F.slot_int_rmul repeat_list F.slot_int_index.lookup
  (Lp F.slot_int_rmul (OC s k t) F.entry_int_rmul (F.args_int_rmul_2 _ _) (int___rmul___int_list k t l its.toArray n)
   #[e,rfl,#[_,e,rfl],Lp F.slot_list_mul #[_,e,rfl] F.entry_list_mul (F.args_list_mul_2 _ _) (Nz l its.toArray n k t hfit hcap hlong) #[e,?_]])
 rw[hnew];exact#[.ref _,_,I.lnew (t':=s.toks) (r.rep k.toNat) (by rw[yQ,Ph]; exact hz),rfl,q _ I.fresh]
end
section
variable{X:Cx}{pins:Hj (Hw×Jr)}{σ:St}{H:Hp}{s:Hq}{a:Hw}{y v:V}{u r:Hm}{o:Hr V}{A:Ix}{E:Hm->Hq->Prop}
theorem Inv.big (I:Inv X pins σ H s):sysModules < s.heap.objs.size:=by
 have h:mainGlobals < s.heap.objs.size:=(I.mod.glob.keeps I.bk).lt;exact JY #v[] h
theorem mM {h':IJ}{t':Hs}{ob:HO}(I:Inv X pins σ H s)(mu:Dr (H a))(hs:Kf a s.heap h')(he:∃q,h'.get? a=gV q)(new:ObjOk X.prog X.w (bR H a ob) h' a ob) :
  Inv X pins σ (bR H a ob) { s with heap:=h',toks:=t' }:=
 I.write (x:=a) (e:=a) mu (.inl rfl) (λb q hb z=>(hs.2 b hb).trans z) he new
end
noncomputable abbrev VV:Hj (V×V)->Hj (Hm×Hm)->Prop:=Ml λp q=>RelV p.1 q.1/\RelV p.2 q.2
end L2
namespace Att
open PySem PySem.W PySem.Calls PyProof.Rows
theorem jq {P:Nq}{h:IJ}:∀(ns:Hj Hy) (vs:Hj Hm),WellAll P h vs (ns.map WData.int)->Ox vs ns:=by
 intro ns
 induction ns with
 | nil=>
  intro vs w;rw[NN]at w;cases w;exact .nil
 | cons n ns ih=>
  intro vs w;rw[Jd]at w;cases w with
  | cons a b=>
   cases a;exact .cons _ _ (ih _ b)
theorem sY {l:OpenLaw}{n:Hs}(hn:l.most=gV n){P:Nq}{h:IJ}{args:Hj WData}{vals:Hj Hm}
  (hpre:l.row.toRowW.claim.pre args=true) (hwl:WellAll P h vals args) :
  ∃a vs ns,vals=[IE a]/\args=[WData.list (ns.map WData.int)]/\h.get? a=gV { cls:=.type "list",data:=.seq vs.toArray }/\Ox vs ns/\ns.length<=n:=by
 have hsh:WShape.hasAll [] args [.list .int]=true:=(pre_splitW hpre).1;have hc:l.pre.holds [] { args:=args }=true:=(pre_splitW hpre).2;obtain⟨d,r,rfl,h1,h2⟩:=hasAllW_cons hsh;obtain rfl:=hasAllW_nil h2;obtain⟨xs,rfl,h3⟩:=hasW_list h1;obtain⟨ns,rfl⟩:=items_int h3;have hlen:ns.length<=n:=by
  unfold OpenLaw.pre at hc;have h4:(WTm.not (.lt (.lit (.int (n:Hy))) (.len (.arg 0)))).holds [] { args:=[.list (ns.map .int)] }=true:=by
   have h4:=(holds_andW hc).1;rw[hn]at h4;exact h4
  have h5:=condW_of h4 (w_not (w_lt w_lit (w_len_list (w_arg rfl))));rw[Hk]at h5;refine Nat.le_of_not_lt λq=>?_
  have q':(n:Hy) < ((ns.length:Hs):Hy):=∅
  first
   | (rw[IZ q']at h5; exact absurd h5 #v[])
   | (simp at h5; omega)
 cases hwl with
 | cons w1 w2=>
  cases w2;cases w1 with
  | list ho hall=>exact#[_,_,ns,rfl,rfl,ho,jq ns _ hall,hlen]
theorem sZ (l:OpenLaw)(args:Hj WData):l.row.toRowW.claim.post args (.bool true) args=true:=
 postW_of (r:=l.row.toRowW) (X:=(true==true))
  (show WShape.has [] (.bool true) .bool=true by first|rfl|decide|simp[WShape.has,WShape.arms,WShape.armsAll])
  (show(WTm.eq .res (.lit (.bool true))).value [] { args:=args,res:=gV (.bool true),after:=args }=gV (.bool (true==true))from w_eq_bool (w_res rfl) w_lit) rfl
theorem attach_call {l:OpenLaw}{n:Hs}{q:Io}{loose:Hj HM}{XP:(HM->Hr Hm)->IJ->Prop}{YP:IA->IJ->Prop}{d:DefRec}
  (hn:l.most=gV n) (hdf:d.params.defaults=[])
  (call:∀(w:IA) (s₀ s₁:Hq) (mg mb:HM->Hr Hm) (fa:Hw) (o:Jr) (pm cd doc:Hm) (a:Hw) (vs:Hj Hm) (ns:Hj Hy),
   Ground q loose [] XP w s₀ mg mb s₁.heap->YP w s₁.heap->
   s₁.heap.get? fa=gV o->o.data=.func (docDef d.name d.params d.body d.scope pm cd doc)->s₁.heap.CodeRec cd d.name->mg d.name=gV (.ref fa)->
   s₁.heap.get? a=gV { cls:=.type "list",data:=.seq vs.toArray }->Ox vs ns->ns.length<=n->s₁.gens=#[]->
   codeAny (model l.prog w) callerA (.call (.ref fa) #[[.ref a],[]]) (λr s'=>r=.ok (.ret (.bool true))/\OldK s₁.heap s'.heap/\s'.os=s₁.os/\LY s'.gens) s₁) :
  WalkO q loose XP YP l.row.toRowW d [] (λf vs=>OG f vs):=by
 intro w s₀ s₁ mg mb G Y fa o pm cd doc dV kV ho hd hcd hD hmg hg args vals as hpre hlay hrd hwl hlo;obtain rfl:dV=.none:=Dflts.none hD hdf;obtain rfl:kV=.none:=Dflts.noKw hD;obtain⟨a,vs,ns,rfl,rfl,hobj,hints,hlen⟩:=sY hn hpre hwl;refine enter_call (Mn (call w s₀ s₁ mg mb fa o pm cd doc a vs ns G Y ho (fd_plain hd) hcd hmg hobj hints hlen hg) λr s' hq=>?_)
 obtain⟨rfl,h2,h3,h4⟩:=hq;exact#[.inl #[.bool true,.bool true,[],rfl,λ_=>rfl,.bool true,sZ l _,λ_=>#[P0,λ_ hm=>(nomatch hm)]],h2,h3,h4]
end Att
namespace L2
open PySem PySem.Spec PyProof.Rows
theorem lE:∀ {vs:Hj Hm} {ns:Hj Hy},Ox vs ns->Vals (ns.map V.int) vs
 | _,_,.nil=>.nil
 | _,_,.cons n t h=>.cons #[t,rfl] (lE h)
noncomputable def u9 (H:Hp):Prop:=∀b,H b=td\/∃o xs,H b=gV (.frz o (.lst xs))
theorem vc {P:Io}{w:IA}{K:HD}{mg mb:HM->Hr Hm}{CX:uW}{k:Hs}{fa a:Hw}{fd:J4}{x:HM}{sp:Sp}{s₁:Hq}{vs:Hj Hm}{ns:Hj Hy}
  (KX:K.In s₁.heap) (hns:s₁.heap.Ns mainGlobals mg) (hb:s₁.heap.Ns builtinsNs mb) (hbb:∀x:HM,x≠"__name__"->mb x=bootBuiltins x) (hlim:s₁.heap.NoLimit) (hg:s₁.gens=#[])
  (ha:s₁.heap.get? a=gV { cls:=.type "list",data:=.seq vs.toArray }) (hi:Ox vs ns) (hl:ns.length<=sizeLine) (hr:Room k callerA)
  (F:∀base:IJ,K.In base->base.Ns mainGlobals mg->FnOk P w K mg base CX k fa fd [x] sp) (hbind:∀(s:Hq) (u:Hm),NF s fd #[[u],[]] [(x,u)])
  (hsp:∀H:Hp,u9 H->SqL K H a (ns.map V.int)->sp [.ref a] H (λv _=>v=.bl true) λ_ _ _=>IY)
  (hCX:∀H e s',CX [] H s₁ (λ_ _ _=>IY) e s'->IY) :
  codeAny (model P w) callerA (.call (.ref fa) #[[.ref a],[]]) (λr s'=>r=.ok (.ret (.bool true))/\OldK s₁.heap s'.heap/\s'.os=s₁.os/\LY s'.gens) s₁:=by
 have rv:=lE hi;have lenV:=hi.length;have core:∀H:Hp,u9 H->SqL K H a (ns.map V.int)->HOk P w H s₁.heap->(∀b,H b≠td->b=a)->(H a≠td->K.lookup a=td)->
   codeAny (model P w) callerA (.call (.ref fa) #[[.ref a],[]]) (λr s'=>r=.ok (.ret (.bool true))/\OldK s₁.heap s'.heap/\s'.os=s₁.os/\LY s'.gens) s₁:=by
  intro H hO hS hok hA hK;have base_of:∀ {b:Hw} {o:Jr},s₁.heap.get? b=gV o->H b=td->(mE s₁.heap H).get? b=gV o:=λe n=>uI e n
  have noA:∀ {b:Hw} {o:Jr} {es:IF JR} {ep:Hs},s₁.heap.get? b=gV o->o.data=.dict es ep->H b=td:=λ{b o es ep} e d=>by
   cases q:H b with
   | none=>rfl
   | some u=>
    have e':b=a:=hA b (by rw[q]; simp)
    subst e';rw[ha]at e; cases e
    have d':Data.seq vs.toArray _=Data.dict es ep:=d;cases d'
  have nsK:∀ {b:Hw} {m:HM->Hr Hm},s₁.heap.Ns b m->(mE s₁.heap H).Ns b m:=λ{b m} #[o,es,ep,e,d,r]=>#[o,es,ep,base_of e (noA e d),d,r]
  have hKb:K.In (mE s₁.heap H):=λb o e=>base_of (KX b o e) (by
   cases q:H b with
   | none=>rfl
   | some u=>
    have e':b=a:=hA b (by rw[q]; simp)
    subst e';rw[hK (by rw[q]; simp)]at e; cases e)
  have hM:Mod K mg (mE s₁.heap H):=#[hKb,nsK hns,#[mb,nsK hb,hbb],let ⟨mc,h1,h2⟩:=hlim; #[mc,nsK h1,h2]]
  have e0:Env0 P w K mg (mE s₁.heap H) callerA [] s₁ H:=#[rfl,hM,λb o e=>yp e,Nat.le_of_eq (sN _ _),trivial,λb hb=>absurd (show b∈([]:Hj Hw)from hb) (by simp),hok,.of_eq hg]
  refine Mn ((F _ hKb (nsK hns)).run callerA [] s₁ H #[[.ref a],[]] [.ref a] [.ref a] _ _ hr e0 (hbind s₁ (.ref a)) #v[rfl] (hsp H hO hS)) λr s' h=>?_
  cases r with
  | error e=>exact(hCX H e s' h).elim
  | ok fl=>
   cases fl with
   | next=>exact IY.elim h
   | brk=>exact IY.elim h
   | cont=>exact IY.elim h
   | ret u=>
    obtain⟨v,H',os,bare,un,hok',r',q⟩:=h;have q':v=.bl true:=q;subst q';obtain rfl:u=JS true:=r';refine#[rfl,OldK.of_keep λb o e=>?_,os,bare]
    cases q:H b with
    | none=>exact un.keep b o e q (by intro z; exact absurd (show b∈([]:Hj Hw)from z) (by simp)) (by simp)
    | some u=>
     rcases hO b with z|⟨ob,xs,z⟩
     ·rw[q]at z; cases z
     ·have z2:=un.frzs b ob _ z;obtain⟨e1,_⟩:=hok b _ z;obtain⟨e2,_⟩:=hok' b _ z2;rw[e]at e1; cases e1
      exact e2
 cases hk:K.lookup a with
 | some o=>
  have e:=KX a o hk;rw[ha]at e;cases e;refine core (λ_=>td) (λ_=>.inl rfl) (.inr #[_,vs.toArray,_,hk,rfl,rfl,rfl,by rw[HK,lenV]; exact hl,by simpa using rv]) (λb u z=>by have z':(td:Hr HO)=gV u:=z; cases z') (λb z=>absurd rfl z) λz=>absurd rfl z
 | none=>
  refine core (λb=>if b=a then gV (.frz { cls:=.type "list",data:=.seq vs.toArray } (.lst (ns.map V.int)))else td) (λb=>?_) (.inl (.inr #[{ cls:=.type "list",data:=.seq vs.toArray },HY rfl])) (λb u z=>?_) (λb z=>?_) λ_=>hk
  ·by_cases hb:b=a
   ·exact .inr #[_,_,HY hb]
   ·exact .inl (Iy hb)
  ·by_cases hb:b=a
   ·have z':=(HY hb).symm.trans z;cases z';subst hb;exact#[ha,by rw[Hk]; exact hl,vs,_,rv,ha]
   ·have z':=(Iy hb).symm.trans z;cases z'
  ·by_cases hb:b=a
   ·exact hb
   ·exact absurd (Iy hb) z
theorem yR {l:Mz}{n k:Hs}{q:Io}{loose:Hj HM}{XP:(HM->Hr Hm)->IJ->Prop}{YP:IA->IJ->Prop}{d:DefRec}{K:Nq->HD}{CX:IA->uW}{sp:IA->Sp}{x:HM}
  (hn:l.most=gV n) (hn2:n<=sizeLine) (hdf:d.params.defaults=[]) (hr:Room k callerA)
  (hY:∀(w:IA) (h:IJ),YP w h->(K w.params).In h)
  (F:∀(w:IA) (mg:HM->Hr Hm) (fa:Hw) (h:IJ),(K w.params).In h->h.Ns mainGlobals mg->mg d.name=gV (.ref fa)->
   ∃fd:J4,(∀(s:Hq) (u:Hm),NF s fd #[[u],[]] [(x,u)])/\
    ∀base:IJ,(K w.params).In base->base.Ns mainGlobals mg->FnOk l.prog w (K w.params) mg base (CX w) k fa fd [x] (sp w))
  (hsp:∀(w:IA) (H:Hp) (a:Hw) (ns:Hj Hy),ns.length<=n->u9 H->SqL (K w.params) H a (ns.map V.int)->sp w [.ref a] H (λv _=>v=.bl true) λ_ _ _=>IY)
  (hCX:∀(w:IA) (H:Hp) (s:Hq) (e:Hm) (s':Hq),CX w [] H s (λ_ _ _=>IY) e s'->IY) :
  O1 q loose XP YP l.row.toRowW d [] (λf vs=>OG f vs):=by
 refine Att.attach_call hn hdf λw s₀ s₁ mg mb fa o pm cd doc a vs ns G Y ho hd hcd hmg hobj hints hlen hg=>?_
 have KX:=hY w _ Y;obtain⟨fd,hb,hF⟩:=F w mg fa _ KX G.T.g hmg;exact vc KX G.T.g G.T.b G.T.builtins G.T.nolimit hg hobj hints (Ih hlen hn2) hr hF hb (λH hO hS=>hsp w H a ns hlen hO hS) λH e s'=>hCX w H s₁ e s'
noncomputable def dH (s:Kn):Arguments:=match s with
 | .FunctionDef _ a _ _ _ _ _ _ _ _=>a
 | _=>{ posonlyargs:=[],args:=[],vararg:=td,kwonlyargs:=[],kw_defaults:=[],kwarg:=td,defaults:=[] }
noncomputable def cz (s:Kn):Hj Kn:=match s with
 | .FunctionDef _ _ b _ _ _ _ _ _ _=>b
 | _=>[]
noncomputable def aS (s:Kn):KF:=match s with
 | .FunctionDef _ _ _ _ _ _ sc _ _ _=>sc
 | _=>{ kind:=.function,names:=[],isGenerator:=false,isCoroutine:=false }
noncomputable abbrev uG:uW:=λ_ _ _ _ _ _=>IY
noncomputable abbrev E0:XK:=λ_ _ _=>IY
theorem AL {X:Cx}:mG uG X E0:=λ_ _ _ _ _ _ _ h=>h.elim
structure Fun (K:HD)(x qual:HM)(st:Kn)(f:Hw)(fd:J4):Prop where
 ex:∃(oc:Hm) (od:Hr Hw) (kV doc pm:Hm) (an:Hr Hw) (cdv ct:Hm) (osl:IF (Hr Hm)),
  fd=JK x qual (dH st) (cz st) (aS st) .none kV doc pm an cdv ct/\K.lookup f=gV #[oc,od,.func fd,osl]/\Ks K cdv qual=true
 kp:Jh K (.ref f)=true
section
variable{P:Io}{w:IA}{K:HD}{mg:HM->Hr Hm}{base:IJ}
theorem Fun.ok {x qual:HM}{st:Kn}{f:Hw}{fd:J4}{N ps:Hj HM}{k:Hs}{sp:Sp}(F:Fun K x qual st f fd)(S:FnScope N ps (aS st))(len:∀vs H Q E,sp vs H Q E->vs.length=ps.length)
  (hbody:∀(cdv:Hm) (A:Ix) (outer:Hj NB) (s:Hq) (H:Hp) (vs:Hj V) (Q:VK) (E:XK),Room k (A.deeper (envOfC qual (aS st) s.heap.objs.size f cdv))->sp vs H Q E->
   ∃t,PSs (pX uG P w K mg base N qual (aS st) f cdv A outer s H E).nox (cz st) t/\t { nx:=λ_ H'=>Q .non H',rt:=Q } (fK N vs) H):FnOk P w K mg base uG (k+1) f fd ps sp:=by
 obtain⟨oc,od,kV,doc,pm,an,cdv,ct,osl,rfl,lk,hcd⟩:=F.ex;refine DR lk hcd S len λA outer s H vs Q E hr hsp=>?_
 obtain⟨t,h,q⟩:=hbody cdv A outer s H vs Q E hr hsp;exact#[t,h.nox,q]
theorem Fun.binds {x qual:HM}{st:Kn}{f:Hw}{fd:J4}{ps:Hj HM}(F:Fun K x qual st f fd)
  (h:∀(kV doc pm:Hm) (an:Hr Hw) (cdv ct:Hm) (us:Hj Hm),us.length=ps.length->bindArgs (JK x qual (dH st) (cz st) (aS st) .none kV doc pm an cdv ct) #[us,[]]=pure (ps.zip us)):Binds K fd ps []:=by
 obtain⟨oc,od,kV,doc,pm,an,cdv,ct,osl,rfl,lk,hcd⟩:=F.ex;exact .all (h kV doc pm an cdv ct)
theorem vd {x qual:HM}{st:Kn}{f:Hw}{oc:Hm}{od an:Hr Hw}{osl:IF (Hr Hm)}{kV doc pm cdv ct:Hm}(l:K.lookup f=gV #[oc,od,.func (JK x qual (dH st) (cz st) (aS st) .none kV doc pm an cdv ct),osl])
  (c:Ks K cdv qual=true) (k:Jh K (.ref f)=true):Fun K x qual st f (JK x qual (dH st) (cz st) (aS st) .none kV doc pm an cdv ct):=#[#[oc,od,kV,doc,pm,an,cdv,ct,osl,rfl,l,c],k]
end
end L2
namespace Mi
open PySem PySem.Spec PyProof.Rows L2
inductive W where
 | non|bl (b:HX)|int (i:Hy)|str (x:HM)|tup (xs:Hj W)|ref (i:Hs)
inductive T where
 | int (i:Hy)|str (x:HM)|tup (xs:Hj T)
mutual
noncomputable def T.beq:T->T->HX
 | .int i,.int j=>i==j
 | .str x,.str y=>x==y
 | .tup xs,.tup ys=>T.beqs xs ys
 | _,_=>false
noncomputable def T.beqs:Hj T->Hj T->HX
 | [],[]=>true
 | x::xs,y::ys=>T.beq x y&&T.beqs xs ys
 | _,_=>false
end
mutual
theorem T.beq_iff:∀x y:T,T.beq x y=true↔x=y
 | .int i,.int j=>by simp[T.beq]
 | .str x,.str y=>by simp[T.beq]
 | .tup xs,.tup ys=>by simp[T.beq,T.beqs_iff xs ys]
 | .int _,.str _|.int _,.tup _|.str _,.int _|.str _,.tup _|.tup _,.int _|.tup _,.str _=>by simp[T.beq]
theorem T.beqs_iff:∀xs ys:Hj T,T.beqs xs ys=true↔xs=ys
 | [],[]=>by simp[T.beqs]
 | x::xs,y::ys=>by simp[T.beqs,T.beq_iff x y,T.beqs_iff xs ys]
 | [],_::_|_::_,[]=>by simp[T.beqs]
end
noncomputable instance:KH T:=λx y=>decidable_of_iff (T.beq x y=true) (T.beq_iff x y)
mutual
noncomputable def T.w:T->W
 | .int i=>.int i
 | .str x=>.str x
 | .tup xs=>.tup (T.ws xs)
noncomputable def T.ws:Hj T->Hj W
 | []=>[]
 | x::xs=>T.w x::T.ws xs
end
mutual
noncomputable def W.t:W->Hr T
 | .int i=>gV (.int i)
 | .str x=>gV (.str x)
 | .tup xs=>(W.ts xs).map .tup
 | _=>td
noncomputable def W.ts:Hj W->Hr (Hj T)
 | []=>gV []
 | x::xs=>match W.t x,W.ts xs with
  | some y,gV ys=>gV (y::ys)
  | _,_=>td
end
mutual
theorem W.t_w:∀ {w:W} {k:T},W.t w=gV k->k.w=w
 | .int i,_,h=>by cases h; rfl
 | .str x,_,h=>by cases h; rfl
 | .tup xs,_,h=>by
  simp only[W.t,Ho]at h;obtain⟨ks,h1,h2⟩:=h;subst h2;simp only[T.w,W.ts_w h1]
 | .non,_,h|.bl _,_,h|.ref _,_,h=>by cases h
theorem W.ts_w:∀ {ws:Hj W} {ks:Hj T},W.ts ws=gV ks->T.ws ks=ws
 | [],_,h=>by cases h; rfl
 | w::ws,_,h=>by
  simp only[W.ts]at h;split at h
  ·rename_i y ys h1 h2;cases h;simp only[T.ws,W.t_w h1,W.ts_w h2]
  ·cases h
end
mutual
theorem T.w_t:∀k:T,W.t k.w=gV k
 | .int _=>rfl
 | .str _=>rfl
 | .tup xs=>by simp only[T.w,W.t,T.ws_ts xs,Iv]
theorem T.ws_ts:∀ks:Hj T,W.ts (T.ws ks)=gV ks
 | []=>rfl
 | x::xs=>by simp only[T.ws,W.ts,T.w_t x,T.ws_ts xs]
end
mutual
noncomputable def T.depth:T->Hs
 | .tup xs=>T.depths xs+1
 | _=>0
noncomputable def T.depths:Hj T->Hs
 | []=>0
 | x::xs=>max (T.depth x) (T.depths xs)
end
mutual
noncomputable def T.draws:T->Hs
 | .tup xs=>T.drawss xs+1
 | _=>1
noncomputable def T.drawss:Hj T->Hs
 | []=>0
 | x::xs=>T.draws x+T.drawss xs
end
mutual
noncomputable def oq (wd:IA):T->Hy
 | .int i=>hashInt i
 | .str x=>hashStr wd x
 | .tup xs=>reduceHash (LQ (jK wd xs))
noncomputable def jK (wd:IA):Hj T->Hj Hy
 | []=>[]
 | x::xs=>oq wd x::jK wd xs
end
noncomputable def T.isTup:T->HX
 | .tup _=>true
 | _=>false
noncomputable def bg:Hs:=6
inductive O where
 | lst (xs:Hj W)
 | fro (xs:Hj W)
 | rng (lo hi:Hy)
 | dic (kvs:Hj (T×W))
 | frd (kvs:Hj (T×W))
noncomputable abbrev aa:=Hj O
noncomputable abbrev Fm:=Hj (Hr W)
section
variable (K:HD) (A:Hj Hw) (H:Hp)
mutual
inductive Rel:W->V->Prop
 | non:Rel .non .non
 | bl {b:HX}:Rel (.bl b) (.bl b)
 | int {i:Hy}:Rel (.int i) (.int i)
 | str {x:HM}:Rel (.str x) (.str x)
 | tup {ws:Hj W} {a:Hw} {vs:Hj V}:SqT K H a vs->RelL ws vs->Rel (.tup ws) (.ref a)
 | ref {i:Hs} {a:Hw}:A[i]?=gV a->Rel (.ref i) (.ref a)
inductive RelL:Hj W->Hj V->Prop
 | nil:RelL [] []
 | cons {w:W} {v:V} {ws:Hj W} {vs:Hj V}:Rel w v->RelL ws vs->RelL (w::ws) (v::vs)
end
end
section
variable{K:HD}{A A' A'':Hj Hw}{H H' H'':Hp}
structure Ext (K:HD)(A:Hj Hw)(H:Hp)(A':Hj Hw)(H':Hp):Prop where
 ad:∀(i:Hs) (a:Hw),A[i]?=gV a->A'[i]?=gV a
 tp:∀(a:Hw) (vs:Hj V),SqT K H a vs->SqT K H' a vs
 fz:∀(a:Hw) (o:Jr) (u:HO),H a=gV (.frz o u)->H' a=gV (.frz o u)
theorem Ext.refl:Ext K A H A H:=#[λ_ _ h=>h,λ_ _ h=>h,λ_ _ _ h=>h]
theorem Ext.trans (e:Ext K A H A' H')(f:Ext K A' H' A'' H''):Ext K A H A'' H'':=#[λi a h=>f.ad i a (e.ad i a h),λa vs h=>f.tp a vs (e.tp a vs h),λa o u h=>f.fz a o u (e.fz a o u h)]
mutual
theorem Rel.mono (e:Ext K A H A' H'):∀ {w:W} {v:V},Rel K A H w v->Rel K A' H' w v
 | _,_,.non=>.non
 | _,_,.bl=>.bl
 | _,_,.int=>.int
 | _,_,.str=>.str
 | _,_,.tup h r=>.tup (e.tp _ _ h) (RelL.mono e r)
 | _,_,.ref h=>.ref (e.ad _ _ h)
theorem RelL.mono (e:Ext K A H A' H'):∀ {ws:Hj W} {vs:Hj V},RelL K A H ws vs->RelL K A' H' ws vs
 | _,_,.nil=>.nil
 | _,_,.cons r t=>.cons (Rel.mono e r) (RelL.mono e t)
end
theorem RelL.length:∀ {ws:Hj W} {vs:Hj V},RelL K A H ws vs->ws.length=vs.length
 | _,_,.nil=>rfl
 | _,_,.cons _ t=>by simp[RelL.length t]
theorem RelL.get:∀ {ws:Hj W} {vs:Hj V} {i:Hs} {w:W},RelL K A H ws vs->ws[i]?=gV w->∃v,vs[i]?=gV v/\Rel K A H w v
 | _,_,_,_,.nil,e=>by simp at e
 | _,_,0,_,.cons r _,e=>by simp at e; subst e; exact#[_,rfl,r]
 | _,_,i+1,w,.cons _ t,e=>by
  obtain⟨u,h1,h2⟩:=RelL.get (i:=i) (w:=w) t (by simpa using e)
  exact#[u,by simpa using h1,h2]
theorem RelL.append:∀ {xs ys:Hj W} {us ws:Hj V},RelL K A H xs us->RelL K A H ys ws->RelL K A H (xs++ys) (us++ws)
 | _,_,_,_,.nil,s=>s
 | _,_,_,_,.cons r t,s=>.cons r (RelL.append t s)
theorem RelL.take:∀ {xs:Hj W} {us:Hj V} (n:Hs),RelL K A H xs us->RelL K A H (xs.take n) (us.take n)
 | _,_,0,_=>.nil
 | _,_,_+1,.nil=>.nil
 | _,_,n+1,.cons r t=>.cons r (RelL.take n t)
theorem RelL.drop:∀ {xs:Hj W} {us:Hj V} (n:Hs),RelL K A H xs us->RelL K A H (xs.drop n) (us.drop n)
 | _,_,0,r=>r
 | _,_,_+1,.nil=>.nil
 | _,_,n+1,.cons _ t=>RelL.drop n t
theorem RelL.set {x:W}{u:V}(r:Rel K A H x u):∀ {xs:Hj W} {us:Hj V} (i:Hs),RelL K A H xs us->RelL K A H (xs.set i x) (us.set i u)
 | _,_,_,.nil=>.nil
 | _,_,0,.cons _ t=>.cons r t
 | _,_,i+1,.cons q t=>.cons q (RelL.set r i t)
theorem RelL.rep {xs:Hj W}{us:Hj V}(h:RelL K A H xs us):∀k:Hs,RelL K A H (Ik k xs).flatten (Ik k us).flatten
 | 0=>.nil
 | k+1=>by
  rw[Jq,Jq,Kh,Kh];exact RelL.append h (RelL.rep h k)
theorem RelL.eraseIdx:∀ {xs:Hj W} {us:Hj V} (i:Hs),RelL K A H xs us->RelL K A H (xs.eraseIdx i) (us.eraseIdx i)
 | _,_,_,.nil=>.nil
 | _,_,0,.cons _ t=>t
 | _,_,i+1,.cons r t=>.cons r (RelL.eraseIdx i t)
noncomputable def FroL (K:HD)(H:Hp)(a:Hw)(vs:Hj V):Prop:=
 (∃o,H a=gV (.frz o (.lst vs)))\/
  ∃(o:Jr) (its:IF Hm) (n:Hs),K.lookup a=gV o/\o.cls=.type "list"/\o.dict=td/\o.data=.seq its n/\its.size<=sizeLine/\Vals vs its.toList
theorem FroL.sq {a:Hw}{vs:Hj V}(h:FroL K H a vs):SqL K H a vs:=by
 rcases h with⟨o,h⟩|h
 ·exact .inl (.inr #[o,h])
 ·exact .inr h
noncomputable def ve (wd:IA)(x:T×Hw×Hm):JR:=#[oq wd x.1,.ref x.2.1,x.2.2]
noncomputable def DicAt (wd:IA)(a:Hw)(xs:Hj (T×Hw×Hm))(h:IJ):Prop:=
 xs.length<=sizeLine/\(a==sysModules)=false/\(xs.map (·.1)).Nodup/\∃o es ep,h.get? a=gV o/\o.ExactDict/\o.data=.dict es ep/\es.toList=xs.map (ve wd)
noncomputable def dY (wd:IA)(a:Hw)(xs:Hj (T×Hw×Hm)):HO:=.ext (DicAt wd a xs)
noncomputable def KRel (K:HD)(A:Hj Hw)(H:Hp):Hj (T×W)->Hj (T×Hw×Hm)->Prop:=
 Ml λ(p:T×W) (q:T×Hw×Hm)=>p.1=q.1/\p.1.isTup=true/\p.1.depth<=bg/\Rel K A H p.1.w (.ref q.2.1)/\∃v,Rel K A H p.2 v/\RelV v q.2.2
theorem KRel.mono (e:Ext K A H A' H'){kvs:Hj (T×W)}{xs:Hj (T×Hw×Hm)}(h:KRel K A H kvs xs):KRel K A' H' kvs xs:=
 Paired.mapP h λ_ _ #[h1,h2,h3,h4,v,h5,h6]=>#[h1,h2,h3,h4.mono e,v,h5.mono e,h6]
variable{wd:IA}
noncomputable def ObjRel (wd:IA)(K:HD)(A:Hj Hw)(H:Hp)(a:Hw):O->Prop
 | .lst ws=>∃vs,H a=gV (.lst vs)/\RelL K A H ws vs
 | .fro ws=>∃vs,FroL K H a vs/\RelL K A H ws vs
 | .rng lo hi=>H a=gV (.rng lo hi)
 | .dic kvs=>∃xs,H a=gV (dY wd a xs)/\KRel K A H kvs xs
 | .frd kvs=>∃o xs,H a=gV (.frz o (dY wd a xs))/\KRel K A H kvs xs
noncomputable def O.mut:O->HX
 | .fro _=>false
 | .rng _ _=>false
 | .frd _=>false
 | _=>true
structure StoreOk (wd:IA)(K:HD)(A:Hj Hw)(H:Hp)(S:aa):Prop where
 len:A.length=S.length
 nd:∀(i j:Hs) (a:Hw) (o u:O),S[i]?=gV o->o.mut=true->S[j]?=gV u->u.mut=true->A[i]?=gV a->A[j]?=gV a->i=j
 obj:∀(i:Hs) (o:O) (a:Hw),S[i]?=gV o->A[i]?=gV a->ObjRel wd K A H a o
noncomputable def EnvRel (K:HD)(A:Hj Hw)(H:Hp)(ρ:Fm)(σ:L2.St):Prop:=
 ρ.length=σ.length/\∀(i:Hs) (w:W),ρ[i]?=gV (gV w)->∃v,σ[i]?=gV (gV v)/\Rel K A H w v
theorem EnvRel.mono {ρ:Fm}{σ:L2.St}(e:Ext K A H A' H')(h:EnvRel K A H ρ σ):EnvRel K A' H' ρ σ:=
 #[h.1,λi w q=>let ⟨v,a,b⟩:=h.2 i w q; #[v,a,b.mono e]]
theorem EnvRel.set {ρ:Fm}{σ:L2.St}{w:W}{v:V}(h:EnvRel K A H ρ σ)(r:Rel K A H w v)(i:Hs):EnvRel K A H (ρ.set i (gV w)) (σ.set i (gV v)):=by
 refine#[by simp[h.1],λj w' q=>?_]
 rw[JD]at q ⊢
 by_cases e:i=j
 ·subst e;rw[HY rfl]at q ⊢
  by_cases hl:i < ρ.length
  ·rw[HY hl]at q;rw[HY (h.1 ▸ hl)];cases q;exact#[v,rfl,r]
  ·rw[Iy hl]at q; cases q
 ·rw[Iy e]at q ⊢;exact h.2 j w' q
noncomputable def Wr (H:Hp)(p:Hw):Prop:=H p=td\/(∃xs,H p=gV (.lst xs))\/(∃φ,H p=gV (.ext φ))\/∃ks,H p=gV (.dK ks)
theorem Wr.lst {p:Hw}{xs:Hj V}(h:H p=gV (.lst xs)):Wr H p:=.inr (.inl #[xs,h])
theorem Wr.ext {p:Hw}{φ:IJ->Prop}(h:H p=gV (.ext φ)):Wr H p:=.inr (.inr (.inl #[φ,h]))
theorem Wr.ne_tup {p a:Hw}{xs:Hj V}(hp:Wr H p)(h:H a=gV (.tup xs)):a≠p:=by
 intro e; subst e
 rcases hp with q|⟨xs,q⟩|⟨φ,q⟩|⟨ks,q⟩ <;> (rw[h]at q; cases q)
theorem Wr.ne_frz {p a:Hw}{o:Jr}{u:HO}(hp:Wr H p)(h:H a=gV (.frz o u)):a≠p:=by
 intro e; subst e
 rcases hp with q|⟨xs,q⟩|⟨φ,q⟩|⟨ks,q⟩ <;> (rw[h]at q; cases q)
theorem Wr.ne_rng {p a:Hw}{lo hi:Hy}(hp:Wr H p)(h:H a=gV (.rng lo hi)):a≠p:=by
 intro e; subst e
 rcases hp with q|⟨xs,q⟩|⟨φ,q⟩|⟨ks,q⟩ <;> (rw[h]at q; cases q)
theorem rm {p:Hw}{o:HO}(hp:Wr H p){a:Hw}{vs:Hj V}(h:SqT K H a vs):SqT K (bR H p o) a vs:=by
 rcases h with(h|⟨o',h⟩)|h
 ·exact .inl (.inl (by rw[aH (hp.ne_tup h)]; exact h))
 ·exact .inl (.inr #[o',by rw[aH (hp.ne_frz h)]; exact h])
 ·exact .inr h
theorem vf {p:Hw}{o:HO}(hp:Wr H p){a:Hw}{vs:Hj V}(h:FroL K H a vs):FroL K (bR H p o) a vs:=by
 rcases h with⟨o',h⟩|h
 ·exact .inl #[o',by rw[aH (hp.ne_frz h)]; exact h]
 ·exact .inr h
theorem dm {p:Hw}{o:HO}(hp:Wr H p):Ext K A H A (bR H p o):=#[λ_ _ h=>h,λ_ _ h=>rm hp h,λ_ _ _ h=>by rw[aH (hp.ne_frz h)]; exact h]
theorem dZ {p:Hw}{o:HO}(hp:H p=td):Ext K A H (A++[p]) (bR H p o):=
 #[λi a h=>by rw[Il (HG.mp h).1]; exact h,λ_ _ h=>rm (.inl hp) h,λ_ _ _ h=>by rw[aH (Wr.ne_frz (.inl hp) h)]; exact h]
theorem ObjRel.keep {p a:Hw}{o:HO}{b:O}(hp:Wr H p)(hne:b.mut=true->a≠p)(e:Ext K A H A' (bR H p o))(h:ObjRel wd K A H a b):ObjRel wd K A' (bR H p o) a b:=by
 cases b with
 | lst ws=>
  obtain⟨vs,q,r⟩:=h;exact#[vs,by rw[aH (hne rfl)]; exact q,r.mono e]
 | fro ws=>
  obtain⟨vs,q,r⟩:=h;exact#[vs,vf hp q,r.mono e]
 | rng lo hi=>
  have h:H a=gV (.rng lo hi):=h;show bR H p o a=gV (.rng lo hi);rw[aH (hp.ne_rng h)];exact h
 | dic kvs=>
  obtain⟨xs,q,r⟩:=h;exact#[xs,by rw[aH (hne rfl)]; exact q,r.mono e]
 | frd kvs=>
  obtain⟨ob,xs,q,r⟩:=h;exact#[ob,xs,by rw[aH (hp.ne_frz q)]; exact q,r.mono e]
theorem ObjRel.there {a:Hw}{b:O}(h:ObjRel wd K A H a b)(hm:b.mut=true):H a≠td:=by
 cases b with
 | lst ws=>obtain⟨vs,q,r⟩:=h; rw[q]; intro z; cases z
 | fro ws=>cases hm
 | rng lo hi=>cases hm
 | dic kvs=>obtain⟨vs,q,r⟩:=h; rw[q]; intro z; cases z
 | frd ws=>cases hm
theorem ObjRel.wr {a:Hw}{b:O}(h:ObjRel wd K A H a b)(hm:b.mut=true):Wr H a:=by
 cases b with
 | lst ws=>obtain⟨vs,q,r⟩:=h; exact .lst q
 | fro ws=>cases hm
 | rng lo hi=>cases hm
 | dic kvs=>obtain⟨vs,q,r⟩:=h; exact .ext q
 | frd ws=>cases hm
theorem StoreOk.lay {S:aa}{p:Hw}{o:HO}(h:StoreOk wd K A H S)(hp:H p=td):StoreOk wd K A (bR H p o) S:=
 #[h.len,h.nd,λi b a e ea=>(h.obj i b a e ea).keep (.inl hp) (λhm z=>(h.obj i b a e ea).there hm (z ▸ hp)) (dm (.inl hp))]
theorem StoreOk.pushO {S:aa}{p:Hw}{n:O}{u:HO}(h:StoreOk wd K A H S)(hp:H p=td)(r:ObjRel wd K (A++[p]) (bR H p u) p n):StoreOk wd K (A++[p]) (bR H p u) (S++[n]):=by
 have ex:Ext K A H (A++[p]) (bR H p u):=dZ hp;have old:∀ {i:Hs} {o:O} {a:Hw},(S++[n])[i]?=gV o->(A++[p])[i]?=gV a->i < S.length->S[i]?=gV o/\A[i]?=gV a:=λ{i o a} e ea hl=>by
  rw[Il hl]at e;rw[Il (h.len ▸ hl)]at ea;exact#[e,ea]
 have new:∀ {i:Hs} {o:O} {a:Hw},(S++[n])[i]?=gV o->(A++[p])[i]?=gV a->¬ i < S.length->i=S.length/\o=n/\a=p:=λ{i o a} e ea hl=>by
  have hi:i=S.length:=by
   have:=(HG.mp e).1;simp at this;omega
  subst hi;simp at e;rw[<- h.len]at ea;simp at ea;exact#[rfl,e.symm,ea.symm]
 refine#[by simp[h.len],λi j a o u e1 m1 e2 m2 a1 a2=>?_,λi o a e ea=>?_]
 ·by_cases hi:i < S.length <;> by_cases hj:j < S.length
  ·obtain⟨x1,y1⟩:=old e1 a1 hi;obtain⟨x2,y2⟩:=old e2 a2 hj;exact h.nd i j a o u x1 m1 x2 m2 y1 y2
  ·obtain⟨x1,y1⟩:=old e1 a1 hi;obtain⟨_,_,z⟩:=new e2 a2 hj;subst z;exact absurd hp ((h.obj i o a x1 y1).there m1)
  ·obtain⟨x2,y2⟩:=old e2 a2 hj;obtain⟨_,_,z⟩:=new e1 a1 hi;subst z;exact absurd hp ((h.obj j u a x2 y2).there m2)
  ·rw[(new e1 a1 hi).1,(new e2 a2 hj).1]
 ·by_cases hi:i < S.length
  ·obtain⟨x1,y1⟩:=old e ea hi;exact(h.obj i o a x1 y1).keep (.inl hp) (λhm z=>(h.obj i o a x1 y1).there hm (z ▸ hp)) ex
  ·obtain⟨_,rfl,rfl⟩:=new e ea hi;exact r
theorem StoreOk.push {S:aa}{p:Hw}{ws:Hj W}{vs:Hj V}(h:StoreOk wd K A H S)(hp:H p=td)(r:RelL K A H ws vs):StoreOk wd K (A++[p]) (bR H p (.lst vs)) (S++[.lst ws]):=
 h.pushO hp #[vs,aZ,r.mono (dZ hp)]
theorem StoreOk.writeO {S:aa}{i:Hs}{p:Hw}{o0 n:O}{u:HO}(h:StoreOk wd K A H S)(e:S[i]?=gV o0)(m0:o0.mut=true)(ea:A[i]?=gV p)(r:ObjRel wd K A (bR H p u) p n) :
  StoreOk wd K A (bR H p u) (S.set i n)/\Ext K A H A (bR H p u):=by
 have hw:Wr H p:=(h.obj i _ p e ea).wr m0;have ex:Ext K A H A (bR H p u):=dm hw;have hl:i < S.length:=(HG.mp e).1;refine#[#[by simp[h.len],λj k a o u e1 m1 e2 m2 a1 a2=>?_,λj o a e1 a1=>?_],ex]
 ·have get:∀ {j:Hs} {o:O},(S.set i n)[j]?=gV o->o.mut=true->∃o',S[j]?=gV o'/\o'.mut=true:=λ{j o} q m=>by
   rw[JD]at q
   by_cases z:i=j
   ·subst z; exact#[_,e,m0]
   ·rw[Iy z]at q; exact#[o,q,m]
  obtain⟨o',x1,m1'⟩:=get e1 m1;obtain⟨u',x2,m2'⟩:=get e2 m2;exact h.nd j k a o' u' x1 m1' x2 m2' a1 a2
 ·rw[JD]at e1
  by_cases z:i=j
  ·subst z;rw[HY rfl,HY hl]at e1;cases e1;rw[ea]at a1; cases a1
   exact r
  ·rw[Iy z]at e1;exact(h.obj j o a e1 a1).keep hw (λhm q=>z (h.nd i j p _ o e m0 e1 hm ea (q ▸ a1))) ex
theorem StoreOk.write {S:aa}{i:Hs}{p:Hw}{ws:Hj W}{us:Hj V}{ws0:Hj W}(h:StoreOk wd K A H S)(e:S[i]?=gV (.lst ws0))(ea:A[i]?=gV p)(r:RelL K A H ws us) :
  StoreOk wd K A (bR H p (.lst us)) (S.set i (.lst ws))/\Ext K A H A (bR H p (.lst us)):=
 h.writeO e rfl ea #[us,aZ,r.mono (dm ((h.obj i _ p e ea).wr rfl))]
end
noncomputable def gP (S:aa)(i:Hs):Hr (Hj W):=match S[i]? with
 | some (.lst xs)=>gV xs
 | some (.fro xs)=>gV xs
 | _=>td
noncomputable def nY (S:aa)(i:Hs):Hr (Hj W):=match S[i]? with
 | some (.lst xs)=>gV xs
 | _=>td
noncomputable def kX (S:aa)(xs:Hj W):Hr (W×aa):=if xs.length<=sizeLine then gV (.ref S.length,S++[.lst xs])else td
noncomputable def p8 (S:aa)(xs:Hj W):Hr (W×aa):=if xs.length<=sizeLine then gV (.tup xs,S)else td
noncomputable def yS (j:Hy):HX:=decide (0 < j)&&decide (j < 1073741824)
noncomputable def tf (i j:Hy):HX:=(decide (-(2 ^ 64) < i)&&decide (i < 2 ^ 64))||(decide (-(2 ^ 64) < j)&&decide (j < 2 ^ 64))
noncomputable def DW (i j:Hy):HX:=decide (0<=j)&&decide (j<=1000000)&&decide (i.natAbs < 2 ^ 64)
inductive BOp where|add|sub|mul|fdiv|mod|pow
 deriving KH
noncomputable def ym (c:Hy->Hy->HX)(f:Hy->Hy->Hy)(x y:W)(S:aa):Hr (W×aa):=match x,y with
 | .int i,.int j=>if c i j then gV (.int (f i j),S)else td
 | _,_=>td
noncomputable def vg (x y:W)(S:aa):Hr (W×aa):=match x with
 | .int i=>match y with
  | .int j=>gV (.int (i+j),S)
  | _=>td
 | .str x=>match y with
  | .str y=>if x.length+y.length<=sizeLine then gV (.str (x++y),S)else td
  | _=>td
 | .tup xs=>match y with
  | .tup ys=>p8 S (xs++ys)
  | _=>td
 | .ref i=>match y with
  | .ref j=>match nY S i,nY S j with
   | some xs,gV ys=>kX S (xs++ys)
   | _,_=>td
  | _=>td
 | _=>td
noncomputable def yT (x y:W)(S:aa):Hr (W×aa):=match x with
 | .str x=>match y with
  | .int k=>if k < 2 ^ 24/\-(2 ^ 24)<=k/\x.length*k.toNat<=sizeLine then gV (.str (Qh x k),S)else td
  | _=>td
 | .ref i=>match y with
  | .int k=>match nY S i with
   | some xs=>if k < 2 ^ 24/\-(2 ^ 24)<=k/\xs.length*k.toNat<=sizeLine then kX S (Ik k.toNat xs).flatten else td
   | none=>td
  | _=>td
 | x=>ym tf (· * ·) x y S
noncomputable def hJ:BOp->W->W->aa->Hr (W×aa)
 | .add,x,y,S=>vg x y S
 | .sub,x,y,S=>ym (λ_ _=>true) (· - ·) x y S
 | .mul,x,y,S=>yT x y S
 | .fdiv,x,y,S=>ym (λ_ j=>yS j) (· / ·) x y S
 | .mod,x,y,S=>ym (λ_ j=>decide (0 < j)) (· % ·) x y S
 | .pow,x,y,S=>ym DW (λi j=>i ^ j.toNat) x y S
noncomputable def BOp.py:BOp->NE
 | .add=>.Add|.sub=>.Sub|.mul=>.Mult|.fdiv=>.FloorDiv|.mod=>.Mod|.pow=>.Pow
section
variable (X:Cx)
noncomputable def dF (pins:Hj (Hw×Jr))(σ:L2.St)(A:Hj Hw)(H:Hp)(S':aa)(w:W)(u:Hm)(s':Hq):Prop:=
 ∃v H' A',Inv X pins σ H' s'/\RelV v u/\Ext X.K A H A' H'/\StoreOk X.w X.K A' H' S'/\Rel X.K A' H' w v
noncomputable abbrev FE:=Fm->aa->Hr (W×aa)
noncomputable def LOp (f:Hm->Hm->Pn Hm)(g:W->W->aa->Hr (W×aa)):Prop:=
 ∀(pins:Hj (Hw×Jr)) (s:Hq) (σ:L2.St) (H:Hp) (A:Hj Hw) (S:aa) (x y:W) (a b:V) (u v:Hm) (w:W) (S':aa),Inv X pins σ H s->StoreOk X.w X.K A H S->
  Rel X.K A H x a->RelV a u->Rel X.K A H y b->RelV b v->g x y S=gV (w,S')->wpAny (model X.prog X.w) X.A (f u v) (dF X pins σ A H S' w) X.xe s
end
section
variable{X:Cx}
theorem jL {S:aa}{i:Hs}{xs:Hj W}(h:nY S i=gV xs):S[i]?=gV (.lst xs):=by
 unfold nY at h;split at h
 ·cases h; assumption
 ·cases h
theorem eG {A:Hj Hw}{H:Hp}{S:aa}{i:Hs}{xs:Hj W}{a:Hw}(so:StoreOk X.w X.K A H S)(h:nY S i=gV xs)(ea:A[i]?=gV a):∃vs,H a=gV (.lst vs)/\RelL X.K A H xs vs:=
 so.obj i _ a (jL h) ea
theorem cH {A:Hj Hw}{H:Hp}{S:aa}{i:Hs}{xs:Hj W}{a:Hw}(so:StoreOk X.w X.K A H S)(h:gP S i=gV xs)(ea:A[i]?=gV a):∃vs,SqL X.K H a vs/\RelL X.K A H xs vs:=by
 unfold gP at h;split at h
 ·cases h;obtain⟨vs,q,r⟩:=so.obj i _ a (by assumption) ea
  exact#[vs,.of q,r]
 ·cases h;obtain⟨vs,q,r⟩:=so.obj i _ a (by assumption) ea
  exact#[vs,q.sq,r]
 ·cases h
theorem jy {S S':aa}{xs:Hj W}{w:W}(h:kX S xs=gV (w,S')):xs.length<=sizeLine/\w=.ref S.length/\S'=S++[.lst xs]:=by
 unfold kX at h;split at h
 ·cases h; exact#[by assumption,rfl,rfl]
 ·cases h
theorem rn {S S':aa}{xs:Hj W}{w:W}(h:p8 S xs=gV (w,S')):xs.length<=sizeLine/\w=.tup xs/\S'=S:=by
 unfold p8 at h;split at h
 ·cases h; exact#[by assumption,rfl,rfl]
 ·cases h
theorem yU {A:Hj Hw}{H:Hp}{S:aa}{ws:Hj W}{vs:Hj V}{Q:VK}{p:Hw}(so:StoreOk X.w X.K A H S)(r:RelL X.K A H ws vs)(hp:H p=td)
  (q:∀v H' A',Ext X.K A H A' H'->StoreOk X.w X.K A' H' (S++[.lst ws])->Rel X.K A' H' (.ref S.length) v->Q v H'):Q (.ref p) (bR H p (.lst vs)):=
 q _ _ (A++[p]) (dZ hp) (so.push hp r) (.ref (by rw[<- so.len]; simp))
theorem yV {A:Hj Hw}{H:Hp}{S:aa}{ws:Hj W}{vs:Hj V}{Q:VK}{p:Hw}(so:StoreOk X.w X.K A H S)(r:RelL X.K A H ws vs)(hp:H p=td)
  (q:∀v H' A',Ext X.K A H A' H'->StoreOk X.w X.K A' H' S->Rel X.K A' H' (.tup ws) v->Q v H'):Q (.ref p) (bR H p (.tup vs)):=
 q _ _ A (dm (.inl hp)) (so.lay hp) (.tup (.of aZ) (r.mono (dm (.inl hp))))
noncomputable def DX (K:HD):R2:=λx y H Q=>∃a b xs ys,x=.ref a/\y=.ref b/\SqT K H a xs/\SqT K H b ys/\xs.length+ys.length<=sizeLine/\
 (xs=[]->Q (.ref b) H)/\(ys=[]->Q (.ref a) H)/\(∀p,H p=td->Q (.ref p) (bR H p (.tup (xs++ys))))
theorem yW:OpR X (binaryOp .Add) (DX X.K):=by
 intro pins s σ H x y v u Q I rx ry h;obtain⟨a,b,xs,ys,rfl,rfl,ha,hb,hz,q0,q1,q2⟩:=h;cases rx;cases ry;obtain⟨its,r1,p1,_⟩:=I.tuple ha;obtain⟨its2,r2,p2,_⟩:=I.tuple hb
 by_cases hx:xs=[]
 ·obtain⟨⟨cls,dd,data,sl⟩,ho,hc,n,hd⟩:=id p1;obtain⟨⟨cls2,dd2,data2,sl2⟩,ho2,hc2,n2,hd2⟩:=id p2;simp only at hc hd hc2 hd2;subst hc hd hc2 hd2;exact NH #[_,ho,rfl] #[_,ho2,rfl] Mc Na Le La (KY _ _)
   (tuple_addW0 a b its.toArray its2.toArray n n2 dd dd2 sl sl2 (by simp[r1.nil_iff.mpr hx])) #[ho,ho2,#[.ref b,H,I,rfl,q0 hx]]
 ·refine HT.yH p1 p2 (λz=>hx (r1.nil_iff.mp z)) (λz=>#[.ref a,H,I,rfl,q1 (r2.nil_iff.mp z)]) (λz=>?_) (by rw[<- r1.length,<- r2.length]; exact hz)
  refine#[.ref s.heap.objs.size,_,I.laid (t':=s.toks) (o:=.tup (xs++ys)) (λb ob q=>Hu _ q) (HC _) ?_,rfl,q2 _ (I.hok.fresh (HC _))]
  exact#[#[by rw[Hn]; exact hz,NoD.new _ _ _],_,r1.append r2,N2 _ _]
theorem RelL.nil_iff {K:HD}{A:Hj Hw}{H:Hp}{ws:Hj W}{vs:Hj V}(r:RelL K A H ws vs):vs=[]↔ws=[]:=by
 cases r <;> simp
theorem p9:OpR X (binaryOp .Mult) (λx y H Q=>∃z k,x=.str z/\y=.int k/\MulOk z k/\Q (.str (Qh z k)) H):=by
 intro pins s σ H x y v u Q I rx ry h;obtain⟨z,k,rfl,rfl,ok,q⟩:=h;obtain⟨t,rfl⟩:=rx;obtain⟨t',rfl⟩:=ry;exact SB.mul ok λt2 k2=>#[.str _,H,I.tok _,#[_,rfl],q]
theorem vh {x:HM}{k:Hy}(h1:k < 16777216)(h2 : -16777216<=k)(h3:x.length*k.toNat<=sizeLine):MulOk x k:=by
 have hs:sizeLine=16777216:=IN;rw[hs]at h3;refine#[?_,λa b=>?_,λ_ _=>?_]
 ·rw[Bool.or_eq_false_iff];exact#[Iq ∅,Iq ∅]
 ·have hk:0 < k:=∅
  have e:(x.length:Hy)*k=((x.length*k.toNat:Hs):Hy):=by
   rw[Int.natCast_mul,Kr ∅]
  intro hgt;have h4:(2 ^ 63 - 1:Hy) < (x.length:Hy)*k:=(Int.ediv_lt_iff_lt_mul hk).mp hgt;rw[e]at h4;generalize x.length*k.toNat=z at h3 h4;omega
 ·unfold OT;rw[hs];exact Iq ∅
noncomputable def EndV (wd:IA)(K:HD)(A:Hj Hw)(H:Hp)(S':aa)(w:W):VK:=λv H'=>∃A',Ext K A H A' H'/\StoreOk wd K A' H' S'/\Rel K A' H' w v
theorem EndV.here {A:Hj Hw}{H:Hp}{S:aa}{w:W}{v:V}(so:StoreOk X.w X.K A H S)(r:Rel X.K A H w v):EndV X.w X.K A H S w v H:=#[A,.refl,so,r]
theorem EndV.lst {A:Hj Hw}{H:Hp}{S:aa}{ws:Hj W}{vs:Hj V}{p:Hw}(so:StoreOk X.w X.K A H S)(r:RelL X.K A H ws vs)(hp:H p=td):EndV X.w X.K A H (S++[.lst ws]) (.ref S.length) (.ref p) (bR H p (.lst vs)):=
 yU (Q:=EndV X.w X.K A H (S++[.lst ws]) (.ref S.length)) so r hp λv H' A' a b c=>#[A',a,b,c]
theorem EndV.tup {A:Hj Hw}{H:Hp}{S:aa}{ws:Hj W}{vs:Hj V}{p:Hw}(so:StoreOk X.w X.K A H S)(r:RelL X.K A H ws vs)(hp:H p=td):EndV X.w X.K A H S (.tup ws) (.ref p) (bR H p (.tup vs)):=
 yV (Q:=EndV X.w X.K A H S (.tup ws)) so r hp λv H' A' a b c=>#[A',a,b,c]
theorem EP.post {pins:Hj (Hw×Jr)}{σ:L2.St}{A:Hj Hw}{H:Hp}{S':aa}{w:W}{u:Hm}{s':Hq}(h:EP X pins σ (EndV X.w X.K A H S' w) u s'):dF X pins σ A H S' w u s':=by
 obtain⟨v,H',I',r,A',x,y,z⟩:=h;exact#[v,H',A',I',r,x,y,z]
theorem OpR.go {f:Hm->Hm->Pn Hm}{r:R2}(h:OpR X f r){pins:Hj (Hw×Jr)}{σ:L2.St}{A:Hj Hw}{H:Hp}{S':aa}{w:W}{s:Hq}{a b:V}{u v:Hm}(I:Inv X pins σ H s)(ru:RelV a u)(rv:RelV b v)
  (q:r a b H (EndV X.w X.K A H S' w)):wpAny (model X.prog X.w) X.A (f u v) (dF X pins σ A H S' w) X.xe s:=bo (h pins s σ H a b u v _ I ru rv q) λ_ _=>EP.post
theorem yX:LOp X (binaryOp .Add) (hJ .add):=by
 intro pins s σ H A S x y a b u v w S' I so rx ru ry rv e;cases rx with
 | int=>cases ry with
  | int=>cases e; exact OpR.go BM I ru rv #[_,_,rfl,rfl,.here so .int]
  | _=>cases e
 | str=>cases ry with
  | str=>
   dsimp only[hJ,vg]at e;split at e
   ·cases e; exact OpR.go pW I ru rv #[_,_,rfl,rfl,by assumption,.here so .str]
   ·cases e
  | _=>cases e
 | tup h1 r1=>cases ry with
  | tup h2 r2=>
   obtain⟨hl,rfl,rfl⟩:=rn (show p8 S _=_ from e)
   rw[Hn,r1.length,r2.length]at hl;refine OpR.go yW I ru rv #[_,_,_,_,rfl,rfl,h1,h2,hl,λz=>?_,λz=>?_,λp hp=>.tup so (r1.append r2) hp]
   ·have z':=r1.nil_iff.mp z;subst z';exact .here so (.tup h2 r2)
   ·have z':=r2.nil_iff.mp z;subst z';rw[Jo];exact .here so (.tup h1 r1)
  | _=>cases e
 | ref h1=>cases ry with
  | ref h2=>
   dsimp only[hJ,vg]at e;split at e
   ·obtain⟨hl,rfl,rfl⟩:=jy e;obtain⟨vs,q1,r1⟩:=eG so (by assumption) h1
    obtain⟨us,q2,r2⟩:=eG so (by assumption) h2
    rw[Hn,r1.length,r2.length]at hl;exact OpR.go B3 I ru rv #[_,_,_,_,rfl,rfl,q1,q2,hl,λp hp=>.lst so (r1.append r2) hp]
   ·cases e
  | _=>cases e
 | _=>cases e
theorem ou {f:Hm->Hm->Pn Hm}{c:Hy->Hy->HX}{g:Hy->Hy->Hy}{r:R2}(h:OpR X f r)(hr:∀i j H Q,c i j=true->Q (.int (g i j)) H->r (.int i) (.int j) H Q):LOp X f (ym c g):=by
 intro pins s σ H A S x y a b u v w S' I so rx ru ry rv e;cases rx with
 | int=>cases ry with
  | int=>
   unfold ym at e;dsimp only at e;split at e
   ·cases e; exact OpR.go h I ru rv (hr _ _ _ _ (by assumption) (.here so .int))
   ·cases e
  | _=>cases e
 | _=>cases e
theorem yY:LOp X (binaryOp .Sub) (hJ .sub):=ou BN λ_ _ _ _ _ q=>#[_,_,rfl,rfl,q]
theorem yZ {i j:Hy}(h:tf i j=true):CMul i j:=by
 unfold tf at h;rw[JT,Hv,Hv,Ir,Ir,Ir,Ir]at h;exact h
theorem y4:LOp X (binaryOp .Mult) (hJ .mul):=by
 have hI:LOp X (binaryOp .Mult) (ym tf (· * ·)):=ou BO λ_ _ _ _ h q=>#[_,_,rfl,rfl,yZ h,q]
 intro pins s σ H A S x y a b u v w S' I so rx ru ry rv e;cases x with
 | str z=>
  cases rx with
  | str=>cases ry with
   | int=>
    dsimp only[hJ,yT]at e;split at e
    ·rename_i hc;cases e; exact OpR.go p9 I ru rv #[_,_,rfl,rfl,vh ∅ ∅ hc.2.2,.here so .str]
    ·cases e
   | _=>cases e
 | ref z=>
  cases rx with
  | ref h1=>cases ry with
   | int=>
    dsimp only[hJ,yT]at e;split at e
    ·split at e
     ·rename_i hc;obtain⟨hl,rfl,rfl⟩:=jy e;obtain⟨vs,q1,r1⟩:=eG so (by assumption) h1
      rw[r1.length]at hc;exact OpR.go B4 I ru rv #[_,_,_,rfl,rfl,q1,∅,∅,hc.2.2,λp hp=>.lst so (r1.rep _) hp]
     ·cases e
    ·cases e
   | _=>cases e
 | _=>exact hI _ _ _ _ _ _ _ _ _ _ _ _ _ _ I so rx ru ry rv e
theorem vk:LOp X (binaryOp .FloorDiv) (hJ .fdiv):=ou yC λ_ _ _ _ h q=>#[_,_,rfl,rfl,by
 unfold yS at h;rw[Hv,Ir,Ir]at h;exact h,q]
theorem y6:LOp X (binaryOp .Mod) (hJ .mod):=ou BP λ_ _ _ _ h q=>#[_,_,rfl,rfl,IW h,q]
theorem y8:LOp X (binaryOp .Pow) (hJ .pow):=ou BQ λ_ _ _ _ h q=>#[_,_,rfl,rfl,by
 unfold DW at h;rw[Hv,Hv,Ir,Ir,Ir]at h;exact#[h.1.1,h.1.2,h.2],q]
theorem rq (o:BOp):LOp X (binaryOp o.py) (hJ o):=by
 cases o
 ·exact yX
 ·exact yY
 ·exact y4
 ·exact vk
 ·exact y6
 ·exact y8
end
noncomputable def fL (f:W->W->Hr HX):Hj W->Hj W->Hr HX
 | [],[]=>gV true
 | [],_::_=>gV false
 | _::_,[]=>gV false
 | x::xs,y::ys=>match f x y,fL f xs ys with
  | some a,gV b=>gV (a&&b)
  | _,_=>td
noncomputable def b2 (b:HX):Hy:=if b then 1 else 0
noncomputable def gQ (S:aa):Hs->W->W->Hr HX
 | _,.non,y=>match y with
  | .non=>gV true
  | _=>td
 | _,.bl a,y=>match y with
  | .bl b=>gV (a==b)
  | _=>td
 | _,.int a,y=>match y with
  | .int b=>gV (a==b)
  | _=>td
 | _,.str a,y=>match y with
  | .str b=>gV (a==b)
  | _=>td
 | 0,_,_=>td
 | d+1,.tup xs,y=>match y with
  | .tup ys=>fL (gQ S d) xs ys
  | _=>td
 | d+1,.ref i,y=>match y with
  | .ref j=>match nY S i,nY S j with
   | some xs,gV ys=>if xs.length=ys.length then fL (gQ S d) xs ys else gV false
   | _,_=>td
  | _=>td
section
variable{X:Cx}{pins:Hj (Hw×Jr)}{σ:L2.St}{H:Hp}{s:Hq}{A:Hj Hw}{S:aa}
noncomputable def RU (K:HD)(A:Hj Hw)(H:Hp)(w:W)(u:Hm):Prop:=∃v,Rel K A H w v/\RelV v u
theorem rs {ws:Hj W}{vs:Hj V}{us:Hj Hm}(r:RelL X.K A H ws vs)(q:Vals vs us):∀(j:Hs) (h1:j < ws.length) (h2:j < us.length),RU X.K A H ws[j] us[j]:=by
 induction ws generalizing vs us with
 | nil=>intro j h1; simp at h1
 | cons w ws ih=>
  cases r with
  | cons r1 rr=>
   cases q with
   | cons q1 qq=>
    intro j h1 h2;cases j with
    | zero=>exact#[_,r1,q1]
    | succ j=>exact ih rr qq j (by simpa using h1) (by simpa using h2)
theorem vm {ws:Hj W}{u:Hm}(I:Inv X pins σ H s)(h:RU X.K A H (.tup ws) u):∃a its,u=.ref a/\NA s.heap a its/\its.size=ws.length/\ws.length<=sizeLine/\∀(j:Hs) (h1:j < ws.length) (h2:j < its.size),RU X.K A H ws[j] its[j]:=by
 obtain⟨v,r,q⟩:=h;cases r with
 | tup sq rl=>
  obtain⟨its,rv,ht,hz⟩:=I.tuple sq;refine#[_,its.toArray,q,ht,by rw[HK,<- rv.length,rl.length],by rw[rl.length]; exact hz,λj h1 h2=>?_]
  have:=rs rl rv j h1 (by simpa using h2)
  simpa using this
theorem vn {i:Hs}{ws:Hj W}{u:Hm}(I:Inv X pins σ H s)(so:StoreOk X.w X.K A H S)(e:nY S i=gV ws)(h:RU X.K A H (.ref i) u):∃a its,u=.ref a/\A[i]?=gV a/\s.heap.IsList a its/\its.size=ws.length/\ws.length<=sizeLine/\∀(j:Hs) (h1:j < ws.length) (h2:j < its.size),RU X.K A H ws[j] its[j]:=by
 obtain⟨v,r,q⟩:=h;cases r with
 | ref ea=>
  obtain⟨vs,hq,rl⟩:=eG so e ea;obtain⟨its,rv,ht,hz⟩:=I.list (.of hq);refine#[_,its.toArray,q,ea,ht.isList,by rw[HK,<- rv.length,rl.length],by rw[rl.length]; exact hz,λj h1 h2=>?_]
  have:=rs rl rv j h1 (by simpa using h2)
  simpa using this
theorem jM {f:W->W->Hr HX}:∀ {xs ys:Hj W} {k:HX},fL f xs ys=gV k->∃e:Hs->HX,(∀(j:Hs) (h1:j < xs.length) (h2:j < ys.length),f xs[j] ys[j]=gV (e j))/\
  k=((HJ (min xs.length ys.length)).all e&&xs.length==ys.length)
 | [],[],k,h=>#[λ_=>true,λj h1=>by simp at h1,by cases h; rfl]
 | [],_::_,k,h=>#[λ_=>true,λj h1=>by simp at h1,by cases h; simp]
 | _::_,[],k,h=>#[λ_=>true,λj h1 h2=>by simp at h2,by cases h; simp]
 | x::xs,y::ys,k,h=>by
  dsimp only[fL]at h;split at h
  ·rename_i a b ha hb;cases h;obtain⟨e,h1,h2⟩:=jM hb;refine#[λj=>match j with|0=>a|j+1=>e j,λj hj1 hj2=>?_,?_]
   ·cases j with
    | zero=>exact ha
    | succ j=>exact h1 j (by simpa using hj1) (by simpa using hj2)
   ·subst h2;simp only[Iz,Nat.add_min_add_right,Mp,II,Pi,Bool.and_assoc];congr 2;simp
  ·cases h
theorem y9 (I:Inv X pins σ H s)(so:StoreOk X.w X.K A H S):∀(d:Hs) {x y:W} {v:V} {k:HX},Rel X.K A H x v->Rel X.K A H y v->gQ S d x y=gV k->k=true:=by
 intro d
 induction d with
 | zero=>
  intro x y v k rx ry e;cases rx with
  | non=>cases ry; cases e; rfl
  | bl=>cases ry; cases e; exact IS _
  | int=>cases ry; cases e; exact IS _
  | str=>cases ry; cases e; exact IS _
  | tup _ _=>cases e
  | ref _=>cases e
 | succ d ih=>
  have lists:∀ {xs ys:Hj W} {vs:Hj V} {k:HX},RelL X.K A H xs vs->RelL X.K A H ys vs->fL (gQ S d) xs ys=gV k->k=true:=by
   intro xs
   induction xs with
   | nil=>
    intro ys vs k r1 r2 e;cases r1; cases r2; cases e; rfl
   | cons x xs ihx=>
    intro ys vs k r1 r2 e;cases r1 with
    | cons p1 q1=>
     cases r2 with
     | cons p2 q2=>
      dsimp only[fL]at e;split at e
      ·rename_i a b ha hb;cases e;rw[ih p1 p2 ha,ihx q1 q2 hb];rfl
      ·cases e
  intro x y v k rx ry e;cases rx with
  | non=>cases ry; cases e; rfl
  | bl=>cases ry; cases e; exact IS _
  | int=>cases ry; cases e; exact IS _
  | str=>cases ry; cases e; exact IS _
  | tup h1 r1=>
   cases ry with
   | tup h2 r2=>
    rw[I.tuple_inj h1 h2]at r1;exact lists r1 r2 e
   | ref ea=>cases e
  | ref ea=>
   cases ry with
   | tup h2 r2=>cases e
   | ref eb=>
    dsimp only[gQ]at e;split at e
    ·rename_i xs ys hx hy;have:=so.nd _ _ _ _ _ (jL hx) rfl (jL hy) rfl ea eb;subst this;rw[hx]at hy; cases hy
     rw[HY rfl]at e;obtain⟨vs,q,r⟩:=eG so hx ea;exact lists r r e
    ·cases e
theorem be (A:Ix):A.in1.units=A.units+1:=rfl
noncomputable abbrev Dk (B:Ix)(s:Hq)(u v:Hm)(k:HX):Prop:=SeqAt.RcAt B s u v k/\SeqAt.RcNeAt B s u v (!k)/\Ln B s u v k
open SeqAt in
theorem AM (I:Inv X pins σ H s)(so:StoreOk X.w X.K A H S):∀(d:Hs) (B:Ix) {x y:W} {u v:Hm} {k:HX},B.units+d < cLine->RU X.K A H x u->RU X.K A H y v->gQ S d x y=gV k->Dk B s u v k:=by
 have non:∀ {B:Ix} {y:W} {u v:Hm} {k:HX} {d:Hs},RU X.K A H .non u->RU X.K A H y v->gQ S d .non y=gV k->Dk B s u v k:=by
  intro B y u v k d ⟨_,rx,ra⟩ ⟨_,ry,rb⟩ e;cases rx;cases(show u=IM from ra)
  cases y with
  | non=>
   have e:gV (true)=gV k:=by cases d <;> exact e
   cases e;cases ry;cases(show v=IM from rb)
   exact#[.none_none,.none_none,.same _]
  | _=>cases d <;> cases e
 have bl:∀ {B:Ix} {b:HX} {y:W} {u v:Hm} {k:HX} {d:Hs},RU X.K A H (.bl b) u->RU X.K A H y v->gQ S d (.bl b) y=gV k->Dk B s u v k:=by
  intro B b y u v k d ⟨_,rx,ra⟩ ⟨_,ry,rb⟩ e;cases rx;cases(show u=JS _ from ra)
  cases y with
  | bl c=>
   have e:gV (b==c)=gV k:=by cases d <;> exact e
   cases e;cases ry;cases(show v=JS _ from rb)
   exact#[.bool_bool _ _,.bool_bool _ _,.bool_bool _ _]
  | _=>cases d <;> cases e
 have int:∀ {B:Ix} {b:Hy} {y:W} {u v:Hm} {k:HX} {d:Hs},RU X.K A H (.int b) u->RU X.K A H y v->gQ S d (.int b) y=gV k->Dk B s u v k:=by
  intro B b y u v k d ⟨_,rx,ra⟩ ⟨_,ry,rb⟩ e;cases rx;obtain⟨t0,rfl⟩ : ∃t,u=Mb _ t:=ra;cases y with
  | int c=>
   have e:gV (b==c)=gV k:=by cases d <;> exact e
   cases e;cases ry;obtain⟨t,rfl⟩ : ∃t,v=Mb _ t:=rb;exact#[.int_int _ _ _ _,.int_int _ _ _ _,.int_int _ _ _ _]
  | _=>cases d <;> cases e
 have str:∀ {B:Ix} {b:HM} {y:W} {u v:Hm} {k:HX} {d:Hs},RU X.K A H (.str b) u->RU X.K A H y v->gQ S d (.str b) y=gV k->Dk B s u v k:=by
  intro B b y u v k d ⟨_,rx,ra⟩ ⟨_,ry,rb⟩ e;cases rx;obtain⟨t0,rfl⟩ : ∃t,u=Lm _ t:=ra;cases y with
  | str c=>
   have e:gV (b==c)=gV k:=by cases d <;> exact e
   cases e;cases ry;obtain⟨t,rfl⟩ : ∃t,v=Lm _ t:=rb;exact#[.str_str _ _ _ _,.str_str _ _ _ _,.str_str _ _ _ _]
  | _=>cases d <;> cases e
 intro d
 induction d with
 | zero=>
  intro B x y u v k hu rx ry e;cases x with
  | non=>exact non rx ry e
  | bl b=>exact bl rx ry e
  | int b=>exact int rx ry e
  | str b=>exact str rx ry e
  | _=>cases e
 | succ d ih=>
  intro B x y u v k hu rx ry e;have hu0:B.units < cLine:=∅
  have hu1:B.in1.units+d < cLine:=by rw[be]; omega
  have rx0:=rx;have ry0:=ry;have fin:∀ {a b:Hw},u=.ref a->v=.ref b->RcAt B s u v k->RcNeAt B s u v (!k)->Dk B s u v k:=by
   intro a b ea eb h1 h2;subst ea eb;refine#[h1,h2,?_]
   by_cases hab:a=b
   ·subst hab;obtain⟨v1,q1,z1⟩:=rx0;obtain⟨v2,q2,z2⟩:=ry0;have e12:v1=v2:=z1.inj z2;subst e12;have:=y9 I so (d+1) q1 q2 e;subst this;exact EqAt.same _
   ·exact EqAt.of_refs hab h1
  cases x with
  | non=>exact non rx ry e
  | bl b=>exact bl rx ry e
  | int b=>exact int rx ry e
  | str b=>exact str rx ry e
  | tup xs=>
   cases y with
   | tup ys=>
    obtain⟨a,its,rfl,ht,hs,_,hi⟩:=vm I rx;obtain⟨b,its2,rfl,ht2,hs2,_,hi2⟩:=vm I ry;obtain⟨f,h1,h2⟩:=jM (show fL (gQ S d) xs ys=gV k from e)
    have he:∀j (h1:j < its.size) (h2:j < its2.size),EqAt B.in1 s its[j] its2[j] (f j):=λj j1 j2=>
     (ih B.in1 hu1 (hi j (hs ▸ j1) j1) (hi2 j (hs2 ▸ j2) j2) (h1 j (hs ▸ j1) (hs2 ▸ j2))).2.2
    rw[<- hs,<- hs2]at h2;subst h2;exact fin rfl rfl (RcAt.tuples ht ht2 hu0 he) (RcNeAt.tuples ht ht2 hu0 he)
   | _=>cases e
  | ref i=>
   cases y with
   | ref j=>
    dsimp only[gQ]at e;split at e
    ·rename_i ws ws2 hw hw2;obtain⟨a,its,rfl,_,hl,hs,_,hi⟩:=vn I so hw rx;obtain⟨b,its2,rfl,_,hl2,hs2,_,hi2⟩:=vn I so hw2 ry;split at e
     ·rename_i hlen;obtain⟨f,h1,h2⟩:=jM e;have he:∀j (h1:j < its.size) (h2:j < its2.size),EqAt B.in1 s its[j] its2[j] (f j):=λj j1 j2=>
       (ih B.in1 hu1 (hi j (hs ▸ j1) j1) (hi2 j (hs2 ▸ j2) j2) (h1 j (hs ▸ j1) (hs2 ▸ j2))).2.2
      have hk:k=(HJ its.size).all f:=by rw[h2,hs,hlen]; simp
      subst hk;exact fin rfl rfl (RcAt.lists hl hl2 (by rw[hs,hs2,hlen]) hu0 he) (RcNeAt.lists hl hl2 (by rw[hs,hs2,hlen]) hu0 he)
     ·rename_i hlen;cases e;have hb:(its.size != its2.size)=true:=by rw[hs,hs2]; simpa using hlen
      exact fin rfl rfl (RcAt.lists_lengths hl hl2 hb hu0) (RcNeAt.lists_lengths hl hl2 hb hu0)
    ·cases e
   | _=>cases e
end
noncomputable def AN (fe fl:W->W->Hr HX):Hj W->Hj W->Hr HX
 | [],[]=>gV false
 | [],_::_=>gV true
 | _::_,[]=>gV false
 | x::xs,y::ys=>match fe x y with
  | some true=>AN fe fl xs ys
  | some false=>fl x y
  | none=>td
noncomputable def G3 (S:aa):Hs->W->W->Hr HX
 | _,.int a,.int b=>gV (decide (a < b))
 | _,.str a,.str b=>gV (decide (a.cps.toList < b.cps.toList))
 | d+1,.tup xs,.tup ys=>AN (gQ S d) (G3 S d) xs ys
 | _,_,_=>td
noncomputable def LtAt (B:Ix)(s:Hq)(u v:Hm)(k:HX):Prop:=
 ∀(prog:Io) (w:IA) (E:Hm->Hq->Prop) (Q:Hm->Hq->Prop),Q (.bool k) s->wpAny (model prog w) B (richCompare .Lt u v) Q E s
inductive LexR (B:Ix)(s:Hq):Hj Hm->Hj Hm->HX->Prop
 | nn:LexR B s [] [] false
 | nc {v:Hm} {vs:Hj Hm}:LexR B s [] (v::vs) true
 | cn {v:Hm} {vs:Hj Hm}:LexR B s (v::vs) [] false
 | eq {u v:Hm} {us vs:Hj Hm} {k:HX}:Ln B s u v true->LexR B s us vs k->LexR B s (u::us) (v::vs) k
 | ne {u v:Hm} {us vs:Hj Hm} {k:HX}:Ln B s u v false->LtAt B s u v k->LexR B s (u::us) (v::vs) k
section
open PySem.SeqAt
open PySem.AutoSeq1 (wpAny_loadPart')
open PySem.MeetsSeq PySem.MeetsSeq2 PySem.MeetsSeq3
theorem mN (l b:Hw)(items items2:IF Hm)(n n2:Hs)(dd dd2:Hr Hw)(sl sl2:IF (Hr Hm))(k:HX) :
  Meets (Mq.«tuple.__lt__» #[[.ref l,.ref b],[]])
   (λB R s=>s.heap.get? l=gV { cls:=.type "tuple",dict:=dd,data:=.seq items n,slots:=sl }/\s.heap.get? b=gV { cls:=.type "tuple",dict:=dd2,data:=.seq items2 n2,slots:=sl2 }/\
    LexR B.in1 s items.toList items2.toList k/\R (.ok (.ret (.bool k))) s):=
 .of_wp λprog w A R s h=>by
  obtain⟨hp,g,d,tk,os⟩:=s; obtain⟨hl,hb,hx,h⟩:=h
  have f2:=O2;have z1:items.toList.length=items.size:=by simp
  have z2:items2.toList.length=items2.size:=by simp
  wp_walk using K6 hl,K6 hb,Mf _ (λcw b s'=>b.1=td/\s'=#[hp,g,d,tk,os]/\∃(vs ws:Hj Hm),cw=vs.zip ws/\
   LexR A.in1 #[hp,g,d,tk,os] vs ws k/\vs.length+items2.size=ws.length+items.size) _
  case turn=>
   rintro⟨y,x⟩ cw b s' ⟨hb',rfl,vs,ws,hz,hlx,hlen⟩;cases hlx with
   | nn=>rw[NO]at hz; cases hz
   | nc=>rw[NO]at hz; cases hz
   | cn=>rw[List.zip_nil_right]at hz; cases hz
   | eq he hr=>
    rw[Kw]at hz;injection hz with hyx hrest
    injection hyx with hy hx
    subst hy hx;simp only[Iz]at hlen;refine Hl (he prog w _ _ ?_)
    wp_walk
    exact#[rfl,rfl,_,_,hrest,hr,∅]
   | ne he hr=>
    rw[Kw]at hz;injection hz with hyx hrest
    injection hyx with hy hx
    subst hy hx;refine Hl (he prog w _ _ ?_);have hri:=hr prog w
    wp_walk using hri
    exact#[_,rfl,by simpa using h]
  case fin=>
   rintro⟨b1,b2⟩ s' ⟨hb',rfl,vs,ws,hz,hlx,hlen⟩;simp only at hb';subst hb';have hv:k=decide (items.size < items2.size):=by
    cases hlx with
    | nn=>simp only[Jw]at hlen; exact(Iq ∅).symm
    | nc=>simp only[Jw,Iz]at hlen; exact(IZ ∅).symm
    | cn=>simp only[Jw,Iz]at hlen; exact(Iq ∅).symm
    | eq _ _=>rw[Kw]at hz; cases hz
    | ne _ _=>rw[Kw]at hz; cases hz
   subst hv
   wp_walk
   exact#[_,rfl,by simpa [NY]using h]
  case h=>
   exact#[rfl,rfl,items.toList,items2.toList,rfl,hx,∅]
end
theorem LtAt.tuples {B:Ix}{s:Hq}{l b:Hw}{items items2:IF Hm}{k:HX}(hl:NA s.heap l items)(hb:NA s.heap b items2)(hu:B.units < cLine)(hx:LexR B.in1 s items.toList items2.toList k) :
  LtAt B s (.ref l) (.ref b) k:=λprog w E Q h=>by
 obtain⟨⟨cls,dd,data,sl⟩,ho,hc,n,hd⟩:=id hl;obtain⟨⟨cls2,dd2,data2,sl2⟩,ho2,hc2,n2,hd2⟩:=id hb;simp only at hc hd hc2 hd2;subst hc hd hc2 hd2;exact richCompare_meets_room (op:=.Lt) #[_,ho,rfl] #[_,ho2,rfl] PySem.F.slot_tuple_lt PySem.F.entry_tuple_lt (PySem.F.args_tuple_lt_2 _ _) (mN l b items items2 n n2 dd dd2 sl sl2 k)
  #[ho,ho2,hx,show JS k≠Value.notImplemented/\Q (.bool k) s from#[(λx=>nomatch x),h]] hu
inductive COp where|eq|ne|lt|le|gt|ge|isin|notin|is|isnot
 deriving KH
noncomputable def COp.py:COp->Oi
 | .eq=>.Eq|.ne=>.NotEq|.lt=>.Lt|.le=>.LtE|.gt=>.Gt|.ge=>.GtE|.isin=>.In|.notin=>.NotIn|.is=>.Is|.isnot=>.IsNot
noncomputable def bC:W->HX
 | .non=>true
 | .bl _=>true
 | .int _=>true
 | .str _=>true
 | _=>false
noncomputable def mO:W->W->HX
 | .non,.non=>true
 | .bl a,.bl b=>a==b
 | .bl a,.int b=>b2 a==b
 | .int a,.bl b=>a==b2 b
 | .int a,.int b=>a==b
 | .str a,.str b=>a==b
 | _,_=>false
noncomputable def eN (S:aa):W->Hr (Hj W)
 | .tup xs=>gV xs
 | .ref i=>gP S i
 | _=>td
noncomputable abbrev fM:Hs:=20
noncomputable def zb (x y:W)(S:aa):Hr HX:=match eN S y with
 | some ys=>if bC x&&ys.all bC then gV (ys.any λz=>mO z x)else td
 | none=>td
noncomputable def tj:W->HX
 | .non=>true
 | _=>false
noncomputable def vo (f:Hy->Hy->HX):W->W->Hr HX
 | .int i,.int j=>gV (f i j)
 | _,_=>td
noncomputable def F7:W->W->Hr HX
 | .bl a,.bl b=>gV (!(a==b))
 | _,_=>td
noncomputable def uH:COp->W->W->aa->Hr HX
 | .eq,x,y,S=>gQ S fM x y
 | .ne,x,y,S=>(gQ S fM x y).map (!·)
 | .lt,x,y,_=>vo (λi j=>decide (i < j)) x y
 | .le,x,y,_=>vo (λi j=>decide (i<=j)) x y
 | .gt,x,y,_=>vo (λi j=>decide (j < i)) x y
 | .ge,x,y,_=>vo (λi j=>decide (j<=i)) x y
 | .isin,x,y,S=>zb x y S
 | .notin,x,y,S=>(zb x y S).map (!·)
 | .is,x,y,_=>if tj y then gV (tj x)else td
 | .isnot,x,y,_=>if tj y then gV (!tj x)else F7 x y
noncomputable def dI (o:COp)(x y:W)(S:aa):Hr (W×aa):=(uH o x y S).map λk=>(.bl k,S)
section
variable{X:Cx}
theorem mP {pins:Hj (Hw×Jr)}{σ:L2.St}{H:Hp}{s:Hq}{A:Hj Hw}{S:aa}{k:HX}(I:Inv X pins σ H s)(so:StoreOk X.w X.K A H S):dF X pins σ A H S (.bl k) (.bool k) s:=
 #[.bl k,H,A,I,rfl,.refl,so,.bl]
theorem zd {o:COp}{x y w:W}{S S':aa}(h:dI o x y S=gV (w,S')):∃k,uH o x y S=gV k/\w=.bl k/\S'=S:=by
 unfold dI at h;rw[Ho]at h;obtain⟨k,h1,h2⟩:=h;cases h2;exact#[k,h1,rfl,rfl]
theorem jN {A:Hj Hw}{H:Hp}{w:W}{v:V}(r:Rel X.K A H w v)(f:bC w=true):gH v=true:=by
 cases r <;> first|rfl|cases f
theorem iP {A:Hj Hw}{H:Hp}:∀ {ws:Hj W} {vs:Hj V},RelL X.K A H ws vs->ws.all bC=true->vs.all gH=true
 | _,_,.nil,_=>rfl
 | _,_,.cons r t,f=>by
  rw[II,Hv]at f ⊢;exact#[jN r f.1,iP t f.2]
theorem rz {A:Hj Hw}{H:Hp}{x y:W}{u v:V}(r:Rel X.K A H x u)(q:Rel X.K A H y v)(fx:bC x=true)(fy:bC y=true):yN u v=mO x y:=by
 cases r <;> cases q <;> first|rfl|cases fx|cases fy
theorem rA {A:Hj Hw}{H:Hp}{y:W}{v:V}(q:Rel X.K A H y v)(fy:bC y=true):∀ {ws:Hj W} {vs:Hj V},RelL X.K A H ws vs->ws.all bC=true->Fi v vs=ws.any λz=>mO z y
 | _,_,.nil,_=>rfl
 | _,_,.cons r t,f=>by
  rw[II,Hv]at f;have:=rA q fy t f.2;unfold Fi at this ⊢;rw[Kk,Kk,rz r q f.1 fy,this]
theorem mQ {pins:Hj (Hw×Jr)}{σ:L2.St}{H:Hp}{s:Hq}{A:Hj Hw}{S:aa}{y:W}{b:V}{ys:Hj W}(so:StoreOk X.w X.K A H S)(r:Rel X.K A H y b)(e:eN S y=gV ys):∃p vs,b=.ref p/\(SqL X.K H p vs\/SqT X.K H p vs)/\RelL X.K A H ys vs:=by
 cases r with
 | tup h1 r1=>cases e; exact#[_,_,rfl,.inr h1,r1]
 | ref ea=>
  obtain⟨vs,h1,r1⟩:=cH so e ea;exact#[_,vs,rfl,.inl h1,r1]
 | _=>cases e
theorem vp {neg:HX}{o:Oi}(ho:OpR X (compareOp o) (F2 X.K neg)){pins:Hj (Hw×Jr)}{σ:L2.St}{H:Hp}{s:Hq}{A:Hj Hw}{S:aa}{x y:W}{a b:V}{u v:Hm}{ys:Hj W}(I:Inv X pins σ H s)(so:StoreOk X.w X.K A H S)
  (rx:Rel X.K A H x a) (ru:RelV a u) (ry:Rel X.K A H y b) (rv:RelV b v) (e:eN S y=gV ys) (f:(bC x&&ys.all bC)=true) :
  wpAny (model X.prog X.w) X.A (compareOp o u v) (dF X pins σ A H S (.bl (if neg then !ys.any λz=>mO z x else ys.any λz=>mO z x))) X.xe s:=by
 obtain⟨p,vs,rfl,hq,rl⟩:=mQ (pins:=pins) (σ:=σ) (s:=s) so ry e;rw[Hv]at f;refine OpR.go ho I ru rv #[p,vs,rfl,hq,jN rx f.1,iP rl f.2,?_];rw[rA rx f.1 rl f.2];exact .here so .bl
theorem hW (hu:X.A.units+fM < cLine)(o:COp):LOp X (compareOp o.py) (dI o):=by
 intro pins s σ H A S x y a b u v w S' I so rx ru ry rv e;obtain⟨k,ek,e1,e2⟩:=zd e;subst e1;subst e2;clear e
 rename aa=>S
 have twoI:∀ {f:Hy->Hy->HX},vo f x y=gV k->∃i j,x=.int i/\y=.int j/\k=f i j:=by
  intro f h;cases x with
  | int i=>cases y with
   | int j=>cases h; exact#[i,j,rfl,rfl,rfl]
   | _=>cases h
  | _=>cases h
 have hu1:X.A.units+1 < cLine:=by have:fM=20:=rfl; omega
 have ofSq:∀ {c:HX},zb x y S=gV c->(∃ys,eN S y=gV ys/\(bC x&&ys.all bC)=true/\c=ys.any λz=>mO z x):=by
  intro c h;unfold zb at h;split at h
  ·split at h
   ·cases h; exact#[_,by assumption,by assumption,rfl]
   ·cases h
  ·cases h
 have ofN:∀ {c:HX},(if tj y then gV c else td)=gV k->y=.non/\k=c:=by
  intro c h;cases y with
  | non=>cases h; exact#[rfl,rfl]
  | _=>cases h
 cases o with
 | eq=>exact(AM I so fM X.A hu #[a,rx,ru] #[b,ry,rv] ek).1 _ _ _ _ (mP I so)
 | ne=>
  obtain⟨k',h1,rfl⟩:=Ho.mp ek;exact(AM I so fM X.A hu #[a,rx,ru] #[b,ry,rv] h1).2.1 _ _ _ _ (mP I so)
 | lt=>
  obtain⟨i,j,rfl,rfl,rfl⟩:=twoI ek;cases rx; cases ry
  exact OpR.go DL I ru rv #[_,_,rfl,rfl,.here so .bl]
 | le=>
  obtain⟨i,j,rfl,rfl,rfl⟩:=twoI ek;cases rx; cases ry
  exact OpR.go DM I ru rv #[_,_,rfl,rfl,.here so .bl]
 | gt=>
  obtain⟨i,j,rfl,rfl,rfl⟩:=twoI ek;cases rx; cases ry
  exact OpR.go DN I ru rv #[_,_,rfl,rfl,.here so .bl]
 | ge=>
  obtain⟨i,j,rfl,rfl,rfl⟩:=twoI ek;cases rx; cases ry
  exact OpR.go DO I ru rv #[_,_,rfl,rfl,.here so .bl]
 | isin=>
  obtain⟨ys,h1,h2,rfl⟩:=ofSq ek;exact vp (neg:=false) sV I so rx ru ry rv h1 h2
 | notin=>
  obtain⟨c,h,rfl⟩:=Ho.mp ek;obtain⟨ys,h1,h2,rfl⟩:=ofSq h;exact vp (neg:=true) mK I so rx ru ry rv h1 h2
 | is=>
  obtain⟨rfl,rfl⟩:=ofN ek;cases ry;refine OpR.go BS I ru rv #[rfl,?_];cases rx <;> exact .here so .bl
 | isnot=>
  cases y with
  | non=>
   have ek:gV (!tj x)=gV k:=ek;cases ek;cases ry;refine OpR.go yD I ru rv #[rfl,?_];cases rx <;> exact .here so .bl
  | bl b'=>
   cases x with
   | bl a'=>
    have ek:gV (!(a'==b'))=gV k:=ek;cases ek;cases rx;cases ry;obtain rfl:u=JS a':=ru;obtain rfl:v=JS b':=rv;refine wpAny_isNot_plain rfl ?_;have e:(!(JS a'==JS b')) = !(a'==b'):=by cases a' <;> cases b' <;> rfl
    rw[e];exact mP I so
   | _=>cases ek
  | _=>cases x <;> cases ek
end
end Mi
namespace HT
open PySem PyProof.Rows
section
variable{prog:Io}{w:IA}{A:Ix}{E:Hm->Hq->Prop}{s:Hq}
theorem gB {t sl:Hw}{items:IF Hm}{vl vu:Hm}{lo hi:Hr Hy}{Q:Hm->Hq->Prop}(ht:NA s.heap t items)(hs:s.heap.IsSliceOf sl vl vu .none)(pl:LJ vl lo)(pu:LJ vu hi)
  (hw:cv items.size 0 lo=0/\cv items.size items.size hi=items.size) (h:Q (.ref t) s):wpAny (model prog w) A (getItem (.ref t) (.ref sl)) Q E s:=by
 obtain⟨os,hos,hcs,hds⟩:=id hs;have hTs:s.TypeIs (.ref sl) "slice":=#[os,hos,hcs];unfold getItem
 try with_reducible refine Jn ?_
 first|refine Hl (HB ?_)|skip
 refine Hl (NJ ht.typeIs #v[] ?_)
 refine Hl (IX (name:=JX "__getitem__") ht.typeIs JF
  (Ji JF ht.typeIs M3 ?_ (No _ _)))
 show wpAny _ _ (KJ (.ref t) >>= _) _ _ s;refine Hl (OX ht ?_);refine Hl (LC hTs ?_);rw[HY #v[]]
 refine Hl (eL hs pl pu ?_);have hyes:((((cv items.size 0 lo:Hs):Hy)==0&&(1:Hy)==1&&(cv items.size items.size hi - cv items.size 0 lo)==items.size)=true):=by
  rw[hw.1,hw.2];simp
 show wpAny _ _ (if (((cv items.size 0 lo:Hs):Hy)==0&&(1:Hy)==1&&(cv items.size items.size hi - cv items.size 0 lo)==items.size)=true then _ else _) _ _ s
 rw[HY hyes];unfold OI;refine Hl (Hl (LC ht.typeIs (HB ?_)));rw[HY #v[]]
 exact Hl (Nl (Hl (HB (HB #[_,rfl,HB h]))))
end
end HT
namespace Mi
open PySem PySem.Spec PyProof.Rows L2
noncomputable def tm (x y:W)(S:aa):Hr (W×aa):=match x,y with
 | .tup xs,.int i=>(om xs i).map λw=>(w,S)
 | .ref r,.int i=>match gP S r with
  | some xs=>(om xs i).map λw=>(w,S)
  | none=>td
 | .str x,.int i=>if x.length<=sizeLine then(om x.cps.toList i).map λc=>(.str #[[c].toArray],S)else td
 | _,_=>td
noncomputable def jr (xs:Hj W)(lo hi:Hr Hy):Hj W:=(xs.drop (HT.cv xs.length 0 lo)).take (HT.cv xs.length xs.length hi - HT.cv xs.length 0 lo)
noncomputable def js (x:W)(lo hi:Hr Hy)(S:aa):Hr (W×aa):=match x with
 | .tup xs=>gV (.tup (jr xs lo hi),S)
 | .ref r=>match gP S r with
  | some xs=>gV (.ref S.length,S++[.lst (jr xs lo hi)])
  | none=>td
 | _=>td
noncomputable def tq (o i v:W)(S:aa):Hr aa:=match o,i with
 | .ref r,.int k=>match nY S r with
  | some xs=>match rh xs.length k with
   | some j=>gV (S.set r (.lst (xs.set j v)))
   | none=>td
  | none=>td
 | _,_=>td
section
variable (X:Cx)
noncomputable def LIx (g:W->W->aa->Hr (W×aa)):Prop:=
 ∀(value slice:HW) (pins:Hj (Hw×Jr)) (s:Hq) (σ:L2.St) (H:Hp) (A:Hj Hw) (S:aa) (x y:W) (a b:V) (u v:Hm) (w:W) (S':aa),Inv X pins σ H s->StoreOk X.w X.K A H S->
  Rel X.K A H x a->RelV a u->Rel X.K A H y b->RelV b v->g x y S=gV (w,S')->subscripted slice false u v=operate [u,v] (getItem u v)->wpAny (model X.prog X.w) X.A (subscriptTail value slice u v) (dF X pins σ A H S' w) X.xe s
noncomputable def LSl (g:W->Hr Hy->Hr Hy->aa->Hr (W×aa)):Prop:=
 ∀(pins:Hj (Hw×Jr)) (s:Hq) (σ:L2.St) (H:Hp) (A:Hj Hw) (S:aa) (x:W) (a:V) (v vl vu:Hm) (lo hi:Hr Hy) (sl:Hw) (w:W) (S':aa),Inv X pins σ H s->StoreOk X.w X.K A H S->
  Rel X.K A H x a->RelV a v->s.heap.IsSliceOf sl vl vu .none->LJ vl lo->LJ vu hi->g x lo hi S=gV (w,S')->
  ∃T id,typeLookup (.type T) "__getitem__" = pure (gV (.builtin id))/\s.TypeIs v T/\wpAny (model X.prog X.w) X.A (getItem v (.ref sl)) (dF X pins σ A H S' w) X.xe s
noncomputable def LSet (g:W->W->W->aa->Hr aa):Prop:=
 ∀(pins:Hj (Hw×Jr)) (s:Hq) (σ:L2.St) (H:Hp) (A:Hj Hw) (S:aa) (o i x:W) (ao ai ax:V) (uo ui ux:Hm) (S':aa),Inv X pins σ H s->StoreOk X.w X.K A H S->
  Rel X.K A H o ao->RelV ao uo->Rel X.K A H i ai->RelV ai ui->Rel X.K A H x ax->RelV ax ux->g o i x S=gV S'->
  wpAny (model X.prog X.w) X.A (setItem uo ui ux) (λ_ s'=>∃H' A',Inv X pins σ H' s'/\Ext X.K A H A' H'/\StoreOk X.w X.K A' H' S') X.xe s
noncomputable def LCall (f:Hm)(g:Hj W->aa->Hr (W×aa)):Prop:=
 ∀(pins:Hj (Hw×Jr)) (s:Hq) (σ:L2.St) (H:Hp) (A:Hj Hw) (S:aa) (xs:Hj W) (vs:Hj V) (us:Hj Hm) (w:W) (S':aa),Inv X pins σ H s->StoreOk X.w X.K A H S->
  RelL X.K A H xs vs->Vals vs us->g xs S=gV (w,S')->wpAny (model X.prog X.w) X.A (call f us) (dF X pins σ A H S' w) X.xe s
noncomputable def LMeth (id:Jf)(g:W->Hj W->aa->Hr (W×aa)):Prop:=
 ∀(pins:Hj (Hw×Jr)) (s:Hq) (σ:L2.St) (H:Hp) (A:Hj Hw) (S:aa) (x:W) (a:V) (u:Hm) (xs:Hj W) (vs:Hj V) (us:Hj Hm) (w:W) (S':aa),Inv X pins σ H s->StoreOk X.w X.K A H S->
  Rel X.K A H x a->RelV a u->RelL X.K A H xs vs->Vals vs us->g x xs S=gV (w,S')->wpAny (model X.prog X.w) X.A (call (.builtin id) (u::us)) (dF X pins σ A H S' w) X.xe s
end
section
variable{X:Cx}{pins:Hj (Hw×Jr)}{σ:L2.St}{H:Hp}{s:Hq}{A:Hj Hw}{S:aa}
theorem IxR.go {r:R2}(h:IxR X r){S':aa}{w:W}{a b:V}{u v:Hm}{value slice:HW}(I:Inv X pins σ H s)(ru:RelV a u)(rv:RelV b v)(q:r a b H (EndV X.w X.K A H S' w))(hs:subscripted slice false u v=operate [u,v] (getItem u v)) :
  wpAny (model X.prog X.w) X.A (subscriptTail value slice u v) (dF X pins σ A H S' w) X.xe s:=bo (h value slice pins s σ H a b u v _ I ru rv q hs) λ_ _=>EP.post
theorem CallR.go {f:Hm}{r:Hj V->Hp->VK->Prop}(h:CallR X f r){S':aa}{w:W}{vs:Hj V}{us:Hj Hm}(I:Inv X pins σ H s)(rv:Vals vs us)(q:r vs H (EndV X.w X.K A H S' w)) :
  wpAny (model X.prog X.w) X.A (call f us) (dF X pins σ A H S' w) X.xe s:=bo (h pins s σ H vs us _ I rv q) λ_ _=>EP.post
theorem MtR.go {id:Jf}{r:V->Hj V->Hp->VK->Prop}(h:MtR X id r){S':aa}{w:W}{a:V}{u:Hm}{vs:Hj V}{us:Hj Hm}(I:Inv X pins σ H s)(ru:RelV a u)(rv:Vals vs us)(q:r a vs H (EndV X.w X.K A H S' w)) :
  wpAny (model X.prog X.w) X.A (call (.builtin id) (u::us)) (dF X pins σ A H S' w) X.xe s:=bo (h pins s σ H a vs u us _ I ru rv q) λ_ _=>EP.post
theorem rB {xs:Hj W}{vs:Hj V}{i:Hy}{w:W}(r:RelL X.K A H xs vs)(e:om xs i=gV w):∃v,om vs i=gV v/\Rel X.K A H w v:=by
 unfold om at e ⊢;rw[r.length]at e;cases q:rh vs.length i with
 | none=>rw[q]at e; cases e
 | some j=>
  rw[q]at e;obtain⟨v,h1,h2⟩:=r.get (show xs[j]?=gV w from e)
  exact#[v,h1,h2]
theorem G4 (hu:X.A.units+10 < cLine):LIx X tm:=by
 intro value slice pins s σ H A S x y a b u v w S' I so rx ru ry rv e hs;cases rx with
 | tup h1 r1=>cases ry with
  | int=>
   (dsimp only[tm]at e; simp only[Ho]at e)
   obtain⟨w',e1,e2⟩:=e;cases e2;obtain⟨z,h2,r2⟩:=rB r1 e1;exact IxR.go BZ I ru rv #[_,_,_,_,rfl,rfl,h1,h2,.here so r2] hs
  | _=>cases e
 | ref ea=>cases ry with
  | int=>
   dsimp only[tm]at e;split at e
   ·rename_i ws hw;rw[Ho]at e;obtain⟨w',e1,e2⟩:=e;cases e2;obtain⟨vs,h1,r1⟩:=cH so hw ea;obtain⟨z,h2,r2⟩:=rB r1 e1;exact IxR.go yL I ru rv #[_,_,_,_,rfl,rfl,h1,h2,.here so r2] hs
   ·cases e
  | _=>cases e
 | str=>cases ry with
  | int=>
   dsimp only[tm]at e;split at e
   ·rw[Ho]at e;obtain⟨c,e1,e2⟩:=e;cases e2;exact IxR.go B0 I ru rv #[_,_,_,rfl,rfl,by assumption,e1,.here so .str] hs
   ·cases e
  | _=>cases e
 | _=>cases ry <;> cases e
theorem mR {xs:Hj W}{vs:Hj V}{lo hi:Hr Hy}(r:RelL X.K A H xs vs):RelL X.K A H (jr xs lo hi) (jJ vs lo hi):=by
 unfold jr jJ;rw[r.length];exact(r.drop _).take _
theorem ze:DT X (λx lo hi H Q=>∃a xs,x=.ref a/\SqT X.K H a xs/\(jJ xs lo hi=xs->Q (.ref a) H)/\∀p,H p=td->Q (.ref p) (bR H p (.tup (jJ xs lo hi)))):=by
 intro pins s σ H x v vl vu lo hi sl Q I rx hs pl pu h;obtain⟨a,xs,rfl,hx,q0,q⟩:=h
 by_cases hw:(HT.cv xs.length 0 lo=0/\HT.cv xs.length xs.length hi=xs.length)
 ·cases rx;obtain⟨its,r,ht,hz⟩:=I.tuple hx;have hlen:its.toArray.size=xs.length:=by rw[HK]; exact r.length.symm
  refine#["tuple",_,PyProof.Rows.slot_tuple_getitem.lookup,ht.typeIs,?_];refine HT.gB ht hs pl pu (by rw[hlen]; exact hw) #[.ref a,H,I,rfl,q0 ?_]
  unfold jJ;rw[hw.1,hw.2];simp
 ·exact BY pins s σ H (.ref a) v vl vu lo hi sl Q I rx hs pl pu #[a,xs,rfl,hx,hw,q]
theorem G5:LSl X js:=by
 intro pins s σ H A S x a v vl vu lo hi sl w S' I so rx rv hs pl pu e;cases rx with
 | tup h1 r1=>
  cases e;obtain⟨T,id,z1,z2,z3⟩:=ze pins s σ H _ v vl vu lo hi sl (EndV X.w X.K A H S (.tup (jr _ lo hi))) I rv hs pl pu #[_,_,rfl,h1,λq=>.here so (.tup h1 (by have:=mR (lo:=lo) (hi:=hi) r1; rw[q]at this; exact this)),λp hp=>.tup so (mR r1) hp]
  exact#[T,id,z1,z2,bo z3 λ_ _=>EP.post]
 | ref ea=>
  simp only[js]at e;split at e
  ·rename_i ws hw;cases e;obtain⟨vs,h1,r1⟩:=cH so hw ea;obtain⟨T,id,z1,z2,z3⟩:=yM pins s σ H _ v vl vu lo hi sl (EndV X.w X.K A H (S++[.lst (jr ws lo hi)]) (.ref S.length)) I rv hs pl pu #[_,_,rfl,h1,λp hp=>.lst so (mR r1) hp]
   exact#[T,id,z1,z2,bo z3 λ_ _=>EP.post]
  ·cases e
 | _=>cases e
theorem lset (hu:X.A.units+10 < cLine):LSet X tq:=by
 intro pins s σ H A S o i x ao ai ax uo ui ux S' I so ro ruo ri rui rx rux e;cases ro with
 | ref ea=>cases ri with
  | int=>
   simp only[tq]at e;split at e
   ·rename_i ws hw;split at e
    ·rename_i j hj;cases e;obtain⟨vs,h1,r1⟩:=eG so hw ea;rw[r1.length]at hj;obtain⟨so',ex⟩:=so.write (jL hw) ea (r1.set rx j);exact bo (u6 pins s σ H _ _ _ uo ui ux (λH'=>H'=bR H _ (.lst (vs.set j ax))) I ruo rui rux #[_,_,_,_,rfl,rfl,h1,hj,rfl]) λ_ s' #[H',I',e']=>#[_,A,e' ▸ I',ex,so']
    ·cases e
   ·cases e
  | _=>cases e
 | _=>cases ri <;> cases e
noncomputable def qa (xs:Hj W)(S:aa):Hr (W×aa):=match xs with
 | [.tup ys]=>gV (.int ys.length,S)
 | [.str y]=>if y.length<=sizeLine then gV (.int y.length,S)else td
 | [.ref i]=>(gP S i).map λys=>(.int ys.length,S)
 | _=>td
theorem tt:LCall X (.builtin "len") qa:=by
 intro pins s σ H A S xs vs us w S' I so rl rv e;cases rl with
 | nil=>cases e
 | cons r t=>
  cases t with
  | cons _ _=>cases r <;> cases e
  | nil=>
   cases r with
   | tup h1 r1=>cases e; rw[r1.length]; exact CallR.go jG I rv #[_,_,rfl,.inr #[_,h1,rfl],.here so .int]
   | str=>
    dsimp only[qa]at e;split at e
    ·cases e; exact CallR.go jG I rv #[_,_,rfl,#[by assumption,rfl],.here so .int]
    ·cases e
   | ref ea=>
    (dsimp only[qa]at e; simp only[Ho]at e)
    obtain⟨ws,hw,e2⟩:=e;cases e2;obtain⟨vs',h1,r1⟩:=cH so hw ea;rw[r1.length];exact CallR.go jG I rv #[_,_,rfl,.inl #[_,h1,rfl],.here so .int]
   | _=>cases e
noncomputable def hX (xs:Hj W)(S:aa):Hr (W×aa):=match xs with
 | [x]=>match eN S x with
  | some ys=>gV (.ref S.length,S++[.lst ys])
  | none=>td
 | _=>td
theorem gR:LCall X (.type "list") hX:=by
 intro pins s σ H A S xs vs us w S' I so rl rv e;cases rl with
 | nil=>cases e
 | cons r t=>
  cases t with
  | cons _ _=>cases e
  | nil=>
   simp only[hX]at e;split at e
   ·rename_i ys hy;cases e;obtain⟨p,vs',rfl,hq,r1⟩:=mQ (pins:=pins) (σ:=σ) (s:=s) so r hy;exact CallR.go mL I rv #[p,vs',rfl,hq,λl hl=>.lst so r1 hl]
   ·cases e
noncomputable def jO (xs:Hj W)(S:aa):Hr (W×aa):=match xs with
 | [.tup ys]=>gV (.tup ys,S)
 | [.ref i]=>match gP S i with
  | some ys=>gV (.tup ys,S)
  | none=>td
 | _=>td
theorem jg:LCall X (.type "tuple") jO:=by
 intro pins s σ H A S xs vs us w S' I so rl rv e;cases rl with
 | nil=>cases e
 | cons r t=>
  cases t with
  | cons _ _=>cases r <;> cases e
  | nil=>
   cases r with
   | tup h1 r1=>cases e; exact CallR.go gI I rv #[_,_,rfl,.inr #[h1,.here so (.tup h1 r1)]]
   | ref ea=>
    dsimp only[jO]at e;split at e
    ·rename_i ys hy;cases e;obtain⟨vs',h1,r1⟩:=cH so hy ea;exact CallR.go gI I rv #[_,_,rfl,.inl #[h1,λl hl=>.tup so r1 hl]]
    ·cases e
   | _=>cases e
noncomputable def DY (xs:Hj W)(S:aa):Hr (W×aa):=match xs with
 | [.int i]=>gV (.int i,S)
 | [.bl b]=>gV (.int (if b then 1 else 0),S)
 | _=>td
theorem tu:LCall X (.type "int") DY:=by
 intro pins s σ H A S xs vs us w S' I so rl rv e;cases rl with
 | nil=>cases e
 | cons r t=>
  cases t with
  | cons _ _=>cases r <;> cases e
  | nil=>
   cases r with
   | int=>cases e; exact CallR.go lq I rv (.inl #[_,rfl,.here so .int])
   | bl=>cases e; exact CallR.go lq I rv (.inr #[_,rfl,.here so .int])
   | _=>cases e
noncomputable def hZ (x:W)(xs:Hj W)(S:aa):Hr (W×aa):=match x,xs with
 | .ref i,[y]=>match nY S i with
  | some ys=>if ys.length < sizeLine then gV (.non,S.set i (.lst (ys++[y])))else td
  | none=>td
 | _,_=>td
theorem iQ {i:Hs}{p:Hw}{ws ws0:Hj W}{us:Hj V}(so:StoreOk X.w X.K A H S)(e:nY S i=gV ws0)(ea:A[i]?=gV p)(r:RelL X.K A H ws us){w:W}{v:V}(rw':Rel X.K A H w v) :
  EndV X.w X.K A H (S.set i (.lst ws)) w v (bR H p (.lst us)):=by
 obtain⟨so',ex⟩:=so.write (jL e) ea r;exact#[A,ex,so',rw'.mono ex]
theorem mS:LMeth X "list.append" hZ:=by
 intro pins s σ H A S x a u xs vs us w S' I so rx ru rl rv e;cases rx with
 | ref ea=>
  cases rl with
  | nil=>cases e
  | cons r t=>
   cases t with
   | cons _ _=>cases e
   | nil=>
    simp only[hZ]at e;split at e
    ·rename_i ys hy;split at e
     ·rename_i hl;cases e;obtain⟨vs',h1,r1⟩:=eG so hy ea;rw[r1.length]at hl;exact MtR.go sW I ru rv #[_,_,_,rfl,rfl,h1,hl,iQ so hy ea (r1.append #v[r]) .non]
     ·cases e
    ·cases e
 | _=>cases e
noncomputable def ib (x:W)(xs:Hj W)(S:aa):Hr (W×aa):=match x,xs with
 | .ref i,[.ref j]=>match nY S i,nY S j with
  | some ys,gV zs=>if ys.length+zs.length<=sizeLine then gV (.non,S.set i (.lst (ys++zs)))else td
  | _,_=>td
 | _,_=>td
theorem mT:LMeth X "list.extend" ib:=by
 intro pins s σ H A S x a u xs vs us w S' I so rx ru rl rv e;cases rx with
 | ref ea=>
  cases rl with
  | nil=>cases e
  | cons r t=>
   cases t with
   | cons _ _=>cases r <;> cases e
   | nil=>
    cases r with
    | ref eb=>
     dsimp only[ib]at e;split at e
     ·rename_i ys zs hy hz;split at e
      ·rename_i hl;cases e;obtain⟨vs',h1,r1⟩:=eG so hy ea;obtain⟨vs2,h2,r2⟩:=eG so hz eb;rw[r1.length,r2.length]at hl;exact MtR.go sX I ru rv #[_,_,_,_,rfl,rfl,h1,h2,hl,iQ so hy ea (r1.append r2) .non]
      ·cases e
     ·cases e
    | _=>cases e
 | _=>cases e
noncomputable def B5 (x:W)(xs:Hj W)(S:aa):Hr (W×aa):=match x,xs with
 | .ref i,[.int k]=>match nY S i with
  | some ys=>if -(2 ^ 63)<=k/\k < 2 ^ 63 then match seqIndex? k ys.length with
   | some j=>match ys[j]? with
    | some y=>gV (y,S.set i (.lst (ys.eraseIdx j)))
    | none=>td
   | none=>td
   else td
  | none=>td
 | _,_=>td
theorem tz:LMeth X "list.pop" B5:=by
 intro pins s σ H A S x a u xs vs us w S' I so rx ru rl rv e;cases rx with
 | ref ea=>
  cases rl with
  | nil=>cases e
  | cons r t=>
   cases t with
   | cons _ _=>cases r <;> cases e
   | nil=>
    cases r with
    | int=>
     dsimp only[B5]at e;split at e
     ·rename_i ys hy;split at e
      ·rename_i hk;split at e
       ·rename_i j hj;split at e
        ·rename_i y hyj;cases e;obtain⟨vs',h1,r1⟩:=eG so hy ea;obtain⟨v',h2,r2⟩:=r1.get hyj;rw[r1.length]at hj;exact MtR.go u8 I ru rv #[_,_,_,_,_,rfl,rfl,h1,hk.1,hk.2,hj,h2,iQ so hy ea (r1.eraseIdx j) r2]
        ·cases e
       ·cases e
      ·cases e
     ·cases e
    | _=>cases e
 | _=>cases e
theorem iR {M:PZ}{A:Ix}{E:Hm->Hq->Prop}{s:Hq}{β:Type}{m:Hs}(f:Hs->β->Pn (ForInStep β))(I:Hs->β->Hq->Prop)(Q:β->Hq->Prop)
  (turn:∀i b s,i < m->I i b s->wpAny M A (f i b) (λr s'=>match r with|.yield b'=>I (i+1) b' s'|.done b'=>Q b' s') E s)
  (fin:∀b s,I m b s->Q b s) (b:β) (h:I 0 b s):wpAny M A (forIn [0:m] b f) Q E s:=by
 rw[Std.Legacy.Range.forIn_eq_forIn_range'];simp only[Std.Legacy.Range.size,NP,Nr,Nat.div_one];refine Mf _ (λcw b s'=>∃i,i<=m/\cw=Px i (m - i)/\I i b s') _ ?_ ?_ _ _ #[0,JN _,by simp,h]
 ·rintro x cw b s' ⟨i,hi,hr,hI⟩;have hlt:i < m:=by
   rcases NQ i m with h|h
   ·exact h
   ·rw[Nat.sub_eq_zero_of_le h]at hr; simp at hr
  obtain⟨rfl,hrest⟩ : x=i/\cw=Px (i+1) (m - (i+1)):=by
   have e:m - i=(m - (i+1))+1:=∅
   rw[e,N8]at hr;injection hr with h1 h2
   exact#[h1,h2]
  refine JA (turn x b s' hlt hI) (λr s2 hr2=>?_) λ_ _ e=>e
  cases r with
  | yield b'=>exact#[x+1,hlt,hrest,hr2]
  | done b'=>exact hr2
 ·rintro b s' ⟨i,hi,hr,hI⟩;have:i=m:=by
   rcases NQ i m with h|h
   ·have e:m - i=(m - (i+1))+1:=∅
    rw[e,N8]at hr; cases hr
   ·omega
  exact fin b s' (this ▸ hI)
open SeqAt in
theorem kY (l:Hw)(items:IF Hm)(n:Hs)(dd:Hr Hw)(sl:IF (Hr Hm))(x:Hm)(e:Hm->HX)(j:Hs)(hj:j < items.size)
  (hit:e items[j]=true) (hno:∀m (hm:m < items.size),m < j->e items[m]=false) :
  Meets (Mq.«tuple.index» #[[.ref l,x],[]])
   (λA R s=>s.heap.get? l=gV { cls:=.type "tuple",dict:=dd,data:=.seq items n,slots:=sl }/\(∀y,y∈items->EqAt A.in1 s y x (e y))/\R (.ok (.ret (.int j s.toks))) { s with toks:=s.toks+1 }):=
 .of_wp λprog w A R s h=>by
  obtain⟨hp,g,d,tk,os⟩:=s; obtain⟨hl,he,h⟩:=h
  wp_walk using K6 hl,iR _ (λi b s'=>b.1=td/\s'=#[hp,g,d,tk,os]/\i<=j) _
  case turn=>
   rintro i b s' hi ⟨hb,rfl,hij⟩;have hi2:i < items.size:=∅
   rw[KR hi2];refine Hl (he _ (Array.getElem_mem hi2) prog w _ _ ?_)
   by_cases ej:i=j
   ·subst ej;rw[hit]
    wp_walk
    exact#[_,rfl,h]
   ·rw[hno i hi2 ∅]
    wp_walk
    exact#[rfl,rfl,∅]
  case fin=>
   rintro b s' ⟨hb,rfl,hij⟩;rw[JL]at hij;omega
  case h=>exact#[rfl,rfl,JN _]
theorem mU {A:Hj Hw}{H:Hp}:∀ {ws:Hj W} {vs:Hj V} {us:Hj Hm},RelL X.K A H ws vs->Vals vs us->ws.all bC=true->∀(j:Hs) (h:j < us.length) (h':j < ws.length),on .non us[j]=mO ws[j] .non
 | _,_,_,.nil,.nil,_,j,h,_=>absurd h (Os _)
 | _,_,_,.cons r t,.cons q p,f,j,h,h'=>by
  rw[II,Hv]at f;cases j with
  | zero=>exact(p7 q (jN r f.1)).trans (rz r .non f.1 rfl)
  | succ j=>exact mU t p f.2 j (Mr h) (Mr h')
noncomputable def ic (x:W)(xs:Hj W)(S:aa):Hr (W×aa):=match x,xs with
 | .tup ys,[.non]=>if ys.all bC then(ys.findIdx? λz=>mO z .non).map λj=>(.int (j:Hs),S)else td
 | _,_=>td
theorem ow:LMeth X "tuple.index" ic:=by
 intro pins s σ H A S x a u xs vs us w S' I so rx ru rl rv e;cases rx with
 | tup hq r1=>
  cases rl with
  | nil=>cases e
  | cons r t=>
   cases t with
   | cons _ _=>cases r <;> cases e
   | nil=>
    cases r with
    | non=>
     dsimp only[ic]at e;split at e
     ·rename_i hf;rw[Ho]at e;obtain⟨j,hj,e⟩:=e;cases e;cases ru;obtain⟨u',rfl,q'⟩:=rv.one;cases(show u'=IM from q')
      obtain⟨its,r2,⟨⟨cls,dd,data,sl⟩,eo,hc,n,hd⟩,hz⟩:=I.tuple hq;dsimp only at hc hd;subst hc hd;have hl:its.length=_:=r2.length.symm.trans r1.length.symm;obtain⟨hj1,hj2,hj3⟩:=J8.mp hj;refine Lp L7 #[_,eo,rfl] PySem.F.entry_tuple_index (PySem.F.args_tuple_index_2 _ _) (kY _ its.toArray n dd sl .none (on .non) j (by rw[HK,hl]; exact hj1) ?_ λm hm h=>?_) #[eo,λy hy=>eM (x:=.non) rfl rfl r2 (iP r1 hf) y (by simpa using hy),#[.int _,H,A,I.tok _,#[_,rfl],.refl,so,.int]]
      ·exact(mU r1 r2 hf j (by rw[hl]; exact hj1) hj1).trans hj2
      ·have hm':m < its.length:=by simpa using hm
       exact(mU r1 r2 hf m hm' (by rw[<- hl]; exact hm')).trans (by simpa using hj3 m h)
     ·cases e
    | _=>cases e
 | _=>cases e
noncomputable def mV:Hj W->Hr (Hj HM)
 | []=>gV []
 | .str x::xs=>(mV xs).map (x :: ·)
 | _::_=>td
noncomputable def vt (x:W)(xs:Hj W)(S:aa):Hr (W×aa):=match x,xs with
 | .str x,[y]=>match eN S y with
  | some ys=>match mV ys with
   | some zs=>if (zs.map (·.length)).sum+zs.length*x.length<=16777216 then gV (.str (Txt.join x zs),S)else td
   | none=>td
  | none=>td
 | _,_=>td
theorem jP:∀ {ws:Hj W} {vs:Hj V} {us:Hj Hm} {zs:Hj HM},RelL X.K A H ws vs->Vals vs us->mV ws=gV zs->StrsAre us zs
 | _,_,_,zs,.nil,.nil,e=>by cases e; exact .nil
 | _,_,_,zs,.cons r t,.cons q p,e=>by
  cases r with
  | str=>
   simp only[mV,Ho]at e;obtain⟨z,e1,e2⟩:=e;subst e2;obtain⟨tk,rfl⟩ : ∃t,_=Lm _ t:=q;exact .cons _ tk (jP t p e1)
  | _=>cases e
theorem qb:LMeth X "str.join" vt:=by
 intro pins s σ H A S x a u xs vs us w S' I so rx ru rl rv e;cases rx with
 | str=>
  cases rl with
  | nil=>cases e
  | cons r t=>
   cases t with
   | cons _ _=>cases e
   | nil=>
    simp only[vt]at e;split at e
    ·rename_i ys hy;split at e
     ·rename_i zs hz;split at e
      ·rename_i hl;cases e;obtain⟨p,vs',rfl,hq,r1⟩:=mQ (pins:=pins) (σ:=σ) (s:=s) so r hy;obtain⟨t0,rfl⟩ : ∃t,u=Lm _ t:=ru;obtain⟨u1,rfl,ru1⟩:=ln rv;have ru1':u1=IE p:=ru1;subst ru1';rcases hq with hq|hq
       ·obtain⟨its,rr,pl,hz'⟩:=I.list hq;exact join_list pl.isList (by simpa using jP r1 rr hz) hl λt' k=>#[.str _,H,A,I.tok _,#[_,rfl],.refl,so,.str]
       ·obtain⟨its,rr,pl,hz'⟩:=I.tuple hq;exact join_tuple pl (by simpa using jP r1 rr hz) hl λt' k=>#[.str _,H,A,I.tok _,#[_,rfl],.refl,so,.str]
      ·cases e
     ·cases e
    ·cases e
 | _=>cases e
noncomputable def cJ (S:aa):W->Hr HX
 | .non=>gV false
 | .bl b=>gV b
 | .int i=>gV (i != 0)
 | .str y=>if y.length<=sizeLine then gV ((y.length:Hy) != 0)else td
 | .tup xs=>gV (!xs.isEmpty)
 | .ref i=>(gP S i).map λxs=>!xs.isEmpty
theorem jh {ws:Hj W}{vs:Hj V}(r:RelL X.K A H ws vs):(!ws.isEmpty) = !vs.isEmpty:=by cases r <;> rfl
theorem F8 {x:W}{a:V}{u:Hm}{k:HX}{Q:HX->Hq->Prop}(I:Inv X pins σ H s)(so:StoreOk X.w X.K A H S)(rx:Rel X.K A H x a)(ru:RelV a u)(e:cJ S x=gV k)(hq:∀s',Inv X pins σ H s'->Q k s') :
  wpAny (model X.prog X.w) X.A (truthy u) Q X.xe s:=by
 refine bo (BU pins s σ H a u (λb H'=>b=k/\H'=H) I ru #[k,?_,rfl,rfl]) λb s' #[H',I',e1,e2]=>?_
 ·cases rx with
  | non=>cases e; rfl
  | bl=>cases e; rfl
  | int=>cases e; rfl
  | str=>
   simp only[cJ]at e;split at e
   ·cases e; exact#[by assumption,rfl]
   ·cases e
  | tup h1 r1=>cases e; exact .inr (.inl #[_,h1,jh r1])
  | ref ea=>
   simp only[cJ,Ho]at e;obtain⟨ws,hw,e2⟩:=e;subst e2;obtain⟨vs,h1,r1⟩:=cH so hw ea;exact .inl #[_,h1,jh r1]
 ·subst e1 e2;exact hq s' I'
end
noncomputable def zf (S:aa)(i:Hs):Hr (Hy×Hy):=match S[i]? with
 | some (.rng lo hi)=>gV (lo,hi)
 | _=>td
noncomputable def qc (xs:Hj W)(S:aa):Hr (W×aa):=match xs with
 | [.int j]=>if -(2 ^ 62)<=j/\j < 2 ^ 62 then gV (.ref S.length,S++[.rng 0 j])else td
 | _=>td
noncomputable def DZ (lo:Hy)(n:Hs):Hj W:=(HJ n).map λ(k:Hs)=>.int (lo+(k:Hy))
noncomputable def lF (xs:Hj W)(S:aa):Hr (W×aa):=match xs with
 | [.ref i]=>match zf S i with
  | some (lo,hi)=>if -(2 ^ 62)<=lo/\lo < 2 ^ 62/\-(2 ^ 62)<=hi/\hi < 2 ^ 62/\(hi - lo).toNat<=sizeLine then gV (.ref S.length,S++[.lst (DZ lo (hi - lo).toNat)])else td
  | none=>hX [.ref i] S
 | xs=>hX xs S
section
variable{X:Cx}{pins:Hj (Hw×Jr)}{σ:L2.St}{H:Hp}{s:Hq}{A:Hj Hw}{S:aa}
theorem Inv.drawn (I:Inv X pins σ H s)(d:Qa):Inv X pins σ H { s with drawn:=d }:=#[I.ok,I.os,I.bare,I.base,I.loc,I.cell,I.free,I.freeC,I.pin,I.hok,I.len]
theorem ox {h':IJ}{tk:Hs}{dr:Qa}{D:Hw}{n:O}{u:HO}(I:Inv X pins σ H s)(so:StoreOk X.w X.K A H S)(hk:∀b o,s.heap.get? b=gV o->h'.get? b=gV o)(hD:s.heap.objs.size<=D)(new:ObjOk X.prog X.w (bR H D u) h' D u)
  (r:H D=td->ObjRel X.w X.K (A++[D]) (bR H D u) D n):dF X pins σ A H (S++[n]) (.ref S.length) (.ref D) { s with heap:=h',toks:=tk,drawn:=dr }:=by
 have hn:H D=td:=I.hok.fresh hD;refine#[.ref D,_,A++[D],Mi.Inv.drawn (I.laid (a:=D) (o:=u) (t':=tk) hk hD new) dr,rfl,dZ hn,so.pushO hn (r hn),.ref ?_];rw[<- so.len]; simp
theorem mW:∀ {vs:Hj V} {us:Hj Hm},vs.length=us.length->(∀(i:Hs) v u,vs[i]?=gV v->us[i]?=gV u->L2.RelV v u)->Vals vs us
 | [],[],_,_=>.nil
 | v::vs,u::us,hl,h=>.cons (h 0 v u rfl rfl) (mW (by simpa using hl) λi v u a b=>h (i+1) v u (by simpa using a) (by simpa using b))
 | [],_::_,hl,_=>by cases hl
 | _::_,[],hl,_=>by cases hl
theorem mX {K:HD}{lo:Hy}:∀(l:Hj Hs),RelL K A H (l.map λ(k:Hs)=>W.int (lo+(k:Hy))) (l.map λ(k:Hs)=>V.int (lo+(k:Hy)))
 | []=>.nil
 | _::l=>.cons .int (mX l)
theorem rC {xs:Hj W}{vs:Hj V}{us:Hj Hm}{i:Hs}(rl:RelL X.K A H [.ref i] vs)(rv:Vals vs us):∃a,A[i]?=gV a/\us=[.ref a]:=by
 cases rl with
 | cons r t=>
  cases t;cases r with
  | @ref _ a ea=>
   cases rv with
   | cons ru rv=>
    cases rv;obtain rfl:_=IE a:=ru;exact#[a,ea,rfl]
theorem oy:LCall X (.type "range") qc:=by
 intro pins s σ H A S xs vs us w S' I so rl rv e;unfold qc at e;split at e
 ·rename_i j;split at e
  ·rename_i hb;cases e;cases rl with
   | cons r t=>
    cases t;cases r;cases rv with
    | cons ru rv=>
     cases rv;obtain⟨tk,rfl⟩:=ru;exact Pf (ox (dr:=s.drawn) (u:=.rng 0 j) I so (λb o e=>Hu _ e) (HC _) #[_,_,_,HQ _ rfl] λ_=>aZ)
  ·cases e
 ·cases e
theorem oz (hh:X.A.handled=td):LCall X (.type "list") lF:=by
 intro pins s σ H A S xs vs us w S' I so rl rv e;unfold lF at e;split at e
 ·rename_i i;split at e
  ·rename_i lo hi hr;split at e
   ·rename_i hb;cases e;obtain⟨a,ea,rfl⟩:=rC (xs:=[]) rl rv;obtain⟨b1,b2,b3,b4,b5⟩:=hb;have hH:H a=gV (.rng lo hi):=by
     unfold zf at hr;split at hr
     ·rename_i hx; cases hr; exact so.obj i _ a hx ea
     ·cases hr
    obtain⟨t,u,v,ho⟩:=I.hok a _ hH;have hn:JB lo hi 1=((hi - lo).toNat:Hs):=by rw[M9]; split <;> omega
    refine call_list_range hh ho (Pc b1 b2 b3 b4) hn b5 λh' tk acc c hk hD hacc=>?_
    have hv:Vals ((HJ (hi - lo).toNat).map λ(k:Hs)=>V.int (lo+(k:Hy))) acc.toList:=by
     refine mW (by rw[Hk,Ii,Iw,hacc.1]) λi v u e1 e2=>?_
     rw[Ht,Ho]at e1;obtain⟨k,e1,rfl⟩:=e1;obtain⟨hk,rfl⟩:=HG.mp e1;obtain⟨t,rfl⟩:=hacc.2 i u (by rw[<- Js]; exact e2)
     exact#[t,by simp]
    refine ox (dr:=s.drawn) (u:=.lst ((HJ (hi - lo).toNat).map λ(k:Hs)=>V.int (lo+(k:Hy)))) I so hk (HC _) #[by simpa using b5,acc.toList,c,hv,by simpa using hD] λhn=>#[_,aZ,?_]
    exact mX _
   ·cases e
  ·exact gR pins s σ H A S _ vs us w S' I so rl rv e
 ·exact gR pins s σ H A S _ vs us w S' I so rl rv e
end
mutual
inductive IsT (h:IJ):T->Hm->Prop
 | int {i:Hy} {t:Qg}:IsT h (.int i) (.int i t)
 | str {x:HM} {t:Qg}:IsT h (.str x) (.str x t)
 | tup {ks:Hj T} {a:Hw} {o:Jr} {items:IF Hm} {n:Hs}:h.get? a=gV o->o.cls=.type "tuple"->o.data=.seq items n->IsTs h ks items.toList->IsT h (.tup ks) (.ref a)
inductive IsTs (h:IJ):Hj T->Hj Hm->Prop
 | nil:IsTs h [] []
 | cons {k:T} {v:Hm} {ks:Hj T} {vs:Hj Hm}:IsT h k v->IsTs h ks vs->IsTs h (k::ks) (v::vs)
end
mutual
theorem IsT.inj {h:IJ}:∀ {x y:T} {v:Hm},IsT h x v->IsT h y v->x=y
 | _,_,_,.int,h2=>by cases h2; rfl
 | _,_,_,.str,h2=>by cases h2; rfl
 | _,_,_,.tup a1 _ d1 t1,h2=>by
  cases h2 with
  | tup a2 _ d2 t2=>
   rw[a1]at a2; cases a2
   rw[d1]at d2; cases d2
   rw[IsTs.inj t1 t2]
theorem IsTs.inj {h:IJ}:∀ {x y:Hj T} {v:Hj Hm},IsTs h x v->IsTs h y v->x=y
 | _,_,_,.nil,h2=>by cases h2; rfl
 | _,_,_,.cons a b,h2=>by
  cases h2 with
  | cons c d=>rw[IsT.inj a c,IsTs.inj b d]
end
mutual
theorem IsT.keeps {h h':IJ}{d:Hw}{o:Jr}{es:IF JR}{ep:Hs}(ho:h.get? d=gV o)(hd:o.data=.dict es ep)(hs:Kf d h h'):∀ {x:T} {v:Hm},IsT h x v->IsT h' x v
 | _,_,.int=>.int
 | _,_,.str=>.str
 | _,_,.tup (a:=a) a1 c1 d1 t1=>by
  have hne:a≠d:=by
   rintro rfl;rw[a1]at ho; cases ho
   rw[d1]at hd; cases hd
  exact .tup ((hs.2 a hne).trans a1) c1 d1 (IsTs.keeps ho hd hs t1)
theorem IsTs.keeps {h h':IJ}{d:Hw}{o:Jr}{es:IF JR}{ep:Hs}(ho:h.get? d=gV o)(hd:o.data=.dict es ep)(hs:Kf d h h'):∀ {x:Hj T} {v:Hj Hm},IsTs h x v->IsTs h' x v
 | _,_,.nil=>.nil
 | _,_,.cons a b=>.cons (IsT.keeps ho hd hs a) (IsTs.keeps ho hd hs b)
end
theorem IsTs.length {h:IJ}:∀ {x:Hj T} {v:Hj Hm},IsTs h x v->x.length=v.length
 | _,_,.nil=>rfl
 | _,_,.cons _ b=>by simp[IsTs.length b]
theorem IsTs.get {h:IJ}:∀ {x:Hj T} {v:Hj Hm},IsTs h x v->∀(j:Hs) (h1:j < x.length) (h2:j < v.length),IsT h x[j] v[j]
 | _,_,.cons a _,0,_,_=>a
 | _,_,.cons _ b,j+1,h1,h2=>IsTs.get b j (by simpa using h1) (by simpa using h2)
theorem d0:∀ {ks:Hj T} (j:Hs) (h:j < ks.length),(ks[j]).depth<=T.depths ks
 | k::ks,0,_=>by simp only[T.depths,List.getElem_cons_zero]; omega
 | k::ks,j+1,h=>by
  have:=d0 (ks:=ks) j (by simpa using h)
  simp only[T.depths,List.getElem_cons_succ]; omega
section
variable{prog:Io}{w:IA}{E:Hm->Hq->Prop}
mutual
theorem oA:∀(k:T) (v:Hm) (A:Ix) (s:Hq) (Q:Hy->Hq->Prop),IsT s.heap k v->A.units+k.depth < cLine->Q (oq w k) { s with toks:=s.toks+k.draws }->wpAny (model prog w) A (pyHash v) Q E s
 | .int i,_,A,s,Q,x,_,h=>by cases x; exact NZ h
 | .str y,_,A,s,Q,x,_,h=>by cases x; exact N1 h
 | .tup ks,_,A,s,Q,x,hu,h=>by
  cases x with
  | @tup _ a o items n hg hc hd hw=>
   simp only[T.depth]at hu;refine PySem.W.pyHash_slot (T:="tuple") #[_,hg,hc] F.slot_tuple_hash F.entry_tuple_hash (F.args_tuple_hash_1 _) (beq_builtin_none _) (.inr ∅) ?_
   show wpAny _ _ (KJ (.ref a) >>= _) _ _ s;refine Hl (wpAny_tupleItemsOf hg hd ?_);refine Hl ?_;rw[<- Nt];refine jQ ks items.toList A.in1 s #[] _ hw (by rw[be]; omega) λb hb=>?_
   show wpAny _ _ (retInt (LQ b.toList)) _ _ _;rw[hb];refine Hl (Ol (HB #[_,_,rfl,?_]))
   simpa [T.draws,O3,oq]using h
theorem jQ:∀(ks:Hj T) (vs:Hj Hm) (A:Ix) (s:Hq) (b:IF Hy) (Q:IF Hy->Hq->Prop),IsTs s.heap ks vs->A.units+T.depths ks < cLine->
  (∀b',b'.toList=b.toList++jK w ks->Q b' { s with toks:=s.toks+T.drawss ks })->
  wpAny (model prog w) A (forIn vs b λx r=>do let h <- pyHash x; pure Nu; pure (Jx (r.push h))) Q E s
 | [],_,A,s,b,Q,x,_,h=>by cases x; exact HB (h b (by simp[jK]))
 | k::ks,_,A,s,b,Q,x,hu,h=>by
  cases x with
  | cons x1 x2=>
   simp only[T.depths]at hu;rw[MA];refine Hl (Hl (oA k _ A s _ x1 ∅ ?_))
   refine Hl (HB (HB ?_));refine jQ ks _ A _ _ Q x2 ∅ λb' hb=>?_
   have:=h b' (by simp[hb,jK])
   simpa [T.drawss,O3]using this
end
open SeqAt in
theorem tB:∀(d:Hs) (x y:T) (u v:Hm) (B:Ix) (s:Hq),x.depth<=d->IsT s.heap x u->IsT s.heap y v->B.units+d < cLine->B.units+y.depth < cLine->EqAt B s u v (decide (x=y))
 | d,.int i,y,_,_,B,s,_,h1,h2,hu,hv=>by
  cases h1;cases h2 with
  | int=>
   rename_i j t2;have:decide (T.int i=T.int j)=(i==j):=by by_cases e:i=j <;> simp[e]
   rw[this]; exact .int_int _ _ _ _
  | str=>rw[Iq (by simp)]; exact .int_str _ _ _ _
  | tup a c dd t=>rw[Iq (by simp)]; exact .int_tuple _ _ #[_,a,c,_,dd] (by simp only[T.depth]at hv; omega)
 | d,.str z,y,_,_,B,s,_,h1,h2,hu,hv=>by
  cases h1;cases h2 with
  | int=>rw[Iq (by simp)]; exact .str_int _ _ _ _
  | str=>
   rename_i z2 t2;have:decide (T.str z=T.str z2)=(z==z2):=by by_cases e:z=z2 <;> simp[e]
   rw[this]; exact .str_str _ _ _ _
  | tup a c dd t=>rw[Iq (by simp)]; exact .str_tuple _ _ #[_,a,c,_,dd] (by simp only[T.depth]at hv; omega)
 | 0,.tup ks,y,_,_,B,s,hd,h1,h2,hu,hv=>by simp[T.depth]at hd
 | d+1,.tup ks,y,_,_,B,s,hd,h1,h2,hu,hv=>by
  have h1':=h1;cases h1 with
  | @tup _ a o items n a1 c1 d1 t1=>
   have hT:s.heap.IsTuple a items:=#[_,a1,c1,_,d1];simp only[T.depth]at hd;cases h2 with
   | int=>rw[Iq (by simp)]; exact .tuple_int _ _ hT ∅
   | str=>rw[Iq (by simp)]; exact .tuple_str _ _ hT ∅
   | @tup ks2 b o2 items2 n2 a2 c2 d2 t2=>
    have hT2:s.heap.IsTuple b items2:=#[_,a2,c2,_,d2]
    by_cases hab:a=b
    ·subst hab;have:T.tup ks=T.tup ks2:=h1'.inj (.tup a2 c2 d2 t2);rw[IZ this];exact EqAt.same _
    ·refine EqAt.of_refs hab ?_;simp only[T.depth]at hv;have l1:items.size=ks.length:=by rw[<- Iw,t1.length]
     have l2:items2.size=ks2.length:=by rw[<- Iw,t2.length]
     let e:Hs->HX:=λj=>if h:j < ks.length/\j < ks2.length then decide (ks[j]'h.1=ks2[j]'h.2)else true
     have he:∀j (h1:j < items.size) (h2:j < items2.size),EqAt B.in1 s items[j] items2[j] (e j):=λj j1 j2=>by
      have g1:=t1.get j (l1 ▸ j1) (by simpa using j1)
      have g2:=t2.get j (l2 ▸ j2) (by simpa using j2)
      have q1:=d0 (ks:=ks) j (l1 ▸ j1);have q2:=d0 (ks:=ks2) j (l2 ▸ j2);have:=tB d _ _ _ _ B.in1 s ∅ g1 g2 (by rw[be]; omega) (by rw[be]; omega)
      show EqAt B.in1 s items[j] items2[j] (if h:j < ks.length/\j < ks2.length then decide (ks[j]'h.1=ks2[j]'h.2)else true)
      rw[P1 #[l1 ▸ j1,l2 ▸ j2]]
      simpa using this
     have:=RcAt.tuples hT hT2 ∅ he
     have hk:((HJ (min items.size items2.size)).all e&&items.size==items2.size)=decide (T.tup ks=T.tup ks2):=by
      rw[l1,l2]
      by_cases hl:ks.length=ks2.length
      ·by_cases hq:ks=ks2
       ·subst hq;simp only[JL,IS,Nb,decide_true,HS,HL];intro j hj;show(if h:j < ks.length/\j < ks.length then decide (ks[j]'h.1=ks[j]'h.2)else true)=true
        rw[P1 #[hj,hj]]; simp
       ·rw[Iq (by simpa using hq)]
        have:∃j,∃h:j < ks.length,ks[j]≠ks2[j]'(hl ▸ h):=by
         apply LR;intro hn;exact hq (Lq hl λj h1 h2=>LR λz=>hn #[j,h1,z])
        obtain⟨j,hj,hne⟩:=this;rw[Ll];left;rw[NR];refine#[j,by rw[HL,<- hl,JL]; exact hj,?_]
        show ¬ (if h:j < ks.length/\j < ks2.length then decide (ks[j]'h.1=ks2[j]'h.2)else true)=true
        rw[P1 #[hj,hl ▸ hj]]
        simpa using hne
      ·rw[Iq (by simp; intro z; exact hl (by rw[z])),Ll]
       right
       simpa using hl
     rw[hk]at this;exact this
theorem lG {n:Hs}{v:Hm}(h:∀a,v≠.ref a):eqIsQuiet n v=pure true:=by
 cases v with
 | ref a=>exact absurd rfl (h a)
 | _=>first|rfl|simp[eqIsQuiet]|(unfold eqIsQuiet; rfl)
theorem rD:∀(d:Hs) (k:T) (v:Hm) (A:Ix) (s:Hq) (Q:HX->Hq->Prop),k.depth<=d->IsT s.heap k v->Q true s->wpAny (model prog w) A (eqIsQuiet d v) Q E s
 | d,.int i,_,A,s,Q,_,x,h=>by cases x; rw[lG (λa=>by simp)]; exact HB h
 | d,.str i,_,A,s,Q,_,x,h=>by cases x; rw[lG (λa=>by simp)]; exact HB h
 | 0,.tup ks,_,A,s,Q,hd,x,h=>by simp[T.depth]at hd
 | d+1,.tup ks,_,A,s,Q,hd,x,h=>by
  cases x with
  | @tup _ a o items n ho hc hdt hi=>
   simp only[T.depth]at hd;have hT:s.TypeIs (.ref a) "tuple":=#[_,ho,hc];unfold eqIsQuiet;refine Hl (wpAny_specialOf hT F.slot_tuple_eq.lookup ?_);show wpAny _ _ (isInstance (.ref a) (.type "tuple") >>= _) _ _ s;refine Hl (Mg hT isSubtype_tuple_tuple ?_);simp only[Nc,Jg,Kg];refine Hl (KM ho hdt ?_);refine Hl ?_;show wpAny _ _ (forIn items _ _) _ _ s;rw[<- Nt];refine Mf _ (λcw r s'=>r.1=td/\s'=s/\∃kk,IsTs s.heap kk cw/\T.depths kk<=d) _ ?_ ?_ _ _ #[rfl,rfl,ks,hi,∅]
   ·rintro v cw r s' ⟨hr,rfl,kk,hall,hdk⟩;cases hall with
    | cons q1 q2=>
     simp only[T.depths]at hdk;refine Hl (rD d _ v _ _ _ ∅ q1 ?_)
     simp only[Nc,Jg,Kg];exact HB #[rfl,rfl,_,q2,∅]
   ·rintro⟨r1,r2⟩ s' ⟨hr,rfl,_⟩;simp only at hr;subst hr;exact HB h
end
noncomputable def cU (prog:Io)(w:IA):HeapKind prog w T where
 is:=λh k a=>IsT h k (.ref a)/\k.depth<=bg
 hash:=oq w
 draws:=T.draws
 room:=λA=>A.units+bg < cLine
 inj:=λhx hy=>hx.1.inj hy.1
 keeps:=λx ho hd hs=>#[x.1.keeps ho hd hs,x.2]
 pyHash:=λhu hk h=>oA _ _ _ _ _ hk.1 (by have:=hk.2; omega) h
 eqBool:=λhu hx hy h=>tB bg _ _ _ _ _ _ hx.2 hx.1 hy.1 hu (by have:=hy.2; omega) _ _ _ _ h
 quiet:=λhk h=>rD 8 _ _ _ _ _ (by have:=hk.2; unfold bg at this; omega) hk.1 h
noncomputable def jt (S:aa)(i:Hs):Hr (Hj (T×W)):=match S[i]? with
 | some (.dic kvs)=>gV kvs
 | some (.frd kvs)=>gV kvs
 | _=>td
noncomputable def mY (S:aa)(i:Hs):Hr (Hj (T×W)):=match S[i]? with
 | some (.dic kvs)=>gV kvs
 | _=>td
noncomputable def aN (kvs:Hj (T×W))(k:T):Hr W:=(kvs.find? λp=>decide (p.1=k)).map (·.2)
noncomputable def en (kvs:Hj (T×W))(k:T)(v:W):Hj (T×W):=
 if (kvs.any λp=>decide (p.1=k))=true then kvs.map (λp=>if p.1=k then(p.1,v)else p)else kvs++[(k,v)]
noncomputable def gC (w:W):Hr T:=match W.t w with
 | some k=>if k.isTup=true/\k.depth<=bg then gV k else td
 | none=>td
theorem dR {w:W}{k:T}(h:gC w=gV k):k.w=w/\k.isTup=true/\k.depth<=bg:=by
 unfold gC at h;split at h
 ·rename_i k' hk;split at h
  ·rename_i hc;cases h;exact#[W.t_w hk,hc.1,hc.2]
  ·cases h
 ·cases h
theorem cO (kvs:Hj (T×W))(k:T)(v:W):(en kvs k v).length<=kvs.length+1:=by
 unfold en;split
 ·rw[Hk]; omega
 ·rw[Hn,Iz,Jw]; omega
section
variable{X:Cx}{pins:Hj (Hw×Jr)}{σ:L2.St}{H:Hp}{s:Hq}{A:Hj Hw}{S:aa}
mutual
theorem mZ (I:Inv X pins σ H s):∀(k:T) {v:V} {u:Hm},Rel X.K A H k.w v->RelV v u->IsT s.heap k u
 | .int i,_,_,r,q=>by
  cases r;obtain⟨t,rfl⟩ : ∃t,_=Mb _ t:=q;exact .int
 | .str x,_,_,r,q=>by
  cases r;obtain⟨t,rfl⟩ : ∃t,_=Lm _ t:=q;exact .str
 | .tup ks,_,_,r,q=>by
  simp only[T.w]at r;cases r with
  | tup sq rl=>
   obtain⟨its,rv,⟨o,h1,h2,n,h3⟩,hz⟩:=I.tuple sq;obtain rfl:_=IE _:=q;exact .tup h1 h2 h3 (gk I ks rl (by simpa using rv))
theorem gk (I:Inv X pins σ H s):∀(ks:Hj T) {vs:Hj V} {us:Hj Hm},RelL X.K A H (T.ws ks) vs->Vals vs us->IsTs s.heap ks us
 | [],_,_,r,q=>by
  simp only[T.ws]at r;cases r; cases q; exact .nil
 | k::ks,_,_,r,q=>by
  simp only[T.ws]at r;cases r with
  | cons r1 r2=>
   cases q with
   | cons q1 q2=>exact .cons (mZ I k r1 q1) (gk I ks r2 q2)
end
theorem iS (I:Inv X pins σ H s){k:T}{b:Hw}(r:Rel X.K A H k.w (.ref b))(hd:k.depth<=bg):(cU X.prog X.w).is s.heap k b:=#[mZ I k r rfl,hd]
theorem ie {w:W}{k:T}{v:V}{u:Hm}(hk:gC w=gV k)(r:Rel X.K A H w v)(q:RelV v u):∃b,v=.ref b/\u=.ref b/\Rel X.K A H k.w (.ref b):=by
 obtain⟨h1,h2,h3⟩:=dR hk;subst h1;cases k with
 | tup ks=>
  simp only[T.w]at r;cases r with
  | tup a b=>exact#[_,rfl,q,by simp only[T.w]; exact .tup a b]
 | _=>cases h2
theorem KRel.is {kvs:Hj (T×W)}{xs:Hj (T×Hw×Hm)}(I:Inv X pins σ H s)(r:KRel X.K A H kvs xs):∀x∈xs,(cU X.prog X.w).is s.heap x.1 x.2.1:=by
 unfold KRel at r
 induction r with
 | nil=>intro x hx; exact nomatch hx
 | @cons p q ps qs h t ih=>
  intro x hx;rcases HZ.mp hx with e|hx
  ·subst e;obtain⟨h1,h2,h3,h4,_⟩:=h;rw[h1]at h3 h4;exact iS I h4 h3
  ·exact ih x hx
theorem KRel.length {kvs:Hj (T×W)}{xs:Hj (T×Hw×Hm)}(r:KRel X.K A H kvs xs):kvs.length=xs.length:=L6 r
theorem KRel.val {kvs:Hj (T×W)}{xs:Hj (T×Hw×Hm)}(r:KRel X.K A H kvs xs)(k:T) :
  (∀w,aN kvs k=gV w->∃p v,atKey xs k=gV p/\Rel X.K A H w v/\RelV v p.2)/\(aN kvs k=td->atKey xs k=td):=by
 unfold KRel at r
 induction r with
 | nil=>exact#[λw h=>(nomatch h),λ_=>rfl]
 | @cons p q ps qs h t ih=>
  obtain⟨h1,_,_,_,v,h5,h6⟩:=h
  by_cases e:p.1=k
  ·have e':q.1=k:=h1.symm.trans e;have a1:aN (p::ps) k=gV p.2:=by simp[aN,Ky,e]
   have a2:atKey (q::qs) k=gV q.2:=by simp[atKey,Ky,e']
   rw[a1,a2];exact#[λw hw=>(by cases hw; exact#[_,v,rfl,h5,h6]),λh=>nomatch h]
  ·have e':¬ q.1=k:=λz=>e (h1.trans z)
   have a1:aN (p::ps) k=aN ps k:=by simp[aN,Ky,e]
   have a2:atKey (q::qs) k=atKey qs k:=by simp[atKey,Ky,e']
   rw[a1,a2];exact ih
theorem KRel.repl {kvs:Hj (T×W)}{xs:Hj (T×Hw×Hm)}(r:KRel X.K A H kvs xs)(k:T){w:W}{v:V}{u:Hm}(rw':Rel X.K A H w v)(rv:RelV v u) :
  KRel X.K A H (kvs.map λp=>if p.1=k then(p.1,w)else p) (xs.map (putAt k u)):=by
 unfold KRel at r ⊢
 induction r with
 | nil=>exact .nil
 | @cons p q ps qs h t ih=>
  rw[Jd,Jd];refine .cons ?_ ih;obtain⟨h1,h2,h3,h4,h5⟩:=h;unfold putAt
  by_cases e:p.1=k
  ·rw[HY e,HY (h1.symm.trans e)]; exact#[h1,h2,h3,h4,v,rw',rv]
  ·rw[Iy e,Iy (λz=>e (h1.trans z))]; exact#[h1,h2,h3,h4,h5]
theorem oB (k:T):∀kvs:Hj (T×W),(kvs.any λp=>decide (p.1=k))=(aN kvs k).isSome
 | []=>rfl
 | p::r=>by
  rw[Kk]
  by_cases e:p.1=k
  ·have a1:aN (p::r) k=gV p.2:=by simp[aN,Ky,e]
   rw[a1,IZ e]; rfl
  ·have a1:aN (p::r) k=aN r k:=by simp[aN,Ky,e]
   rw[a1,Iq e,Nd]; exact oB k r
theorem KRel.put {kvs:Hj (T×W)}{xs:Hj (T×Hw×Hm)}(r:KRel X.K A H kvs xs){k:T}{b:Hw}{w:W}{v:V}{u:Hm}(h1:k.isTup=true)(h2:k.depth<=bg)(h3:Rel X.K A H k.w (.ref b))(rw':Rel X.K A H w v)(rv:RelV v u) :
  KRel X.K A H (en kvs k w) (storedH xs k b u):=by
 have e:(kvs.any λp=>decide (p.1=k))=(atKey xs k).isSome:=by
  rw[oB];cases q:aN kvs k with
  | none=>rw[(r.val k).2 q]; rfl
  | some x=>obtain⟨p,_,h,_⟩:=(r.val k).1 x q; rw[h]; rfl
 unfold en storedH;rw[e]
 by_cases q:(atKey xs k).isSome=true
 ·rw[HY q,HY q]; exact r.repl k rw' rv
 ·rw[Iy q,Iy q]; exact Paired.snoc r #[rfl,h1,h2,h3,v,rw',rv]
theorem DicAt.of {h:IJ}{a:Hw}{xs:Hj (T×Hw×Hm)}(hz:xs.length<=sizeLine)(hs:(a==sysModules)=false)(d:h.DictOfH (cU X.prog X.w) a xs):DicAt X.w a xs h:=
 let ⟨o,es,ep,h1,h2,h3,h4,_,h6⟩:=d; #[hz,hs,h6,o,es,ep,h1,h2,h3,h4]
theorem DicAt.stay {wd:IA}{h h':IJ}{a:Hw}{xs:Hj (T×Hw×Hm)}(d:DicAt wd a xs h)(k:∀o,h.get? a=gV o->h'.get? a=gV o):DicAt wd a xs h':=
 let ⟨h0,hs,hn,o,es,ep,h1,h2⟩:=d; #[h0,hs,hn,o,es,ep,k _ h1,h2]
theorem DicAt.ok {P:Io}{h:IJ}{wd:IA}{a:Hw}{xs:Hj (T×Hw×Hm)}(d:DicAt wd a xs h):ObjOk P wd H h a (dY wd a xs):=
 #[d,let ⟨_,_,_,o,_,_,h1,_⟩:=d; #[o,h1],λ_ _ p k=>p.stay k]
theorem cC {a:Hw}{xs:Hj (T×Hw×Hm)}(I:Inv X pins σ H s)(e:Rd H a (dY X.w a xs)):DicAt X.w a xs s.heap:=(show ObjOk X.prog X.w H s.heap a (dY X.w a xs)from e.ok I.hok).1
theorem DicAt.dict {kvs:Hj (T×W)}{a:Hw}{xs:Hj (T×Hw×Hm)}(d:DicAt X.w a xs s.heap)(I:Inv X pins σ H s)(r:KRel X.K A H kvs xs):s.heap.DictOfH (cU X.prog X.w) a xs:=
 let ⟨_,_,hn,o,es,ep,h1,h2,h3,h4⟩:=d; #[o,es,ep,h1,h2,h3,h4,r.is I,hn]
theorem fN {i:Hs}{kvs:Hj (T×W)}{a:Hw}(so:StoreOk X.w X.K A H S)(e:jt S i=gV kvs)(ea:A[i]?=gV a):∃xs,Rd H a (dY X.w a xs)/\KRel X.K A H kvs xs:=by
 unfold jt at e;split at e
 ·rename_i k h;cases e;obtain⟨xs,q,r⟩:=so.obj i _ a h ea;exact#[xs,.inl q,r]
 ·rename_i k h;cases e;obtain⟨o,xs,q,r⟩:=so.obj i _ a h ea;exact#[xs,.inr #[o,q],r]
 ·cases e
theorem ig {i:Hs}{kvs:Hj (T×W)}(e:mY S i=gV kvs):S[i]?=gV (.dic kvs):=by
 unfold mY at e;split at e
 ·rename_i h; cases e; exact h
 ·cases e
theorem rE {i:Hs}{kvs:Hj (T×W)}{a:Hw}(so:StoreOk X.w X.K A H S)(e:mY S i=gV kvs)(ea:A[i]?=gV a):∃xs,H a=gV (dY X.w a xs)/\KRel X.K A H kvs xs:=
 so.obj i _ a (ig e) ea
theorem oD {B:Ix}(hu:B.units+10 < cLine):(cU X.prog X.w).room B.in1:=by
 show B.in1.units+bg < cLine;rw[be]; unfold bg; omega
noncomputable def ju (x y:W)(S:aa):Hr (W×aa):=match x,y with
 | .ref r,.tup ks=>match jt S r,gC (.tup ks)with
  | some kvs,gV k=>(aN kvs k).map λw=>(w,S)
  | _,_=>td
 | x,y=>tm x y S
theorem F9 (hu:X.A.units+10 < cLine):LIx X ju:=by
 intro value slice pins s σ H A S x y a b u v w S' I so rx ru ry rv e hs
 by_cases hxy:∃r ks,x=.ref r/\y=.tup ks
 ·obtain⟨r,ks,rfl,rfl⟩:=hxy;simp only[ju]at e;split at e
  ·rename_i kvs k hk1 hk2;rw[Ho]at e;obtain⟨w',e1,e2⟩:=e;cases e2;cases rx with
   | ref ea=>
    obtain⟨xs,rd,kr⟩:=fN so hk1 ea;have d:=cC I rd;have dd:=d.dict I kr;obtain⟨bk,rfl,rfl,rk⟩:=ie hk2 ry rv;obtain⟨p,vv,h1,h2,h3⟩:=(kr.val k).1 _ e1;obtain rfl:u=IE _:=ru;refine Lf (x:=p.2) dd.typeIs slot_dict_getitem.lookup
     (wpAny_getItem_heap (Q:=λr s'=>r=p.2/\dF X pins σ A H S w r s') (oD hu) (iS I rk (dR hk2).2.2) dd h1 #[rfl,vv,H,A,I.tok _,h3,.refl,so,h2]) hs
  ·cases e
 ·have:ju x y S=tm x y S:=by
   cases x <;> cases y <;> first|rfl|exact absurd #[_,_,rfl,rfl] hxy
  rw[this]at e;exact G4 hu value slice pins s σ H A S x y a b u v w S' I so rx ru ry rv e hs
noncomputable def ii (o i v:W)(S:aa):Hr aa:=match o,i with
 | .ref r,.tup ks=>match mY S r,gC (.tup ks)with
  | some kvs,gV k=>if kvs.length < sizeLine then gV (S.set r (.dic (en kvs k v)))else td
  | _,_=>td
 | o,i=>tq o i v S
theorem D0 (hu:X.A.units+10 < cLine):LSet X ii:=by
 intro pins s σ H A S o i x ao ai ax uo ui ux S' I so ro ruo ri rui rx rux e
 by_cases hxy:∃r ks,o=.ref r/\i=.tup ks
 ·obtain⟨r,ks,rfl,rfl⟩:=hxy;simp only[ii]at e;split at e
  ·rename_i kvs k hk1 hk2;split at e
   ·rename_i hl;cases e;cases ro with
    | ref ea=>
     obtain⟨xs,hH,kr⟩:=rE so hk1 ea;have d:=cC I (.inl hH);have dd:=d.dict I kr;obtain⟨bk,rfl,rfl,rk⟩:=ie hk2 ri rui;obtain⟨q1,q2,q3⟩:=dR hk2;obtain rfl:uo=IE _:=ruo;have hz:xs.length<=sizeLine:=by rw[<- kr.length]; omega
     refine wpAny_setItem_heap (hsz:=hz) (oD hu) (iS I rk q3) dd λh' dd' hs=>?_
     have kr':=kr.put q2 q3 rk rx rux;have hz':(storedH xs k bk ux).length<=sizeLine:=by
      rw[<- kr'.length];have:=cO kvs k x;omega
     have dn:DicAt X.w _ (storedH xs k bk ux) h':=.of hz' d.2.1 dd';obtain⟨so',ex⟩:=so.writeO (ig hk1) rfl ea (u:=dY X.w _ (storedH xs k bk ux)) (n:=.dic (en kvs k x)) #[_,aZ,kr'.mono (dm (.ext hH))];exact#[_,A,mM I (by rw[hH]; exact Lr) hs (let ⟨q,_,_,hq,_⟩:=dd'; #[q,hq]) dn.ok,ex,so']
   ·cases e
  ·cases e
 ·have:ii o i x S=tq o i x S:=by
   cases o <;> cases i <;> first|rfl|exact absurd #[_,_,rfl,rfl] hxy
  rw[this]at e;exact lset hu pins s σ H A S o i x ao ai ax uo ui ux S' I so ro ruo ri rui rx rux e
noncomputable def rF (x:W)(xs:Hj W)(S:aa):Hr (W×aa):=match x,xs with
 | .ref r,[y,z]=>match jt S r,gC y with
  | some kvs,gV k=>gV ((aN kvs k).getD z,S)
  | _,_=>td
 | _,_=>td
theorem qd (hu:X.A.units+10 < cLine):LMeth X "dict.get" rF:=by
 intro pins s σ H A S x a u xs vs us w S' I so rx ru rl rv e;cases rx with
 | ref ea=>
  cases rl with
  | nil=>cases e
  | cons r1 t1=>
   cases t1 with
   | nil=>cases e
   | cons r2 t2=>
    cases t2 with
    | cons _ _=>cases e
    | nil=>
     dsimp only[rF]at e;split at e
     ·rename_i kvs k hk1 hk2;cases e;obtain⟨xs,rd,kr⟩:=fN so hk1 ea;have d:=cC I rd;have dd:=d.dict I kr;cases rv with
      | cons v1 rv2=>
       cases rv2 with
       | cons v2 rv3=>
        cases rv3;obtain⟨bk,rfl,rfl,rk⟩:=ie hk2 r1 v1;obtain rfl:u=IE _:=ru;refine call_meetsIn MG dd.typeIs PySem.F.entry_dict_get (PySem.F.args_dict_get_3 _ _ _) (meetsH_dict_get_default (cU X.prog X.w) _ bk d.2.1 _) #[oD hu,k,xs,iS I rk (dR hk2).2.2,dd,?_];cases q:aN kvs k with
        | none=>
         rw[(kr.val k).2 q];exact#[_,H,A,I.tok _,v2,.refl,so,r2]
        | some w'=>
         obtain⟨p,vv,h1,h2,h3⟩:=(kr.val k).1 _ q;rw[h1];exact#[vv,H,A,I.tok _,h3,.refl,so,h2]
     ·cases e
 | _=>cases e
noncomputable def Fj (x:W)(i:Hs)(S:aa):Hr HX:=match W.t x,gP S i with
 | some k,gV ys=>match W.ts ys with
  | some ks=>if k.depth<=bg/\T.depths ks<=bg then gV (decide (k∈ks))else td
  | none=>td
 | _,_=>td
noncomputable def B6 (x:W)(ys:Hj W):Hr HX:=match W.t x,W.ts ys with
 | some k,gV ks=>if k.depth<=bg/\T.depths ks<=bg then gV (decide (k∈ks))else td
 | _,_=>td
theorem nb {h:IJ}:∀ {ks:Hj T} {vs:Hj Hm},IsTs h ks vs->∀v∈vs,∃k∈ks,IsT h k v
 | _,_,.cons a b,v,hv=>by
  rcases HZ.mp hv with rfl|hv
  ·exact#[_,.head _,a]
  ·obtain⟨k,hk,q⟩:=nb b v hv;exact#[k,.tail _ hk,q]
noncomputable def yn (h:IJ)(k:T)(v:Hm):HX:=@decide (IsT h k v) (Pd _)
theorem qe {h:IJ}{k k':T}{v:Hm}(x:IsT h k' v):yn h k v=decide (k'=k):=by
 unfold yn
 by_cases e:k'=k
 ·subst e; simp[x]
 ·have:¬ IsT h k v:=λy=>e (x.inj y)
  simp[e,this]
theorem nh {h:IJ}{k:T}:∀ {ks:Hj T} {vs:Hj Hm},IsTs h ks vs->vs.any (yn h k)=decide (k∈ks)
 | _,_,.nil=>by simp
 | _,_,.cons (k:=k') a b=>by
  rw[Kk,qe a,nh b]
  by_cases e:k'=k
  ·simp[e]
  ·have:¬ k=k':=λz=>e z.symm
   simp[e,this]
theorem jR:∀ {ks:Hj T} {k:T},k∈ks->k.depth<=T.depths ks
 | x::ks,k,h=>by
  simp only[T.depths];rcases HZ.mp h with rfl|h
  ·omega
  ·have:=jR h; omega
theorem vw {x:W}{i:Hs}{a b:V}{u v:Hm}{c:HX}(hu:X.A.units+10 < cLine)(I:Inv X pins σ H s)(so:StoreOk X.w X.K A H S)(rx:Rel X.K A H x a)(ru:RelV a u)(ry:Rel X.K A H (.ref i) b)(rv:RelV b v)(e:Fj x i S=gV c) :
  ∃l its k ks,v=.ref l/\s.heap.IsList l its/\(∀y,y∈its->Ln X.A.in1 s y u (yn s.heap k y))/\its.any (yn s.heap k)=c/\c=decide (k∈(ks:Hj T)):=by
 unfold Fj at e;split at e
 ·rename_i k ys h1 h2;split at e
  ·rename_i ks h3;split at e
   ·rename_i h4;cases e;cases ry with
    | ref ea=>
     obtain⟨vs,g1,g2⟩:=cH so h2 ea;obtain⟨its,rv',p,_⟩:=I.list g1;obtain rfl:v=IE _:=rv;have hT:IsTs s.heap ks its:=gk I ks ((W.ts_w h3).symm ▸ g2) rv';have hk:IsT s.heap k u:=mZ I k ((W.t_w h1).symm ▸ rx) ru;refine#[_,its.toArray,k,ks,rfl,p.isList,λy hy=>?_,by rw[N9]; exact nh hT,rfl]
     obtain⟨k',hk',q⟩:=nb hT y (by simpa using hy)
     rw[qe q];have:=jR hk';have kl:bg=6:=rfl;exact tB bg k' k _ _ _ _ ∅ q hk (by rw[be]; omega) (by rw[be]; omega)
   ·cases e
  ·cases e
 ·cases e
theorem zh {x:W}{ys:Hj W}{a b:V}{u v:Hm}{c:HX}(hu:X.A.units+10 < cLine)(I:Inv X pins σ H s)(rx:Rel X.K A H x a)(ru:RelV a u)(ry:Rel X.K A H (.tup ys) b)(rv:RelV b v)(e:B6 x ys=gV c) :
  ∃l its k,v=.ref l/\s.heap.IsTuple l its/\(∀y,y∈its->Ln X.A.in1 s y u (yn s.heap k y))/\its.any (yn s.heap k)=c:=by
 unfold B6 at e;split at e
 ·rename_i k ks h1 h3;split at e
  ·rename_i h4;cases e;cases ry with
   | @tup _ l vs g1 g2=>
    obtain⟨its,rv',p,_⟩:=I.tuple g1;obtain rfl:v=IE _:=rv;have hT:IsTs s.heap ks its:=gk I ks ((W.ts_w h3).symm ▸ g2) rv';have hk:IsT s.heap k u:=mZ I k ((W.t_w h1).symm ▸ rx) ru;refine#[_,its.toArray,k,rfl,p,λy hy=>?_,by rw[N9]; exact nh hT]
    obtain⟨k',hk',q⟩:=nb hT y (by simpa using hy)
    rw[qe q];have:=jR hk';have kl:bg=6:=rfl;exact tB bg k' k _ _ _ _ ∅ q hk (by rw[be]; omega) (by rw[be]; omega)
  ·cases e
 ·cases e
noncomputable def aK (o:COp)(x y:W)(S:aa):Hr (W×aa):=match o,y with
 | .isin,.ref i=>match jt S i with
  | some kvs=>(gC x).map λk=>(.bl (aN kvs k).isSome,S)
  | none=>match x with
   | .tup xs=>(Fj (.tup xs) i S).map λb=>(.bl (b),S)
   | x=>dI .isin x (.ref i) S
 | .notin,.ref i=>match jt S i with
  | some kvs=>(gC x).map λk=>(.bl (!(aN kvs k).isSome),S)
  | none=>match x with
   | .tup xs=>(Fj (.tup xs) i S).map λb=>(.bl (!b),S)
   | x=>dI .notin x (.ref i) S
 | .isin,.tup ys=>match x with
  | .tup xs=>(B6 (.tup xs) ys).map λb=>(.bl b,S)
  | x=>dI .isin x (.tup ys) S
 | o,y=>dI o x y S
theorem oE (hu:X.A.units+fM < cLine)(o:COp):LOp X (compareOp o.py) (aK o):=by
 intro pins s σ H A S x y a b u v w S' I so rx ru ry rv e;have get:∀ {i:Hs} {kvs:Hj (T×W)} {k:T},y=.ref i->jt S i=gV kvs->gC x=gV k->∃d c xs,v=.ref d/\u=.ref c/\(d==sysModules)=false/\(cU X.prog X.w).is s.heap k c/\s.heap.DictOfH (cU X.prog X.w) d xs/\(aN kvs k).isSome=(atKey xs k).isSome:=by
  intro i kvs k hy hk1 hk2;subst hy;cases ry with
  | ref ea=>
   obtain⟨xs,rd,kr⟩:=fN so hk1 ea;have d:=cC I rd;obtain⟨bk,rfl,rfl,rk⟩:=ie hk2 rx ru;obtain rfl:v=IE _:=rv;refine#[_,bk,xs,rfl,rfl,d.2.1,iS I rk (dR hk2).2.2,d.dict I kr,?_];cases q:aN kvs k with
   | none=>rw[(kr.val k).2 q]; rfl
   | some w'=>obtain⟨p,_,h1,_⟩:=(kr.val k).1 _ q; rw[h1]; rfl
 have old:dI o x y S=gV (w,S')->wpAny (model X.prog X.w) X.A (compareOp o.py u v) (dF X pins σ A H S' w) X.xe s:=λh=>hW hu o pins s σ H A S x y a b u v w S' I so rx ru ry rv h
 have hu':X.A.units+10 < cLine:=by have:fM=20:=rfl; omega
 unfold aK at e;split at e
 ·split at e
  ·rename_i kvs hk1;rw[Ho]at e;obtain⟨k,hk2,e2⟩:=e;cases e2;obtain⟨d,c,xs,rfl,rfl,q1,q2,q3,q4⟩:=get rfl hk1 hk2;rw[q4];exact wpAny_in_heap (oD hu') q2 q1 q3 #[.bl _,H,A,I.tok _,rfl,.refl,so,.bl]
  ·split at e
   ·rw[Ho]at e;obtain⟨c,hc,e⟩:=e;cases e;obtain⟨l,its,k,ks,rfl,p1,p2,p3,_⟩:=vw hu' I so rx ru ry rv hc;refine Op (yn s.heap k) p1 p2 ?_;rw[p3];exact#[.bl _,H,A,I,rfl,.refl,so,.bl]
   ·exact old e
 ·split at e
  ·rename_i kvs hk1;rw[Ho]at e;obtain⟨k,hk2,e2⟩:=e;cases e2;obtain⟨d,c,xs,rfl,rfl,q1,q2,q3,q4⟩:=get rfl hk1 hk2;rw[q4];exact wpAny_notIn_heap (oD hu') q2 q1 q3 #[.bl _,H,A,I.tok _,rfl,.refl,so,.bl]
  ·split at e
   ·rw[Ho]at e;obtain⟨c,hc,e⟩:=e;cases e;obtain⟨l,its,k,ks,rfl,p1,p2,p3,_⟩:=vw hu' I so rx ru ry rv hc;refine Np (yn s.heap k) p1 p2 ?_;rw[p3];exact#[.bl _,H,A,I,rfl,.refl,so,.bl]
   ·exact old e
 ·split at e
  ·rw[Ho]at e;obtain⟨c,hc,e⟩:=e;cases e;obtain⟨l,its,k,rfl,p1,p2,p3⟩:=zh hu' I rx ru ry rv hc;refine N6 (yn s.heap k) p1 p2 ?_;rw[p3];exact#[.bl _,H,A,I,rfl,.refl,so,.bl]
  ·exact old e
 ·exact old e
end
noncomputable def RawD (d:Hw)(es:IF JR)(ep:Hs)(h:IJ):Prop:=∃o,h.get? d=gV o/\o.ExactDict/\o.data=.dict es ep
theorem RawD.at {d:Hw}{es:IF JR}{ep:Hs}{h h':IJ}(x:RawD d es ep h)(e:∀o,h.get? d=gV o->h'.get? d=gV o):RawD d es ep h':=let ⟨o,ho,r⟩:=x; #[o,e _ ho,r]
theorem RawD.lt {d:Hw}{es:IF JR}{ep:Hs}{h:IJ}(x:RawD d es ep h):d < h.objs.size:=let ⟨_,ho,_⟩:=x; HR ho
theorem RawD.type {d:Hw}{es:IF JR}{ep:Hs}{s:Hq}(x:RawD d es ep s.heap):s.TypeIs (.ref d) "dict":=let ⟨o,ho,hc,_⟩:=x; #[o,ho,hc.1]
section
variable{prog:Io}{w:IA}{A:Ix}{E:Hm->Hq->Prop}{s:Hq}{it d:Hw}{i ep:Hs}{es:IF JR}
theorem oF {Q:Hm->Hq->Prop}(hd:(d==sysModules)=false)(hm:RawD d es ep s.heap)
  (hQ:Q (.ref s.heap.objs.size) { s with heap:=s.heap.push { cls:=.type "dict_keyiterator",data:=.fields [.ref d,.int 0 0,.int es.size 0,.int ep 0].toArray } }):wpAny (model prog w) A (pyIter (.ref d)) Q E s:=by
 have hT:=hm.type;obtain⟨o,ho,hc,hdat⟩:=id hm;refine wpAny_pyIter_slot hT F.slot_dict_iter (Ji F.slot_dict_iter hT F.entry_dict_iter ?_ (F.args_dict_iter_1 _));unfold Mq.«dict.__iter__» OU;refine Hl (Hl (wpAny_notOrdered_dict hT ?_));show wpAny _ _ (pure (IE d)) _ _ s;refine HB ?_;show wpAny _ _ (MH d >>= _) _ _ s;unfold MH;rw[Iy (by rw[hd]; exact HN)]
 refine Hl (HB (Hl (Lg ho hdat (Hl (MB ho hdat ?_)))));refine Hl (IK (HB #[_,rfl,"dict_keyiterator",_,#[_,HQ _ rfl,rfl],F.slot_dict_keyiterator_next.lookup,?_]))
 simpa [rawInt]using hQ
theorem oG {Q:Hr Hm->Hq->Prop}(hit:s.heap.IsKeyIter it d i es.size ep)(hm:RawD d es ep s.heap)(hi:i < es.size)
  (hQ:∀h',h'.IsKeyIter it d (i+1) es.size ep->Kf it s.heap h'->Q (gV es[i].key) { s with heap:=h' }):wpAny (model prog w) A (pyNext (.ref it)) Q E s:=by
 obtain⟨o,ho,hc,hd⟩:=id hit;obtain⟨od,hod,hcd,hdd⟩:=id hm;unfold pyNext;refine Hl (L8 (IX (name:=JX "__next__") hit.typeIs F.slot_dict_keyiterator_next
  (Ji F.slot_dict_keyiterator_next hit.typeIs F.entry_dict_keyiterator_next ?_ (F.args_dict_keyiterator_next_1 _))))
 refine Hl (HB (Hl (Hl ?_)))
 first|refine Hl (JP hit.typeIs (HB ?_))|refine Hl (Km hit.typeIs (HB ?_))
 refine Hl (OJ ho hd ?_);have hown:Ly "dict_keyiterator" = false:=by decide
 simp only[hown,Jg,Kg];show wpAny _ _ (if (IE d==IM)=true then _ else _) _ _ s
 rw[Iy (show ¬ ((IE d==IM)=true)from HN)]
 refine Hl (HB (Hl (Lg hod hdd ?_)));rw[Iy (by simp)]
 refine Hl (HB (Hl (MB hod hdd ?_)));rw[Iy (by simp)]
 refine HB ?_;simp only[show ¬ ((i:Hy) < 0)from by omega,Kg,HI,KR hi]
 refine Hl ?_
 first|refine Hl (JP hit.typeIs (HB ?_))|refine Hl (Km hit.typeIs (HB ?_))
 refine Hl (MJ hit.typeIs ?_);show wpAny _ _ (setField (.ref it) 1 (rawInt ((i:Hy)+1)) >>= _) _ _ s;refine Hl (LL ho hd (by simp) ?_)
 have hit':(s.heap.update it (O4 (·.setIfInBounds 1 (rawInt ((i:Hy)+1))))).IsKeyIter it d (i+1) es.size ep:=
  #[_,J7 _ ho (MK (K8 hd _)),(NS ..).trans hc,by rw[K8 hd]; simp[rawInt]]
 refine Hl (Jn ?_);refine Hl (MJ (s:={ s with heap:=s.heap.update it (O4 (·.setIfInBounds 1 (rawInt ((i:Hy)+1)))) }) hit'.typeIs ?_)
 show wpAny _ _ (pure es[i].key) _ _ _;exact HB (HB #[_,rfl,HB (hQ _ hit' (KT ..))])
theorem rG {Q:Hr Hm->Hq->Prop}(hh:A.handled=td)(hit:s.heap.IsKeyIter it d i es.size ep)(hm:RawD d es ep s.heap)(hge:es.size<=i)
  (hQ:∀h',MN it s.heap h'->Q td { s with heap:=h' }):wpAny (model prog w) A (pyNext (.ref it)) Q E s:=by
 obtain⟨o,ho,hc,hd⟩:=id hit;obtain⟨od,hod,hcd,hdd⟩:=id hm;unfold pyNext;refine Hl (L8 (IX (name:=JX "__next__") hit.typeIs F.slot_dict_keyiterator_next
  (Ji F.slot_dict_keyiterator_next hit.typeIs F.entry_dict_keyiterator_next ?_ (F.args_dict_keyiterator_next_1 _))))
 refine Hl (HB (Hl (Hl ?_)))
 first|refine Hl (JP hit.typeIs (HB ?_))|refine Hl (Km hit.typeIs (HB ?_))
 refine Hl (OJ ho hd ?_);have hown:Ly "dict_keyiterator" = false:=by decide
 simp only[hown,Jg,Kg];show wpAny _ _ (if (IE d==IM)=true then _ else _) _ _ s
 rw[Iy (show ¬ ((IE d==IM)=true)from HN)]
 refine Hl (HB (Hl (Lg hod hdd ?_)));rw[Iy (by simp)]
 refine Hl (HB (Hl (MB hod hdd ?_)));rw[Iy (by simp)]
 refine HB ?_;simp only[show ¬ ((i:Hy) < 0)from by omega,Kg,HI,Array.getElem?_eq_none hge]
 refine Hl ?_
 first|refine Hl (JP hit.typeIs (HB ?_))|refine Hl (Km hit.typeIs (HB ?_))
 show wpAny _ _ (setField (.ref it) 0 .none >>= _) _ _ s;refine Hl (LL ho hd (by simp) ?_)
 show wpAny _ _ (newExc (.type "StopIteration") [] >>= _) _ _ _;refine Hl ?_;simp only[newExc,newTuple];refine Hl (IK ?_ (by size_fits))
 refine Hl (m:=firstArgMember _ _) (MO (a:=IM) (by first|rfl|(simp only[firstArgMember]; rfl)) ?_)
 refine IK ?_ (by size_fits)
 simp only[raiseNew];refine Hl (O5 ?_);rw[show A.in1.handled=td from hh]
 refine Hl (HB (Py ?_));refine Hl (Mg (T:="StopIteration") (b:=true) #[_,HQ _ rfl,rfl] OL ?_);exact HB (hQ _ (((KT ..).extBut.push _).push _))
theorem tD (hh:A.handled=td)(I d:Hw)(hne:d≠I)(es:IF JR)(ep:Hs) :
  Qb prog w A I [I,d] [I] es.size (λi v=>∃e,es[i]?=gV e/\e.key=v) (λi h=>h.IsKeyIter I d i es.size ep/\RawD d es ep h) where
 sub:=λb hb=>by simp at hb; simp[hb]
 frame:=λ_ _ _ st hk=>#[st.1.at λo e=>hk I (by simp) o e,st.2.at λo e=>hk d (by simp) o e]
 item:=λi s Q E hi st hQ=>
  oG st.1 st.2 hi λh' hit' hs'=>hQ _ h' s.toks #[es[i],by simp[hi],rfl] #[hit',st.2.at λo e=>(hs'.2 d hne).trans e] λb o hb e=>hs'.extBut b o (λh=>hb (by simp[h])) e
 done:=λs Q E st hQ=>rG hh st.1 st.2 (HC _) λh' he'=>hQ h' s.toks λb o hb e=>he' b o (λh=>hb (by simp[h])) e
 self:=λ_ _ _ _ st hQ=>MP st.1 hQ
theorem rH (lo:(d==sysModules)=false):MQ prog w "dict" d d es.size (λi v=>∃e,es[i]?=gV e/\e.key=v) (RawD d es ep) where
 type:=λ_ hm=>hm.type
 there:=λ_ hm=>#[hm.lt,hm.lt]
 keep:=λ_ _ hm hk=>hm.at λo e=>hk d (.inl rfl) o e
 notList:=by decide
 notTuple:=by decide
 hint:=λ_ _ _ _ hm hq=>PySem.W.kdl_hint_dict hm.type hq
 iter:=λ_ _ hh hm=>#[_,_,(λ_ _ hq=>oF lo hm hq),tD hh _ d (Ip hm.lt) es ep,#[#[_,HQ _ rfl,rfl,rfl],hm.at λo e=>Hu _ e]]
theorem vx {T:Jf}{r d S:Hw}{n:Hs}{P:Hs->Hm->Prop}{OK:IJ->Prop}{R:N3->Hq->Prop}(K:MQ prog w T r d n P OK)(hh:A.handled=td)(hok:OK s.heap)(hn:n<=sizeLine)(hSr:S≠r)(hSd:S≠d)
  (hS:s.heap.get? S=gV { cls:=.type "list",data:=.seq #[] 0 })
  (hR:∀h' tk acc' c',(∀b o,b≠S->s.heap.get? b=gV o->h'.get? b=gV o)->h'.get? S=gV { cls:=.type "list",dict:=td,data:=.seq acc' c',slots:=#[] }->Ms P acc' n->R (.ok (.ret (.ref S))) { s with heap:=h',toks:=tk }) :
  codeAny (model prog w) A (.builtin "list.__iadd__" #[[.ref S,.ref r],[]]) R s:=by
 refine Jy F.entry_list_iadd ?_;rw[Jm F.plain_list_iadd _];show wpAny _ A.in1 (JZ (.ref S) (.ref r) (.ref S)) _ _ _;exact PySem.W.kdl_extend K hh hok S hSr hSd _ 0 hS hR hn
theorem oH {T:Jf}{r d:Hw}{n:Hs}{P:Hs->Hm->Prop}{OK:IJ->Prop}{Q:Hj Hm->Hq->Prop}(K:MQ prog w T r d n P OK)(hh:A.handled=td)(hok:OK s.heap)(hn:n<=sizeLine)
  (hQ:∀h' tk acc,(∀b o,s.heap.get? b=gV o->h'.get? b=gV o)->s.heap.objs.size<=h'.objs.size->Ms P acc n->Q acc.toList { s with heap:=h',toks:=tk }):wpAny (model prog w) A (collect (.ref r)) Q E s:=by
 unfold collect;refine Hl (MR (Jy F.entry_proto_collect ?_));rw[Jm F.plain_proto_collect _];show wpAny _ A.in1 (newList [] >>= λl=>again (.builtin "list.__iadd__" #[[l,.ref r],[]])) _ _ s
 refine Hl (IK ?_);have hlt:=K.there _ hok;refine HB #[Kz F.plain_list_iadd _,vx (s:={ s with heap:=s.heap.push { cls:=.type "list",data:=.seq ([]:Hj Hm).toArray } }) K hh (K.keep _ _ hok λb _ o e=>Hu _ e) hn (Kv hlt.1) (Kv hlt.2) (HQ _ rfl) λh' tk acc' c' hk hS' hacc=>?_]
 show wpAny (model prog w) A (do
   let o <- load s.heap.objs.size
   match o.data with
   | .seq xs _=>pure xs.toList
   | _=>unsupported "internal:collect") Q E { s with heap:=h',toks:=tk }
 refine Hl (Nm hS' ?_);exact HB (hQ h' tk acc' (λb o e=>hk b o (Ip (HR e)) (Hu _ e)) (Ld (HR hS')) hacc)
end
mutual
noncomputable def zj:T->T->Hr HX
 | .int a,.int b=>gV (decide (a < b))
 | .str a,.str b=>gV (decide (a.cps.toList < b.cps.toList))
 | .tup xs,.tup ys=>oI xs ys
 | _,_=>td
noncomputable def oI:Hj T->Hj T->Hr HX
 | [],[]=>gV false
 | [],_::_=>gV true
 | _::_,[]=>gV false
 | x::xs,y::ys=>if x=y then oI xs ys else zj x y
end
mutual
theorem IsT.kept {h h':IJ}(hk:∀b o,o.cls=.type "tuple"->h.get? b=gV o->h'.get? b=gV o):∀ {x:T} {v:Hm},IsT h x v->IsT h' x v
 | _,_,.int=>.int
 | _,_,.str=>.str
 | _,_,.tup a1 c1 d1 t1=>.tup (hk _ _ c1 a1) c1 d1 (IsTs.kept hk t1)
theorem IsTs.kept {h h':IJ}(hk:∀b o,o.cls=.type "tuple"->h.get? b=gV o->h'.get? b=gV o):∀ {x:Hj T} {v:Hj Hm},IsTs h x v->IsTs h' x v
 | _,_,.nil=>.nil
 | _,_,.cons a b=>.cons (IsT.kept hk a) (IsTs.kept hk b)
end
theorem D1 {B:Ix}{s:Hq}{d:Hs}(hu:B.units+d < cLine)(hl:∀(x y:T) (u v:Hm) (k:HX),x.depth<=d->y.depth<=d->IsT s.heap x u->IsT s.heap y v->zj x y=gV k->LtAt B s u v k) :
  ∀(xs ys:Hj T) (us vs:Hj Hm) (k:HX),T.depths xs<=d->T.depths ys<=d->IsTs s.heap xs us->IsTs s.heap ys vs->oI xs ys=gV k->LexR B s us vs k
 | [],[],_,_,k,_,_,h1,h2,e=>by cases h1; cases h2; cases e; exact .nn
 | [],y::ys,_,_,k,_,_,h1,h2,e=>by cases h1; cases h2; cases e; exact .nc
 | x::xs,[],_,_,k,_,_,h1,h2,e=>by cases h1; cases h2; cases e; exact .cn
 | x::xs,y::ys,_,_,k,d1,d2,h1,h2,e=>by
  simp only[T.depths]at d1 d2;cases h1 with
  | cons p1 q1=>
   cases h2 with
   | cons p2 q2=>
    have he:=tB d x y _ _ B s ∅ p1 p2 hu ∅
    simp only[oI]at e
    by_cases hxy:x=y
    ·rw[HY hxy]at e;rw[IZ hxy]at he;exact .eq he (D1 hu hl xs ys _ _ k ∅ ∅ q1 q2 e)
    ·rw[Iy hxy]at e;rw[Iq hxy]at he;exact .ne he (hl x y _ _ k ∅ ∅ p1 p2 e)
theorem D2:∀(d:Hs) (x y:T) (u v:Hm) (B:Ix) (s:Hq) (k:HX),x.depth<=d->y.depth<=d->IsT s.heap x u->IsT s.heap y v->B.units+d < cLine->zj x y=gV k->LtAt B s u v k:=by
 intro d
 induction d with
 | zero=>
  intro x y u v B s k d1 d2 h1 h2 hu e;cases h1 with
  | int=>cases h2 with
   | int=>cases e; exact λprog w E Q h=>(M4 h:wpAny (model prog w) B (compareOp .Lt _ _) Q E s)
   | _=>cases e
  | str=>cases h2 with
   | str=>cases e; exact λprog w E Q h=>(lt_str h:wpAny (model prog w) B (compareOp .Lt _ _) Q E s)
   | _=>cases e
  | tup _ _ _ _=>simp[T.depth]at d1
 | succ d ih=>
  intro x y u v B s k d1 d2 h1 h2 hu e;cases h1 with
  | int=>cases h2 with
   | int=>cases e; exact λprog w E Q h=>(M4 h:wpAny (model prog w) B (compareOp .Lt _ _) Q E s)
   | _=>cases e
  | str=>cases h2 with
   | str=>cases e; exact λprog w E Q h=>(lt_str h:wpAny (model prog w) B (compareOp .Lt _ _) Q E s)
   | _=>cases e
  | tup a1 c1 e1 t1=>cases h2 with
   | tup a2 c2 e2 t2=>
    simp only[T.depth]at d1 d2;have hu1:B.in1.units+d < cLine:=by rw[be]; omega
    exact LtAt.tuples #[_,a1,c1,_,e1] #[_,a2,c2,_,e2] ∅ (D1 hu1 (λx y u v k q1 q2 q3 q4 q5=>ih x y u v B.in1 s k q1 q2 q3 q4 hu1 q5) _ _ _ _ k ∅ ∅ t1 t2 e)
   | _=>cases e
section
variable{prog:Io}{w:IA}{A:Ix}{R:N3->Hq->Prop}{I S:Hw}{fp wr:Hj Hw}{n:Hs}{P:Hs->Hm->Prop}{St:Hs->IJ->Prop}{Ok:IJ->Prop}{bt:Hs->Hs->HX}
noncomputable def vy (prog:Io)(w:IA)(A:Ix)(P:Hs->Hm->Prop)(Ok:IJ->Prop)(bt:Hs->Hs->HX):Prop:=
 ∀i j vi vj (s:Hq) (Q:Hm->Hq->Prop) (E:Hm->Hq->Prop),Ok s.heap->P i vi->P j vj->Q (.bool (bt i j)) s->wpAny (model prog w) A (richCompare .Lt vi vj) Q E s
theorem vz (W:Qb prog w A.in1 I fp wr n P St)(hcmp:vy prog w A.in1 P Ok bt)(hSf:S∉fp)(hok:∀h h',Ok h->(∀b o,b∉wr->b≠S->h.get? b=gV o->h'.get? b=gV o)->Ok h') :
  ∀(k j:Hs) (s:Hq) (vb:Hm) (c:Hs),n - (j+1)=k->j < n->St (j+1) s.heap->P (argBest bt j) vb->Ok s.heap->s.heap.get? S=gV { cls:=.type "list",dict:=td,data:=.seq [vb,vb].toArray c,slots:=#[] }->
  (∀v h' tk,P (argBest bt (n - 1)) v->(∀b o,b∉wr->b≠S->s.heap.get? b=gV o->h'.get? b=gV o)->R (.ok (.ret v)) { s with heap:=h',toks:=tk })->
  codeAny (model prog w) A (.builtin "min.loop" #[[.ref I,.none,.ref S],[]]) R s:=by
 have hSw:S∉wr:=λh=>hSf (W.sub _ h)
 have hname:(toString "min" ++ toString ".loop" : Jf) = "min.loop":=by decide
 intro k
 induction k with
 | zero=>
  intro j s vb c hk hj hst hPb hO hS hR;have hin:j+1=n:=∅
  refine Jy F.entry_min_loop ?_;rw[Jm F.plain_min_loop _];show wpAny _ A.in1 (seqItems? (.ref S) >>= _) _ _ s;refine Hl (KM hS rfl ?_);show wpAny _ A.in1 (tryCatch (pyNext (.ref I)) _ >>= _) _ _ s;refine Hl (LM (W.done s _ _ (hin ▸ hst) λh' tk hk'=>?_))
  have hS':=hk' S _ hSw hS;show wpAny _ A.in1 (updateSeq S (λ_=>#[]) >>= _) _ _ _
  refine Hl (MC hS' rfl (Hl (Lv (HB ?_))));have e:j=n - 1:=∅
  exact hR vb _ tk (e ▸ hPb) λb o hbw hbS e=>(IQ _ _ (Ne.symm hbS)).trans (hk' b o hbw e)
 | succ k ih=>
  intro j s vb c hk hj hst hPb hO hS hR;have hlt:j+1 < n:=∅
  refine Jy F.entry_min_loop ?_;rw[Jm F.plain_min_loop _];show wpAny _ A.in1 (seqItems? (.ref S) >>= _) _ _ s;refine Hl (KM hS rfl ?_);show wpAny _ A.in1 (tryCatch (pyNext (.ref I)) _ >>= _) _ _ s;refine Hl (LM (W.item (j+1) s _ _ hlt hst λv h' tk hP hst' hk'=>?_))
  have hS':=hk' S _ hSw hS;have hO':Ok h':=hok _ _ hO λb o hb _ e=>hk' b o hb e
  show wpAny _ A.in1 (tryCatch (holding [v,v] (richCompare .Lt v vb >>= _)) _ >>= _) _ _ _;refine Hl (LM (Jn (Hl (hcmp (j+1) (argBest bt j) v vb _ _ _ hO' hP hPb ?_))));refine Hl (Jn (Jj ?_));refine Hl (Lv (HB ?_));cases hb:bt (j+1) (argBest bt j)with
  | true=>
   simp only[Kq];refine Hl (MC hS' rfl (Hl (Lv ?_)));rw[hname];refine HB #[Kz F.plain_min_loop _,ih (j+1) _ v _ ∅ hlt (W.frame _ _ _ hst' λb hbf o e=>?_) (by simp only[argBest,hb,Kq]; exact hP) (hok _ _ hO' λb o _ hbS e=>(IQ _ _ (Ne.symm hbS)).trans e) (J7 _ hS' rfl)
    λv' h'' tk'' hP' hk''=>?_]
   ·exact(IQ _ _ (λh:S=b=>hSf (by rw[h]; exact hbf))).trans e
   ·exact hR v' h'' tk'' hP' λb o hbw hbS e=>hk'' b o hbw hbS ((IQ _ _ (Ne.symm hbS)).trans (hk' b o hbw e))
  | false=>
   simp only[Jg,Kg];refine Hl (Lv ?_);rw[hname];refine HB #[Kz F.plain_min_loop _,ih (j+1) _ vb c ∅ hlt hst' (by simp only[argBest,hb,Jg,Kg]; exact hPb) hO' hS' λv' h'' tk'' hP' hk''=>?_]
   exact hR v' h'' tk'' hP' λb o hbw hbS e=>hk'' b o hbw hbS (hk' b o hbw e)
theorem tF (W:Qb prog w A.in1 I fp wr n P St)(hcmp:vy prog w A.in1 P Ok bt)(hSf:S∉fp)(hok:∀h h',Ok h->(∀b o,b∉wr->b≠S->h.get? b=gV o->h'.get? b=gV o)->Ok h')(hn:0 < n){s:Hq}{c:Hs}(hst:St 0 s.heap)(hO:Ok s.heap)
  (hS:s.heap.get? S=gV { cls:=.type "list",dict:=td,data:=.seq #[] c,slots:=#[] })
  (hR:∀v h' tk,P (argBest bt (n - 1)) v->(∀b o,b∉wr->b≠S->s.heap.get? b=gV o->h'.get? b=gV o)->R (.ok (.ret v)) { s with heap:=h',toks:=tk }) :
  codeAny (model prog w) A (.builtin "min.loop" #[[.ref I,.none,.ref S],[]]) R s:=by
 have hSw:S∉wr:=λh=>hSf (W.sub _ h)
 have hname:(toString "min" ++ toString ".loop" : Jf) = "min.loop":=by decide
 refine Jy F.entry_min_loop ?_;rw[Jm F.plain_min_loop _];show wpAny _ A.in1 (seqItems? (.ref S) >>= _) _ _ s;refine Hl (KM hS rfl ?_);show wpAny _ A.in1 (tryCatch (pyNext (.ref I)) _ >>= _) _ _ s;refine Hl (LM (W.item 0 s _ _ hn hst λv h' tk hP hst' hk'=>?_))
 have hS':=hk' S _ hSw hS;show wpAny _ A.in1 (updateSeq S (λ_=>[v,v].toArray) >>= _) _ _ _
 refine Hl (MC hS' rfl ?_);rw[hname];have hO':Ok h':=hok _ _ hO λb o hb _ e=>hk' b o hb e
 refine HB #[Kz F.plain_min_loop _,vz W hcmp hSf hok _ 0 _ v _ rfl hn (W.frame _ _ _ hst' λb hbf o e=>?_) hP (hok _ _ hO' λb o _ hbS e=>(IQ _ _ (Ne.symm hbS)).trans e) (J7 _ hS' rfl) λv' h'' tk'' hP' hk''=>?_]
 ·exact(IQ _ _ (λh:S=b=>hSf (by rw[h]; exact hbf))).trans e
 ·exact hR v' h'' tk'' hP' λb o hbw hbS e=>hk'' b o hbw hbS ((IQ _ _ (Ne.symm hbS)).trans (hk' b o hbw e))
end
section
variable{prog:Io}{w:IA}{A:Ix}{E:Hm->Hq->Prop}{s:Hq}
theorem vA {l:Hw}{items:IF Hm}{bt:Hs->Hs->HX}{Q:Hm->Hq->Prop}(hh:A.handled=td)(hl:s.heap.IsList l items)(hn:0 < items.size)
  (hcmp:vy prog w A.in1 (λi v=>items[i]?=gV v) (λh=>∀b o,s.heap.get? b=gV o->h.get? b=gV o) bt)
  (hQ:∀v h' tk,items[argBest bt (items.size - 1)]?=gV v->(∀b o,s.heap.get? b=gV o->h'.get? b=gV o)->Q v { s with heap:=h',toks:=tk }) :
  wpAny (model prog w) A (call (.builtin "min") [.ref l]) Q E s:=by
 have hname:(toString "min" ++ toString ".loop" : Jf) = "min.loop":=by decide
 refine call_function_tree F.kind_min F.plain_min F.entry_min (F.args_min1 _) ?_;show wpAny _ A.in1 (LF "min" ["key","default"] 0 #[[],[]] >>= _) _ _ s;refine Hl (MO (show LF "min" ["key","default"] 0 #[[],[]]=pure [td,td]from rfl) ?_)
 refine Hl (HB ?_);refine Hl (LZ hl ?_);refine Hl (IK ?_);rw[hname];have hlt:l < s.heap.objs.size:=let ⟨_,ho,_⟩:=hl; HR ho
 have hne:l≠s.heap.objs.size:=Ip hlt;have W:=PQ (prog:=prog) (w:=w) (A:=A.in1) hh s.heap.objs.size l hne items;have hsz:∀o:Jr,(s.heap.push o).objs.size=s.heap.objs.size+1:=λo=>by simp[Heap.push]
 refine HB #[Kz F.plain_min_loop _,tF (A:=A) (Ok:=λh=>∀b o,s.heap.get? b=gV o->h.get? b=gV o) W hcmp (λhm=>?_) (λh h' ho hk b o e=>?_) hn #[?_,?_] (λb o e=>Hu _ (Hu _ e)) (HQ _ rfl) λv h' tk hv hk=>?_]
 ·rcases HZ.mp hm with e|hm
  ·exact absurd (show(s.heap.push _).objs.size=s.heap.objs.size from e) (by rw[hsz]; exact Nat.succ_ne_self _)
  ·have e:(s.heap.push _).objs.size=l:=HE.mp hm;rw[hsz]at e;exact absurd hlt (by rw[<- e]; exact OM.mpr (KL _))
 ·have hb:=HR e;refine hk b o (λz=>?_) (λz=>?_) (ho b o e)
  ·rw[HE.mp z]at hb; exact Ja _ hb
  ·have z':b=(s.heap.push _).objs.size:=z;rw[hsz]at z';rw[z']at hb;exact absurd hb (OM.mpr (KL _))
 ·exact#[_,Hu _ (HQ _ rfl),rfl,rfl]
 ·obtain⟨o,ho,hc⟩:=hl;exact#[o,Hu _ (Hu _ ho),hc]
 ·refine hQ v h' tk hv λb o e=>hk b o (λz=>?_) (λz=>?_) (Hu _ (Hu _ e))
  ·have hb:=HR e;rw[HE.mp z]at hb; exact Ja _ hb
  ·have hb:=HR e;have z':b=(s.heap.push _).objs.size:=z;rw[hsz]at z';rw[z']at hb;exact absurd hb (OM.mpr (KL _))
end
open PySem.W (KasT kas_sort kas_ask kas_cmp kas_item kas_asc kas_desc kas_tail3 kas_descPart kas_count kas_place kas_bin kas_rev)
noncomputable def nj {α:Type}(lt:Hs->Hs->HX):KasT α->α
 | .ret a=>a
 | .ask i j k=>nj lt (k (lt i j))
noncomputable def OkK {α:Type}(n:Hs)(P:α->Prop):KasT α->Prop
 | .ret a=>P a
 | .ask i j k=>i < n/\j < n/\∀b,OkK n P (k b)
theorem oJ {α:Type}{n:Hs}{P:α->Prop}{lt:Hs->Hs->HX}:∀(t:KasT α),OkK n P t->P (nj lt t)
 | .ret _,h=>h
 | .ask i j k,h=>oJ (k (lt i j)) (h.2.2 _)
theorem nk {α:Type}{n:Hs}{P:α->Prop}{lt:Hs->Hs->HX}{t:KasT α}(h:OkK n P t):P (nj lt t):=oJ t h
theorem OkK.bind {α β:Type}{n:Hs}{P:α->Prop}{P':β->Prop}{f:α->KasT β}:∀ {t:KasT α},OkK n P t->(∀a,P a->OkK n P' (f a))->OkK n P' (t.bind f)
 | .ret a,h,hf=>hf a h
 | .ask _ _ _,h,hf=>#[h.1,h.2.1,λb=>OkK.bind (h.2.2 b) hf]
theorem lH {α:Type}{n:Hs}{P:α->Prop}{lt:Hs->Hs->HX}{cmp:Hs->Hs->(HX->Hq->Prop)->Hq->Prop}{Q:α->Hq->Prop}{s:Hq}(hc:∀i j,i < n->j < n->∀C:HX->Hq->Prop,C (lt i j) s->cmp i j C s) :
  ∀ {t:KasT α},OkK n P t->Q (nj lt t) s->t.kasWp cmp Q s
 | .ret _,_,h=>h
 | .ask i j k,h,hq=>hc i j h.1 h.2.1 _ (lH hc (h.2.2 _) hq)
noncomputable def Pm (n:Hs)(p:IF Hs):Prop:=p.toList.Perm (HJ n)
theorem Pm.size {n:Hs}{p:IF Hs}(h:Pm n p):p.size=n:=by rw[<- Iw,h.length_eq,Ii]
theorem Pm.lt {n:Hs}{p:IF Hs}(h:Pm n p)(hn:0 < n)(i:Hs):p.getD i 0 < n:=by
 by_cases hi:i < p.size
 ·have e:p.getD i 0=p[i]:=by simp[PR,hi]
  rw[e];have:p[i]∈p.toList:=by simp
  exact HL.mp (h.mem_iff.mp this)
 ·have e:p.getD i 0=0:=by simp[PR,hi]
  rw[e]; exact hn
theorem Pm.rev {n:Hs}{p:IF Hs}(h:Pm n p)(i j:Hs):Pm n (kas_rev p i j):=(LN.mp (mirror_perm p i j _)).trans h
theorem Pm.bub {n:Hs}{p:IF Hs}(h:Pm n p)(i j:Hs):Pm n (bubble p i j):=(LN.mp (bubble_perm p i j)).trans h
section
variable{n:Hs}(hn:0 < n)
include hn
theorem qf {p:IF Hs}(h:Pm n p):∀(f m:Hs),OkK n (λ_=>Oy) (kas_asc p f m)
 | 0,_=>trivial
 | f+1,m=>#[h.lt hn _,h.lt hn _,λb=>by
  show OkK n _ (if b=true then _ else _)
  split
  ·trivial
  ·exact qf h f (m+1)]
theorem jz:∀(f:Hs) (p:IF Hs) (m q:Hs),Pm n p->OkK n (λr=>Pm n r.1) (kas_desc f p m q)
 | 0,p,m,q,h=>h
 | f+1,p,m,q,h=>#[h.lt hn _,h.lt hn _,λb=>by
  show OkK n _ (if b=true then _ else _)
  split
  ·split
   ·exact jz f _ _ _ (h.rev _ _)
   ·exact jz f _ _ _ h
  ·refine#[h.lt hn _,h.lt hn _,λc=>?_]
   show OkK n _ (if c=true then _ else _)
   split
   ·exact h
   ·exact jz f _ _ _ h]
theorem rJ {p:IF Hs}(h:Pm n p)(m k:Hs):OkK n (λr=>Pm n r.2) (kas_tail3 m k p):=by
 unfold kas_tail3;exact OkK.bind (qf hn (h.rev 0 m) _ _) λa _=>h.rev 0 m
theorem ji {p:IF Hs}(h:Pm n p)(m k:Hs):OkK n (λr=>Pm n r.2) (kas_descPart m k p):=by
 unfold kas_descPart;refine OkK.bind (jz hn _ _ _ _ h) λr hr=>?_
 split
 ·exact rJ hn (hr.rev _ _) _ _
 ·exact rJ hn hr _ _
theorem vB {p:IF Hs}(h:Pm n p)(k:Hs):OkK n (λr=>Pm n r.2) (kas_count k p):=by
 unfold kas_count;refine OkK.bind (qf hn h _ _) λm _=>?_
 split
 ·exact h
 ·split
  ·refine#[h.lt hn _,h.lt hn _,λc=>?_]
   show OkK n _ (if c=true then _ else _)
   split
   ·exact h
   ·exact ji hn (h.rev _ _) _ _
  ·exact ji hn h _ _
theorem jS {p:IF Hs}(h:Pm n p)(k:Hs):∀(f l r:Hs),OkK n (λ_=>Oy) (kas_place p k f l r)
 | 0,_,_=>trivial
 | f+1,l,r=>by
  unfold kas_place;split
  ·trivial
  ·refine#[h.lt hn _,h.lt hn _,λc=>?_]
   show OkK n _ (if c=true then _ else _)
   split
   ·exact jS h k f _ _
   ·exact jS h k f _ _
theorem vC:∀(f:Hs) (p:IF Hs) (k:Hs),Pm n p->OkK n (Pm n) (kas_bin f p k)
 | 0,p,k,h=>h
 | f+1,p,k,h=>by
  unfold kas_bin;exact OkK.bind (jS hn h k _ _ _) λl _=>vC f _ _ (h.bub _ _)
theorem jA:OkK n (Pm n) (kas_sort n):=by
 unfold kas_sort;refine OkK.bind (vB hn (by unfold Pm; simp) _) λr hr=>?_
 split
 ·exact vC hn _ _ _ hr
 ·exact hr
end
section
variable{prog:Io}{w:IA}{A:Ix}{E:Hm->Hq->Prop}{s:Hq}{vs:Hj Hm}
noncomputable def eO (lt:Hs->Hs->HX){β:Type}(d:β)(vs:Hj β):Hj β:=if vs.length < 2 then vs else(nj lt (kas_sort vs.length)).toList.map λi=>vs.getD i d
theorem oK {lt:Hs->Hs->HX}{β:Type}{d:β}{vs:Hj β}:(eO lt d vs).length=vs.length:=by
 unfold eO;split
 ·rfl
 ·rw[Hk,Iw,(nk (lt:=lt) (jA (n:=vs.length) ∅)).size]
theorem tH {a:Hw}{n:Hs}{lt:Hs->Hs->HX}{κ:Mh}{P:PySem.Fin->Hq->Prop}(ho:s.heap.get? a=gV (seqObj "list" vs.toArray n))(h64:vs.length < 64)
  (hkind:2<=vs.length->∀h',(∀b o,b≠a->s.heap.get? b=gV o->h'.get? b=gV o)->∀Q:Mh->Hq->Prop,Q κ { s with heap:=h' }->wpAny (model prog w) A (keyKind' vs.toArray) Q (λ_ _=>IY) { s with heap:=h' })
  (hlt:2<=vs.length->∀h',(∀b o,b≠a->s.heap.get? b=gV o->h'.get? b=gV o)->∀i j,i < vs.length->j < vs.length->∀Q:HX->Hq->Prop,Q (lt i j) { s with heap:=h' }->
   wpAny (model prog w) A (keyLt' κ (vs.getD i IM) (vs.getD j IM)) Q (λ_ _=>IY) { s with heap:=h' })
  (h:∀h' c,(∀b o,b≠a->s.heap.get? b=gV o->h'.get? b=gV o)->h'.get? a=gV (seqObj "list" (eO lt IM vs).toArray c)->P (.done (.ret .none)) { s with heap:=h' }) :
  wpAny (model prog w) A (Mq.«list.sort» #[[.ref a],[]]) P E s:=by
 have ha:a < s.heap.objs.size:=HR ho;obtain⟨e1,ho1⟩ : ∃e1,(s.heap.update a (Jl λ_=>(#[]:IF Hm))).get? a=gV (seqObj "list" #[] e1):=#[_,MD ho λ_=>#[]]
 have keep:∀b o,b≠a->s.heap.get? b=gV o->(((s.heap.update a (Jl λ_=>(#[]:IF Hm))).push (seqObj "tuple" vs.toArray 0)).push (seqObj "list" #[] 0)).get? b=gV o:=λb o hb e=>
  Hu _ (Hu _ ((KU _ _ _ _ hb).trans e))
 have ho3:(((s.heap.update a (Jl λ_=>(#[]:IF Hm))).push (seqObj "tuple" vs.toArray 0)).push (seqObj "list" #[] 0)).get? a=gV (seqObj "list" #[] e1):=Hu _ (Hu _ ho1)
 have fin:∀(out:Hj Hm),out.length=vs.length->out=eO lt IM vs->P (.done (.ret .none)) { s with heap:=(((s.heap.update a (Jl λ_=>(#[]:IF Hm))).push (seqObj "tuple" vs.toArray 0)).push (seqObj "list" #[] 0)).update a (Jl λ_=>out.toArray) }:=λout hl e=>by
  obtain⟨c2,hc2⟩ : ∃c2,((((s.heap.update a (Jl λ_=>(#[]:IF Hm))).push (seqObj "tuple" vs.toArray 0)).push (seqObj "list" #[] 0)).update a (Jl λ_=>out.toArray)).get? a=gV (seqObj "list" out.toArray c2):=#[_,MD ho3 λ_=>out.toArray]
  exact h _ c2 (λb o hb q=>(KU _ _ _ _ hb).trans (keep b o hb q)) (e ▸ hc2)
 rw[list_sort_plain];refine Hl (NT ho rfl ?_);refine Hl (L9 ho rfl ?_ (by rw[HK,IN]; omega) (JN _))
 refine Hl (Om ho1 rfl ?_);refine Hl (ON ?_ (by show vs.length<=_; rw[IN]; omega))
 refine Hl (Nf ?_ (JN _));refine Jn ?_;show wpAny (model prog w) A _ P E { s with heap:=((s.heap.update a (Jl λ_=>(#[]:IF Hm))).push (seqObj "tuple" vs.toArray 0)).push (seqObj "list" #[] 0) }
 dsimp only
 by_cases h2:vs.length < 2
 ·rw[HY (by rw[HK]; exact h2),HY (by rw[HK]; exact h2)]
  refine Hl (HB (Hl ?_));rw[StateT.run_pure];refine HB ?_;dsimp only;refine Hl (Om ho3 rfl ?_);have hs:((arrOf (SortSt.mk' general' (vs.toArray.zip vs.toArray) #[] 7 td)).map (·.2))=vs.toArray:=by
   show(vs.toArray.zip vs.toArray).map (·.2)=vs.toArray
   apply Array.toList_inj.mp;rw[Array.toList_map,Array.toList_zip];exact List.map_snd_zip (HC _)
  rw[hs];refine Hl (L9 ho3 rfl ?_ (JN _) (by rw[HK,IN]; omega))
  simp only[NU,Jg,Kg];exact HB (fin vs rfl (by unfold eO; rw[HY h2]))
 ·have hn2:¬ vs.toArray.size < 2:=by rw[HK]; exact h2
  have h2':2<=vs.length:=∅
  rw[Iy hn2,Iy hn2];refine Hl (JA (hkind h2' _ keep (λ(k:Mh) (s':Hq)=>k=κ/\s'={ s with heap:=((s.heap.update a (Jl λ_=>(#[]:IF Hm))).push (seqObj "tuple" vs.toArray 0)).push (seqObj "list" #[] 0) }) #[rfl,rfl]) ?_ λ_ _ x=>x.elim)
  rintro _ _ ⟨rfl,rfl⟩;refine Hl (JA (PySem.W.kat_run (Q:=λst' s'=>∃p:IF Hs,p.size=vs.length/\arrOf st'=p.map (kas_item (vs.toArray.zip vs.toArray))/\failedOf st'=td/\p=nj lt (kas_sort vs.length)/\s'={ s with heap:=((s.heap.update a (Jl λ_=>(#[]:IF Hm))).push (seqObj "tuple" vs.toArray 0)).push (seqObj "list" #[] 0) })
   (G:=λp s'=>p=nj lt (kas_sort vs.length)/\s'={ s with heap:=((s.heap.update a (Jl λ_=>(#[]:IF Hm))).push (seqObj "tuple" vs.toArray 0)).push (seqObj "list" #[] 0) }) rfl h2' h64 (λp' st' s' a1 a2 a3 a4=>#[p',a1,a2,a3,a4])
   (lH (lt:=lt) (λi j hi hj C hC=>hlt h2' _ keep i j hi hj C hC) (jA (n:=vs.length) ∅) #[rfl,rfl])) ?_ λ_ _ e=>e)
  rintro⟨⟨⟩,st'⟩ s' ⟨p,hp,har,hf,ep,rfl⟩;dsimp only;have hout:=PySem.W.kat_snds rfl har;have hsz:(p.toList.map λi=>vs.getD i IM).length=vs.length:=by rw[Hk,Iw,hp]
  rw[hout];refine Hl (Om ho3 rfl ?_);refine Hl (L9 ho3 rfl ?_ (JN _) (by rw[HK,hsz,IN]; omega))
  rw[hf];simp only[NU,Jg,Kg];exact HB (fin _ hsz (by unfold eO; rw[Iy h2,ep]))
theorem tJ {x:Hm}{lt:Hs->Hs->HX}{κ:Mh}{Q:Hm->Hq->Prop}(h64:vs.length < 64)
  (hcol:∀Q':Hj Hm->Hq->Prop,(∀h' tk,(∀b o,s.heap.get? b=gV o->h'.get? b=gV o)->s.heap.objs.size<=h'.objs.size->Q' vs { s with heap:=h',toks:=tk })->wpAny (model prog w) A.in1 (collect x) Q' E s)
  (hkind:2<=vs.length->∀h' tk,(∀b o,s.heap.get? b=gV o->h'.get? b=gV o)->∀Q:Mh->Hq->Prop,Q κ { s with heap:=h',toks:=tk }->wpAny (model prog w) A.in1.in1 (keyKind' vs.toArray) Q (λ_ _=>IY) { s with heap:=h',toks:=tk })
  (hlt:2<=vs.length->∀h' tk,(∀b o,s.heap.get? b=gV o->h'.get? b=gV o)->∀i j,i < vs.length->j < vs.length->∀Q:HX->Hq->Prop,Q (lt i j) { s with heap:=h',toks:=tk }->
   wpAny (model prog w) A.in1.in1 (keyLt' κ (vs.getD i IM) (vs.getD j IM)) Q (λ_ _=>IY) { s with heap:=h',toks:=tk })
  (h:∀D h' tk c,(∀b o,s.heap.get? b=gV o->h'.get? b=gV o)->s.heap.objs.size<=D->h'.get? D=gV (seqObj "list" (eO lt IM vs).toArray c)->Q (.ref D) { s with heap:=h',toks:=tk }) :
  wpAny (model prog w) A (call (.builtin "sorted") [x]) Q E s:=by
 refine LS kind_sorted plain_sorted entry_sorted (args_sorted1 _) ?_;unfold Mq.«sorted»;refine Hl (m:=checkCount "sorted" 1 1 _) (HB ?_);refine Hl (hcol _ λh1 tk1 hk1 hle=>?_)
 refine Hl (Nf ?_ (by rw[IN]; omega))
 have hoL:(h1.push (seqObj "list" vs.toArray 0)).get? h1.objs.size=gV (seqObj "list" vs.toArray 0):=HQ _ rfl;have kp:∀b o,s.heap.get? b=gV o->(h1.push (seqObj "list" vs.toArray 0)).get? b=gV o:=λb o e=>Hu _ (hk1 b o e)
 have hne:∀b o,s.heap.get? b=gV o->b≠h1.objs.size:=λb o e=>Ip (Ij (HR e) hle)
 show wpAny _ _ _ _ _ { s with heap:=h1.push (seqObj "list" vs.toArray 0),toks:=tk1 }
 refine Hl (Jn (Ji slot_list_sort #[_,hoL,rfl] entry_list_sort ?_ (args_list_sort _)));refine tH (s:={ s with heap:=h1.push (seqObj "list" vs.toArray 0),toks:=tk1 }) (lt:=lt) (κ:=κ) hoL h64 (λh2 h' hk Q hq=>hkind h2 h' tk1 (λb o e=>hk b o (hne b o e) (kp b o e)) Q hq)
  (λh2 h' hk i j hi hj Q hq=>hlt h2 h' tk1 (λb o e=>hk b o (hne b o e) (kp b o e)) i j hi hj Q hq) λh' c hk hD=>?_
 exact#[_,rfl,HB #[_,rfl,h _ h' tk1 c (λb o e=>hk b o (hne b o e) (kp b o e)) hle hD]]
end
end Mi
namespace Mi
open PySem PySem.Spec PyProof.Rows L2
noncomputable def fG:T->Jf
 | .int _=>"int"|.str _=>"str"|.tup _=>"tuple"
noncomputable def bu:T->Hr T
 | .tup (x::_)=>gV x
 | _=>td
noncomputable def zm (ks:Hj T):Hr Hs:=
 if ks.all (λk=>fG k == "int")then gV 0
 else if ks.all (λk=>fG k == "str")then gV 1
 else if ks.all (λk=>(bu k).any λf=>fG f == "int")then gV 2
 else if ks.all (λk=>(bu k).any λf=>fG f == "str")then gV 3
 else if ks.all (λk=>(bu k).any λf=>fG f == "tuple")then gV 4
 else td
noncomputable def vD:Hs->Mh
 | 0=>oneType'|1=>oneType'|2=>tuples' true|3=>tuples' true|_=>tuples' false
noncomputable def jT (ks:Hj T):HX:=ks.all λx=>ks.all λy=>(zj x y).isSome
noncomputable def AO (ks:Hj T)(i j:Hs):HX:=(zj (ks.getD i (.int 0)) (ks.getD j (.int 0))).getD false
theorem vE {ks:Hj T}(h:jT ks=true){i j:Hs}(hi:i < ks.length)(hj:j < ks.length):zj (ks[i]) (ks[j])=gV (AO ks i j):=by
 unfold jT at h;rw[HS]at h;have h1:=h ks[i] (IT hi);rw[HS]at h1;have h2:=h1 ks[j] (IT hj);unfold AO;rw[show ks.getD i (.int 0)=ks[i] by simp[hi],show ks.getD j (.int 0)=ks[j] by simp[hj]]
 obtain⟨b,hb⟩:=IR.mp h2;rw[hb]; rfl
noncomputable def GN (c:Hs)(x y:T):Prop:=match c with|0=>fG x = "int"/\fG y = "int"|1=>fG x = "str"/\fG y = "str"|2=>∃f g,bu x=gV f/\bu y=gV g/\fG f = "int"/\fG g = "int"|3=>∃f g,bu x=gV f/\bu y=gV g/\fG f = "str"/\fG g = "str"|_=>∃f g,bu x=gV f/\bu y=gV g
section
variable{prog:Io}{w:IA}{A:Ix}{E:Hm->Hq->Prop}{s:Hq}
theorem rK {h:IJ}{k:T}{v:Hm}(x:IsT h k v):O6 (model prog w) h (typeOf v) (.type (fG k)):=by
 cases x with
 | int=>exact .now
 | str=>exact .now
 | tup a c d t=>exact c ▸ ((P5 a).andThen .now:O6 (model prog w) h (typeOf (.ref _)) _)
theorem IsTs.mem {h:IJ}:∀ {ks:Hj T} {vs:Hj Hm},IsTs h ks vs->∀v∈vs,∃k∈ks,IsT h k v
 | _,_,.cons a b,v,hv=>by
  rcases HZ.mp hv with rfl|hv
  ·exact#[_,.head _,a]
  ·obtain⟨k,hk,q⟩:=IsTs.mem b v hv;exact#[k,.tail _ hk,q]
theorem lI {h:IJ}{p:T->HX}:∀ {ks:Hj T} {vs:Hj Hm},IsTs h ks vs->ks.all (λk=>(bu k).any p)=true->∃fs,PySem.W.KatTups h vs fs/\fs.length=vs.length/\∀v∈fs,∃k,p k=true/\IsT h k v
 | _,_,.nil,_=>#[[],.nil,rfl,λv hv=>nomatch hv]
 | k::ks,_,.cons a b,hp=>by
  rw[II,Hv]at hp;obtain⟨fs,h1,h2,h3⟩:=lI b hp.2;cases a with
  | int=>simp[bu]at hp
  | str=>simp[bu]at hp
  | @tup kk ad o items n a1 c1 d1 t1=>
   cases kk with
   | nil=>simp[bu]at hp
   | cons x xs=>
    have hx:p x=true:=by simpa [bu]using hp.1
    generalize hit:items.toList=its at t1;cases t1 with
    | @cons _ u _ us q1 q2=>
     refine#[u::fs,.cons a1 c1 d1 (by rw[<- Js,hit]; rfl) h1,by simp[h2],λv hv=>?_]
     rcases HZ.mp hv with rfl|hv
     ·exact#[x,hx,q1]
     ·exact h3 v hv
theorem B7 {ks:Hj T}{vs:Hj Hm}{c:Hs}{Q:Mh->Hq->Prop}(h:IsTs s.heap ks vs)(h2:2<=vs.length)(hc:zm ks=gV c)(hq:Q (vD c) s):wpAny (model prog w) A (keyKind' vs.toArray) Q E s:=by
 have one:∀ty:Jf,(KI ty != KI "tuple")=true->ks.all (λk=>fG k==ty)=true->Q oneType' s->wpAny (model prog w) A (keyKind' vs.toArray) Q E s:=λty hty hall hq=>
  PySem.W.kas_kind (T:=.type ty) h2 (λv hv=>by
   obtain⟨k,hk,x⟩:=h.mem v hv;have:=eq_of_beq (HS.mp hall k hk);exact this ▸ rK x) hty (by simp) hq
 have tup:∀ty:Jf,ks.all (λk=>(bu k).any λf=>fG f==ty)=true->Q (tuples' (KI ty != KI "tuple")) s->wpAny (model prog w) A (keyKind' vs.toArray) Q E s:=λty hall hq=>by
  obtain⟨fs,h1,h3,h4⟩:=lI h hall;exact PySem.W.kat_kind (T:=.type ty) h1 ∅ (λv hv=>by
   obtain⟨k,hk,x⟩:=h4 v hv;have:=eq_of_beq hk;exact this ▸ rK x) (by simp) hq
 unfold zm at hc;split at hc
 ·cases hc; exact one "int" #v[] (by assumption) hq
 ·split at hc
  ·cases hc; exact one "str" #v[] (by assumption) hq
  ·split at hc
   ·cases hc; exact tup "int" (by assumption) hq
   ·split at hc
    ·cases hc; exact tup "str" (by assumption) hq
    ·split at hc
     ·cases hc; exact tup "tuple" (by assumption) hq
     ·cases hc
theorem oM {b:HX}{Q:HX->Hq->Prop}{d:Hs}(hu:A.units+d < cLine):∀(xs ys:Hj T) (us vs:Hj Hm) (i:Hs) (k:HX),T.depths xs<=d->T.depths ys<=d->IsTs s.heap xs us->IsTs s.heap ys vs->oI xs ys=gV k->
  (b=true->i=0->∀x y,xs.head?=gV x->ys.head?=gV y->(fG x = "int"/\fG y = "int")\/(fG x = "str"/\fG y = "str"))->Q k s->PySem.W.KatLex prog w A b (decide (us.length < vs.length)) Q (us.zip vs) i s
 | [],[],_,_,i,k,_,_,h1,h2,e,hb,hq=>by cases h1; cases h2; cases e; exact ME (by simpa using hq)
 | [],y::ys,_,_,i,k,_,_,h1,h2,e,hb,hq=>by cases h1; cases h2; cases e; exact ME (by simpa using hq)
 | x::xs,[],_,_,i,k,_,_,h1,h2,e,hb,hq=>by cases h1; cases h2; cases e; exact ME (by simpa using hq)
 | x::xs,y::ys,_,_,i,k,d1,d2,h1,h2,e,hb,hq=>by
  simp only[T.depths]at d1 d2;cases h1 with
  | @cons _ u _ us p1 q1=>
   cases h2 with
   | @cons _ v _ vs p2 q2=>
    have he:=tB d x y _ _ A s ∅ p1 p2 hu ∅
    rw[Kw];refine PySem.W.kat_cons (he prog w _ _ ?_);simp only[oI]at e;have hlen:decide ((u::us).length < (v::vs).length)=decide (us.length < vs.length):=by simp
    rw[hlen]
    by_cases hxy:x=y
    ·rw[HY hxy]at e;rw[IZ hxy];exact PySem.W.kat_yes (oM hu xs ys us vs (i+1) k ∅ ∅ q1 q2 e (λ_ z=>absurd z (Nat.succ_ne_zero _)) hq)
    ·rw[Iy hxy]at e;rw[Iq hxy];refine PySem.W.kat_no ?_
     by_cases hb0:b=true/\i=0
     ·obtain⟨rfl,rfl⟩:=hb0;rcases hb rfl rfl x y rfl rfl with⟨hx,hy⟩|⟨hx,hy⟩
      ·cases p1 with
       | int=>cases p2 with
        | int=>cases e; exact oneLt_int hq
        | _=>exact absurd hy (by simp[fG])
       | _=>exact absurd hx (by simp[fG])
      ·cases p1 with
       | str=>cases p2 with
        | str=>cases e; exact oneLt_str hq
        | _=>exact absurd hy (by simp[fG])
       | _=>exact absurd hx (by simp[fG])
     ·have hf:(b&&i==0)=false:=by
       cases b with
       | false=>rfl
       | true=>
        have:i≠0:=λz=>hb0 #[rfl,z]
        simpa using this
      rw[hf];exact PySem.W.kat_one _ _ ((D2 d x y _ _ A s k ∅ ∅ p1 p2 hu e) prog w _ _ hq)
theorem zn {c d:Hs}{x y:T}{u v:Hm}{k:HX}{Q:HX->Hq->Prop}(hu:A.units+d < cLine)(d1:x.depth<=d)(d2:y.depth<=d)(h1:IsT s.heap x u)(h2:IsT s.heap y v)(e:zj x y=gV k)
  (hc:GN c x y)
  (hq:Q k s):wpAny (model prog w) A (keyLt' (vD c) u v) Q E s:=by
 have tup:∀b:HX,(∃f g,bu x=gV f/\bu y=gV g/\(b=true->(fG f = "int"/\fG g = "int")\/(fG f = "str"/\fG g = "str")))->wpAny (model prog w) A (keyLt' (tuples' b) u v) Q E s:=by
  rintro b ⟨f,g,hf,hg,hb⟩;cases h1 with
  | int=>cases hf
  | str=>cases hf
  | @tup xs a o items n a1 c1 e1 t1=>
   cases h2 with
   | int=>cases hg
   | str=>cases hg
   | @tup ys a' o' items' n' a2 c2 e2 t2=>
    simp only[T.depth]at d1 d2;refine PySem.W.kat_lt a1 e1 a2 e2 ?_;have:=oM (prog:=prog) (w:=w) (b:=b) (Q:=Q) hu xs ys items.toList items'.toList 0 k ∅ ∅ t1 t2 e (λhb' _ p q hp hq'=>by
     cases xs with
     | nil=>cases hp
     | cons x0 xs=>cases ys with
      | nil=>cases hq'
      | cons y0 ys=>cases hp; cases hq'; cases hf; cases hg; exact hb hb') hq
    simpa using this
 match c,hc with
 | 0,#[hx,hy]=>
  cases h1 with
  | int=>cases h2 with
   | int=>cases e; exact PySem.W.kat_lt_int hq
   | _=>exact absurd hy (by simp[fG])
  | _=>exact absurd hx (by simp[fG])
 | 1,#[hx,hy]=>
  cases h1 with
  | str=>cases h2 with
   | str=>cases e; exact PySem.W.kas_lt_str hq
   | _=>exact absurd hy (by simp[fG])
  | _=>exact absurd hx (by simp[fG])
 | 2,#[f,g,h1',h2',h3,h4]=>exact tup true #[f,g,h1',h2',λ_=>.inl #[h3,h4]]
 | 3,#[f,g,h1',h2',h3,h4]=>exact tup true #[f,g,h1',h2',λ_=>.inr #[h3,h4]]
 | n+4,#[f,g,h1',h2']=>exact tup false #[f,g,h1',h2',λz=>nomatch z]
end
theorem zo {ks:Hj T}{c:Hs}(h:zm ks=gV c){x y:T}(hx:x∈ks)(hy:y∈ks) :
  GN c x y:=by
 have one:∀ {ty:Jf},ks.all (λk=>fG k==ty)=true->fG x=ty/\fG y=ty:=λha=>#[eq_of_beq (HS.mp ha x hx),eq_of_beq (HS.mp ha y hy)]
 have fst:∀ {ty:Jf},ks.all (λk=>(bu k).any λf=>fG f==ty)=true->∃f g,bu x=gV f/\bu y=gV g/\fG f=ty/\fG g=ty:=λ{ty} ha=>by
  have h1:=HS.mp ha x hx;have h2:=HS.mp ha y hy;cases e1:bu x with
  | none=>rw[e1]at h1; cases h1
  | some f=>
   cases e2:bu y with
   | none=>rw[e2]at h2; cases h2
   | some g=>
    rw[e1]at h1; rw[e2]at h2
    exact#[f,g,rfl,rfl,eq_of_beq (by simpa using h1),eq_of_beq (by simpa using h2)]
 unfold zm at h;split at h
 ·cases h; exact one (by assumption)
 ·split at h
  ·cases h; exact one (by assumption)
  ·split at h
   ·cases h; exact fst (by assumption)
   ·split at h
    ·cases h; exact fst (by assumption)
    ·split at h
     ·cases h;obtain⟨f,g,h1,h2,_⟩:=fst (by assumption)
      exact#[f,g,h1,h2]
     ·cases h
noncomputable def d3 (S:aa):W->Hr (Hj W)
 | .tup xs=>gV xs
 | .ref i=>match gP S i with
  | some xs=>gV xs
  | none=>(jt S i).map λkvs=>kvs.map λp=>p.1.w
 | _=>td
noncomputable def ey:Hs:=8
noncomputable def nq (ks:Hj T):HX:=decide (ks.length < 64)&&decide (T.depths ks<=ey)&&(decide (ks.length < 2)||((zm ks).isSome&&jT ks))
noncomputable def ik (xs:Hj W)(S:aa):Hr (W×aa):=match xs with
 | [x]=>match d3 S x with
  | some ws=>match W.ts ws with
   | some ks=>if nq ks then gV (.ref S.length,S++[.lst (eO (AO ks) .non ws)])else td
   | none=>td
  | none=>td
 | _=>td
noncomputable def lJ (xs:Hj W)(S:aa):Hr (W×aa):=match xs with
 | [.ref i]=>match jt S i with
  | some kvs=>gV (.ref S.length,S++[.lst (kvs.map λp=>p.1.w)])
  | none=>hX [.ref i] S
 | xs=>hX xs S
noncomputable def qg (xs:Hj W)(S:aa):Hr (W×aa):=match xs with
 | [.ref i]=>match jt S i with
  | some kvs=>gV (.int kvs.length,S)
  | none=>qa [.ref i] S
 | xs=>qa xs S
noncomputable def nr (ks:Hj T):Hs:=argBest (AO ks) (ks.length - 1)
noncomputable def zp (xs:Hj W)(S:aa):Hr (W×aa):=match xs with
 | [.ref i]=>match gP S i with
  | some ws=>match W.ts ws with
   | some ks=>if T.depths ks<=ey/\jT ks=true then(ws[nr ks]?).map λw=>(w,S)else td
   | none=>td
  | none=>td
 | _=>td
noncomputable def gS:Hj W->Hr (Hj HX)
 | []=>gV []
 | .bl b::ws=>(gS ws).map (b :: ·)
 | _::_=>td
noncomputable def B8 (xs:Hj W)(S:aa):Hr (W×aa):=match xs with
 | [.ref i]=>match gP S i with
  | some ws=>(gS ws).map λbs=>(.bl (bs.all id),S)
  | none=>td
 | _=>td
section
variable{X:Cx}{pins:Hj (Hw×Jr)}{σ:L2.St}{H:Hp}{s:Hq}{A:Hj Hw}{S:aa}
theorem RelL.pick {K:HD}{ws:Hj W}{vs:Hj V}(r:RelL K A H ws vs)(d:W)(d':V):∀(is:Hj Hs),(∀i∈is,i < ws.length)->RelL K A H (is.map λi=>ws.getD i d) (is.map λi=>vs.getD i d')
 | [],_=>.nil
 | i::is,h=>by
  have hi:=h i (.head _);obtain⟨v,h1,h2⟩:=r.get (HH hi);refine .cons ?_ (RelL.pick r d d' is λj hj=>h j (.tail _ hj))
  have e1:ws.getD i d=ws[i]:=by simp[hi]
  have e2:vs.getD i d'=v:=by simp[h1]
  show Rel K A H (ws.getD i d) (vs.getD i d');rw[e1,e2]; exact h2
theorem Vals.pick {vs:Hj V}{us:Hj Hm}(r:Vals vs us)(d:V)(d':Hm):∀(is:Hj Hs),(∀i∈is,i < vs.length)->Vals (is.map λi=>vs.getD i d) (is.map λi=>us.getD i d')
 | [],_=>.nil
 | i::is,h=>by
  have hi:=h i (.head _);obtain⟨v,h1,h2⟩:=L2.Vals.get r (HH hi);refine .cons ?_ (Vals.pick r d d' is λj hj=>h j (.tail _ hj))
  have e1:vs.getD i d=vs[i]:=by simp[hi]
  have e2:us.getD i d'=v:=by simp[h1]
  show L2.RelV (vs.getD i d) (us.getD i d');rw[e1,e2]; exact h2
theorem nu {n:Hs}{lt:Hs->Hs->HX}(hn:0 < n):∀i∈(nj lt (Oa n)).toList,i < n:=λi hi=>HL.mp ((nk (lt:=lt) (jA hn)).mem_iff.mp hi)
theorem vF {K:HD}{lt:Hs->Hs->HX}{ws:Hj W}{vs:Hj V}(r:RelL K A H ws vs):RelL K A H (eO lt .non ws) (eO lt .non vs):=by
 unfold eO;rw[r.length];split
 ·exact r
 ·exact r.pick _ _ _ λi hi=>by rw[r.length]; exact nu ∅ i hi
theorem tK {lt:Hs->Hs->HX}{vs:Hj V}{us:Hj Hm}(r:Vals vs us):Vals (eO lt .non vs) (eO lt .none us):=by
 unfold eO;rw[L2.Vals.length r];split
 ·exact r
 ·exact Vals.pick r _ _ _ λi hi=>by rw[L2.Vals.length r]; exact nu ∅ i hi
theorem oN {prog:Io}{w:IA}{B:Ix}{E:Hm->Hq->Prop}{l:Hw}{vs:Hj Hm}{Q:Hj Hm->Hq->Prop}(hl:NA s.heap l vs.toArray)(hsz:vs.length<=sizeLine)
  (h:∀h' tk,(∀b o,s.heap.get? b=gV o->h'.get? b=gV o)->s.heap.objs.size<=h'.objs.size->Q vs { s with heap:=h',toks:=tk }):wpAny (model prog w) B (collect (.ref l)) Q E s:=by
 obtain⟨o,ho,hc,n,hd⟩:=id hl;unfold collect;refine Hl (MR (Jy entry_proto_collect' ?_));show wpAny _ _ (do again (.builtin "list.__iadd__" #[[<- newList [],.ref l],[]])) _ _ s
 refine Hl (Nf (HB #[Code.quiet_builtin _ (by decide +kernel),Jy entry_list_iadd' ?_]))
 show wpAny _ _ (JZ (.ref s.heap.objs.size) (.ref l) (.ref s.heap.objs.size)) _ _ { s with heap:=s.heap.push (seqObj "list" #[] 0) }
 unfold JZ;have ho':(s.heap.push (seqObj "list" #[] 0)).get? l=gV o:=Hu _ ho;refine Hl (LC (T:="tuple") #[o,ho',hc] ?_);have ht:(KI "tuple" == KI "tuple")=true:=by rfl
 rw[HY (by rw[ht]; simp)]
 refine Hl (NT ho' hd ?_);refine Hl (NT (xs:=#[]) (n:=0) (HQ _ rfl) rfl ?_);rw[Iy (by simp)]
 refine Hl (L9 (xs:=#[]) (n:=0) (HQ _ rfl) rfl ?_ (JN _) (by show(#[]++vs.toArray).size<=sizeLine+1; simp only[Array.size_append,HK,Jw]; omega))
 refine HB ?_;show wpAny (model prog w) B (do
   let o <- load s.heap.objs.size
   match o.data with
   | .seq xs _=>pure xs.toList
   | _=>unsupported "internal:collect") Q E { s with heap:=(s.heap.push (seqObj "list" #[] 0)).update s.heap.objs.size (Jl (· ++ vs.toArray)) }
 refine Hl (Nm (MD (HQ _ rfl) _) ?_);show wpAny _ _ (pure ((#[]:IF Hm)++vs.toArray).toList) Q E _;rw[show((#[]:IF Hm)++vs.toArray).toList=vs by simp]
 refine HB (h _ s.toks (λb o' e=>(KU _ _ _ _ (Ip (HR e))).trans (Hu _ e)) ?_)
 rw[Ob,size_push'];exact KL _
theorem DicAt.raw {wd:IA}{a:Hw}{xs:Hj (T×Hw×Hm)}{h:IJ}(d:DicAt wd a xs h):∃es ep,RawD a es ep h/\es.toList=xs.map (ve wd):=
 let ⟨_,_,_,o,es,ep,h1,h2,h3,h4⟩:=d; #[es,ep,#[o,h1,h2,h3],h4]
theorem KRel.keysL {kvs:Hj (T×W)}{xs:Hj (T×Hw×Hm)}(r:KRel X.K A H kvs xs):RelL X.K A H (kvs.map λp=>p.1.w) (xs.map λq=>V.ref q.2.1):=by
 unfold KRel at r
 induction r with
 | nil=>exact .nil
 | cons h t ih=>exact .cons h.2.2.2.1 ih
theorem lK (xs:Hj (T×Hw×Hm)):Vals (xs.map λq=>V.ref q.2.1) (xs.map λq=>IE q.2.1):=by
 induction xs with
 | nil=>exact .nil
 | cons x xs ih=>exact .cons rfl ih
theorem jU {wd:IA}{es:IF JR}{xs:Hj (T×Hw×Hm)}(he:es.toList=xs.map (ve wd)){acc:IF Hm}(ha:Ms (λi v=>∃e,es[i]?=gV e/\e.key=v) acc es.size):acc.toList=xs.map λq=>IE q.2.1:=by
 have hl:es.size=xs.length:=by rw[<- Iw,he,Hk]
 apply Lq
 ·rw[Iw,ha.1,Hk,hl]
 ·intro i h1 h2;rw[Iw]at h1;obtain⟨e,q1,q2⟩:=ha.2 i acc[i] (by simp[h1])
  rw[<- Js,he,Ht]at q1;rw[Hk]at h2;rw[HH h2]at q1;simp only[Iv,IG]at q1;subst q1;rw[List.getElem_map,Array.getElem_toList];exact q2.symm
theorem tL {x:W}{a:V}{u:Hm}{ws:Hj W}(hh:X.A.handled=td)(I:Inv X pins σ H s)(so:StoreOk X.w X.K A H S)(rx:Rel X.K A H x a)(ru:RelV a u)(e:d3 S x=gV ws):∃vs us,RelL X.K A H ws vs/\Vals vs us/\us.length<=sizeLine/\
  ∀(B:Ix) (hB:B.handled=td) (E:Hm->Hq->Prop) (Q':Hj Hm->Hq->Prop),(∀h' tk,(∀b o,s.heap.get? b=gV o->h'.get? b=gV o)->s.heap.objs.size<=h'.objs.size->Q' us { s with heap:=h',toks:=tk })->wpAny (model X.prog X.w) B (collect u) Q' E s:=by
 cases rx with
 | tup h1 r1=>
  cases e;obtain⟨its,rv,ht,hz⟩:=I.tuple h1;obtain rfl:u=IE _:=ru;exact#[_,its,r1,rv,by rw[<- L2.Vals.length rv]; exact hz,λB hB E Q' h=>oN ht (by rw[<- L2.Vals.length rv]; exact hz) h]
 | ref ea=>
  simp only[d3]at e;split at e
  ·rename_i xs hx;cases e;obtain⟨vs,h1,r1⟩:=cH so hx ea;obtain⟨its,rv,p,hz⟩:=I.list h1;obtain rfl:u=IE _:=ru;refine#[_,its,r1,rv,by rw[<- L2.Vals.length rv]; exact hz,λB hB E Q' h=>collect_list p.isList (h _ s.toks (λb o' e=>(KU _ _ _ _ (Ip (HR e))).trans (Hu _ e)) ?_) (by rw[<- L2.Vals.length rv]; exact hz)]
   rw[Ob,size_push'];exact KL _
  ·rw[Ho]at e;obtain⟨kvs,hk,rfl⟩:=e;obtain⟨xs,rd,kr⟩:=fN so hk ea;have d:=cC I rd;obtain⟨es,ep,raw,he⟩:=d.raw;obtain rfl:u=IE _:=ru;have hl:es.size=xs.length:=by rw[<- Iw,he,Hk]
   refine#[_,_,kr.keysL,lK xs,by rw[Hk]; exact d.1,λB hB E Q' h=>oH (rH d.2.1) hB raw (by rw[hl]; exact d.1) λh' tk acc hk' hle ha=>?_]
   rw[jU he ha];exact h h' tk hk' hle
 | _=>cases e
theorem lL {h':IJ}{tk c:Hs}{D:Hw}{ws:Hj W}{vs:Hj V}{us:Hj Hm}(I:Inv X pins σ H s)(so:StoreOk X.w X.K A H S)(r:RelL X.K A H ws vs)(rv:Vals vs us)(hz:us.length<=sizeLine)(hk:∀b o,s.heap.get? b=gV o->h'.get? b=gV o)(hD:s.heap.objs.size<=D)
  (ho:h'.get? D=gV { cls:=.type "list",data:=.seq us.toArray c }):dF X pins σ A H (S++[.lst ws]) (.ref S.length) (.ref D) { s with heap:=h',toks:=tk }:=by
 have hn:H D=td:=I.hok.fresh hD;refine#[.ref D,_,A++[D],I.laid (a:=D) (o:=.lst vs) (t':=tk) hk hD #[by rw[L2.Vals.length rv]; exact hz,us,c,rv,ho],rfl,dZ hn,so.push hn r,.ref ?_]
 rw[<- so.len]; simp
theorem nv (hh:X.A.handled=td)(hu:X.A.units+12 < cLine):LCall X (.builtin "sorted") ik:=by
 intro pins s σ H A S xs vs us w S' I so rl rv e;cases rl with
 | nil=>cases e
 | cons r t=>
  cases t with
  | cons _ _=>cases e
  | nil=>
   cases rv with
   | cons ru rv2=>
    cases rv2;simp only[ik]at e;split at e
    ·rename_i ws hw;split at e
     ·rename_i ks hk;split at e
      ·rename_i hok;cases e;obtain⟨vs',us',r1,rv1,hz,hcol⟩:=tL hh I so r ru hw;simp only[nq,Hv,Ir]at hok;obtain⟨⟨h64,hd⟩,hok⟩:=hok;have hws:T.ws ks=ws:=W.ts_w hk;have hT:IsTs s.heap ks us':=gk I ks (hws ▸ r1) rv1;have hl:us'.length=ks.length:=hT.length.symm;have sk:2<=us'.length->(zm ks).isSome=true/\jT ks=true:=λh2=>by
        rcases JT _ _ ▸ hok with h|h
        ·simp only[Ir]at h; omega
        ·simpa using h
       refine tJ (vs:=us') (lt:=AO ks) (κ:=vD ((zm ks).getD 0)) ∅ (λQ' hQ'=>hcol X.A.in1 hh _ Q' hQ') (λh2 h' tk hk' Q hq=>?_) (λh2 h' tk hk' i j hi hj Q hq=>?_) λD h' tk c hk' hD ho=>?_
       ·obtain⟨q1,q2⟩:=sk h2;obtain⟨c,hc⟩:=IR.mp q1;rw[hc]at hq;exact B7 (s:={ s with heap:=h',toks:=tk }) (hT.kept λb o _ e=>hk' b o e) h2 hc hq
       ·obtain⟨q1,q2⟩:=sk h2;obtain⟨c,hc⟩:=IR.mp q1;rw[hc];have hi':i < ks.length:=∅
        have hj':j < ks.length:=∅
        have g:=(hT.kept (h':=h') λb o _ e=>hk' b o e)
        have e1:us'.getD i IM=us'[i]:=by simp[hi]
        have e2:us'.getD j IM=us'[j]:=by simp[hj]
        rw[e1,e2];have b1:=d0 (ks:=ks) i hi';have b2:=d0 (ks:=ks) j hj';exact zn (s:={ s with heap:=h',toks:=tk }) (d:=ey) (c:=c) (by rw[be,be]; unfold ey; omega) ∅ ∅ (g.get i hi' hi) (g.get j hj' hj) (vE q2 hi' hj') (zo hc (IT hi') (IT hj')) hq
       ·exact lL I so (vF r1) (tK rv1) (by rw[oK]; exact hz) hk' hD ho
      ·cases e
     ·cases e
    ·cases e
theorem oO (hh:X.A.handled=td):LCall X (.type "list") lJ:=by
 intro pins s σ H A S xs vs us w S' I so rl rv e
 by_cases hd:∃i kvs,xs=[.ref i]/\jt S i=gV kvs
 ·obtain⟨i,kvs,rfl,hk⟩:=hd;simp only[lJ,hk]at e;cases e;cases rl with
  | cons r t=>
   cases t;cases rv with
   | cons ru rv2=>
    cases rv2;cases r with
    | ref ea=>
     obtain⟨xs,rd,kr⟩:=fN so hk ea;have d:=cC I rd;obtain⟨es,ep,raw,he⟩:=d.raw;obtain rfl:_=IE _:=ru;have hl:es.size=xs.length:=by rw[<- Iw,he,Hk]
     refine PySem.W.kdl_call (rH d.2.1) hh raw (by rw[hl]; exact d.1) λh' tk acc' c' hk' hD ha=>?_
     have ea':=jU he ha;refine lL (us:=acc'.toList) I so kr.keysL (ea' ▸ lK xs) (by rw[ea',Hk]; exact d.1) hk' (HC _) (c:=c') ?_
     simpa using hD
 ·have:lJ xs S=hX xs S:=by
   unfold lJ;split
   ·rename_i i;split
    ·rename_i kvs hk;exact absurd #[i,kvs,rfl,hk] hd
    ·rfl
   ·rfl
  rw[this]at e;exact gR pins s σ H A S xs vs us w S' I so rl rv e
end
open PySem.W (KasT kas_sort kas_asc kas_desc kas_tail3 kas_descPart kas_count kas_place kas_bin kas_rev)
noncomputable def gt (p:IF Hs)(i:Hs):Hs:=p.getD i 0
end Mi
namespace Mi
open PySem PySem.Spec PyProof.Rows L2
theorem vG {α:Type}{lt:Hs->Hs->HX}{d:α}{xs:Hj α}:(eO lt d xs).Perm xs:=by
 unfold eO;split
 ·exact .refl _
 ·have p:Pm xs.length (nj lt (Oa xs.length)):=nk (jA ∅)
  refine(Qd _ p).trans ?_;have:(HJ xs.length).map (λi=>xs.getD i d)=xs:=by
   apply Lq
   ·simp
   ·intro k h1 h2; simp[h2]
  rw[this]
noncomputable def jV (xs:Hj W)(S:aa):Hr (W×aa):=match xs with
 | [.ref i]=>match zf S i with
  | some (lo,hi)=>if -(2 ^ 62)<=lo/\lo < 2 ^ 62/\-(2 ^ 62)<=hi/\hi < 2 ^ 62/\(hi - lo).toNat<=sizeLine then gV (.tup (DZ lo (hi - lo).toNat),S)else td
  | none=>jO [.ref i] S
 | xs=>jO xs S
section
variable{prog:Io}{w:IA}{A:Ix}{E:Hm->Hq->Prop}{s:Hq}
theorem kZ {Q:Hj Hm->Hq->Prop}{r:Hw}{a b c:Hy}{t u v:Qg}{n:Hs}(hh:A.handled=td)(hr:P2 s.heap r a b c t u v)(hsmall:LA a b c=true)
  (hn:JB a b c=n) (hlen:n<=2 ^ 24)
  (hQ:∀h' tk (acc:IF Hm),(∀b o,s.heap.get? b=gV o->h'.get? b=gV o)->s.heap.objs.size<=h'.objs.size->Ms (λi v=>∃t,v=.int (a+i*c) t) acc n->Q acc.toList { s with heap:=h',toks:=tk }):wpAny (model prog w) A (collect (.ref r)) Q E s:=by
 unfold collect;refine Hl (MR (Jy F.entry_proto_collect ?_));rw[Jm F.plain_proto_collect _];show wpAny _ A.in1 (newList [] >>= λl=>again (.builtin "list.__iadd__" #[[l,.ref r],[]])) _ _ s
 refine Hl (IK ?_);refine HB #[Kz F.plain_list_iadd _,Jy F.entry_list_iadd ?_];rw[Jm F.plain_list_iadd _];show wpAny _ A.in1 (JZ (.ref s.heap.objs.size) (.ref r) (.ref s.heap.objs.size)) _ _ _;have hS:(s.heap.push { cls:=.type "list",data:=.seq ([]:Hj Hm).toArray }).get? s.heap.objs.size=gV { cls:=.type "list",data:=.seq #[] 0 }:=HQ _ rfl;have fin':∀s',(∃h' tk acc c',s'={ s with heap:=h',toks:=tk }/\(∀b o,s.heap.get? b=gV o->h'.get? b=gV o)/\h'.get? s.heap.objs.size=gV { cls:=.type "list",dict:=td,data:=.seq acc c',slots:=#[] }/\Ms (λi v=>∃t,v=.int (a+i*c) t) acc n)->wpAny (model prog w) A (do
   let o <- load s.heap.objs.size
   match o.data with
   | .seq xs _=>pure xs.toList
   | _=>unsupported "internal:collect") Q E s':=by
  rintro s' ⟨h',tk,acc,c',rfl,hk,hS',hacc⟩;exact Hl (Nm hS' (HB (hQ h' tk acc hk (Ld (HR hS')) hacc)))
 refine JA (wpAny_extend_range (A:=A) (s:={ s with heap:=s.heap.push { cls:=.type "list",data:=.seq ([]:Hj Hm).toArray } }) (R:=λr s'=>r=.ok (.ret (.ref s.heap.objs.size))/\∃h' tk acc c',s'={ s with heap:=h',toks:=tk }/\(∀b o,s.heap.get? b=gV o->h'.get? b=gV o)/\h'.get? s.heap.objs.size=gV { cls:=.type "list",dict:=td,data:=.seq acc c',slots:=#[] }/\Ms (λi v=>∃t,v=.int (a+i*c) t) acc n) hh (Hu _ hr) hsmall hn hlen _ _ 0 hS λh' tk acc' c' hk hS' hacc=>#[rfl,h',tk,acc',c',rfl,λb o e=>hk b o (Ip (HR e)) (Hu _ e),hS',hacc]) (λfin s' h=>?_) (λe s' h=>?_)
 ·cases fin with
  | done f=>
   obtain⟨e,h⟩:=h;cases e;exact fin' s' h
  | again c'=>exact#[h.1,Mn h.2 λr s'' hr=>by obtain⟨rfl,hr⟩:=hr; exact fin' s'' hr]
 ·exact absurd h.1 (by simp)
theorem iT {Q₁:Hm->Hq->Prop}{r:Hw}{a b c:Hy}{t u v:Qg}{n:Hs}(hh:A.handled=td)(hr:P2 s.heap r a b c t u v)(hsmall:LA a b c=true)
  (hn:JB a b c=n) (hlen:n<=2 ^ 24)
  (h:∀(h':IJ) (tk:Hs) (acc:IF Hm),(∀b o,s.heap.get? b=gV o->h'.get? b=gV o)->s.heap.objs.size<=h'.objs.size->Ms (λi v=>∃t,v=.int (a+i*c) t) acc n->Q₁ (.ref h'.objs.size) { s with heap:=h'.push { cls:=.type "tuple",data:=.seq acc },toks:=tk }) :
  codeAny (model prog w) A (.call (.builtin "tuple.__new__") #[[.type "tuple",.ref r],[]]) (wants Q₁ E) s:=by
 refine codeAny_of_tree ?_;show wpAny _ A.in1 (do checkBuiltinCall "tuple.__new__" #[[.type "tuple",.ref r],[]]; again (.builtin "tuple.__new__" #[[.type "tuple",.ref r],[]])) _ _ s
 refine Hl (MO (F.newCall_tuple_1 _) (HB #[Kz F.plain_tuple_new _,Jy F.entry_tuple_new ?_]));rw[Jm F.plain_tuple_new _];have hsub:=PySem.sub_tuple_self;have hinit:=PySem.init_tuple_lookup;have hmh:=PySem.madeHere_tuple;have hTI:s.TypeIs (.ref r) "range":=#[_,hr,rfl];have hh1:A.in1.handled=td:=by simp[hh]
 wp_walk using LC hTI,kZ (A:=A.in1) hh1 hr hsmall hn hlen
 intro h' tk acc hk hle hacc;show wpAny _ _ (Ju acc.toList.toArray >>= λv=>ret v) _ _ _
 unfold Ju;refine Hl (IK ?_ (by show acc.toList.toArray.size<=sizeLine; simp only[Array.toArray_toList]; rw[hacc.1,IN]; omega))
 refine HB ?_;have e:acc.toList.toArray=acc:=by simp
 rw[e];exact h h' tk acc hk hle hacc
theorem iU {Q:Hm->Hq->Prop}{r:Hw}{a b c:Hy}{t u v:Qg}{n:Hs}(hh:A.handled=td)(hr:P2 s.heap r a b c t u v)(hsmall:LA a b c=true)
  (hn:JB a b c=n) (hlen:n<=2 ^ 24)
  (hQ:∀(h':IJ) (tk:Hs) (acc:IF Hm),(∀b o,s.heap.get? b=gV o->h'.get? b=gV o)->s.heap.objs.size<=h'.objs.size->Ms (λi v=>∃t,v=.int (a+i*c) t) acc n->Q (.ref h'.objs.size) { s with heap:=h'.push { cls:=.type "tuple",data:=.seq acc },toks:=tk }) :
  wpAny (model prog w) A (call (.type "tuple") [.ref r]) Q E s:=by
 refine callType_codes (Q₁:=λobj s₁=>s₁.TypeIs obj "tuple"/\Q obj s₁) F.called_tuple (F.typeCall_tuple_1 _) F.entry_object_init
  (iT (by simp[hh]) hr hsmall hn hlen λh' tk acc hk hle hacc=>#[#[_,HQ _ rfl,rfl],hQ h' tk acc hk hle hacc]) λobj s₁ h₁=>?_
 exact#[h₁.1,F.args_object_init_2 obj _,object_init_meets F.called_tuple.init.lookup F.called_tuple.made #v[] prog w A.in1 _ s₁ #[h₁.1,rfl,h₁.2]]
end
section
variable{X:Cx}{pins:Hj (Hw×Jr)}{σ:L2.St}{H:Hp}{s:Hq}{A:Hj Hw}{S:aa}
theorem nw (hh:X.A.handled=td):LCall X (.type "tuple") jV:=by
 intro pins s σ H A S xs vs us w S' I so rl rv e;unfold jV at e;split at e
 ·rename_i i;split at e
  ·rename_i lo hi hr;split at e
   ·rename_i hb;cases e;obtain⟨a,ea,rfl⟩:=rC (xs:=[]) rl rv;obtain⟨b1,b2,b3,b4,b5⟩:=hb;have hH:H a=gV (.rng lo hi):=by
     unfold zf at hr;split at hr
     ·rename_i hx; cases hr; exact so.obj i _ a hx ea
     ·cases hr
    obtain⟨t,u,v,ho⟩:=I.hok a _ hH;have hn:JB lo hi 1=((hi - lo).toNat:Hs):=by rw[M9]; split <;> omega
    refine iU hh ho (Pc b1 b2 b3 b4) hn b5 λh' tk acc hk hle hacc=>?_
    have hv:Vals ((HJ (hi - lo).toNat).map λ(k:Hs)=>V.int (lo+(k:Hy))) acc.toList:=by
     refine mW (by rw[Hk,Ii,Iw,hacc.1]) λi v u e1 e2=>?_
     rw[Ht,Ho]at e1;obtain⟨k,e1,rfl⟩:=e1;obtain⟨hk,rfl⟩:=HG.mp e1;obtain⟨t,rfl⟩:=hacc.2 i u (by rw[<- Js]; exact e2)
     exact#[t,by simp]
    have hnn:H h'.objs.size=td:=I.hok.fresh hle;refine#[.ref h'.objs.size,_,A,I.laid (a:=h'.objs.size) (o:=.tup ((HJ (hi - lo).toNat).map λ(k:Hs)=>V.int (lo+(k:Hy)))) (t':=tk) (λb o e=>Hu _ (hk b o e)) hle #[#[by simpa using b5,NoD.new _ _ _],acc.toList,hv,?_],rfl,dm (.inl hnn),so.lay hnn,.tup (.inl (.inl aZ)) (mX _)]
    exact#[_,HQ _ rfl,rfl,0,by simp]
   ·cases e
  ·exact jg pins s σ H A S _ vs us w S' I so rl rv e
 ·exact jg pins s σ H A S _ vs us w S' I so rl rv e
end
section
variable{X:Cx}{pins:Hj (Hw×Jr)}{σ:L2.St}{H:Hp}{s:Hq}{A:Hj Hw}{S:aa}
theorem tM (hh:X.A.handled=td)(hu:X.A.units+12 < cLine):LCall X (.builtin "min") zp:=by
 intro pins s σ H A S xs vs us w S' I so rl rv e;cases rl with
 | nil=>cases e
 | cons r t=>
  cases t with
  | cons _ _=>cases r <;> cases e
  | nil=>
   cases rv with
   | cons ru rv2=>
    cases rv2;cases r with
    | ref ea=>
     simp only[zp]at e;split at e
     ·rename_i ws hw;split at e
      ·rename_i ks hk;split at e
       ·rename_i hc;rw[Ho]at e;obtain⟨w',e1,e2⟩:=e;cases e2;obtain⟨vs',h1,r1⟩:=cH so hw ea;obtain⟨its,rv1,p,hz⟩:=I.list h1;obtain rfl:_=IE _:=ru;have hws:T.ws ks=ws:=W.ts_w hk;have hT:IsTs s.heap ks its:=gk I ks (hws ▸ r1) rv1;have hl:its.length=ks.length:=hT.length.symm;have hlw:ws.length=ks.length:=by rw[r1.length,L2.Vals.length rv1,hl]
        have hn:0 < ks.length:=by
         have:=(HG.mp e1).1;omega
        refine vA (items:=its.toArray) (bt:=AO ks) hh p.isList (by simpa [hl]using hn) (λi j vi vj s' Q E hk' hi hj hq=>?_) λv h' tk hv hk'=>?_
        ·have hi':i < ks.length:=by
          have:=(J5.mp hi).1
          simpa [hl]using this
         have hj':j < ks.length:=by
          have:=(J5.mp hj).1
          simpa [hl]using this
         have g:=hT.kept (h':=s'.heap) λb o _ e=>hk' b o e
         have e1:vi=its[i]'∅:=by
          have:=(J5.mp hi).2
          simpa using this.symm
         have e2:vj=its[j]'∅:=by
          have:=(J5.mp hj).2
          simpa using this.symm
         subst e1 e2;have b1:=d0 (ks:=ks) i hi';have b2:=d0 (ks:=ks) j hj';exact D2 ey _ _ _ _ X.A.in1 s' _ ∅ ∅ (g.get i hi' ∅) (g.get j hj' ∅) (by rw[be]; unfold ey; omega) (vE hc.2 hi' hj') X.prog X.w _ _ hq
        ·have hv':its[nr ks]?=gV v:=by
          have:its.toArray.size=ks.length:=by simpa using hl
          rw[this]at hv
          simpa [nr]using hv
         obtain⟨v',q1,q2⟩:=r1.get e1;obtain⟨u',q3,q4⟩:=L2.Vals.get rv1 q1;rw[hv']at q3;cases q3;exact#[v',H,A,I.kept hk',q4,.refl,so,q2]
       ·cases e
      ·cases e
     ·cases e
    | _=>cases e
theorem lM:∀ {ws:Hj W} {bs:Hj HX},gS ws=gV bs->ws=bs.map W.bl
 | [],bs,h=>by cases h; rfl
 | .bl b::ws,bs,h=>by
  simp only[gS,Ho]at h;obtain⟨r,h1,h2⟩:=h;subst h2;rw[lM h1]; rfl
 | .non::_,_,h|.int _::_,_,h|.str _::_,_,h|.tup _::_,_,h|.ref _::_,_,h=>by cases h
theorem qh {bs:Hj HX}{vs:Hj V}{us:Hj Hm}(r:RelL X.K A H (bs.map W.bl) vs)(rv:Vals vs us):us=bs.map JS:=by
 induction bs generalizing vs us with
 | nil=>cases r; cases rv; rfl
 | cons b bs ih=>
  cases r with
  | cons r1 r2=>
   cases rv with
   | cons v1 v2=>
    cases r1;obtain rfl:_=JS b:=v1;rw[ih r2 v2]; rfl
theorem tN (bs:Hj HX):(HJ bs.length).all (λi=>bs.getD i false)=bs.all id:=by
 induction bs with
 | nil=>rfl
 | cons b bs ih=>simp[Mp,Pi,L0]at ih ⊢; rw[ih]
theorem B9 {id:Jf}{fb:Hj HX->HX}{g:Hj W->aa->Hr (W×aa)}(hg:∀xs S,g xs S=match xs with|[.ref i]=>(match gP S i with|some ws=>(gS ws).map λbs=>(.bl (fb bs),S)|none=>td)|_=>td)
  (hcall:∀ {s:Hq} {x:Hm} {Q:Hm->Hq->Prop} {E:Hm->Hq->Prop} {bs:Hj HX},wpAny (model X.prog X.w) X.A.in1 (pyIter x) (λit s₂=>∃I fp wr P St,it=.ref I/\Qb X.prog X.w X.A.in1 I fp wr bs.length P St/\St 0 s₂.heap/\TruthOf X.prog X.w X.A.in1 P (λi=>bs.getD i false)/\
   ∀h' tk,(∀b o,b∉wr->s₂.heap.get? b=gV o->h'.get? b=gV o)->Q (.bool (fb bs)) { s₂ with heap:=h',toks:=tk }) E s->wpAny (model X.prog X.w) X.A (call (.builtin id) [x]) Q E s)
  (hh:X.A.handled=td):LCall X (.builtin id) g:=by
 intro pins s σ H A S xs vs us w S' I so rl rv e;rw[hg]at e;cases rl with
 | nil=>cases e
 | cons r t=>
  cases t with
  | cons _ _=>cases r <;> cases e
  | nil=>
   cases rv with
   | cons ru rv2=>
    cases rv2;cases r with
    | @ref ri ad ea=>
     simp only at e;split at e
     ·rename_i ws hw;rw[Ho]at e;obtain⟨bs,e1,e2⟩:=e;cases e2;obtain⟨vs',h1,r1⟩:=cH so hw ea;obtain⟨its,rv1,p,hz⟩:=I.list h1;obtain rfl:_=IE _:=ru;rw[lM e1]at r1;have hits:=qh r1 rv1;refine hcall (bs:=bs) ?_;refine LZ p.isList ?_;have hlt:ad < s.heap.objs.size:=by obtain⟨_,ho,_⟩:=p.isList; exact HR ho
      have W:=PQ (prog:=X.prog) (w:=X.w) (A:=X.A.in1) hh s.heap.objs.size ad (Ip hlt) its.toArray;have hsz:its.toArray.size=bs.length:=by rw[HK,hits,Hk]
      rw[hsz]at W;refine#[_,_,_,_,_,rfl,W,#[#[_,HQ _ rfl,rfl,rfl],?_],λi v s' Q E hi hq=>?_,λh' tk hk=>?_]
      ·obtain⟨o,ho,hc⟩:=p.isList;exact#[o,Hu _ ho,hc]
      ·have hb:bs[i]?.map JS=gV v:=by rw[<- Ht,<- hits]; simpa using hi
       cases q:bs[i]? with
       | none=>rw[q]at hb; cases hb
       | some b=>
        rw[q]at hb;cases hb;have eb:bs.getD i false=b:=by simp[q]
        have hq:Q (bs.getD i false) s':=hq;rw[eb]at hq;exact Jj hq
      ·refine#[.bl (fb bs),H,A,I.kept (λb o e=>hk b o (λz=>?_) (Hu _ e)),rfl,.refl,so,.bl]
       have hb:=HR e;rw[HE.mp z]at hb;exact Ja _ hb
     ·cases e
    | _=>cases e
theorem tP (hh:X.A.handled=td):LCall X (.builtin "all") B8:=
 B9 (fb:=λbs=>bs.all id) (λxs S=>rfl) (λ{s x Q E bs} h=>call_all_walk (JA h (λit s₂ #[I,fp,wr,P,St',a,b,c,d,f]=>#[I,fp,wr,_,P,St',_,a,b,c,d,λh' tk hk=>by rw[tN]; exact f h' tk hk]) λ_ _ e=>e)) hh
end
noncomputable abbrev FA:=Fm->aa->Hr (Hj W×aa)
noncomputable abbrev FT:=Fm->aa->Hr (HX×aa)
inductive Out where
 | nx (ρ:Fm)|rt (w:W)|bk (ρ:Fm)|ct (ρ:Fm)
noncomputable abbrev FS:=Fm->aa->Hr (Out×aa)
section
variable (X:Cx)
noncomputable def tE (f:FE):TE:=λσ H Q=>∃A ρ S w S',EnvRel X.K A H ρ σ/\StoreOk X.w X.K A H S/\f ρ S=gV (w,S')/\∀v H',EndV X.w X.K A H S' w v H'->Q v H'
noncomputable def EndB (A:Hj Hw)(H:Hp)(S':aa)(k:HX):HX->Hp->Prop:=λb H'=>b=k/\∃A',Ext X.K A H A' H'/\StoreOk X.w X.K A' H' S'
noncomputable def tT (f:FT):TT:=λσ H Q=>∃A ρ S k S',EnvRel X.K A H ρ σ/\StoreOk X.w X.K A H S/\f ρ S=gV (k,S')/\∀b H',EndB X A H S' k b H'->Q b H'
noncomputable def Cb (A:Hj Hw)(H:Hp)(S':aa)(ws:Hj W):Hj V->Hp->Prop:=λvs H'=>∃A',Ext X.K A H A' H'/\StoreOk X.w X.K A' H' S'/\RelL X.K A' H' ws vs
noncomputable def tA (f:FA):TA:=λσ H Q=>∃A ρ S ws S',EnvRel X.K A H ρ σ/\StoreOk X.w X.K A H S/\f ρ S=gV (ws,S')/\∀vs H',Cb X A H S' ws vs H'->Q vs H'
noncomputable def EndS (A:Hj Hw)(H:Hp)(o:Out)(S':aa):Ends where
 nx:=λσ' H'=>∃ρ' A',o=.nx ρ'/\Ext X.K A H A' H'/\StoreOk X.w X.K A' H' S'/\EnvRel X.K A' H' ρ' σ'
 rt:=λv H'=>∃w A',o=.rt w/\Ext X.K A H A' H'/\StoreOk X.w X.K A' H' S'/\Rel X.K A' H' w v
 bk:=λσ' H'=>∃ρ' A',o=.bk ρ'/\Ext X.K A H A' H'/\StoreOk X.w X.K A' H' S'/\EnvRel X.K A' H' ρ' σ'
 ct:=λσ' H'=>∃ρ' A',o=.ct ρ'/\Ext X.K A H A' H'/\StoreOk X.w X.K A' H' S'/\EnvRel X.K A' H' ρ' σ'
structure Imp (E D:Ends):Prop where
 nx:∀σ H,E.nx σ H->D.nx σ H
 rt:∀v H,E.rt v H->D.rt v H
 bk:∀σ H,E.bk σ H->D.bk σ H
 ct:∀σ H,E.ct σ H->D.ct σ H
noncomputable def tS (f:FS):TS:=λD σ H=>∃A ρ S o S',EnvRel X.K A H ρ σ/\StoreOk X.w X.K A H S/\f ρ S=gV (o,S')/\Imp (EndS X A H o S') D
noncomputable abbrev GE (e:HW)(f:FE):Prop:=PE X e (tE X f)
noncomputable abbrev GT (e:HW)(f:FT):Prop:=PT X e (tT X f)
noncomputable abbrev GW (e:HW)(f:FT):Prop:=PW X e (tT X f)
noncomputable abbrev GA (es:Hj HW)(f:FA):Prop:=PA X es (tA X f)
noncomputable abbrev GS (st:Kn)(f:FS):Prop:=PS X st (tS X f)
noncomputable abbrev GSs (sts:Hj Kn)(f:FS):Prop:=PSs X sts (tS X f)
end
theorem Imp.trans {E D F:Ends}(a:Imp E D)(b:Imp D F):Imp E F:=#[λ_ _ h=>b.nx _ _ (a.nx _ _ h),λ_ _ h=>b.rt _ _ (a.rt _ _ h),λ_ _ h=>b.bk _ _ (a.bk _ _ h),λ_ _ h=>b.ct _ _ (a.ct _ _ h)]
section
variable{X:Cx}
theorem GE.of {e:HW}{t:TE}{f:FE}(h:PE X e t)(hf:∀(σ:L2.St) (H:Hp) (A:Hj Hw) (ρ:Fm) (S:aa) (w:W) (S':aa),EnvRel X.K A H ρ σ->StoreOk X.w X.K A H S->f ρ S=gV (w,S')->∀Q:VK,(∀v H',EndV X.w X.K A H S' w v H'->Q v H')->t σ H Q):GE X e f:=
 λpins s σ H Q I #[A,ρ,S,w,S',er,so,e1,hq]=>h pins s σ H Q I (hf σ H A ρ S w S' er so e1 Q hq)
theorem GT.of {e:HW}{t:TT}{f:FT}(h:PT X e t)(hf:∀(σ:L2.St) (H:Hp) (A:Hj Hw) (ρ:Fm) (S:aa) (k:HX) (S':aa),EnvRel X.K A H ρ σ->StoreOk X.w X.K A H S->f ρ S=gV (k,S')->∀Q:HX->Hp->Prop,(∀b H',EndB X A H S' k b H'->Q b H')->t σ H Q):GT X e f:=
 λpins s σ H Q I #[A,ρ,S,w,S',er,so,e1,hq]=>h pins s σ H Q I (hf σ H A ρ S w S' er so e1 Q hq)
theorem GW.of {e:HW}{t:TT}{f:FT}(h:PW X e t)(hf:∀(σ:L2.St) (H:Hp) (A:Hj Hw) (ρ:Fm) (S:aa) (k:HX) (S':aa),EnvRel X.K A H ρ σ->StoreOk X.w X.K A H S->f ρ S=gV (k,S')->∀Q:HX->Hp->Prop,(∀b H',EndB X A H S' k b H'->Q b H')->t σ H Q):GW X e f:=
 λwh pins s σ H Q I #[A,ρ,S,w,S',er,so,e1,hq]=>h wh pins s σ H Q I (hf σ H A ρ S w S' er so e1 Q hq)
theorem GA.of {es:Hj HW}{t:TA}{f:FA}(h:PA X es t)(hf:∀(σ:L2.St) (H:Hp) (A:Hj Hw) (ρ:Fm) (S:aa) (ws:Hj W) (S':aa),EnvRel X.K A H ρ σ->StoreOk X.w X.K A H S->f ρ S=gV (ws,S')->∀Q:Hj V->Hp->Prop,(∀vs H',Cb X A H S' ws vs H'->Q vs H')->t σ H Q):GA X es f:=
 λpos pins s σ H Q I #[A,ρ,S,w,S',er,so,e1,hq]=>h pos pins s σ H Q I (hf σ H A ρ S w S' er so e1 Q hq)
theorem GS.of {st:Kn}{t:TS}{f:FS}(h:PS X st t)(hf:∀(σ:L2.St) (H:Hp) (A:Hj Hw) (ρ:Fm) (S:aa) (o:Out) (S':aa),EnvRel X.K A H ρ σ->StoreOk X.w X.K A H S->f ρ S=gV (o,S')->∀D:Ends,Imp (EndS X A H o S') D->t D σ H):GS X st f:=
 λpins s σ H D I #[A,ρ,S,o,S',er,so,e1,hq]=>h pins s σ H D I (hf σ H A ρ S o S' er so e1 D hq)
theorem GSs.of {st:Hj Kn}{t:TS}{f:FS}(h:PSs X st t)(hf:∀(σ:L2.St) (H:Hp) (A:Hj Hw) (ρ:Fm) (S:aa) (o:Out) (S':aa),EnvRel X.K A H ρ σ->StoreOk X.w X.K A H S->f ρ S=gV (o,S')->∀D:Ends,Imp (EndS X A H o S') D->t D σ H):GSs X st f:=
 λpins s σ H D I #[A,ρ,S,o,S',er,so,e1,hq]=>h pins s σ H D I (hf σ H A ρ S o S' er so e1 D hq)
theorem EndV.after {A A1:Hj Hw}{H H1:Hp}{S':aa}{w:W}{v:V}{H':Hp}(e:Ext X.K A H A1 H1)(h:EndV X.w X.K A1 H1 S' w v H'):EndV X.w X.K A H S' w v H':=by
 obtain⟨A',x,y,z⟩:=h;exact#[A',e.trans x,y,z]
theorem EndB.after {A A1:Hj Hw}{H H1:Hp}{S':aa}{k b:HX}{H':Hp}(e:Ext X.K A H A1 H1)(h:EndB X A1 H1 S' k b H'):EndB X A H S' k b H':=by
 obtain⟨h1,A',x,y⟩:=h;exact#[h1,A',e.trans x,y]
theorem EndS.after {A A1:Hj Hw}{H H1:Hp}{S':aa}{o:Out}(e:Ext X.K A H A1 H1):Imp (EndS X A1 H1 o S') (EndS X A H o S'):=
 #[λ_ _ #[ρ',A',a,b,c,d]=>#[ρ',A',a,e.trans b,c,d],λ_ _ #[ρ',A',a,b,c,d]=>#[ρ',A',a,e.trans b,c,d],λ_ _ #[ρ',A',a,b,c,d]=>#[ρ',A',a,e.trans b,c,d],λ_ _ #[ρ',A',a,b,c,d]=>#[ρ',A',a,e.trans b,c,d]]
noncomputable def fC (w:W):FE:=λ_ S=>gV (w,S)
noncomputable def fV (i:Hs):FE:=λρ S=>match ρ[i]? with
 | some (gV w)=>gV (w,S)
 | _=>td
theorem oP {e:HW}{v:V}{w:W}(h:PE X e (tC v))(r:∀A H,Rel X.K A H w v):GE X e (fC w):=
 GE.of h λσ H A ρ S w' S' er so e Q hq=>by cases e; exact hq _ _ (.here so (r A H))
theorem Ga {i:Hs}{e:HW}(h:PE X e (Ds i)):GE X e (fV i):=GE.of h λσ H A ρ S w S' er so e Q hq=>by
 unfold fV at e;split at e
 ·rename_i w' hw;cases e;obtain⟨v,h1,h2⟩:=er.2 i _ hw;exact#[v,h1,hq _ _ (.here so h2)]
 ·cases e
noncomputable def zq (g:W->W->aa->Hr (W×aa))(fa fb:FE):FE:=λρ S=>match fa ρ S with
 | some (x,S1)=>match fb ρ S1 with
  | some (y,S2)=>g x y S2
  | none=>td
 | none=>td
theorem Fk {fa fb:FE}{g:W->W->aa->Hr (W×aa)}{ρ:Fm}{S:aa}{r:W×aa}(e:zq g fa fb ρ S=gV r):∃x S1 y S2,fa ρ S=gV (x,S1)/\fb ρ S1=gV (y,S2)/\g x y S2=gV r:=by
 unfold zq at e;split at e
 ·rename_i x S1 h1;split at e
  ·rename_i y S2 h2;exact#[x,S1,y,S2,h1,h2,e]
  ·cases e
 ·cases e
theorem fO {fa fb:FE}{ρ:Fm}{S S1 S2:aa}{x y:W}{σ:L2.St}{H:Hp}{A:Hj Hw}{R:V->V->Hp->Prop}(er:EnvRel X.K A H ρ σ)(so:StoreOk X.w X.K A H S)(h1:fa ρ S=gV (x,S1))(h2:fb ρ S1=gV (y,S2))
  (h:∀a b H2 A2,Ext X.K A H A2 H2->StoreOk X.w X.K A2 H2 S2->Rel X.K A2 H2 x a->Rel X.K A2 H2 y b->R a b H2):tE X fa σ H λa H1=>tE X fb σ H1 λb H2=>R a b H2:=by
 refine#[A,ρ,S,x,S1,er,so,h1,λa H1 #[A1,e1,o1,r1]=>?_]
 refine#[A1,ρ,S1,y,S2,er.mono e1,o1,h2,λb H2 #[A2,e2,o2,r2]=>?_]
 exact h a b H2 A2 (e1.trans e2) o2 (r1.mono e2) r2
theorem LOp.opr {f:Hm->Hm->Pn Hm}{g:W->W->aa->Hr (W×aa)}(h:LOp X f g):OpR X f (λa b H Q=>∃A S x y w S',StoreOk X.w X.K A H S/\Rel X.K A H x a/\Rel X.K A H y b/\g x y S=gV (w,S')/\∀v H',EndV X.w X.K A H S' w v H'->Q v H'):=by
 intro pins s σ H a b u v Q I ru rv ⟨A,S,x,y,w,S',so,rx,ry,e,hq⟩;exact bo (h pins s σ H A S x y a b u v w S' I so rx ru ry rv e) λu' s' #[v',H',A',I',r',e1,o1,z1]=>#[v',H',I',r',hq v' H' #[A',e1,o1,z1]]
theorem AQ {a b:HW}{op:NE}{pos:J2}{fa fb:FE}{g:W->W->aa->Hr (W×aa)}(ho:LOp X (binaryOp op) g)(ha:GE X a fa)(hb:GE X b fb):GE X (.BinOp a op b pos) (zq g fa fb):=
 GE.of (DI ho.opr ha hb) λσ H A ρ S w S' er so e Q hq=>by
  obtain⟨x,S1,y,S2,h1,h2,h3⟩:=Fk e;exact fO er so h1 h2 λa b H2 A2 e2 o2 r1 r2=>#[A2,S2,x,y,w,S',o2,r1,r2,h3,λv H' z=>hq v H' (z.after e2)]
noncomputable def vH (fa:FE):FE:=λρ S=>match fa ρ S with
 | some (.int i,S1)=>gV (.int (-i),S1)
 | _=>td
theorem vI {a:HW}{pos:J2}{fa:FE}(ha:GE X a fa):GE X (.UnaryOp .USub a pos) (vH fa):=
 GE.of (DJ BR ha) λσ H A ρ S w S' er so e Q hq=>by
  unfold vH at e;split at e
  ·rename_i i S1 h1;cases e;refine#[A,ρ,S,_,_,er,so,h1,λv H1 #[A1,e1,o1,r1]=>?_]
   cases r1;exact#[_,rfl,hq _ _ #[A1,e1,o1,.int]]
  ·cases e
noncomputable def zr (o:COp)(fa fb:FE):FE:=zq (aK o) fa fb
theorem Cc {a b:HW}{o:COp}{pos:J2}{fa fb:FE}(hu:X.A.units+fM < cLine)(ha:GE X a fa)(hb:GE X b fb)(hm:behindInMarks o.py b=false):GE X (.Compare a [o.py] [b] pos) (zr o fa fb):=
 GE.of (yE (oE hu o).opr ha hb hm) λσ H A ρ S w S' er so e Q hq=>by
  obtain⟨x,S1,y,S2,h1,h2,h3⟩:=Fk e;exact fO er so h1 h2 λa b H2 A2 e2 o2 r1 r2=>#[A2,S2,x,y,w,S',o2,r1,r2,h3,λv H' z=>hq v H' (z.after e2)]
noncomputable def oQ (f:FE):FT:=λρ S=>match f ρ S with
 | some (.bl k,S')=>gV (k,S')
 | _=>td
theorem Cd {a b:HW}{o:COp}{pos:J2}{fa fb:FE}(hu:X.A.units+fM < cLine)(ha:GE X a fa)(hb:GE X b fb)(hm:behindInMarks o.py b=false):GT X (.Compare a [o.py] [b] pos) (oQ (zr o fa fb)):=
 GT.of (yF (oE hu o).opr ha hb hm) λσ H A ρ S k S' er so e Q hq=>by
  unfold oQ at e;split at e
  ·rename_i k' S'' h0;cases e;obtain⟨x,S1,y,S2,h1,h2,h3⟩:=Fk h0;refine fO er so h1 h2 λa b H2 A2 e2 o2 r1 r2=>#[A2,S2,x,y,_,_,o2,r1,r2,h3,λv H' #[A',z1,z2,z3]=>?_]
   cases z3;exact#[k,rfl,hq _ _ #[rfl,A',e2.trans z1,z2]]
  ·cases e
noncomputable def fP (o o':COp)(fa fb fc:FE):FE:=λρ S=>match fa ρ S with
 | some (x,S1)=>match fb ρ S1 with
  | some (y,S2)=>match uH o x y S2 with
   | some true=>match fc ρ S2 with
    | some (z,S3)=>dI o' y z S3
    | none=>td
   | some false=>gV (.bl false,S2)
   | none=>td
  | none=>td
 | none=>td
theorem jW {o o':COp}{fa fb fc:FE}{σ:L2.St}{H:Hp}{A:Hj Hw}{ρ:Fm}{S:aa}{w:W}{S':aa}(er:EnvRel X.K A H ρ σ)(so:StoreOk X.w X.K A H S)(e:fP o o' fa fb fc ρ S=gV (w,S'))(Q:VK)(hq:∀v H',EndV X.w X.K A H S' w v H'->Q v H') :
  pU (λa b H Q=>∃A S x y w S',StoreOk X.w X.K A H S/\Rel X.K A H x a/\Rel X.K A H y b/\dI o x y S=gV (w,S')/\∀v H',EndV X.w X.K A H S' w v H'->Q v H')
   (λa b H Q=>∃A S x y w S',StoreOk X.w X.K A H S/\Rel X.K A H x a/\Rel X.K A H y b/\dI o' x y S=gV (w,S')/\∀v H',EndV X.w X.K A H S' w v H'->Q v H') (tE X fa) (tE X fb) (tE X fc) σ H Q:=by
 unfold fP at e;split at e
 ·rename_i x S1 h1;split at e
  ·rename_i y S2 h2;refine fO er so h1 h2 λa b H2 A2 e2 o2 r1 r2=>?_
   split at e
   ·rename_i hc;split at e
    ·rename_i z S3 h3;refine#[A2,S2,x,y,.bl true,S2,o2,r1,r2,by simp[dI,hc],λv H3 #[A3,z1,z2,z3]=>?_]
     cases z3;refine#[true,rfl,?_];rw[HY rfl];refine#[A3,ρ,S2,z,S3,er.mono (e2.trans z1),z2,h3,λc H4 #[A4,y1,y2,y3]=>?_]
     exact#[A4,S3,y,z,w,S',y2,(r2.mono z1).mono y1,y3,e,λv H' q=>hq v H' (q.after ((e2.trans z1).trans y1))]
    ·cases e
   ·rename_i hc;cases e;refine#[A2,S',x,y,.bl false,S',o2,r1,r2,by simp[dI,hc],λv H3 #[A3,z1,z2,z3]=>?_]
    cases z3;refine#[false,rfl,?_];rw[Iy HN];exact hq _ _ #[A3,e2.trans z1,z2,.bl]
   ·cases e
  ·cases e
 ·cases e
theorem vJ {a b c:HW}{o o':COp}{pos:J2}{fa fb fc:FE}(hu:X.A.units+fM < cLine)(ha:GE X a fa)(hb:GE X b fb)(hc:GE X c fc)(hm:lastMarks [o.py,o'.py] [b,c]=false):GE X (.Compare a [o.py,o'.py] [b,c] pos) (fP o o' fa fb fc):=
 GE.of (uT (hW hu o).opr (hW hu o').opr ha hb hc hm) λσ H A ρ S w S' er so e Q hq=>jW er so e Q hq
theorem vK {a b c:HW}{o o':COp}{pos:J2}{fa fb fc:FE}(hu:X.A.units+fM < cLine)(ha:GE X a fa)(hb:GE X b fb)(hc:GE X c fc)(hm:lastMarks [o.py,o'.py] [b,c]=false):GT X (.Compare a [o.py,o'.py] [b,c] pos) (oQ (fP o o' fa fb fc)):=
 GT.of (uU (hW hu o).opr (hW hu o').opr ha hb hc hm) λσ H A ρ S k S' er so e Q hq=>by
  unfold oQ at e;split at e
  ·rename_i k' S'' h0;cases e;refine jW er so h0 (λx H'=>∃k,x=.bl k/\Q k H') λv H' #[A',z1,z2,z3]=>?_
   cases z3;exact#[_,rfl,hq _ _ #[rfl,A',z1,z2]]
  ·cases e
noncomputable def gD (f:FE):FT:=λρ S=>match f ρ S with
 | some (w,S')=>(cJ S' w).map λk=>(k,S')
 | none=>td
theorem cK {e:HW}{f:FE}(h:GE X e f)(he:∀whole,isTrue e X.env whole=(do let v <- whole; standAt e.pos; holding [v] (truthy v))):GT X e (gD f):=by
 intro pins s σ H Q I ⟨A,ρ,S,k,S',er,so,e1,hq⟩;unfold gD at e1;split at e1
 ·rename_i w S1 h1;rw[Ho]at e1;obtain⟨k',ek,e2⟩:=e1;cases e2;refine isTrue_plain (bo (h pins s σ H (EndV X.w X.K A H _ w) I #[A,ρ,S,w,_,er,so,h1,λ_ _ z=>z]) λv s1 #[x,H1,I1,r1,A1,e1,o1,z1]=>?_) (he _)
  exact F8 I1 o1 z1 r1 ek λs' I'=>#[H1,I',hq _ _ #[rfl,A1,e1,o1]]
 ·cases e1
noncomputable def vL (f g:FT):FT:=λρ S=>match f ρ S with
 | some (true,S1)=>g ρ S1
 | some (false,S1)=>gV (false,S1)
 | none=>td
noncomputable def D3 (f g:FT):FT:=λρ S=>match f ρ S with
 | some (true,S1)=>gV (true,S1)
 | some (false,S1)=>g ρ S1
 | none=>td
noncomputable def zt (f:FT):FT:=λρ S=>match f ρ S with
 | some (k,S1)=>gV (!k,S1)
 | none=>td
theorem vM {f g:FT}{σ:L2.St}{H:Hp}{A:Hj Hw}{ρ:Fm}{S:aa}{k:HX}{S':aa}(er:EnvRel X.K A H ρ σ)(so:StoreOk X.w X.K A H S)(e:vL f g ρ S=gV (k,S'))(Q:HX->Hp->Prop)(hq:∀b H',EndB X A H S' k b H'->Q b H') :
  Dt (tT X f) (tT X g) σ H Q:=by
 unfold vL at e;split at e
 ·rename_i S1 h1;refine#[A,ρ,S,true,S1,er,so,h1,λb H1 #[z0,A1,z1,z2]=>?_]
  subst z0;rw[HY rfl];exact#[A1,ρ,S1,k,S',er.mono z1,z2,e,λb H' q=>hq b H' (q.after z1)]
 ·rename_i S1 h1;cases e;refine#[A,ρ,S,false,_,er,so,h1,λb H1 #[z0,A1,z1,z2]=>?_]
  subst z0;rw[Iy HN];exact hq _ _ #[rfl,A1,z1,z2]
 ·cases e
theorem zu {f g:FT}{σ:L2.St}{H:Hp}{A:Hj Hw}{ρ:Fm}{S:aa}{k:HX}{S':aa}(er:EnvRel X.K A H ρ σ)(so:StoreOk X.w X.K A H S)(e:D3 f g ρ S=gV (k,S'))(Q:HX->Hp->Prop)(hq:∀b H',EndB X A H S' k b H'->Q b H') :
  GL (tT X f) (tT X g) σ H Q:=by
 unfold D3 at e;split at e
 ·rename_i S1 h1;cases e;refine#[A,ρ,S,true,_,er,so,h1,λb H1 #[z0,A1,z1,z2]=>?_]
  subst z0;rw[HY rfl];exact hq _ _ #[rfl,A1,z1,z2]
 ·rename_i S1 h1;refine#[A,ρ,S,false,S1,er,so,h1,λb H1 #[z0,A1,z1,z2]=>?_]
  subst z0;rw[Iy HN];exact#[A1,ρ,S1,k,S',er.mono z1,z2,e,λb H' q=>hq b H' (q.after z1)]
 ·cases e
theorem zv {a:HW}{pos:J2}{f:FT}(h:GT X a f):GW X (.BoolOp .And [a] pos) f:=yu h
theorem Ce {a:HW}{pos:J2}{f:FT}(h:GT X a f):GW X (.BoolOp .Or [a] pos) f:=Bs h
theorem Cg {a b:HW}{r:Hj HW}{pos:J2}{f g:FT}(h:GT X a f)(h2:GW X (.BoolOp .And (b::r) pos) g):GW X (.BoolOp .And (a::b::r) pos) (vL f g):=
 GW.of (Bt h h2) λσ H A ρ S k S' er so e Q hq=>vM er so e Q hq
theorem D4 {a b:HW}{r:Hj HW}{pos:J2}{f g:FT}(h:GT X a f)(h2:GW X (.BoolOp .Or (b::r) pos) g):GW X (.BoolOp .Or (a::b::r) pos) (D3 f g):=
 GW.of (Du h h2) λσ H A ρ S k S' er so e Q hq=>zu er so e Q hq
theorem Ch {a:HW}{pos:J2}{f:FT}(h:GT X a f):GT X (.UnaryOp .Not a pos) (zt f):=
 GT.of (Bu h) λσ H A ρ S k S' er so e Q hq=>by
  unfold zt at e;split at e
  ·rename_i k1 S1 h1;cases e;refine#[A,ρ,S,k1,_,er,so,h1,λb H1 #[z0,A1,z1,z2]=>?_]
   subst z0;exact hq _ _ #[rfl,A1,z1,z2]
  ·cases e
noncomputable def rL (f g:FE):FE:=λρ S=>match f ρ S with
 | some (.bl true,S1)=>g ρ S1
 | some (.bl false,S1)=>gV (.bl false,S1)
 | _=>td
noncomputable def zw (f g:FE):FE:=λρ S=>match f ρ S with
 | some (.bl true,S1)=>gV (.bl true,S1)
 | some (.bl false,S1)=>g ρ S1
 | _=>td
noncomputable def rM (f:FE):FE:=λρ S=>match f ρ S with
 | some (.bl k,S1)=>gV (.bl (!k),S1)
 | _=>td
theorem Ci {a:HW}{op:PU}{pos:J2}{f:FE}(h:GE X a f):GE X (.BoolOp op [a] pos) f:=Bv h
theorem Cj {a b:HW}{r:Hj HW}{pos:J2}{f g:FE}(h:GE X a f)(h2:GE X (.BoolOp .And (b::r) pos) g):GE X (.BoolOp .And (a::b::r) pos) (rL f g):=
 GE.of (Bw h h2) λσ H A ρ S w S' er so e Q hq=>by
  unfold rL at e;split at e
  ·rename_i S1 h1;refine#[A,ρ,S,_,S1,er,so,h1,λv H1 #[A1,z1,z2,z3]=>?_]
   cases z3;refine#[true,rfl,?_];rw[HY rfl];exact#[A1,ρ,S1,w,S',er.mono z1,z2,e,λb H' q=>hq b H' (q.after z1)]
  ·rename_i S1 h1;cases e;refine#[A,ρ,S,_,_,er,so,h1,λv H1 #[A1,z1,z2,z3]=>?_]
   cases z3;refine#[false,rfl,?_];rw[Iy HN];exact hq _ _ #[A1,z1,z2,.bl]
  ·cases e
theorem D5 {a b:HW}{r:Hj HW}{pos:J2}{f g:FE}(h:GE X a f)(h2:GE X (.BoolOp .Or (b::r) pos) g):GE X (.BoolOp .Or (a::b::r) pos) (zw f g):=
 GE.of (Dx h h2) λσ H A ρ S w S' er so e Q hq=>by
  unfold zw at e;split at e
  ·rename_i S1 h1;cases e;refine#[A,ρ,S,_,_,er,so,h1,λv H1 #[A1,z1,z2,z3]=>?_]
   cases z3;refine#[true,rfl,?_];rw[HY rfl];exact hq _ _ #[A1,z1,z2,.bl]
  ·rename_i S1 h1;refine#[A,ρ,S,_,S1,er,so,h1,λv H1 #[A1,z1,z2,z3]=>?_]
   cases z3;refine#[false,rfl,?_];rw[Iy HN];exact#[A1,ρ,S1,w,S',er.mono z1,z2,e,λb H' q=>hq b H' (q.after z1)]
  ·cases e
theorem Ck {a:HW}{pos:J2}{f:FE}(h:GE X a f):GE X (.UnaryOp .Not a pos) (rM f):=
 GE.of (Bx h) λσ H A ρ S w S' er so e Q hq=>by
  unfold rM at e;split at e
  ·rename_i k1 S1 h1;cases e;refine#[A,ρ,S,_,_,er,so,h1,λb H1 #[A1,z1,z2,z3]=>?_]
   cases z3;exact#[_,rfl,hq _ _ #[A1,z1,z2,.bl]]
  ·cases e
noncomputable def zx (c:FT)(f g:FE):FE:=λρ S=>match c ρ S with
 | some (true,S1)=>f ρ S1
 | some (false,S1)=>g ρ S1
 | none=>td
theorem Cm {c a b:HW}{pos:J2}{fc:FT}{f g:FE}(hc:GT X c fc)(ha:GE X a f)(hb:GE X b g):GE X (.IfExp c a b pos) (zx fc f g):=
 GE.of (uM hc ha hb) λσ H A ρ S w S' er so e Q hq=>by
  unfold zx at e;split at e
  ·rename_i S1 h1;refine#[A,ρ,S,_,S1,er,so,h1,λb H1 #[z0,A1,z1,z2]=>?_]
   subst z0;rw[HY rfl];exact#[A1,ρ,S1,w,S',er.mono z1,z2,e,λb H' q=>hq b H' (q.after z1)]
  ·rename_i S1 h1;refine#[A,ρ,S,_,S1,er,so,h1,λb H1 #[z0,A1,z1,z2]=>?_]
   subst z0;rw[Iy HN];exact#[A1,ρ,S1,w,S',er.mono z1,z2,e,λb H' q=>hq b H' (q.after z1)]
  ·cases e
noncomputable def io:FA:=λ_ S=>gV ([],S)
noncomputable def dG (f:FE)(g:FA):FA:=λρ S=>match f ρ S with
 | some (w,S1)=>match g ρ S1 with
  | some (ws,S2)=>gV (w::ws,S2)
  | none=>td
 | none=>td
theorem Cn:GA X [] io:=GA.of uV λσ H A ρ S ws S' er so e Q hq=>by cases e; exact hq _ _ #[A,.refl,so,.nil]
theorem zy {e:HW}{es:Hj HW}{f:FE}{g:FA}(h:GE X e f)(h2:GA X es g)(hs:starEach (e::es) X.env=(false,eval e X.env)::starEach es X.env):GA X (e::es) (dG f g):=
 GA.of (mF h h2 hs) λσ H A ρ S ws S' er so e Q hq=>by
  unfold dG at e;split at e
  ·rename_i w S1 h1;split at e
   ·rename_i ws2 S2 h2;cases e;refine#[A,ρ,S,w,S1,er,so,h1,λv H1 #[A1,z1,z2,z3]=>?_]
    refine#[A1,ρ,S1,ws2,_,er.mono z1,z2,h2,λvs H2 #[A2,y1,y2,y3]=>?_]
    exact hq _ _ #[A2,z1.trans y1,y2,.cons (z3.mono y1) y3]
   ·cases e
  ·cases e
noncomputable def vN (f:FA):FE:=λρ S=>match f ρ S with
 | some (ws,S1)=>p8 S1 ws
 | none=>td
noncomputable def vO (f:FA):FE:=λρ S=>match f ρ S with
 | some (ws,S1)=>kX S1 ws
 | none=>td
theorem vP {es:Hj HW}{k:Hs}{pos:J2}{f:FA}(h:GA X es f):GE X (.Tuple es k pos) (vN f):=
 GE.of (BV h) λσ H A ρ S w S' er so e Q hq=>by
  unfold vN at e;split at e
  ·rename_i ws S1 h1;obtain⟨hl,rfl,rfl⟩:=rn e;refine#[A,ρ,S,ws,_,er,so,h1,λvs H1 #[A1,z1,z2,z3]=>#[by rw[<- z3.length]; exact hl,λp hp=>?_]]
   exact hq _ _ (EndV.after z1 (.tup z2 z3 hp))
  ·cases e
theorem vQ {es:Hj HW}{pos:J2}{f:FA}(h:GA X es f):GE X (.List es pos) (vO f):=
 GE.of (BW h) λσ H A ρ S w S' er so e Q hq=>by
  unfold vO at e;split at e
  ·rename_i ws S1 h1;obtain⟨hl,rfl,rfl⟩:=jy e;refine#[A,ρ,S,ws,_,er,so,h1,λvs H1 #[A1,z1,z2,z3]=>#[by rw[<- z3.length]; exact hl,λp hp=>?_]]
   exact hq _ _ (EndV.after z1 (.lst z2 z3 hp))
  ·cases e
noncomputable def jj (g:Hj W->aa->Hr (W×aa))(f:FA):FE:=λρ S=>match f ρ S with
 | some (ws,S1)=>g ws S1
 | none=>td
theorem LCall.callr {v:Hm}{g:Hj W->aa->Hr (W×aa)}(h:LCall X v g):CallR X v (λvs H Q=>∃A S ws w S',StoreOk X.w X.K A H S/\RelL X.K A H ws vs/\g ws S=gV (w,S')/\∀v H',EndV X.w X.K A H S' w v H'->Q v H'):=by
 intro pins s σ H vs us Q I rv ⟨A,S,ws,w,S',so,rl,e,hq⟩;exact bo (h pins s σ H A S ws vs us w S' I so rl rv e) λu' s' #[v',H',A',I',r',e1,o1,z1]=>#[v',H',I',r',hq v' H' #[A',e1,o1,z1]]
theorem lN {g:Hj W->aa->Hr (W×aa)}{f:FA}{σ:L2.St}{H:Hp}{A:Hj Hw}{ρ:Fm}{S:aa}{w:W}{S':aa}(er:EnvRel X.K A H ρ σ)(so:StoreOk X.w X.K A H S)(e:jj g f ρ S=gV (w,S'))(Q:VK)(hq:∀v H',EndV X.w X.K A H S' w v H'->Q v H') :
  tA X f σ H λvs H1=>∃A S ws w S',StoreOk X.w X.K A H1 S/\RelL X.K A H1 ws vs/\g ws S=gV (w,S')/\∀v H',EndV X.w X.K A H1 S' w v H'->Q v H':=by
 unfold jj at e;split at e
 ·rename_i ws S1 h1;exact#[A,ρ,S,ws,S1,er,so,h1,λvs H1 #[A1,z1,z2,z3]=>#[A1,S1,ws,w,S',z2,z3,e,λv H' q=>hq v H' (q.after z1)]]
 ·cases e
theorem rN {id:Jf}{x:HM}{e:HW}{es:Hj HW}{p pos:J2}{f:FA}{g:Hj W->aa->Hr (W×aa)}(hc:LCall X (.builtin id) g)(hg:Gl X x)(hm:X.mg x=td)(hv:bootBuiltins x=gV (.builtin id))(ha:GA X (e::es) f)
  (hn:x≠"__name__") (hdb:(x==("__debug__" : HM))=false) (hs:starEach (e::es) X.env=(false,eval e X.env)::starEach es X.env) (hpl:(backTo pos (starEach es X.env)).any (·.1)=false):GE X (.Call (.Name x p) (e::es) [] pos) (jj g f):=
 GE.of (ol hc.callr hg hm hv ha hn hdb hs hpl) λσ H A ρ S w S' er so e Q hq=>lN er so e Q hq
theorem rO {id:Jf}{x:HM}{e:HW}{es:Hj HW}{p pos:J2}{f:FA}{g:Hj W->aa->Hr (W×aa)}(hc:LCall X (.type id) g)(hg:Gl X x)(hm:X.mg x=td)(hv:bootBuiltins x=gV (.type id))(ha:GA X (e::es) f)
  (hn:x≠"__name__") (hdb:(x==("__debug__" : HM))=false) (hs:starEach (e::es) X.env=(false,eval e X.env)::starEach es X.env) (hpl:(backTo pos (starEach es X.env)).any (·.1)=false):GE X (.Call (.Name x p) (e::es) [] pos) (jj g f):=
 GE.of (sU hc.callr hg hm hv ha hn hdb hs hpl) λσ H A ρ S w S' er so e Q hq=>lN er so e Q hq
end
noncomputable def tyOk (T:Jf)(S:aa):W->HX
 | .str _=>T == "str"
 | .tup _=>T == "tuple"
 | .ref i=>(T == "list" && (gP S i).isSome)||(T == "dict" && (jt S i).isSome)
 | _=>false
noncomputable def Dl (T:Jf)(g:W->Hj W->aa->Hr (W×aa))(fo:FE)(f:FA):FE:=λρ S=>match fo ρ S with
 | some (x,S1)=>if tyOk T S1 x then match f ρ S1 with
  | some (ws,S2)=>g x ws S2
  | none=>td
  else td
 | none=>td
noncomputable def Gb (fa fb:FE):FE:=zq ju fa fb
noncomputable abbrev FO:=Fm->aa->Hr (Hr Hy×aa)
noncomputable def Co:FO:=λ_ S=>gV (td,S)
noncomputable def rP (f:FE):FO:=λρ S=>match f ρ S with
 | some (.int i,S1)=>gV (gV i,S1)
 | _=>td
noncomputable def D6 (fa:FE)(fl fh:FO):FE:=λρ S=>match fa ρ S with
 | some (x,S1)=>match fl ρ S1 with
  | some (lo,S2)=>match fh ρ S2 with
   | some (hi,S3)=>js x lo hi S3
   | none=>td
  | none=>td
 | none=>td
section
variable{X:Cx}
theorem LMeth.mtr {id:Jf}{g:W->Hj W->aa->Hr (W×aa)}(h:LMeth X id g):MtR X id (λa vs H Q=>∃A S x ws w S',StoreOk X.w X.K A H S/\Rel X.K A H x a/\RelL X.K A H ws vs/\g x ws S=gV (w,S')/\∀v H',EndV X.w X.K A H S' w v H'->Q v H'):=by
 intro pins s σ H a vs u us Q I ru rv ⟨A,S,x,ws,w,S',so,rx,rl,e,hq⟩;exact bo (h pins s σ H A S x a u ws vs us w S' I so rx ru rl rv e) λu' s' #[v',H',A',I',r',e1,o1,z1]=>#[v',H',I',r',hq v' H' #[A',e1,o1,z1]]
theorem Cp {pins:Hj (Hw×Jr)}{σ:L2.St}{s:Hq}{H:Hp}{a:Hw}{xs:Hj V}(I:Inv X pins σ H s)(h:SqT X.K H a xs):s.TypeIs (.ref a) "tuple"/\∃o,s.heap.get? a=gV o/\o.dict=td:=by
 rcases h with h|⟨o,its,n,hk,hc,hd,_⟩
 ·obtain⟨z,its,r,p⟩:=h.ok I.hok;exact#[p.typeIs,z.2]
 ·exact#[#[o,I.kIn a o hk,hc],o,I.kIn a o hk,hd]
theorem tyOk.is {pins:Hj (Hw×Jr)}{σ:L2.St}{s:Hq}{A:Hj Hw}{H:Hp}{S:aa}{T:Jf}{x:W}{a:V}{v:Hm}(I:Inv X pins σ H s)(so:StoreOk X.w X.K A H S)(r:Rel X.K A H x a)(rv:RelV a v)(h:tyOk T S x=true) :
  s.TypeIs v T/\∀b,v=.ref b->∃ob,s.heap.get? b=gV ob/\ob.dict=td:=by
 cases r with
 | str=>exact u7 I rv (show F3 X.K T (.str _) H from eq_of_beq h)
 | tup hq r1=>
  obtain⟨h1,h2⟩:=Cp I hq;have e:=eq_of_beq (show(T == "tuple")=true from h)
  subst e;obtain rfl:v=IE _:=rv;exact#[h1,λb e=>by cases e; exact h2]
 | ref ea=>
  simp only[tyOk,JT,Hv]at h;rcases h with⟨h1,h2⟩|⟨h1,h2⟩
  ·obtain⟨xs,hx⟩:=IR.mp h2;obtain⟨vs,h3,_⟩:=cH so hx ea;exact u7 I rv (show F3 X.K T (.ref _) H from .inl #[eq_of_beq h1,vs,h3])
  ·obtain⟨kvs,hx⟩:=IR.mp h2;obtain⟨xs,rd,_⟩:=fN so hx ea;obtain⟨_,_,_,o,es,ep,q1,q2,q3,q4⟩:=cC I rd;have e:=eq_of_beq h1;subst e;obtain rfl:v=IE _:=rv;exact#[#[o,q1,q2.1],λb e=>by cases e; exact#[o,q1,q2.2.1]]
 | _=>cases h
theorem lO {o e:HW}{es:Hj HW}{name:HM}{apos cpos:J2}{T id:Jf}{g:W->Hj W->aa->Hr (W×aa)}{fo:FE}{f:FA}(pa:PlainAttrs T)(slot:Slot T name id)(hty:typeOf (.builtin id)=pure (.type "method_descriptor"))(hm:LMeth X id g)
  (ho:GE X o fo) (ha:GA X (e::es) f) (hbase:attributeBase o name X.env (eval o X.env)=eval o X.env)
  (hfew:((backTo cpos (starEach (e::es) X.env)).all (λx=>!x.1)&&(backToKw cpos (keywordEach [] X.env)).all (λx=>x.1.isSome)
   && decide ((e::es).length+([]:Hj Ow).length+(if ([]:Hj Ow).isEmpty then 0 else 1) < 30))=true)
  (hline:(apos.endLine==cpos.line)=true) (hs:starEach (e::es) X.env=(false,eval e X.env)::starEach es X.env) (hplain:(backTo cpos (starEach es X.env)).any (·.1)=false) :
  GE X (.Call (.Attribute o name apos) (e::es) [] cpos) (Dl T g fo f):=by
 intro pins s σ H Q I ⟨A,ρ,S,w,S',er,so,e,hq⟩;unfold Dl at e;split at e
 ·rename_i x S1 h1;split at e
  ·rename_i ht;split at e
   ·rename_i ws S2 h2;refine wpAny_Call_method_late hbase hfew hline rfl (bo (ho pins s σ H (EndV X.w X.K A H S1 x) I #[A,ρ,S,_,_,er,so,h1,λ_ _ z=>z]) λv s1 #[a,H1,I1,r1,A1,e1,o1,z1]=>?_)
    obtain⟨t1,t2⟩:=tyOk.is I1 o1 z1 r1 ht;refine#[T,id,pa,slot,hty,t1,t2,?_];have hA:=ha cpos pins s1 σ H1 (Cb X A1 H1 S2 ws) I1 #[A1,ρ,S1,ws,S2,er.mono e1,o1,h2,λ_ _ z=>z]
    rw[hs]at hA ⊢;refine Calls.callWith_builtin (by show(false||(backTo cpos (starEach es X.env)).any (·.1))=false; rw[hplain] <;> rfl) (Calls.evalArgs_plain ?_)
    refine bo hA λus s2 #[vs,H2,I2,r2,A2,e2,o2,z2]=>?_
    refine bo (hm pins s2 σ H2 A2 S2 x a v ws vs us w S' I2 o2 (z1.mono e2) r1 z2 r2 e) λu' s' #[v',H',A',I',r',e3,o3,z3]=>?_
    exact#[v',H',I',r',hq v' H' #[A',(e1.trans e2).trans e3,o3,z3]]
   ·cases e
  ·cases e
 ·cases e
theorem LIx.ixr {g:W->W->aa->Hr (W×aa)}(h:LIx X g):IxR X (λa b H Q=>∃A S x y w S',StoreOk X.w X.K A H S/\Rel X.K A H x a/\Rel X.K A H y b/\g x y S=gV (w,S')/\∀v H',EndV X.w X.K A H S' w v H'->Q v H'):=by
 intro value slice pins s σ H a b u v Q I ru rv ⟨A,S,x,y,w,S',so,rx,ry,e,hq⟩ hs;exact bo (h value slice pins s σ H A S x y a b u v w S' I so rx ru ry rv e hs) λu' s' #[v',H',A',I',r',e1,o1,z1]=>#[v',H',I',r',hq v' H' #[A',e1,o1,z1]]
theorem D7 {a b:HW}{pos:J2}{fa fb:FE}(hu:X.A.units+10 < cLine)(ha:GE X a fa)(hb:GE X b fb)(hs:mI b):GE X (.Subscript a b pos) (Gb fa fb):=
 GE.of (DU (F9 hu).ixr ha hb hs) λσ H A ρ S w S' er so e Q hq=>by
  obtain⟨x,S1,y,S2,h1,h2,h3⟩:=Fk e;exact fO er so h1 h2 λa b H2 A2 e2 o2 r1 r2=>#[A2,S2,x,y,w,S',o2,r1,r2,h3,λv H' z=>hq v H' (z.after e2)]
noncomputable def tO (X:Cx)(f:FO):TO:=λσ H Q=>∃A ρ S k S',EnvRel X.K A H ρ σ/\StoreOk X.w X.K A H S/\f ρ S=gV (k,S')/\∀H' A',Ext X.K A H A' H'->StoreOk X.w X.K A' H' S'->Q k H'
noncomputable abbrev GO (X:Cx)(e:Hr HW)(f:FO):Prop:=PO X e (tO X f)
theorem zz:GO X td Co:=λpins s σ H Q I #[A,ρ,S,k,S',er,so,e,hq]=>by
 cases e;exact yJ pins s σ H Q I (hq H A .refl so)
theorem zA {e:HW}{f:FE}(h:GE X e f):GO X (gV e) (rP f):=λpins s σ H Q I #[A,ρ,S,k,S',er,so,e,hq]=>by
 unfold rP at e;split at e
 ·rename_i i S1 h1;cases e;refine yK h pins s σ H Q I #[A,ρ,S,_,_,er,so,h1,λv H1 #[A1,z1,z2,z3]=>?_]
  cases z3;exact#[i,rfl,hq H1 A1 z1 z2]
 ·cases e
theorem LSl.slr {g:W->Hr Hy->Hr Hy->aa->Hr (W×aa)}(h:LSl X g):DT X (λa lo hi H Q=>∃A S x w S',StoreOk X.w X.K A H S/\Rel X.K A H x a/\g x lo hi S=gV (w,S')/\∀v H',EndV X.w X.K A H S' w v H'->Q v H'):=by
 intro pins s σ H a v vl vu lo hi sl Q I rv hs pl pu ⟨A,S,x,w,S',so,rx,e,hq⟩;obtain⟨T,id,h1,h2,h3⟩:=h pins s σ H A S x a v vl vu lo hi sl w S' I so rx rv hs pl pu e;exact#[T,id,h1,h2,bo h3 λu' s' #[v',H',A',I',r',e1,o1,z1]=>#[v',H',I',r',hq v' H' #[A',e1,o1,z1]]]
theorem D8 {a:HW}{lo hi:Hr HW}{p2 pos:J2}{fa:FE}{fl fh:FO}(ha:GE X a fa)(hl:GO X lo fl)(hh:GO X hi fh):GE X (.Subscript a (.Slice lo hi td p2) pos) (D6 fa fl fh):=
 GE.of (u5 G5.slr ha hl hh) λσ H A ρ S w S' er so e Q hq=>by
  unfold D6 at e;split at e
  ·rename_i x S1 h1;split at e
   ·rename_i l S2 h2;split at e
    ·rename_i h S3 h3;refine#[A,ρ,S,x,S1,er,so,h1,λv H1 #[A1,z1,z2,z3]=>?_]
     refine#[A1,ρ,S1,l,S2,er.mono z1,z2,h2,λH2 A2 y1 y2=>?_]
     refine#[A2,ρ,S2,h,S3,er.mono (z1.trans y1),y2,h3,λH3 A3 x1 x2=>?_]
     exact#[A3,S3,x,w,S',x2,(z3.mono y1).mono x1,e,λv H' q=>hq v H' (q.after ((z1.trans y1).trans x1))]
    ·cases e
   ·cases e
  ·cases e
noncomputable abbrev FF:=Hj W->aa->Hr (W×aa)
noncomputable def vR (wd:IA)(K:HD)(n:Hs)(g:FF):Sp:=λvs H Q _=>∃A S ws w S',StoreOk wd K A H S/\RelL K A H ws vs/\ws.length=n/\g ws S=gV (w,S')/\∀v H',EndV wd K A H S' w v H'->Q v H'
noncomputable def oR (n:Hs)(g:FF)(f:FA):FE:=λρ S=>match f ρ S with
 | some (ws,S1)=>if ws.length=n then g ws S1 else td
 | none=>td
theorem oS {n:Hs}{g:FF}{f:FA}{σ:L2.St}{H:Hp}{A:Hj Hw}{ρ:Fm}{S:aa}{w:W}{S':aa}{E:XK}(er:EnvRel X.K A H ρ σ)(so:StoreOk X.w X.K A H S)(e:oR n g f ρ S=gV (w,S'))(Q:VK)(hq:∀v H',EndV X.w X.K A H S' w v H'->Q v H') :
  uX (vR X.w X.K n g) [] E (tA X f) σ H Q:=by
 unfold oR at e;split at e
 ·rename_i ws S1 h1;split at e
  ·rename_i hl;refine#[A,ρ,S,ws,S1,er,so,h1,λvs H1 #[A1,z1,z2,z3]=>?_]
   show vR X.w X.K n g (vs++[]) H1 Q E;rw[Jo];exact#[A1,S1,ws,w,S',z2,z3,hl,e,λv H' q=>hq v H' (q.after z1)]
  ·cases e
 ·cases e
theorem Cq {k n:Hs}{fa:Hw}{fd:J4}{ps:Hj HM}{g:FF}{x:HM}{e:HW}{es:Hj HW}{p pos:J2}{f:FA}(F:FnOk X.prog X.w X.K X.mg X.base uG k fa fd ps (vR X.w X.K n g))(hr:Room k X.A)(hg:Gl X x)(hm:X.mg x=gV (.ref fa))(hk:Jh X.K (.ref fa)=true)
  (hb:Binds X.K fd ps []) (ha:GA X (e::es) f) (hdb:(x==("__debug__" : HM))=false) (he:starEach (e::es) X.env=(false,eval e X.env)::starEach es X.env) (hpl:(backTo pos (starEach es X.env)).any (·.1)=false) :
  GE X (.Call (.Name x p) (e::es) [] pos) (oR n g f):=
 GE.of (yG F hr hg hm hk hb .nil AL ha hdb he hpl) λσ H A ρ S w S' er so e Q hq=>oS er so e Q hq
theorem zB {k n:Hs}{fa:Hw}{fd:J4}{ps:Hj HM}{g:FF}{x:HM}{p pos:J2}(F:FnOk X.prog X.w X.K X.mg X.base uG k fa fd ps (vR X.w X.K n g))(hr:Room k X.A)(hg:Gl X x)(hm:X.mg x=gV (.ref fa))(hk:Jh X.K (.ref fa)=true)
  (hb:Binds X.K fd ps []) (hdb:(x==("__debug__" : HM))=false):GE X (.Call (.Name x p) [] [] pos) (oR n g io):=
 GE.of (uZ F hr hg hm hk hb .nil AL hdb) λσ H A ρ S w S' er so e Q hq=>by
  obtain⟨A1,S1,ws,w1,S1',a1,a2,a3,a4,a5⟩:=oS (f:=io) (E:=E0) er so e Q hq |> λ#[A,ρ,S,ws,S',b1,b2,b3,b4]=>b4 [] H (by cases b3; exact#[A,.refl,b2,.nil])
  exact#[A1,S1,ws,w1,S1',a1,a2,a3,a4,a5]
theorem zC:GSs X [] (λρ S=>gV (.nx ρ,S)):=GSs.of yv λσ H A ρ S o S' er so e D hd=>by cases e; exact hd.nx _ _ #[ρ,A,rfl,.refl,so,er]
noncomputable def zD (f g:FS):FS:=λρ S=>match f ρ S with
 | some (.nx ρ',S1)=>g ρ' S1
 | some (.rt w,S1)=>gV (.rt w,S1)
 | some (.bk ρ',S1)=>gV (.bk ρ',S1)
 | some (.ct ρ',S1)=>gV (.ct ρ',S1)
 | none=>td
theorem vS {st:Kn}{sts:Hj Kn}{f g:FS}(h:GS X st f)(h2:GSs X sts g):GSs X (st::sts) (zD f g):=GSs.of (uO h h2) λσ H A ρ S o S' er so e D hd=>by
 unfold zD at e;split at e
 ·rename_i ρ1 S1 h1;refine#[A,ρ,S,_,_,er,so,h1,#[λσ' H' #[ρ',A',e1,e2,e3,e4]=>?_,λv H' #[w,A',e1,_]=>(by cases e1),λv H' #[w,A',e1,_]=>(by cases e1),λv H' #[w,A',e1,_]=>(by cases e1)]]
  cases e1;exact#[A',_,S1,o,S',e4,e3,e,(EndS.after e2).trans hd]
 ·rename_i w S1 h1;cases e;exact#[A,ρ,S,_,_,er,so,h1,#[λσ' H' #[w,A',e1,_]=>(by cases e1),hd.rt,hd.bk,hd.ct]]
 ·rename_i w S1 h1;cases e;exact#[A,ρ,S,_,_,er,so,h1,#[λσ' H' #[w,A',e1,_]=>(by cases e1),hd.rt,hd.bk,hd.ct]]
 ·rename_i w S1 h1;cases e;exact#[A,ρ,S,_,_,er,so,h1,#[λσ' H' #[w,A',e1,_]=>(by cases e1),hd.rt,hd.bk,hd.ct]]
 ·cases e
noncomputable def zE (f:FE):FS:=λρ S=>match f ρ S with
 | some (_,S1)=>gV (.nx ρ,S1)
 | none=>td
theorem D9 {e:HW}{pos:J2}{f:FE}(h:GE X e f)(hs:swapsWith e td pos.line X.env=pure false):GS X (.Expr e pos) (zE f):=GS.of (yy h hs) λσ H A ρ S o S' er so e D hd=>by
 unfold zE at e;split at e
 ·rename_i w S1 h1;cases e;exact#[A,ρ,S,w,_,er,so,h1,λv H1 #[A1,z1,z2,z3]=>hd.nx _ _ #[ρ,A1,rfl,z1,z2,er.mono z1]]
 ·cases e
noncomputable def vT:FS:=λρ S=>gV (.nx ρ,S)
theorem Cr {x:HM}{j:Hs}{pos pos':J2}:GS X (.Expr (.Constant (.str x) j pos) pos') vT:=GS.of Bz λσ H A ρ S o S' er so e D hd=>by cases e; exact hd.nx _ _ #[ρ,A,rfl,.refl,so,er]
theorem zF {pos:J2}:GS X (.Pass pos) vT:=GS.of yw λσ H A ρ S o S' er so e D hd=>by cases e; exact hd.nx _ _ #[ρ,A,rfl,.refl,so,er]
theorem vU {pos:J2}:GS X (.Break pos) (λρ S=>gV (.bk ρ,S)):=GS.of uP λσ H A ρ S o S' er so e D hd=>by cases e; exact hd.bk _ _ #[ρ,A,rfl,.refl,so,er]
theorem zG {pos:J2}:GS X (.Continue pos) (λρ S=>gV (.ct ρ,S)):=GS.of n8 λσ H A ρ S o S' er so e D hd=>by cases e; exact hd.ct _ _ #[ρ,A,rfl,.refl,so,er]
noncomputable def zH (f:FE):FS:=λρ S=>match f ρ S with
 | some (w,S1)=>gV (.rt w,S1)
 | none=>td
theorem Cs {e:HW}{pos:J2}{f:FE}(h:GE X e f):GS X (.Return (gV e) pos) (zH f):=GS.of (BA h) λσ H A ρ S o S' er so e D hd=>by
 unfold zH at e;split at e
 ·rename_i w S1 h1;cases e;exact#[A,ρ,S,w,_,er,so,h1,λv H1 #[A1,z1,z2,z3]=>hd.rt _ _ #[w,A1,rfl,z1,z2,z3]]
 ·cases e
theorem zI {pos:J2}:GS X (.Return td pos) (λρ S=>gV (.rt .non,S)):=GS.of yz λσ H A ρ S o S' er so e D hd=>by cases e; exact hd.rt _ _ #[_,A,rfl,.refl,so,.non]
noncomputable def zJ (c:FT)(f g:FS):FS:=λρ S=>match c ρ S with
 | some (true,S1)=>f ρ S1
 | some (false,S1)=>g ρ S1
 | none=>td
theorem Ea {c:HW}{a b:Hj Kn}{pos:J2}{fc:FT}{f g:FS}(hc:GT X c fc)(ha:GSs X a f)(hb:GSs X b g):GS X (.If c a b pos) (zJ fc f g):=GS.of (DB hc ha hb) λσ H A ρ S o S' er so e D hd=>by
 unfold zJ at e;split at e
 ·rename_i S1 h1;refine#[A,ρ,S,_,S1,er,so,h1,λb H1 #[z0,A1,z1,z2]=>?_]
  subst z0;rw[HY rfl];exact#[A1,ρ,S1,o,S',er.mono z1,z2,e,(EndS.after z1).trans hd]
 ·rename_i S1 h1;refine#[A,ρ,S,_,S1,er,so,h1,λb H1 #[z0,A1,z1,z2]=>?_]
  subst z0;rw[Iy HN];exact#[A1,ρ,S1,o,S',er.mono z1,z2,e,(EndS.after z1).trans hd]
 ·cases e
noncomputable abbrev FG:=W->Fm->aa->Hr (Fm×aa)
noncomputable def tG (X:Cx)(f:FG):TG:=λv σ H Q=>∃A ρ S w ρ' S',EnvRel X.K A H ρ σ/\StoreOk X.w X.K A H S/\Rel X.K A H w v/\f w ρ S=gV (ρ',S')/\∀σ' H' A',Ext X.K A H A' H'->StoreOk X.w X.K A' H' S'->EnvRel X.K A' H' ρ' σ'->Q σ' H'
noncomputable abbrev GG (X:Cx)(tg:HW)(f:FG):Prop:=PG X tg (tG X f)
noncomputable def zK (i:Hs):FG:=λw ρ S=>gV (ρ.set i (gV w),S)
theorem rQ {i:Hs}{x:HM}{pos:J2}(hN:X.N.Nodup)(hi:X.N[i]?=gV x)(hx:yr X.env.scope x)(hf:X.fn x=true\/X.env.scope.names.lookup x=gV .local):GG X (.Name x pos) (zK i):=by
 intro pins s σ H v u Q I r ⟨A,ρ,S,w,ρ',S',er,so,rw',e,hq⟩;cases e;exact rc hN hi hx hf pins s σ H v u Q I r (hq _ _ A .refl so (er.set rw' i))
noncomputable def cL:Hj Hs->Hj W->Fm->Hr Fm
 | [],[],ρ=>gV ρ
 | i::is,w::ws,ρ=>cL is ws (ρ.set i (gV w))
 | _,_,_=>td
noncomputable def Dm (is:Hj Hs):FG:=λw ρ S=>match w with
 | .tup ws=>(cL is ws ρ).map λρ'=>(ρ',S)
 | _=>td
theorem tQ:∀ {ts:Hj HW} {is:Hj Hs},(∀x∈ts,∃y p,x=.Name y p)->Ml (λ(t:HW) (i:Hs)=>∃x p,t=M2 x p/\X.N[i]?=gV x/\yr X.env.scope x/\(X.fn x=true\/X.env.scope.names.lookup x=gV .local)) ts is->X.N.Nodup->
  DC X ts (λvs σ H Q=>∃A ρ ws ρ' S,EnvRel X.K A H ρ σ/\StoreOk X.w X.K A H S/\RelL X.K A H ws vs/\cL is ws ρ=gV ρ'/\∀σ',EnvRel X.K A H ρ' σ'->Q σ' H):=by
 intro ts
 induction ts with
 | nil=>
  intro is _ h hN;cases h;intro pins s σ H vs us Q I r ⟨A,ρ,ws,ρ',S,er,so,rl,e,hq⟩;cases rl with
  | nil=>cases e; exact yA pins s σ H [] us Q I r #[rfl,hq _ er]
  | cons _ _=>cases e
 | cons t ts ih=>
  intro is hs h hN;cases h with
  | cons h1 h2=>
   obtain⟨x,p,rfl,hi,hl,hf⟩:=h1;have:=ih (λy hy=>hs y (IL _ hy)) h2 hN
   intro pins s σ H vs us Q I r ⟨A,ρ,ws,ρ',S,er,so,rl,e,hq⟩;cases rl with
   | nil=>cases e
   | cons r1 r2=>
    refine uQ (rc hN hi hl hf) this rfl pins s σ H _ us Q I r #[_,_,rfl,?_];exact#[A,_,_,ρ',S,er.set r1 _,so,r2,e,hq]
theorem Ct {ts:Hj HW}{is:Hj Hs}{k:Hs}{pos:J2}(hc:X.calm=true)(hs:∀x∈ts,∃y p,x=.Name y p)(h:Ml (λ(t:HW) (i:Hs)=>∃x p,t=M2 x p/\X.N[i]?=gV x/\yr X.env.scope x/\(X.fn x=true\/X.env.scope.names.lookup x=gV .local)) ts is)(hN:X.N.Nodup)
  (hn:(assignEach ts X.env).length=ts.length) (hst:(assignEach ts X.env).findIdx? (·.1)=td):GG X (.Tuple ts k pos) (Dm is):=by
 intro pins s σ H v u Q I r ⟨A,ρ,S,w,ρ',S',er,so,rw',e,hq⟩;unfold Dm at e;split at e
 ·rw[Ho]at e;obtain⟨ρ1,e1,e2⟩:=e;cases e2;cases rw' with
  | tup h1 r1=>
   have hl:∀(is:Hj Hs) (ws:Hj W) (ρ ρ':Fm),cL is ws ρ=gV ρ'->is.length=ws.length:=by
    intro is
    induction is with
    | nil=>intro ws ρ ρ' e; cases ws <;> first|rfl|cases e
    | cons i is ih=>intro ws ρ ρ' e; cases ws <;> first|cases e|(simp; exact ih _ _ _ e)
   exact BF hc (tQ hs h hN) hn hst pins s σ H _ u Q I r #[_,_,rfl,h1,by rw[<- r1.length,<- hl _ _ _ _ e1,<- L6 h],A,ρ,_,_,_,er,so,r1,e1,λσ' z=>hq _ _ A .refl so z]
 ·cases e
noncomputable def zL (fo fi:FE):FG:=λw ρ S=>match fo ρ S with
 | some (o,S1)=>match fi ρ S1 with
  | some (i,S2)=>match ii o i w S2 with
   | some S3=>gV (ρ,S3)
   | none=>td
  | none=>td
 | none=>td
theorem LSet.pset {g:W->W->W->aa->Hr aa}(h:LSet X g):BE X (λao ai av H Q=>∃A S o i w S',StoreOk X.w X.K A H S/\Rel X.K A H o ao/\Rel X.K A H i ai/\Rel X.K A H w av/\g o i w S=gV S'/\∀H' A',Ext X.K A H A' H'->StoreOk X.w X.K A' H' S'->Q H'):=by
 intro pins s σ H ao ai av uo ui uv Q I ro ri rv ⟨A,S,o,i,w,S',so,r1,r2,r3,e,hq⟩;exact bo (h pins s σ H A S o i w ao ai av uo ui uv S' I so r1 ro r2 ri r3 rv e) λ_ s' #[H',A',I',e1,o1]=>#[H',I',hq H' A' e1 o1]
theorem Cu {o i:HW}{pos:J2}{fo fi:FE}(hu:X.A.units+10 < cLine)(ho:GE X o fo)(hi:GE X i fi)(ha:∀v,assign (.Subscript o i pos) X.env v=(do
   let ov <- holding [v] (eval o X.env)
   let iv <- holding [v,ov] (eval i X.env)
   standAt pos
   holding [v,ov,iv] (setItem ov iv v)
   release [v,ov,iv] [])):GG X (.Subscript o i pos) (zL fo fi):=by
 intro pins s σ H v u Q I r ⟨A,ρ,S,w,ρ',S',er,so,rw',e,hq⟩;unfold zL at e;split at e
 ·rename_i o' S1 h1;split at e
  ·rename_i i' S2 h2;split at e
   ·rename_i S3 h3;cases e;refine BG ho hi (D0 hu).pset ha pins s σ H v u Q I r ?_;refine#[A,ρ,S,o',S1,er,so,h1,λa H1 #[A1,e1,o1,r1]=>?_]
    refine#[A1,ρ,S1,i',S2,er.mono e1,o1,h2,λb H2 #[A2,e2,o2,r2]=>?_]
    exact#[A2,S2,o',i',w,_,o2,r1.mono e2,r2,rw'.mono (e1.trans e2),h3,λH' A' z1 z2=>hq σ H' A' ((e1.trans e2).trans z1) z2 (er.mono ((e1.trans e2).trans z1))]
   ·cases e
  ·cases e
 ·cases e
noncomputable def jX (f:FE)(g:FG):FS:=λρ S=>match f ρ S with
 | some (w,S1)=>match g w ρ S1 with
  | some (ρ',S2)=>gV (.nx ρ',S2)
  | none=>td
 | none=>td
theorem qi {tg e:HW}{pos:J2}{f:FE}{g:FG}(h:GE X e f)(hg:GG X tg g)(hs:swapsWithSole [tg] e pos.line X.env=pure false)(hw:swappedStores [tg] e X.env=pure td)(h1:(assignEach [tg] X.env).map (·.2)=[assign tg X.env]) :
  GS X (.Assign [tg] e pos) (jX f g):=GS.of (BH h hg hs hw h1) λσ H A ρ S o S' er so e D hd=>by
 unfold jX at e;split at e
 ·rename_i w S1 h1;split at e
  ·rename_i ρ1 S2 h2;cases e;refine#[A,ρ,S,w,S1,er,so,h1,λv H1 #[A1,z1,z2,z3]=>?_]
   exact#[A1,ρ,S1,w,ρ1,_,er.mono z1,z2,z3,h2,λσ' H' A' y1 y2 y3=>hd.nx _ _ #[ρ1,A',rfl,z1.trans y1,y2,y3]]
  ·cases e
 ·cases e
noncomputable def zM (i j:Hs)(f:FA):FS:=λρ S=>match f ρ S with
 | some ([x,y],S1)=>gV (.nx ((ρ.set i (gV x)).set j (gV y)),S1)
 | _=>td
theorem Cv {i j:Hs}{x y:HM}{a b:HW}{f:FA}{px py pt pos:J2}{kt k2:Hs}{pt2:J2}(hc:X.calm=true)(hN:X.N.Nodup)(hi:X.N[i]?=gV x)(hj:X.N[j]?=gV y)(hij:i≠j)
  (hx:X.env.scope.names.lookup x=gV .local) (hy:X.env.scope.names.lookup y=gV .local) (ha:GA X [a,b] f)
  (hw:swappedStores [.Tuple [.Name x px,.Name y py] kt pt] (.Tuple [a,b] k2 pt2) X.env=pure (gV [x,y]))
  (hs:swapsWithSole [.Tuple [.Name x px,.Name y py] kt pt] (.Tuple [a,b] k2 pt2) pos.line X.env=pure false) :
  GS X (.Assign [.Tuple [.Name x px,.Name y py] kt pt] (.Tuple [a,b] k2 pt2) pos) (zM i j f):=GS.of (BI hc hN hi hj hij hx hy ha hw hs) λσ H A ρ S o S' er so e D hd=>by
 unfold zM at e;split at e
 ·rename_i x y S1 h1;cases e;refine#[A,ρ,S,_,_,er,so,h1,λvs H1 #[A1,z1,z2,z3]=>?_]
  cases z3 with
  | cons r1 t=>
   cases t with
   | cons r2 t=>
    cases t;exact#[_,_,rfl,hd.nx _ _ #[_,A1,rfl,z1,z2,((er.mono z1).set r1 i).set r2 j]]
 ·cases e
noncomputable def ny (c:FT)(b:FS):Hs->FS
 | 0,_,_=>td
 | n+1,ρ,S=>match c ρ S with
  | some (true,S1)=>match b ρ S1 with
   | some (.nx ρ',S2)=>ny c b n ρ' S2
   | some (.ct ρ',S2)=>ny c b n ρ' S2
   | some (.bk ρ',S2)=>gV (.nx ρ',S2)
   | some (.rt w,S2)=>gV (.rt w,S2)
   | none=>td
  | some (false,S1)=>gV (.nx ρ,S1)
  | none=>td
theorem vV {c:HW}{body:Hj Kn}{pos:J2}{fc:FT}{fb:FS}(n:Hs)(hp:M1 (model X.prog X.w) X.A X.env X.xe)(hc:GT X c fc)(hb:GSs X body fb):GS X (.While c body [] pos) (ny fc fb n):=GS.of (uR hp hc hb) λσ H A ρ S o S' er so e D hd=>by
 refine#[λm σ1 H1=>∃A1 ρ1 S1,Ext X.K A H A1 H1/\EnvRel X.K A1 H1 ρ1 σ1/\StoreOk X.w X.K A1 H1 S1/\ny fc fb m ρ1 S1=gV (o,S'),#[n,A,ρ,S,.refl,er,so,e],?_]
 rintro m σ1 H1 ⟨A1,ρ1,S1,e1,er1,so1,w1⟩;cases m with
 | zero=>cases w1
 | succ m=>
  simp only[ny]at w1;split at w1
  ·rename_i S2 h1;refine#[A1,ρ1,S1,_,S2,er1,so1,h1,λb H2 #[z0,A2,z1,z2]=>?_]
   subst z0;rw[HY rfl];refine#[λσ3 H3=>∃A3 ρ3 S3,Ext X.K A H A3 H3/\EnvRel X.K A3 H3 ρ3 σ3/\StoreOk X.w X.K A3 H3 S3/\ny fc fb m ρ3 S3=gV (o,S'),λσ' H' h=>#[m,JH _,h],?_]
   split at w1
   ·rename_i ρ3 S3 h3;refine#[A2,ρ1,S2,_,S3,er1.mono z1,z2,h3,#[λσ' H' #[ρ',A',y0,y1,y2,y3]=>?_,λv H' #[w,A',y0,_]=>(by cases y0),λv H' #[w,A',y0,_]=>(by cases y0),λv H' #[w,A',y0,_]=>(by cases y0)]]
    cases y0;exact#[A',_,S3,(e1.trans z1).trans y1,y3,y2,w1]
   ·rename_i ρ3 S3 h3;refine#[A2,ρ1,S2,_,S3,er1.mono z1,z2,h3,#[λv H' #[w,A',y0,_]=>(by cases y0),λv H' #[w,A',y0,_]=>(by cases y0),λv H' #[w,A',y0,_]=>(by cases y0),λσ' H' #[ρ',A',y0,y1,y2,y3]=>?_]]
    cases y0;exact#[A',_,S3,(e1.trans z1).trans y1,y3,y2,w1]
   ·rename_i ρ3 S3 h3;cases w1;refine#[A2,ρ1,S2,_,_,er1.mono z1,z2,h3,#[λv H' #[w,A',y0,_]=>(by cases y0),λv H' #[w,A',y0,_]=>(by cases y0),λσ' H' #[ρ',A',y0,y1,y2,y3]=>?_,λv H' #[w,A',y0,_]=>(by cases y0)]]
    cases y0;exact hd.nx _ _ #[_,A',rfl,(e1.trans z1).trans y1,y2,y3]
   ·rename_i w3 S3 h3;cases w1;refine#[A2,ρ1,S2,_,_,er1.mono z1,z2,h3,#[λv H' #[w,A',y0,_]=>(by cases y0),λv H' #[w,A',y0,y1,y2,y3]=>?_,λv H' #[w,A',y0,_]=>(by cases y0),λv H' #[w,A',y0,_]=>(by cases y0)]]
    cases y0;exact hd.rt _ _ #[_,A',rfl,(e1.trans z1).trans y1,y2,y3]
   ·cases w1
  ·rename_i S2 h1;cases w1;refine#[A1,ρ1,S1,_,_,er1,so1,h1,λb H2 #[z0,A2,z1,z2]=>?_]
   subst z0;rw[Iy HN];exact hd.nx _ _ #[_,A2,rfl,e1.trans z1,z2,er1.mono z1]
  ·cases w1
end
inductive MI where
 | its (ws:Hj W)
 | live (r:Hs)
 | zl (r q:Hs)
noncomputable def Eb (xs ys:Hj W):Hj W:=HA (λx y=>.tup [x,y]) xs ys
noncomputable def MI.at (S:aa)(i:Hs):MI->Hr (Hr W)
 | .its ws=>gV ws[i]?
 | .live r=>match gP S r with
  | some xs=>gV xs[i]?
  | none=>td
 | .zl r q=>match gP S r,gP S q with
  | some xs,gV ys=>gV (Eb xs ys)[i]?
  | _,_=>td
noncomputable def MI.len (S:aa):MI->Hr Hs
 | .its ws=>gV ws.length
 | .live r=>(gP S r).map (·.length)
 | .zl r q=>match gP S r,gP S q with
  | some xs,gV ys=>gV (Eb xs ys).length
  | _,_=>td
noncomputable abbrev FI:=Fm->aa->Hr (MI×aa)
structure MIt (wd:IA)(K:HD)(mi:MI)(J:It)(A0:Hj Hw)(H0:Hp):Prop where
 go:∀A H S i w,Ext K A0 H0 A H->StoreOk wd K A H S->mi.at S i=gV (gV w)->J.go i H/\∀x H',J.yld i H x H'->Ext K A H A H'/\StoreOk wd K A H' S/\Rel K A H' w x
 stop:∀A H S i,Ext K A0 H0 A H->StoreOk wd K A H S->mi.at S i=gV td->J.stop i H
noncomputable def tI (X:Cx)(f:FI):TI:=λσ H R=>∃A ρ S mi S',EnvRel X.K A H ρ σ/\StoreOk X.w X.K A H S/\f ρ S=gV (mi,S')/\∀J H' A',Ext X.K A H A' H'->StoreOk X.w X.K A' H' S'->MIt X.w X.K mi J A' H'->R J H'
noncomputable abbrev GI (X:Cx)(tg iter:HW)(f:FI):Prop:=PI X tg iter (tI X f)
noncomputable def zN (f:FE):FI:=λρ S=>match f ρ S with
 | some (.tup ws,S1)=>gV (.its ws,S1)
 | some (.ref r,S1)=>match gP S1 r with
  | some _=>gV (.live r,S1)
  | none=>td
 | _=>td
noncomputable def dc (lo:Hy)(n:Hs):Hj W:=(HJ n).map λ(k:Hs)=>.int (lo+(k:Hy))
noncomputable def qj (f:FA):FI:=λρ S=>match f ρ S with
 | some ([.int j],S1)=>if -(2 ^ 62)<=j/\j < 2 ^ 62 then gV (.its (dc 0 j.toNat),S1)else td
 | _=>td
noncomputable def iRng2 (f:FA):FI:=λρ S=>match f ρ S with
 | some ([.int i,.int j],S1)=>if -(2 ^ 62)<=i/\i < 2 ^ 62/\-(2 ^ 62)<=j/\j < 2 ^ 62 then gV (.its (dc i (j - i).toNat),S1)else td
 | _=>td
noncomputable def fQ (mi:MI)(g:FG)(b:FS):Hs->Hs->FS
 | 0,i,ρ,S=>match mi.at S i with
  | some td=>gV (.nx ρ,S)
  | _=>td
 | n+1,i,ρ,S=>match mi.at S i with
  | some (gV w)=>match g w ρ S with
   | some (ρ1,S1)=>match b ρ1 S1 with
    | some (.nx ρ2,S2)=>fQ mi g b n (i+1) ρ2 S2
    | some (.ct ρ2,S2)=>fQ mi g b n (i+1) ρ2 S2
    | some (.bk ρ2,S2)=>gV (.nx ρ2,S2)
    | some (.rt w,S2)=>gV (.rt w,S2)
    | none=>td
   | none=>td
  | _=>td
noncomputable def vW (fi:FI)(g:FG)(b:FS):FS:=λρ S=>match fi ρ S with
 | some (mi,S1)=>match mi.len S1 with
  | some n=>fQ mi g b n 0 ρ S1
  | none=>td
 | none=>td
section
variable{X:Cx}
theorem zO {A:Hj Hw}{H:Hp}{ws:Hj W}{a:Hw}{vs:Hj V}(h:SqT X.K H a vs)(r:RelL X.K A H ws vs):MIt X.w X.K (.its ws) (Dj X.K a) A H:=by
 refine#[λA' H' S i w e so hi=>?_,λA' H' S i e so hi=>?_]
 ·simp only[MI.at,IG]at hi;obtain⟨v,h1,h2⟩:=(r.mono e).get hi;refine#[#[vs,v,e.tp _ _ h,h1],λx H2 #[z1,z2]=>?_]
  subst z1;have:=z2 vs (e.tp _ _ h);rw[h1]at this; cases this
  exact#[.refl,so,h2]
 ·simp only[MI.at,IG]at hi;refine#[vs,e.tp _ _ h,?_];rw[<- r.length];exact JG.mp hi
theorem zP {A:Hj Hw}{H:Hp}{r:Hs}{a:Hw}(ea:A[r]?=gV a):MIt X.w X.K (.live r) (FK X.K a) A H:=by
 refine#[λA' H' S i w e so hi=>?_,λA' H' S i e so hi=>?_]
 ·simp only[MI.at]at hi;split at hi
  ·rename_i xs hx;simp only[IG]at hi;obtain⟨vs,h1,r1⟩:=cH so hx (e.ad _ _ ea);obtain⟨v,h2,h3⟩:=r1.get hi;refine#[#[vs,v,h1,h2],λx H2 #[z1,z2]=>?_]
   subst z1;have:=z2 vs h1;rw[h2]at this; cases this
   exact#[.refl,so,h3]
  ·cases hi
 ·simp only[MI.at]at hi;split at hi
  ·rename_i xs hx;simp only[IG]at hi;obtain⟨vs,h1,r1⟩:=cH so hx (e.ad _ _ ea);refine#[vs,h1,?_];rw[<- r1.length];exact JG.mp hi
  ·cases hi
theorem d4 {lo:Hy}{n i:Hs}:(dc lo n)[i]?=if i < n then gV (.int (lo+i))else td:=by
 unfold dc;rw[Ht]
 by_cases h:i < n
 ·rw[HY h,JU h]; rfl
 ·rw[Iy h,JG.mpr (by simp; omega)]; rfl
theorem rR {A:Hj Hw}{H:Hp}{lo:Hy}{n:Hs}:MIt X.w X.K (.its (dc lo n)) (DF lo n) A H:=by
 refine#[λA' H' S i w e so hi=>?_,λA' H' S i e so hi=>?_]
 ·simp only[MI.at,IG]at hi;rw[d4]at hi;split at hi
  ·cases hi;refine#[by assumption,λx H2 #[z1,z2]=>?_]
   subst z1 z2;exact#[.refl,so,.int]
  ·cases hi
 ·simp only[MI.at,IG]at hi;rw[d4]at hi;split at hi
  ·cases hi
  ·show n<=i;omega
theorem oT {tg:HW}{pins:Hj (Hw×Jr)}{σ:L2.St}{H1:Hp}{s1:Hq}{R:It->Hp->Prop}{a:Hw}{xs:Hj V}{v:Hm}(I1:Inv X pins σ H1 s1)(r1:RelV (.ref a) v)(hq:SqL X.K H1 a xs)(q:R (FK X.K a) H1) :
  wpAny (model X.prog X.w) X.A (pyIter v) (Ff X pins σ tg R) X.xe s1:=by
 cases r1;obtain⟨its,rv,p,hz⟩:=I1.list hq;refine LZ p.isList ?_;refine#[s1.heap.objs.size,[s1.heap.objs.size],_,_,H1,rfl,I1.kept (t':=s1.toks) λb o e=>Hu _ e,sP a _,#[_,HQ _ rfl,rfl,rfl],λb hb=>?_,q]
 have e:b=s1.heap.objs.size:=by simpa using hb
 subst e;exact I1.fpOk (HC _) (I1.hok.fresh (HC _))
theorem qk {tg:HW}{pins:Hj (Hw×Jr)}{σ:L2.St}{H1:Hp}{s1:Hq}{R:It->Hp->Prop}{a:Hw}{xs:Hj V}{v:Hm}(I1:Inv X pins σ H1 s1)(r1:RelV (.ref a) v)(hq:SqT X.K H1 a xs)(q:R (Dj X.K a) H1) :
  wpAny (model X.prog X.w) X.A (pyIter v) (Ff X pins σ tg R) X.xe s1:=by
 cases r1;obtain⟨its,rv,p,hz⟩:=I1.tuple hq;refine Nv (show s1.heap.IsTuple a its.toArray from p) ?_
 refine#[s1.heap.objs.size,[s1.heap.objs.size],_,_,H1,rfl,I1.kept (t':=s1.toks) λb o e=>Hu _ e,pS a _,#[_,HQ _ rfl,rfl,rfl],λb hb=>?_,q]
 have e:b=s1.heap.objs.size:=by simpa using hb
 subst e;exact I1.fpOk (HC _) (I1.hok.fresh (HC _))
theorem zQ {tg a:HW}{f:FA}{p pos:J2}(hg:Gl X "range")(hm:X.mg "range" = td)(ha:GA X [a] f)(hs:starEach [a] X.env=[(false,eval a X.env)]):GI X tg (.Call (.Name "range" p) [a] [] pos) (qj f):=by
 intro pins s σ H R I ⟨A,ρ,S,mi,S',er,so,e,hq⟩;unfold qj at e;split at e
 ·rename_i j S1 h1;split at e
  ·rename_i hj;cases e;refine sQ hg hm ha hs pins s σ H R I #[A,ρ,S,_,_,er,so,h1,λvs H1 #[A1,z1,z2,z3]=>?_]
   cases z3 with
   | cons r1 t=>
    cases t;cases r1;exact#[j,rfl,hj.1,hj.2,hq _ _ A1 z1 z2 rR]
  ·cases e
 ·cases e
theorem zR {tg a b:HW}{f:FA}{p pos:J2}(hg:Gl X "range")(hm:X.mg "range" = td)(ha:GA X [a,b] f)(hs:starEach [a,b] X.env=[(false,eval a X.env),(false,eval b X.env)])(hs2:starEach [b] X.env=[(false,eval b X.env)]):GI X tg (.Call (.Name "range" p) [a,b] [] pos) (iRng2 f):=by
 intro pins s σ H R I ⟨A,ρ,S,mi,S',er,so,e,hq⟩;unfold iRng2 at e;split at e
 ·rename_i i j S1 h1;split at e
  ·rename_i hj;cases e;refine sR hg hm ha hs hs2 pins s σ H R I #[A,ρ,S,_,_,er,so,h1,λvs H1 #[A1,z1,z2,z3]=>?_]
   cases z3 with
   | cons r1 t=>
    cases t with
    | cons r2 t=>
     cases t;cases r1;cases r2;exact#[i,j,rfl,hj,hq _ _ A1 z1 z2 rR]
  ·cases e
 ·cases e
theorem Cw {tg l:HW}{f:FE}(h:GE X l f):GI X tg l (zN f):=by
 intro pins s σ H R I ⟨A,ρ,S,mi,S',er,so,e,hq⟩;unfold zN at e;split at e
 ·rename_i ws S1 h1;cases e;refine bo (h pins s σ H (EndV X.w X.K A H _ (.tup ws)) I #[A,ρ,S,_,_,er,so,h1,λ_ _ z=>z]) λv s1 #[x,H1,I1,r1,A1,e1,o1,z1]=>?_
  cases z1 with
  | tup hq1 rl=>
   refine qk I1 r1 hq1 (hq _ _ A1 e1 o1 (zO hq1 rl))
 ·rename_i r S1 h1;split at e
  ·rename_i ys hy;cases e;refine bo (h pins s σ H (EndV X.w X.K A H _ (.ref r)) I #[A,ρ,S,_,_,er,so,h1,λ_ _ z=>z]) λv s1 #[x,H1,I1,r1,A1,e1,o1,z1]=>?_
   cases z1 with
   | ref ea=>
    obtain⟨vs,hl,_⟩:=cH o1 hy ea;exact oT I1 r1 hl (hq _ _ A1 e1 o1 (zP ea))
  ·cases e
 ·cases e
theorem Cy {tg iter:HW}{body:Hj Kn}{pos:J2}{fi:FI}{g:FG}{fb:FS}(hp:M1 (model X.prog X.w) X.A X.env X.xe)(hc:X.calm=true)(hi:GI X tg iter fi)(hg:GG X tg g)(hb:GSs X body fb)
  (hs:∀x,foldedSetIterable iter X.env x=pure x):GS X (.For tg iter body [] pos) (vW fi g fb):=GS.of (BK hp hc hi hg hb hs) λσ H A ρ S o S' er so e D hd=>by
 unfold vW at e;split at e
 ·rename_i mi S1 h1;split at e
  ·rename_i n hn;refine#[A,ρ,S,mi,S1,er,so,h1,λJ H1 A1 z1 z2 mit=>?_]
   refine#[λi m σ2 H2=>∃A2 ρ2 S2,Ext X.K A1 H1 A2 H2/\EnvRel X.K A2 H2 ρ2 σ2/\StoreOk X.w X.K A2 H2 S2/\fQ mi g fb m i ρ2 S2=gV (o,S'),#[n,A1,ρ,S1,.refl,er.mono z1,z2,e],?_]
   rintro i m σ2 H2 ⟨A2,ρ2,S2,e2,er2,so2,w2⟩;cases m with
   | zero=>
    dsimp only[fQ]at w2;split at w2
    ·rename_i hs;cases w2;exact .inl #[mit.stop A2 H2 _ i e2 so2 hs,hd.nx _ _ #[_,A2,rfl,z1.trans e2,so2,er2]]
    ·cases w2
   | succ m=>
    dsimp only[fQ]at w2;split at w2
    ·rename_i w hw;obtain⟨go,yl⟩:=mit.go A2 H2 S2 i w e2 so2 hw;refine .inr #[go,λσ3 H3=>∃A3 ρ3 S3,Ext X.K A1 H1 A3 H3/\EnvRel X.K A3 H3 ρ3 σ3/\StoreOk X.w X.K A3 H3 S3/\fQ mi g fb m (i+1) ρ3 S3=gV (o,S'),λσ' H' h=>#[m,JH _,h],λx H3 hy=>?_]
     obtain⟨x1,x2,x3⟩:=yl x H3 hy;split at w2
     ·rename_i ρ3 S3 h3;refine#[A2,ρ2,S2,w,ρ3,S3,er2.mono x1,x2,x3,h3,λσ4 H4 A4 y1 y2 y3=>?_]
      have ex:Ext X.K A1 H1 A4 H4:=(e2.trans x1).trans y1;split at w2
      ·rename_i ρ5 S5 h5;refine#[A4,ρ3,S3,_,S5,y3,y2,h5,#[λσ' H' #[ρ',A',u0,u1,u2,u3]=>?_,λv H' #[w,A',y0,_]=>(by cases y0),λv H' #[w,A',y0,_]=>(by cases y0),λv H' #[w,A',y0,_]=>(by cases y0)]]
       cases u0;exact#[A',_,S5,ex.trans u1,u3,u2,w2]
      ·rename_i ρ5 S5 h5;refine#[A4,ρ3,S3,_,S5,y3,y2,h5,#[λv H' #[w,A',y0,_]=>(by cases y0),λv H' #[w,A',y0,_]=>(by cases y0),λv H' #[w,A',y0,_]=>(by cases y0),λσ' H' #[ρ',A',u0,u1,u2,u3]=>?_]]
       cases u0;exact#[A',_,S5,ex.trans u1,u3,u2,w2]
      ·rename_i ρ5 S5 h5;cases w2;refine#[A4,ρ3,S3,_,_,y3,y2,h5,#[λv H' #[w,A',y0,_]=>(by cases y0),λv H' #[w,A',y0,_]=>(by cases y0),λσ' H' #[ρ',A',u0,u1,u2,u3]=>?_,λv H' #[w,A',y0,_]=>(by cases y0)]]
       cases u0;exact hd.nx _ _ #[_,A',rfl,(z1.trans ex).trans u1,u2,u3]
      ·rename_i w5 S5 h5;cases w2;refine#[A4,ρ3,S3,_,_,y3,y2,h5,#[λv H' #[w,A',y0,_]=>(by cases y0),λv H' #[w,A',u0,u1,u2,u3]=>?_,λv H' #[w,A',y0,_]=>(by cases y0),λv H' #[w,A',y0,_]=>(by cases y0)]]
       cases u0;exact hd.rt _ _ #[_,A',rfl,(z1.trans ex).trans u1,u2,u3]
      ·cases w2
     ·cases w2
    ·cases w2
  ·cases e
 ·cases e
end
section
variable{prog:Io}{w:IA}{B:Ix}{E:Hm->Hq->Prop}{s:Hq}
theorem zS {d:Hw}{es:IF JR}{ep:Hs}{Q:Hm->Hq->Prop}(hd:(d==sysModules)=false)(hm:RawD d es ep s.heap)(hfit:(es.size:Hy) < 2 ^ 63)
  (h:Q (.int es.size (s.toks+1)) { s with toks:=s.toks+1+1 }):wpAny (model prog w) B (call (.builtin "len") [.ref d]) Q E s:=by
 have hT:=hm.type;obtain⟨o,ho,hc,hdat⟩:=id hm;refine LS kind_len plain_len entry_len (args_len1 _) ?_;unfold Mq.«len»;refine Hl (m:=oneArg "len" _) (HB ?_);refine Hl (m:=callSpecial? (.ref d) (JX "__len__")) (IX (name:=JX "__len__") hT F.slot_dict_len (Ji F.slot_dict_len hT F.entry_dict_len ?_ (F.args_dict_len_1 _)));show wpAny _ _ (dictSize d >>= _) _ _ s;unfold dictSize;refine Hl (Hl (Lg ho hdat (HB ?_)));show wpAny _ _ (OV d >>= _) _ _ s;refine Hl (wpAny_pendingCount_other hd ?_);refine wpAny_ret_mkInt ?_;rw[Nat.add_zero];show wpAny _ _ _ _ _ { s with toks:=s.toks+1 }
 refine Hl (Jn (HB ?_));refine Hl (Lv ?_);show wpAny _ _ (if ((es.size:Hs):Hy) < 0 then _ else _) _ _ _
 rw[Iy ∅]
 show wpAny _ _ (if ((es.size:Hs):Hy)>=2 ^ 63 then _ else _) _ _ _
 rw[Iy ∅]
 exact Hl (Ol (HB #[_,rfl,h]))
end
section
variable{X:Cx}{pins:Hj (Hw×Jr)}{σ:L2.St}{H:Hp}{s:Hq}{A:Hj Hw}{S:aa}
theorem ql:LCall X (.builtin "len") qg:=by
 intro pins s σ H A S xs vs us w S' I so rl rv e
 by_cases hd:∃i kvs,xs=[.ref i]/\jt S i=gV kvs
 ·obtain⟨i,kvs,rfl,hk⟩:=hd;simp only[qg,hk]at e;cases e;cases rl with
  | cons r t=>
   cases t;cases rv with
   | cons ru rv2=>
    cases rv2;cases r with
    | ref ea=>
     obtain⟨xs,rd,kr⟩:=fN so hk ea;have d:=cC I rd;obtain⟨es,ep,raw,he⟩:=d.raw;obtain rfl:_=IE _:=ru;have hl:es.size=xs.length:=by rw[<- Iw,he,Hk]
     have hz:=d.1;have hs:sizeLine=16777216:=IN;refine zS d.2.1 raw ∅ #[.int kvs.length,H,A,I.tok _,#[_,by rw[kr.length,hl]],.refl,so,.int]
 ·have:qg xs S=qa xs S:=by
   unfold qg;split
   ·rename_i i;split
    ·rename_i kvs hk;exact absurd #[i,kvs,rfl,hk] hd
    ·rfl
   ·rfl
  rw[this]at e;exact tt pins s σ H A S xs vs us w S' I so rl rv e
noncomputable def GP (S:aa):W->Hr Jf
 | .non=>gV "NoneType"|.bl _=>gV "bool"|.int _=>gV "int"|.str _=>gV "str"|.tup _=>gV "tuple"
 | .ref i=>match gP S i with
  | some _=>gV "list"
  | none=>(jt S i).map λ_=>"dict"
noncomputable def rS:Hj Jf:=["bool","int","str","tuple","list","dict"]
noncomputable def nZ (S:aa)(x:W)(c:Jf):Hr HX:=match GP S x with
 | some t=>if rS.contains c then gV (t==c||(t == "bool" && c == "int"))else td
 | none=>td
theorem gT {K:HD}{t c:Jf}(ht:t∈["NoneType","bool","int","str","tuple","list","dict"])(hc:c∈rS):PySem.W.kitOne K (.type t) (.type c)=gV (t==c||(t == "bool" && c == "int")):=by
 simp only[rS,HZ,IU,Ku]at ht hc;rcases ht with rfl|rfl|rfl|rfl|rfl|rfl|rfl <;> rcases hc with rfl|rfl|rfl|rfl|rfl|rfl <;> rfl
theorem vX:CallR X (.builtin "isinstance") (λvs H Q=>∃A S x v c b,vs=[v,.ty c]/\StoreOk X.w X.K A H S/\Rel X.K A H x v/\nZ S x c=gV b/\Q (.bl b) H):=by
 intro pins s σ H vs us Q I rv ⟨A,S,x,v,c,b,e1,so,rx,e2,hq⟩;subst e1;cases rv with
 | cons r1 rv2=>cases rv2 with
  | cons r2 rv3=>
   cases rv3;obtain rfl:_=KI c:=r2;unfold nZ at e2;split at e2
   ·rename_i t ht;split at e2
    ·rename_i hc;cases e2;have hc':c∈rS:=by simpa using hc
     have fin:∀tk,EP X pins σ Q (.bool (t==c||(t == "bool" && c == "int"))) { s with toks:=tk }:=λtk=>#[.bl _,H,I.tok _,rfl,hq]
     cases rx with
     | non=>cases ht; cases(show _=IM from r1); exact Kc PySem.W.kitx_none I.kIn Lr (gT (by simp) hc') (λz=>nomatch z) fin
     | bl=>cases ht; cases(show _=JS _ from r1); exact Kc PySem.W.kitx_bool I.kIn Lr (gT (by simp) hc') (λz=>nomatch z) fin
     | int=>cases ht; obtain⟨t',q⟩:=(show ∃t,_=Mb _ t from r1); cases q; exact Kc PySem.W.kitx_int I.kIn Lr (gT (by simp) hc') (λz=>nomatch z) fin
     | str=>cases ht; obtain⟨t',q⟩:=(show ∃t,_=Lm _ t from r1); cases q; exact Kc PySem.W.kitx_str I.kIn Lr (gT (by simp) hc') (λz=>nomatch z) fin
     | tup h1 r1'=>
      cases ht;obtain⟨its,rv,⟨o,q1,q2,_⟩,hz⟩:=I.tuple h1;cases(show _=IE _ from r1)
      exact Kc PySem.W.kitx_tuple I.kIn #[o,q1,q2] (gT (by simp) hc') (λz=>nomatch z) fin
     | ref ea=>
      cases(show _=IE _ from r1)
      simp only[GP]at ht;split at ht
      ·rename_i ws hw;cases ht;obtain⟨vs,h1,_⟩:=cH so hw ea;obtain⟨its,rv,p,hz⟩:=I.list h1;obtain⟨o,q1,q2,_⟩:=p.isList;exact Kc PySem.W.kitx_list I.kIn #[o,q1,q2] (gT (by simp) hc') (λz=>nomatch z) fin
      ·rw[Ho]at ht;obtain⟨kvs,hk,rfl⟩:=ht;obtain⟨xs,rd,kr⟩:=fN so hk ea;obtain⟨es,ep,⟨o,q1,q2,_⟩,he⟩:=(cC I rd).raw;exact Kc PySem.W.kitx_dict I.kIn #[o,q1,q2.1] (gT (by simp) hc') (λz=>nomatch z) fin
    ·cases e2
   ·cases e2
noncomputable def vY (c:Jf)(f:FE):FE:=λρ S=>match f ρ S with
 | some (x,S1)=>(nZ S1 x c).map λb=>(.bl b,S1)
 | none=>td
theorem Cz {cn:HM}{c:Jf}{e:HW}{p p2 pos:J2}{f:FE}(hg:Gl X "isinstance")(hm:X.mg "isinstance" = td)(hg2:Gl X cn)(hm2:X.mg cn=td)(hv2:bootBuiltins cn=gV (.type c))(hn2:cn≠"__name__")(hd2:(cn==("__debug__" : HM))=false)
  (he:GE X e f) (hs:starEach [e,.Name cn p2] X.env=(false,eval e X.env)::starEach [.Name cn p2] X.env):GE X (.Call (.Name "isinstance" p) [e,.Name cn p2] [] pos) (vY c f):=
 GE.of (ol (vX) hg hm rfl (mF he (mF (yt (v:=.ty c) hg2 hm2 hv2 rfl hn2 hd2) uV) hs) #v[] #v[] hs rfl) λσ H A ρ S w S' er so e Q hq=>by
  unfold vY at e;split at e
  ·rename_i x1 S1 h1;rw[Ho]at e;obtain⟨b,e1,e2⟩:=e;cases e2;exact#[A,ρ,S,x1,_,er,so,h1,λv H1 #[A1,z1,z2,z3]=>#[A1,_,x1,v,c,b,rfl,z2,z3,e1,hq _ _ #[A1,z1,z2,.bl]]]
  ·cases e
end
noncomputable def dC:Hj (T×W)->Hj W->Hr (Hj (T×W))
 | kvs,[]=>gV kvs
 | kvs,k::v::ws=>match gC k with
  | some t=>dC (en kvs t v) ws
  | none=>td
 | _,[_]=>td
noncomputable def AR:FE:=λ_ S=>gV (.ref S.length,S++[.dic []])
noncomputable def oU (f:FA):FE:=λρ S=>match f ρ (S++[.dic []])with
 | some (ws,S1)=>match S1[S.length]? with
  | some (.dic [])=>match dC [] ws with
   | some kvs=>gV (.ref S.length,S1.set S.length (.dic kvs))
   | none=>td
  | _=>td
 | none=>td
section
variable (K:HD) (A:Hj Hw) (H:Hp)
inductive RelP:Hj W->Hj (V×V)->Prop
 | nil:RelP [] []
 | cons {k v:W} {a b:V} {ws:Hj W} {ps:Hj (V×V)}:Rel K A H k a->Rel K A H v b->RelP ws ps->RelP (k::v::ws) ((a,b)::ps)
end
theorem RelP.mono {K:HD}{A A':Hj Hw}{H H':Hp}(e:Ext K A H A' H'){ws:Hj W}{ps:Hj (V×V)}(h:RelP K A H ws ps):RelP K A' H' ws ps:=by
 induction h with
 | nil=>exact .nil
 | cons a b c ih=>exact .cons (a.mono e) (b.mono e) ih
section
variable{X:Cx}{pins:Hj (Hw×Jr)}{σ:L2.St}{H:Hp}{s:Hq}{A:Hj Hw}{S:aa}
noncomputable def Gc (X:Cx)(A:Hj Hw)(H:Hp)(S':aa)(ws:Hj W):Hj (V×V)->Hp->Prop:=λps H'=>∃A',Ext X.K A H A' H'/\StoreOk X.w X.K A' H' S'/\RelP X.K A' H' ws ps
noncomputable def Ec (X:Cx)(pos:J2)(keys:Hj (Hr HW))(values:Hj HW)(f:FA):Prop:=
 ∀(pins:Hj (Hw×Jr)) (s:Hq) (σ:L2.St) (H:Hp) (A:Hj Hw) (ρ:Fm) (S:aa) (ws:Hj W) (S':aa),Inv X pins σ H s->EnvRel X.K A H ρ σ->StoreOk X.w X.K A H S->f ρ S=gV (ws,S')->
  wpAny (model X.prog X.w) X.A (evalPairs (pairTrees keys values X.env pos)) (λvs s'=>∃ps H',Inv X pins σ H' s'/\VV ps vs/\Gc X A H S' ws ps H') X.xe s
theorem zT {pos:J2}:Ec X pos [] [] io:=λpins s σ H A ρ S ws S' I er so e=>by
 cases e;exact pairTrees_nil_walk #[[],H,I,.nil,A,.refl,so,.nil]
theorem vZ {pos:J2}{k v:HW}{ks:Hj (Hr HW)}{vs:Hj HW}{fk fv:FE}{f:FA}(hk:GE X k fk)(hv:GE X v fv)(hr:Ec X pos ks vs f):Ec X pos (gV k::ks) (v::vs) (dG fk (dG fv f)):=λpins s σ H A ρ S ws S' I er so e=>by
 unfold dG at e;split at e
 ·rename_i w1 S1 h1;split at e
  ·rename_i w2 S2 h2;cases e;split at h2
   ·rename_i w3 S3 h3;split at h2
    ·rename_i w4 S4 h4;cases h2;refine pairTrees_cons_walk (bo (hk pins s σ H (EndV X.w X.K A H S1 w1) I #[A,ρ,S,_,_,er,so,h1,λ_ _ z=>z]) λu s1 #[x,H1,I1,r1,A1,e1,o1,z1]=>
      bo (hv pins s1 σ H1 (EndV X.w X.K A1 H1 S3 w3) I1 #[A1,ρ,S1,_,_,er.mono e1,o1,h3,λ_ _ z=>z]) λu2 s2 #[x2,H2,I2,r2,A2,e2,o2,z2]=>
      bo (hr pins s2 σ H2 A2 ρ S3 _ _ I2 (er.mono (e1.trans e2)) o2 h4) λvs' s3 #[ps,H3,I3,rel,A3,e3,o3,z3]=>?_)
     exact#[(x,x2)::ps,H3,I3,.cons #[r1,r2] rel,A3,e1.trans (e2.trans e3),o3,.cons (z1.mono (e2.trans e3)) (z2.mono e3) z3]
    ·cases h2
   ·cases h2
  ·cases e
 ·cases e
theorem lP {r:Hs}{d:Hw}{E:Hm->Hq->Prop}(hu:X.A.units+10 < cLine):∀(vs:Hj (Hm×Hm)) (ps:Hj (V×V)) (ws:Hj W) (kvs kvs':Hj (T×W)) (s:Hq) (H:Hp) (S:aa) (Q:PUnit->Hq->Prop),
  Inv X pins σ H s->StoreOk X.w X.K A H S->mY S r=gV kvs->A[r]?=gV d->RelP X.K A H ws ps->VV ps vs->dC kvs ws=gV kvs'->kvs.length+vs.length<=30->
  (∀s' H',Inv X pins σ H' s'->Ext X.K A H A H'->StoreOk X.w X.K A H' (S.set r (.dic kvs'))->Q Nu s')->
  wpAny (model X.prog X.w) X.A (forIn vs Nu λ(x:Hm×Hm) (_:PUnit)=>(do dictSet d x.1 x.2; pure (Jx Nu):Pn (ForInStep PUnit))) Q E s
 | [],_,_,kvs,kvs',s,H,S,Q,I,so,hr,ea,rp,vv,e,hl,hq=>by
  cases vv;cases rp;cases e;rw[OO];refine HB (hq s H I .refl ?_);have hS:=ig hr;have:S.set r (.dic kvs)=S:=by
   apply L1;intro j;rw[JD];split
   ·rename_i e; subst e
    split
    ·exact hS.symm
    ·rename_i h; exact absurd (HG.mp hS).1 h
   ·rfl
  rw[this]; exact so
 | (ku,vu)::vs,_,_,kvs,kvs',s,H,S,Q,I,so,hr,ea,rp,vv,e,hl,hq=>by
  cases vv with
  | cons hv vv2=>
   cases rp with
   | @cons wk wv va vb ws2 ps2 rk rv' rp2=>
    simp only[dC]at e;split at e
    ·rename_i t ht;rw[MA];obtain⟨xs,hH,kr⟩:=rE so hr ea;have dd0:=cC I (.inl hH);have dd:=dd0.dict I kr;obtain⟨bk,e1,e2,rkk⟩:=ie ht rk hv.1;have e2:ku=IE bk:=e2;subst e2;obtain⟨q1,q2,q3⟩:=dR ht;rw[Iz]at hl;have hz:xs.length<=sizeLine:=dd0.1;refine Hl (Hl (wpAny_dictSet_heap (hsz:=hz) (show X.A.units+bg < cLine by unfold bg; omega) (iS I rkk q3) dd λh' dd' hs=>HB ?_))
     have kr':=kr.put q2 q3 rkk rv' hv.2;have hz':(storedH xs t bk vu).length<=sizeLine:=by
      rw[<- kr'.length];have h2:=cO kvs t wv;rw[IN];omega
     have dn:DicAt X.w d (storedH xs t bk vu) h':=.of hz' dd0.2.1 dd';obtain⟨so',ex⟩:=so.writeO (ig hr) rfl ea (u:=dY X.w d (storedH xs t bk vu)) (n:=.dic (en kvs t wv)) #[_,aZ,kr'.mono (dm (.ext hH))];have I':Inv X pins σ (bR H d (dY X.w d (storedH xs t bk vu))) { s with heap:=h',toks:=s.toks+(cU X.prog X.w).draws t }:=mM I (by rw[hH]; exact Lr) hs (let ⟨q,_,_,hq,_⟩:=dd'; #[q,hq]) dn.ok
     have hl':(S.set r (.dic (en kvs t wv)))[r]?=gV (.dic (en kvs t wv)):=by
      rw[JD,HY rfl,HY (HG.mp (ig hr)).1]
     refine lP hu vs _ _ (en kvs t wv) kvs' _ _ _ Q I' so' (by unfold mY; rw[hl']) ea (rp2.mono ex) vv2 e (by have:=cO kvs t wv; omega) λs' H' I2 ex2 so2=>?_
     rw[List.set_set]at so2;exact hq s' H' I2 (ex.trans ex2) so2
    ·cases e
theorem zU {pos:J2}:GE X (.Dict [] [] pos) AR:=λpins s σ H Q I #[A,ρ,S,w,S',er,so,e,hq]=>by
 cases e;have hn:=I.hok.fresh (HC s.heap.objs.size);have dn:DicAt X.w s.heap.objs.size [] (s.heap.push { cls:=.type "dict",data:=.dict #[] }):=#[JN _,Lz.mpr (Ne.symm (Ip I.big)),MS,_,#[],0,HQ _ rfl,#[rfl,rfl,rfl],rfl,rfl];refine wpAny_Dict_empty #[.ref s.heap.objs.size,_,I.laid (a:=s.heap.objs.size) (o:=dY X.w s.heap.objs.size []) (t':=s.toks) (λ_ _ q=>Hu _ q) (HC _) dn.ok,rfl,hq _ _ #[A++[s.heap.objs.size],dZ hn,so.pushO hn #[[],aZ,.nil],.ref ?_]]
 rw[<- so.len]; simp
theorem zV {pos:J2}{keys:Hj (Hr HW)}{values:Hj HW}{f:FA}(hu:X.A.units+10 < cLine)(h:Ec X pos keys values f)(hall:keys.all (·.isSome)=true)(hl:keys.length=values.length)(h0:keys≠[])(h15:keys.length<=15):GE X (.Dict keys values pos) (oU f):=by
 intro pins s σ H Q I ⟨A,ρ,S,w,S',er,so,e,hq⟩;unfold oU at e;split at e
 ·rename_i ws S1 h1;split at e
  ·rename_i hS1;split at e
   ·rename_i kvs hp;cases e;have hn:=I.hok.fresh (HC s.heap.objs.size);have dn:DicAt X.w s.heap.objs.size [] (s.heap.push { cls:=.type "dict",data:=.dict #[] }):=#[JN _,Lz.mpr (Ne.symm (Ip I.big)),MS,_,#[],0,HQ _ rfl,#[rfl,rfl,rfl],rfl,rfl];have I1:=I.laid (a:=s.heap.objs.size) (o:=dY X.w s.heap.objs.size []) (h':=s.heap.push { cls:=.type "dict",data:=.dict #[] }) (t':=s.toks) (λ_ _ q=>Hu _ q) (HC _) dn.ok
    have ex0:Ext X.K A H (A++[s.heap.objs.size]) (bR H s.heap.objs.size (dY X.w s.heap.objs.size [])):=dZ hn;have so0:StoreOk X.w X.K (A++[s.heap.objs.size]) (bR H s.heap.objs.size (dY X.w s.heap.objs.size [])) (S++[.dic []]):=so.pushO hn #[[],aZ,.nil];have hlen:=pairTrees_length keys values X.env pos hall hl;have hne:pairTrees keys values X.env pos≠[]:=λhe=>by
     rw[he]at hlen;exact h0 (Lb.mp hlen.symm)
    rw[arm_eval_Dict,zip_pairTrees keys values X.env pos hall hl,dictDisplay_pairs _ hne ∅]
    refine Hl (Lu (Hl ?_));unfold subDict;refine Hl (wpAny_alloc ?_);refine Hl (Jn ?_);rw[HY ∅]
    refine Hl (JA (wpAny_evalPairs_len (h pins _ σ _ _ ρ _ _ _ I1 (er.mono ex0) so0 h1)) (λvs s₁ h₁=>?_) λ_ _ e=>e)
    obtain⟨hvl,ps,H2,I2,vv,A2,ex2,so2,rp⟩:=h₁;refine Jn ?_;have ea:A2[S.length]?=gV s.heap.objs.size:=ex2.ad _ _ (by rw[<- so.len]; simp)
    refine Hl (lP hu vs ps ws [] kvs s₁ H2 S1 _ I2 so2 (by unfold mY; rw[hS1]) ea rp vv hp (by rw[Jw]; omega) λs' H' I3 ex3 so3=>?_)
    exact HB (HB (HB #[.ref s.heap.objs.size,H',I3,rfl,hq _ _ #[A2,ex0.trans (ex2.trans ex3),so3,.ref ea]]))
   ·cases e
  ·cases e
 ·cases e
end
noncomputable def GQ (wd:IA)(a:Hw)(o:Jr)(xs:Hj (T×Hw×Hm)):It:=
 #[λi H=>H a=gV (.frz o (dY wd a xs))/\i < xs.length,λi H x H'=>H'=H/\∃q,xs[i]?=gV q/\x=.ref q.2.1,λi H=>H a=gV (.frz o (dY wd a xs))/\xs.length<=i]
theorem tR {P:Io}{w:IA}{K:HD}{tg:HW}(a it:Hw){o:Jr}{es:IF JR}{ep:Hs}{xs:Hj (T×Hw×Hm)}(hx:o.ExactDict)(hd:o.data=.dict es ep)(he:es.toList=xs.map (ve w)) :
  Turn P w K tg (GQ w a o xs) [it] it (λi h=>h.IsKeyIter it a i es.size ep) where
 mem:=by simp
 obj:=λi h st b hb=>by
  have e:b=it:=by simpa using hb
  subst e;obtain⟨o,e,c,d⟩:=st;exact#[o,e,λv z=>by rw[d]at z; cases z]
 keep:=λi h h' st k=>st.at λo e=>k it (by simp) o e
 item:=by
  intro X hP hw hK hc i pins s σ H E I hf st hg;subst hP hw hK;obtain⟨hH,hi⟩:=hg;have ho:s.heap.get? a=gV o:=(show ObjOk X.prog X.w H s.heap a (.frz o (dY X.w a xs))from I.hok a _ hH).1
  have hl:es.size=xs.length:=by rw[<- Iw,he,Hk]
  have hi':i < es.size:=∅
  obtain⟨f0,f1,f2,f3,f4,f5⟩:=hf it (by simp)
  have hk:es[i].key=.ref (xs[i]).2.1:=by
   have:es.toList[i]?=gV (ve X.w xs[i]):=by rw[he,Ht,HH hi]; rfl
   rw[Js,KR hi']at this;have:=IV this;rw[this]; rfl
  refine oG st #[o,ho,hx,hd] hi' λh' st' sb=>?_
  have I1:Inv X pins σ H { s with heap:=h' }:=I.turned (t':=s.toks) (λb o hb e=>(sb.2 b hb).trans e) f0 f1 f3 f4 f5
  obtain⟨o',e,c,d⟩:=id st';exact#[_,rfl,re (s:={ s with heap:=h' }) e c d #v[] #[.ref (xs[i]).2.1,H,I1,hk,#[rfl,xs[i],HH hi,rfl],st',λb hb=>(hf b hb).1]]
 done:=by
  intro X hP hw hK hc i pins s σ H E I hf st hg;subst hP hw hK;obtain⟨hH,hi⟩:=hg;have ho:s.heap.get? a=gV o:=(show ObjOk X.prog X.w H s.heap a (.frz o (dY X.w a xs))from I.hok a _ hH).1
  have hl:es.size=xs.length:=by rw[<- Iw,he,Hk]
  obtain⟨f0,f1,f2,f3,f4,f5⟩:=hf it (by simp)
  exact rG (I.ok.hd hc) st #[o,ho,hx,hd] ∅ λh' eb=>#[rfl,I.turned (t':=s.toks) (λb o hb e=>eb b o hb e) f0 f1 f3 f4 f5]
 self:=λ_ _ _ _ _ st h=>MP st h
noncomputable def eP (f:FE):FI:=λρ S=>match f ρ S with
 | some (.tup ws,S1)=>gV (.its ws,S1)
 | some (.ref r,S1)=>match gP S1 r with
  | some _=>gV (.live r,S1)
  | none=>match jt S1 r with
   | some kvs=>gV (.its (kvs.map λp=>p.1.w),S1.set r (.frd kvs))
   | none=>td
 | _=>td
section
variable{X:Cx}{pins:Hj (Hw×Jr)}{σ:L2.St}{H:Hp}{s:Hq}{A:Hj Hw}{S:aa}
theorem v6 {a:Hw}{o:Jr}{kvs:Hj (T×W)}{xs:Hj (T×Hw×Hm)}(hH:H a=gV (.frz o (dY X.w a xs)))(kr:KRel X.K A H kvs xs):MIt X.w X.K (.its (kvs.map λp=>p.1.w)) (GQ X.w a o xs) A H:=by
 refine#[λA' H' S i w e so hi=>?_,λA' H' S i e so hi=>?_]
 ·simp only[MI.at,IG]at hi;obtain⟨v,h1,h2⟩:=((kr.mono e).keysL).get hi;rw[Ht,Ho]at h1;obtain⟨q,q1,q2⟩:=h1;refine#[#[e.fz _ _ _ hH,(HG.mp q1).1],λx H2 #[z1,q',z2,z3]=>?_]
  subst z1 z3;rw[q1]at z2; cases z2
  exact#[.refl,so,by rw[q2]; exact h2]
 ·simp only[MI.at,IG]at hi;refine#[e.fz _ _ _ hH,?_];have:=JG.mp hi;rw[Hk,kr.length]at this;exact this
theorem zW {tg l:HW}{f:FE}(h:GE X l f):GI X tg l (eP f):=by
 intro pins s σ H R I ⟨A,ρ,S,mi,S',er,so,e,hq⟩
 by_cases hd:∃r S1 kvs,f ρ S=gV (.ref r,S1)/\gP S1 r=td/\jt S1 r=gV kvs
 ·obtain⟨r,S1,kvs,h1,h2,h3⟩:=hd;simp only[eP,h1,h2,h3]at e;cases e;refine bo (h pins s σ H (EndV X.w X.K A H S1 (.ref r)) I #[A,ρ,S,_,_,er,so,h1,λ_ _ z=>z]) λv s1 #[x,H1,I1,r1,A1,e1,o1,z1]=>?_
  cases z1 with
  | @ref _ a ea=>
   obtain rfl:v=IE a:=r1;have fz:∃o xs H2,Inv X pins σ H2 s1/\Ext X.K A1 H1 A1 H2/\StoreOk X.w X.K A1 H2 (S1.set r (.frd kvs))/\H2 a=gV (.frz o (dY X.w a xs))/\KRel X.K A1 H2 kvs xs:=by
    unfold jt at h3;split at h3
    ·rename_i k hk;cases h3;obtain⟨xs,hH,kr⟩:=o1.obj r _ a hk ea;have d:=cC I1 (.inl hH);obtain⟨_,_,_,o,es,ep,q1,q2,q3,q4⟩:=id d;obtain⟨so',ex⟩:=o1.writeO hk rfl ea (u:=.frz o (dY X.w a xs)) (n:=.frd kvs) #[o,xs,aZ,kr.mono (dm (.ext hH))];exact#[o,xs,_,mM (h':=s1.heap) (t':=s1.toks) (ob:=.frz o (dY X.w a xs)) I1 (by rw[hH]; exact Lr) (P3 _ _) #[o,q1] #[q1,d.ok],ex,so',aZ,kr.mono ex]
    ·rename_i k hk;cases h3;obtain⟨o,xs,hH,kr⟩:=o1.obj r _ a hk ea;have:S1.set r (.frd kvs)=S1:=by
      apply L1;intro j;rw[JD];split
      ·rename_i e; subst e
       split
       ·exact hk.symm
       ·rename_i h; exact absurd (HG.mp hk).1 h
      ·rfl
     rw[this];exact#[o,xs,H1,I1,.refl,o1,hH,kr]
    ·cases h3
   obtain⟨o,xs,H2,I2,ex,so2,hH,kr⟩:=fz;have d:=cC I2 (.inr #[o,hH]);have ho:s1.heap.get? a=gV o:=(show ObjOk X.prog X.w H2 s1.heap a (.frz o (dY X.w a xs))from I2.hok a _ hH).1
   obtain⟨_,hsm,_,o',es,ep,q1,q2,q3,q4⟩:=id d;rw[ho]at q1;cases q1;refine oF hsm #[o,ho,q2,q3] ?_;refine#[s1.heap.objs.size,[s1.heap.objs.size],_,_,H2,rfl,I2.kept (t':=s1.toks) λb o e=>Hu _ e,tR a _ q2 q3 q4,#[_,HQ _ rfl,rfl,rfl],λb hb=>?_,hq _ _ A1 (e1.trans ex) so2 (v6 hH kr)]
   have e:b=s1.heap.objs.size:=by simpa using hb
   subst e;exact I2.fpOk (HC _) (I2.hok.fresh (HC _))
 ·have:eP f ρ S=zN f ρ S:=by
   unfold eP zN;cases hf:f ρ S with
   | none=>rfl
   | some p=>
    obtain⟨w,S1⟩:=p;cases w with
    | ref r=>
     cases h2:gP S1 r with
     | some _=>simp only[h2]
     | none=>
      cases h3:jt S1 r with
      | none=>simp only[h2,h3]
      | some kvs=>exact absurd #[r,S1,kvs,hf,h2,h3] hd
    | _=>rfl
  rw[this]at e;exact Cw h pins s σ H R I #[A,ρ,S,mi,S',er,so,e,hq]
end
noncomputable def bK (mi:MI)(g:FG)(c:FT)(f:FE):Hs->Hs->Fm->aa->Hr (Hj W×aa)
 | 0,i,_,S=>match mi.at S i with
  | some td=>gV ([],S)
  | _=>td
 | n+1,i,ρ,S=>match mi.at S i with
  | some (gV w)=>match g w ρ S with
   | some (ρ1,S1)=>match c ρ1 S1 with
    | some (true,S2)=>match f ρ1 S2 with
     | some (y,S3)=>match bK mi g c f n (i+1) ρ1 S3 with
      | some (ys,S4)=>gV (y::ys,S4)
      | none=>td
     | none=>td
    | some (false,S2)=>bK mi g c f n (i+1) ρ1 S2
    | none=>td
   | none=>td
  | _=>td
noncomputable def eZ (cap:Hj (Hr Hs))(ρ:Fm):Fm:=cap.map λo=>match o with
 | some j=>(ρ[j]?).join
 | none=>td
noncomputable def jY (fi:FI)(g:FG)(c:FT)(f:FE)(cap:Hj (Hr Hs)):FE:=λρ S=>match fi ρ S with
 | some (mi,S1)=>match mi.len S1 with
  | some n=>match bK mi g c f n 0 (eZ cap ρ) S1 with
   | some (ys,S2)=>kX S2 ys
   | none=>td
  | none=>td
 | none=>td
noncomputable def AS:FT:=λ_ S=>gV (true,S)
noncomputable def kU (X:Cx)(scope:KF)(cl:Hj (HM×Hw))(C:Hw)(N:Hj HM)(s0:Hq)(H0:Hp)(ex:Hj Hw):Cx:=
 { X with env:=compEnvC scope cl C X.env,N:=N,s₀:=s0,H₀:=H0,outer:=X.stack,stack:=X.stack,ex:=ex,fn:=λ_=>false,pn:=[],xe:=λ_ _=>IY }
structure CompOk (X:Cx)(scope:KF)(cl:Hj (HM×Hw))(N:Hj HM)(cap:Hj (Hr Hs)):Prop where
 clos:closureFor scope X.env=pure cl
 kind:scope.kind=.function
 names:∀y∈scope.names,y.2=.local->scope.names.lookup y.1=gV .local
 nocell:∀y∈scope.names,y.2≠.cell
 sub:∀x c,cl.lookup x=gV c->X.env.cells.lookup x=gV c
 has:∀x,((relabel scope X.env).names.lookup x=gV .cell\/(relabel scope X.env).names.lookup x=gV .free)->∃c,cl.lookup x=gV c
 len:cap.length=N.length
 cap:∀(i j:Hs) (x:HM),cap[i]?=gV (gV j)->N[i]?=gV x->X.N[j]?=gV x/\(X.env.kindOf x=gV .cell\/X.env.kindOf x=gV .free)/\((relabel scope X.env).names.lookup x=gV .cell\/(relabel scope X.env).names.lookup x=gV .free)
theorem gE {prog:Io}{w:IA}{A:Ix}{R:N3->Hq->Prop}{s:Hq}{elt target iter:HW}{ifs:Hj HW}{scope:KF}{pos:J2}{it acc:Hm}{env:NB}(I:Hs->Hq->Prop)
    (turn:∀n s,I n s->wpAny (model prog w) A (pyNext it) (λr s₁=>match r with
      | none=>R (.ok .next) s₁
      | some v=>wpAny (model prog w) A (letOwnedTupleGo target it v) (λ_ s₁=>wpAny (model prog w) A (assign target env v) (λ_ s₂=>
          wpAny (model prog w) A (forIn ifs true λc r=>if r=true then do let ok <- isTrue c env (eval c env); pure (Jx ok)else pure (Jx r)) (λok s₃=>
            if ok=true then wpAny (model prog w) A (eval elt env) (λx s₄=>
              wpAny (model prog w) A (call (.builtin "list.append") [acc,x]) (λ_ s₅=>∃m,m < n/\I m s₅) (λ_ _=>IY) s₄) (λ_ _=>IY) s₃
            else ∃m,m < n/\I m s₃) (λ_ _=>IY) s₂) (λ_ _=>IY) s₁) (λ_ _=>IY) s₁) (λ_ _=>IY) s)
    (n:Hs) (h:I n s) :
    codeAny (model prog w) A (.compLoop (.ListComp elt [#[target,iter,ifs,0]] scope pos) 0 it acc env) R s:=by
  refine codeAny_loop rfl I (λn s hI=>?_) n h
  show wpAny _ A ((compTurn (.ListComp elt [#[target,iter,ifs,0]] scope pos) 0 it acc env).onRaise (λx=>do noteFrame x env; theTreesLotGoes x)) _ _ s
  refine wpAny_noted ?_;rw[compTurn_list];refine Hl (Lu (Hl (JA (turn n s hI) (λr s₁ h₁=>?_) λ_ _ h'=>h'.elim)))
  cases r with
  | none=>exact HB h₁
  | some v=>
    refine Hl (JA h₁ (λ_ s₁ h₁=>?_) λ_ _ h'=>h'.elim)
    refine Hl (JA h₁ (λ_ s₂ h₂=>Hl (JA h₂ (λok s₃ h₃=>?_) λ_ _ h'=>h'.elim)) λ_ _ h'=>h'.elim)
    cases ok with
    | false=>exact HB #[rfl,h₃]
    | true=>
      exact Hl (Hl (JA h₃ (λx s₄ h₄=>Hl (JA h₄ (λ_ s₅ h₅=>HB (HB #[rfl,h₅])) λ_ _ h'=>h'.elim)) λ_ _ h'=>h'.elim))
section
variable{X:Cx}{pins:Hj (Hw×Jr)}{σ:L2.St}{H:Hp}{s:Hq}
theorem Inv.adopt {D:Hw}{o:HO}(I:Inv X pins σ H s)(hn:H D=td)(h1:D∈X.ex\/X.s₀.heap.objs.size<=D)(hL:D≠X.env.locals)(h2:∀x c,X.env.cells.lookup x=gV c->c≠D)(h3:∀p∈X.pn++pins,p.1≠D)
  (new:ObjOk X.prog X.w (bR H D o) s.heap D o):Inv X pins σ (bR H D o) s:=by
 have nit:∀b u,H b=gV u->b≠D:=λb u e z=>by rw[z,hn]at e; cases e
 have key:Inv X pins σ (bR H D o) { s with heap:=s.heap,gens:=s.gens,drawn:=s.drawn,toks:=s.toks }:=by
  refine I.step (g':=s.gens) (d':=s.drawn) (t':=s.toks) (h':=s.heap) (ch:=[D]) (λb hb=>?_) (λb o _ _ hc e _=>e) (λb o _ _ hc e _=>#[o.slots,e]) (λb o hc e n=>?_)
   (λb o hc e=>#[o,e]) (λb xs e=>?_) (λb o xs e=>?_) (λb ps e=>#[#[],?_]) (λm hm=>hm) (λb u e=>?_) I.bare
  ·have e:b=D:=by simpa using hb
   subst e;exact#[h1,hL,h2,h3]
  ·rw[aH (λz=>hc (by simp[z]))]; exact n
  ·rw[aH (nit b _ e)]; exact e
  ·rw[aH (nit b _ e)]; exact e
  ·rw[aH (nit b _ e),e]; simp
  ·by_cases hb:b=D
   ·subst hb; rw[aZ]at e; cases e; exact new
   ·rw[aH hb]at e;refine(I.hok b u e).stay (λc v hc q=>q) (λc q=>?_) λc xs q=>?_
    ·rw[aH (nit c _ q)]; exact q
    ·rw[aH (nit c _ q)]; exact q
 exact key
theorem CA {scope:KF}{cl:Hj (HM×Hw)}{N:Hj HM}{cap:Hj (Hr Hs)}{C:Hw}{s0:Hq}{ex:Hj Hw}(I:Inv X pins σ H s)(ck:CompOk X scope cl N cap)(hs:s.heap.objs.size<=s0.heap.objs.size)(hC:s0.heap.objs.size<=C)
  (hk:∀b o,s.heap.get? b=gV o->s0.heap.get? b=gV o) (hex:∀b∈ex,(b≠C)/\(∀x c,X.env.cells.lookup x=gV c->c≠b)/\(∀o,X.base.get? b≠gV o)/\b∉pR X.stack) :
  (kU X scope cl C N s0 H ex).Ok where
 mod:=I.ok.mod
 kind:=ck.kind
 glob:=I.ok.glob
 blt:=I.ok.blt
 above:=hC
 inj:=λx y c h1 h2=>I.ok.inj x y c (ck.sub x c h1) (ck.sub y c h2)
 has:=λx h=>ck.has x h
 cab:=λx c h=>by cases h
 hd:=I.ok.hd
 frames:=I.ok.frames
 stk:=.inl rfl
 exf:=λb hb=>#[(hex b hb).1,λx c h=>(hex b hb).2.1 x c (ck.sub x c h)]
 bs:=λb o e=>#[hk b o (I.bk b o e),(I.bs b o e).2]
 bsz:=Ih (Ih I.ok.bsz I.sz) hs
 noex:=λb o e hb=>(hex b hb).2.2.1 o e
 exfs:=λb hb=>(hex b hb).2.2.2
 funs:=I.stack.of_keeps λb o e _=>#[o,hk b o e,rfl]
 frf:=I.stkFree
structure BlockOk (X:Cx)(scope:KF)(cl:Hj (HM×Hw))(N:Hj HM)(tg elt:HW)(ifs:Hj HW)(g:FG)(c:FT)(f:FE):Prop where
 tgt:∀C s0 H0 ex,GG (kU X scope cl C N s0 H0 ex) tg g
 tst:∀C s0 H0 ex pins s σ H Q,Inv (kU X scope cl C N s0 H0 ex) pins σ H s->tT (kU X scope cl C N s0 H0 ex) c σ H Q->
  wpAny (model X.prog X.w) X.A (forIn ifs true λc r=>if r=true then do let ok <- isTrue c (compEnvC scope cl C X.env) (eval c (compEnvC scope cl C X.env)); pure (Jx ok)else pure (Jx r)) (TP (kU X scope cl C N s0 H0 ex) pins σ Q) (λ_ _=>IY) s
 elt:∀C s0 H0 ex,GE (kU X scope cl C N s0 H0 ex) elt f
theorem nz {prog:Io}{w:IA}{B:Ix}{s:Hq}{E:Hm->Hq->Prop}{Q:Hm->Hq->Prop}{D:Hw}{its:Hj Hm}{n:Hs}{u:Hm}(e:s.heap.get? D=gV { cls:=.type "list",data:=.seq its.toArray n })(hz:its.length < sizeLine)
  (h:∀h' n',h'.get? D=gV { cls:=.type "list",data:=.seq (its++[u]).toArray n' }->(∀b o,b≠D->s.heap.get? b=gV o->h'.get? b=gV o)->Q .none { s with heap:=h' }) :
  wpAny (model prog w) B (call (.builtin "list.append") [.ref D,u]) Q E s:=by
 refine Lp F.slot_list_append #[_,e,rfl] F.entry_list_append (F.args_list_append_2 _ _) (NL D its.toArray n u (by rw[HK]; omega)) #[e,?_]
 have q:=N7 e (λa=>a.push u)
 have e2:its.toArray.push u=(its++[u]).toArray:=by simp
 rw[e2]at q;exact h _ _ q (λb o hb ho=>(IQ s.heap (Jl λa=>a.push u) (Ne.symm hb)).trans ho)
theorem lQ {scope:KF}{cl:Hj (HM×Hw)}{N:Hj HM}{cap:Hj (Hr Hs)}{tg elt iter:HW}{ifs:Hj HW}{g:FG}{c:FT}{f:FE}{pos:J2}{A:Hj Hw}{ρ:Fm}{S S':aa}{mi:MI}{n:Hs}{ws:Hj W}{E:Hm->Hq->Prop}
  {it:Hw} {fp:Hj Hw} {tn:Hs->IJ->Prop} {J:It} {RR:Hm->Hw->N3->Hq->Prop}
  (I:Inv X pins σ H s) (hc:X.calm=true) (er:EnvRel X.K A H ρ σ) (so:StoreOk X.w X.K A H S) (ck:CompOk X scope cl N cap) (bk:BlockOk X scope cl N tg elt ifs g c f)
  (T:Turn X.prog X.w X.K tg J fp it tn) (t0:tn 0 s.heap) (hfp:∀b∈fp,iM X pins H b) (mit:MIt X.w X.K mi J A H) (e:bK mi g c f n 0 (eZ cap ρ) S=gV (ws,S')) (hz:ws.length<=sizeLine)
  (fin:∀D C s' H' A' vs m,s'.heap.Ns C m->H' D=td->D≠C->C≠X.env.locals->C∉X.fs->H' C=td->X.s₀.heap.objs.size<=C->(∀x c,X.env.cells.lookup x=gV c->c≠C)->(∀p∈X.pn++pins,p.1≠C)->
   Inv X pins σ (bR H' D (.lst vs)) s'->Ext X.K A H A' H'->StoreOk X.w X.K A' H' S'->RelL X.K A' H' ws vs->RR (.ref D) C (.ok .next) s') :
  wpAny (model X.prog X.w) X.A (newList []) (λacc s₃=>wpAny (model X.prog X.w) X.A (newFunctionEnv scope X.env.globals cl [] X.env.qual td .none (gV X.env)) (λcenv s₄=>
   codeAny (model X.prog X.w) X.A (.compStart (.ListComp elt [#[tg,iter,ifs,0]] scope pos) 0 (.ref it) acc { cenv with scope:=relabel scope X.env }) (RR acc cenv.locals) s₄) E s₃) E s:=by
 refine IK (wpAny_newFunctionEnv ck.nocell (by intro y hy; simp at hy) (λh₁ hns₁ hsb₁=>?_) ck.kind)
 dsimp only at hns₁ hsb₁ ⊢;generalize hH2:s.heap.push { cls:=.type "list",dict:=td,data:=.seq ([]:Hj Hm).toArray }=h2 at hns₁ hsb₁ ⊢;have hCs:h2.objs.size=s.heap.objs.size+1:=by rw[<- hH2,OP]
 have k2:∀b o,s.heap.get? b=gV o->h2.get? b=gV o:=λb o z=>hH2 ▸ Hu _ z
 have lt2:∀b o,h2.get? b=gV o->b < h2.objs.size:=λb o z=>HR z
 have k1:∀b o,h2.get? b=gV o->h₁.get? b=gV o:=λb o z=>hsb₁.extBut b o (Ip (lt2 b o z)) (Hu _ z)
 have hD2:h2.get? s.heap.objs.size=gV { cls:=.type "list",data:=.seq ([]:Hj Hm).toArray }:=hH2 ▸ HQ _ rfl;have hDC:s.heap.objs.size≠h2.objs.size:=by rw[hCs]; omega
 have fresh:∀a,s.heap.objs.size<=a->H a=td:=λa ha=>I.hok.fresh ha
 have cellLt:∀x c,X.env.cells.lookup x=gV c->c < s.heap.objs.size:=λx c z=>let ⟨_,q⟩:=I.cell x c z; q.lt
 have fpLt:∀b∈fp,b < s.heap.objs.size:=λb hb=>let ⟨_,q,_⟩:=T.obj 0 s.heap t0 b hb; HR q
 have stkLt:∀b∈pR X.stack,b < s.heap.objs.size:=λb hb=>let ⟨_,o,q,_⟩:=I.stack.mem hb; HR q
 have baseLt:∀b o,X.base.get? b=gV o->b < s.heap.objs.size:=λb o z=>HR (I.bk b o z)
 have fpStk:∀b∈fp,b∉pR X.stack:=λb hb z=>by
  rcases HZ.mp (I.stkSub b z)with q|q
  ·exact(hfp b hb).2.1 q
  ·exact(hfp b hb).2.2.1 q
 have fpBase:∀b∈fp,∀o,X.base.get? b≠gV o:=λb hb o z=>by
  rcases(hfp b hb).2.2.2.1 with q|q
  ·exact I.ok.noex b o z q
  ·exact absurd (Ij (HR (I.ok.bs b o z).1) q) (Ja _)
 have ltC:∀ {b:Hw},b < s.heap.objs.size->b≠h2.objs.size:=λhb=>by rw[hCs]; exact Ip (Nat.lt_succ_of_lt hb)
 let s3:Hq:={ s with heap:=h2 }
 have ok':(kU X scope cl h2.objs.size N s3 H (fp++[s.heap.objs.size])).Ok:=by
  refine CA I ck (show s.heap.objs.size<=h2.objs.size by rw[hCs]; omega) (HC _) k2 λb hb=>?_
  rcases Ig.mp hb with hb|hb
  ·exact#[ltC (fpLt b hb),(hfp b hb).2.2.2.2.1,fpBase b hb,fpStk b hb]
  ·have eb:b=s.heap.objs.size:=by simpa using hb
   subst eb;exact#[hDC,λx c z=>Ip (cellLt x c z),λo z=>Ja _ (baseLt _ o z),λz=>Ja _ (stkLt _ z)]
 obtain⟨m0,hn0,hl0⟩:=I.loc;have I0:Inv (kU X scope cl h2.objs.size N s3 H (fp++[s.heap.objs.size])) [] (cap.map λo=>match o with|some j=>(σ[j]?).join|none=>td) H { s3 with heap:=h₁,toks:=s3.toks+([]:Hj (HM×Hm)).length }:=by
  refine#[ok',rfl,I.bare,Un.kept k1,#[_,hns₁,λi x v e1 e2 e3=>?_],λx cc z=>?_,fresh _ (show s.heap.objs.size<=h2.objs.size by rw[hCs]; exact KL _),λx cc z=>I.freeC x cc (ck.sub x cc z),λp hp=>absurd hp (by simp[kU]),(I.hok.kept k2).kept k1,by rw[Hk]; exact ck.len]
  ·rw[Ht]at e2;cases q:cap[i]? with
   | none=>rw[q]at e2; cases e2
   | some oj=>
    rw[q]at e2;cases oj with
    | none=>cases e2
    | some j=>
     obtain⟨z1,z2,z3⟩:=ck.cap i j x q e1;have e2':(σ[j]?).join=gV v:=by simpa using e2
     have e2'':σ[j]?=gV (gV v):=by
      cases r:σ[j]? with
      | none=>rw[r]at e2'; cases e2'
      | some y=>rw[r]at e2'; exact congrArg gV e2'
     obtain⟨u,ru,lk⟩:=hl0 j x v z1 e2'' (by
      rcases z2 with z|z
      ·exact .inr (.inl z)
      ·exact .inr (.inr z))
     refine#[u,ru,?_];rcases lk with⟨zk,_⟩|⟨_,cc,zc,zi⟩
     ·rcases z2 with z|z <;> (rw[zk]at z; cases z)
     ·obtain⟨c2,hc2⟩:=ck.has x z3;have:=ck.sub x c2 hc2;rw[zc]at this; cases this
      refine .inr #[z3,cc,hc2,?_];obtain⟨o,ho,hd⟩:=zi;exact#[o,k1 _ _ (k2 _ _ ho),hd]
  ·obtain⟨v,o,ho,hd⟩:=I.cell x cc (ck.sub x cc z);exact#[v,o,k1 _ _ (k2 _ _ ho),hd]
 have er0:EnvRel X.K A H (eZ cap ρ) (cap.map λo=>match o with|some j=>(σ[j]?).join|none=>td):=by
  refine#[by simp[eZ],λi w q=>?_]
  unfold eZ at q;rw[Ht]at q ⊢;cases r:cap[i]? with
  | none=>rw[r]at q; cases q
  | some oj=>
   rw[r]at q;cases oj with
   | none=>cases q
   | some j=>
    have q':(ρ[j]?).join=gV w:=by simpa using q
    have q'':ρ[j]?=gV (gV w):=by
     cases z:ρ[j]? with
     | none=>rw[z]at q'; cases q'
     | some y=>rw[z]at q'; exact congrArg gV q'
    obtain⟨v,z1,z2⟩:=er.2 j w q'';exact#[v,by simp[z1],z2]
 have t1:tn 0 h₁:=T.keep 0 s.heap h₁ t0 λb hb o z=>k1 b o (k2 b o z)
 have fpOk':∀ {H':Hp} {pp:Hj (Hw×Jr)},(∀b∈fp,H' b=td)->(∀p∈pp,p.1=s.heap.objs.size)->∀b∈fp,iM (kU X scope cl h2.objs.size N s3 H (fp++[s.heap.objs.size])) pp H' b:=λhn hp b hb=>
  #[hn b hb,ltC (fpLt b hb),fpStk b hb,.inl (JM _ hb),λx cc z=>(hfp b hb).2.2.2.2.1 x cc (ck.sub x cc z),λp hpp=>by
   rw[hp p (by simpa [kU]using hpp)]
   exact(Ip (fpLt b hb)).symm]
 have DinEx:s.heap.objs.size∈fp++[s.heap.objs.size]:=Iu _ (by simp)
 have cellD:∀x c,cl.lookup x=gV c->c≠s.heap.objs.size:=λx cc z=>Ip (cellLt x cc (ck.sub x cc z))
 have fpD:∀b∈fp,b≠s.heap.objs.size:=λb hb=>Ip (fpLt b hb)
 have theEnd:∀s' σ' H' A' vs its nn,Inv (kU X scope cl h2.objs.size N s3 H (fp++[s.heap.objs.size])) [] σ' H' s'->s'.heap.get? s.heap.objs.size=gV { cls:=.type "list",data:=.seq its nn }->∀(hits:∃l:Hj Hm,its=l.toArray/\Vals vs l),H' s.heap.objs.size=td->Ext X.K A H A' H'->StoreOk X.w X.K A' H' S'->RelL X.K A' H' ws vs->
   RR (.ref s.heap.objs.size) h2.objs.size (.ok .next) s':=by
  intro s' σ' H' A' vs its nn I' hD hits hDn ex so' rl;obtain⟨l,rfl,rv⟩:=hits;obtain⟨m,hn,_⟩:=id I'.loc;have un:Un (pR X.stack) (fp++[s.heap.objs.size]) H H' s.heap s'.heap:=(Un.kept k2).trans I'.base;have hch:∀b∈fp++[s.heap.objs.size],(b∈X.ex\/X.s₀.heap.objs.size<=b)/\b≠X.env.locals/\(∀x c,X.env.cells.lookup x=gV c->c≠b)/\∀p∈X.pn++pins,p.1≠b:=λb hb=>by
   rcases Ig.mp hb with hb|hb
   ·exact#[(hfp b hb).2.2.2.1,(hfp b hb).2.1,(hfp b hb).2.2.2.2.1,(hfp b hb).2.2.2.2.2]
   ·have eb:b=s.heap.objs.size:=by simpa using hb
    subst eb;exact#[.inr I.sz,(Ip I.lt).symm,λx cc z=>Ip (cellLt x cc z),λp hp=>Ip (HR (I.pin p hp).1)]
  have I2:Inv X pins σ H' s':=I.call' (show s'.os=s.os from I'.os) un I'.hok I'.bare hch
  have I3:Inv X pins σ (bR H' s.heap.objs.size (.lst vs)) s':=Inv.adopt I2 hDn (hch _ DinEx).1 (hch _ DinEx).2.1 (hch _ DinEx).2.2.1 (hch _ DinEx).2.2.2 #[by rw[<- rl.length]; exact hz,l,nn,rv,hD]
  have hCle:s.heap.objs.size<=h2.objs.size:=by rw[hCs]; exact KL _
  exact fin _ _ s' H' A' vs m hn hDn hDC (Kv (Ij I.lt hCle)) (I.nofs hCle) I'.free (Ih I.sz hCle) (λx cc z=>Ip (Ij (cellLt x cc z) hCle))
   (λp hp=>Ip (Ij (HR (I.pin p hp).1) hCle)) I3 ex so' rl
 have loop:∀s4:Hq,s4={ s3 with heap:=h₁,toks:=s3.toks+([]:Hj (HM×Hm)).length }->
   codeAny (model X.prog X.w) X.A (.compLoop (.ListComp elt [#[tg,iter,ifs,0]] scope pos) 0 (.ref it) (.ref s.heap.objs.size) (compEnvC scope cl h2.objs.size X.env)) (RR (.ref s.heap.objs.size) h2.objs.size) s4:=by
  rintro s4 rfl;refine gE (λk s5=>∃i σ5 H5 A5 ρ5 S5 done its nn vs ys,Inv (kU X scope cl h2.objs.size N s3 H (fp++[s.heap.objs.size])) [] σ5 H5 s5/\tn i s5.heap/\(∀b∈fp,H5 b=td)/\s5.heap.get? s.heap.objs.size=gV { cls:=.type "list",data:=.seq (its:Hj Hm).toArray nn }/\H5 s.heap.objs.size=td/\Vals vs its/\
   Ext X.K A H A5 H5/\EnvRel X.K A5 H5 ρ5 σ5/\StoreOk X.w X.K A5 H5 S5/\RelL X.K A5 H5 done vs/\ws=done++ys/\bK mi g c f k i ρ5 S5=gV (ys,S')) ?_ n
   #[0,_,H,A,_,S,[],[],0,[],ws,I0,t1,λb hb=>(hfp b hb).1,k1 _ _ hD2,fresh _ (HC _),.nil,.refl,er0,so,.nil,rfl,e]
  rintro k s5 ⟨i,σ5,H5,A5,ρ5,S5,done,its,nn,vs,ys,I5,t5,f5,d5,n5,v5,e5,er5,so5,rl5,hw5,w5⟩;have pinD:Inv (kU X scope cl h2.objs.size N s3 H (fp++[s.heap.objs.size])) [(s.heap.objs.size,{ cls:=.type "list",data:=.seq its.toArray nn })] σ5 H5 s5:=I5.pins_of λp hp=>by
   have hp':p=(s.heap.objs.size,{ cls:=.type "list",data:=.seq its.toArray nn }):=by simpa using hp
   subst hp';exact#[d5,n5,hDC,λz=>Ja _ (stkLt _ z),λv z=>by cases z]
  have oneD:∀p∈[(s.heap.objs.size,({ cls:=.type "list",data:=.seq its.toArray nn }:Jr))],p.1=s.heap.objs.size:=λp hp=>by
   have hp':p=(s.heap.objs.size,{ cls:=.type "list",data:=.seq its.toArray nn }):=by simpa using hp
   rw[hp']
  cases k with
  | zero=>
   dsimp only[bK]at w5;split at w5
   ·rename_i hst;cases w5;rw[Jo]at hw5;subst hw5;refine bo (T.done (kU X scope cl h2.objs.size N s3 H (fp++[s.heap.objs.size])) rfl rfl rfl hc i _ s5 σ5 H5 _ pinD (fpOk' f5 oneD) t5 (mit.stop A5 H5 _ i e5 so5 hst)) λr s6 #[hr,I6]=>?_
    subst hr;have p6:=I6.pin _ (Iu _ (HE.mpr rfl));exact theEnd s6 σ5 H5 A5 vs _ nn (I6.pins_of λp hp=>absurd hp (by simp)) p6.1 #[its,rfl,v5] n5 e5 so5 rl5
   ·cases w5
  | succ k=>
   dsimp only[bK]at w5;split at w5
   ·rename_i w hw;obtain⟨go,yl⟩:=mit.go A5 H5 S5 i w e5 so5 hw;refine bo (T.item (kU X scope cl h2.objs.size N s3 H (fp++[s.heap.objs.size])) rfl rfl rfl hc i _ s5 σ5 H5 _ pinD (fpOk' f5 oneD) t5 go) λr s6 #[u,hr,h6]=>?_
    subst hr;refine bo h6 λ_ s7 #[x,H7,I7,r7,y7,t7,f7]=>?_
    obtain⟨x1,x2,x3⟩:=yl x H7 y7;have I7':=I7.pinned (fpOk' f7 oneD) (T.obj _ _ t7);split at w5
    ·rename_i ρ8 S8 h8;refine bo (bk.tgt _ _ _ _ _ s7 σ5 H7 x u (λσ' H'=>∃A',Ext X.K A5 H5 A' H'/\StoreOk X.w X.K A' H' S8/\EnvRel X.K A' H' ρ8 σ') I7' r7 #[A5,ρ5,S5,w,ρ8,S8,er5.mono x1,x2,x3,h8,λσ' H' A' q1 q2 q3=>#[A',x1.trans q1,q2,q3]]) λ_ s8 #[σ8,H8,I8,A8,e58,so8,er8]=>?_
     have e8:Ext X.K A H A8 H8:=e5.trans e58;have pD:∀ {σ':L2.St} {H':Hp} {s':Hq},Inv (kU X scope cl h2.objs.size N s3 H (fp++[s.heap.objs.size])) ([(s.heap.objs.size,{ cls:=.type "list",data:=.seq its.toArray nn })]++iN fp s7.heap) σ' H' s'->s'.heap.get? s.heap.objs.size=gV { cls:=.type "list",data:=.seq its.toArray nn }/\H' s.heap.objs.size=td:=λI'=>
      let q:=I'.pin _ (Iu _ (JM _ (HE.mpr rfl)))
      #[q.1,q.2.1]
     have pF:∀ {σ':L2.St} {H':Hp} {s':Hq},Inv (kU X scope cl h2.objs.size N s3 H (fp++[s.heap.objs.size])) ([(s.heap.objs.size,{ cls:=.type "list",data:=.seq its.toArray nn })]++iN fp s7.heap) σ' H' s'->(∀b∈fp,H' b=td)/\∀b∈fp,∀o,s7.heap.get? b=gV o->s'.heap.get? b=gV o:=λI'=>
      #[λb hb=>by
       obtain⟨o,eo,_⟩:=T.obj _ _ t7 b hb;exact(I'.pin (b,o) (Iu _ (Iu _ (eY hb eo)))).2.1,
       λb hb o eo=>(I'.pin (b,o) (Iu _ (Iu _ (eY hb eo)))).1]
     split at w5
     ·rename_i S9 h9;refine bo (bk.tst _ _ _ _ _ s8 σ8 H8 (λb H'=>b=true/\∃A',Ext X.K A8 H8 A' H'/\StoreOk X.w X.K A' H' S9) I8 #[A8,ρ8,S8,true,S9,er8,so8,h9,λb H' #[z0,A',z1,z2]=>#[z0,A',z1,z2]]) λb s9 #[H9,I9,z0,A9,e9,so9]=>?_
      subst z0;rw[HY rfl];split at w5
      ·rename_i y S10 h10;split at w5
       ·rename_i ys' S4 h11;cases w5;refine bo (bk.elt _ _ _ _ _ s9 σ8 H9 (EndV X.w X.K A9 H9 S10 y) I9 #[A9,ρ8,S9,y,S10,er8.mono e9,so9,h10,λ_ _ z=>z]) λu10 s10 #[v10,H10,I10,r10,A10,e10,so10,rl10]=>?_
        obtain⟨d10,n10⟩:=pD I10;obtain⟨f10,k10⟩:=pF I10;have hlen:its.length < sizeLine:=by
         have l1:=v5.length;have l2:=rl5.length;rw[hw5,Hn,Iz]at hz;omega
        refine nz d10 hlen λh' n' hd' hk'=>?_
        have Ib:Inv (kU X scope cl h2.objs.size N s3 H (fp++[s.heap.objs.size])) [] σ8 H10 { s10 with heap:=h' }:=by
         have Ia:Inv (kU X scope cl h2.objs.size N s3 H (fp++[s.heap.objs.size])) [] σ8 H10 s10:=I10.pins_of λp hp=>absurd hp (by simp)
         exact Ia.turned (t':=s10.toks) (it:=s.heap.objs.size) hk' n10 hDC (.inl DinEx) cellD (λp hp=>absurd hp (by simp[kU]))
        refine#[k,JH k,i+1,σ8,H10,A10,ρ8,S10,done++[y],its++[u10],n',vs++[v10],ys',Ib,?_,f10,hd',n10,v5.append #v[r10],(e8.trans e9).trans e10,(er8.mono e9).mono e10,so10,?_,?_,h11]
        ·exact T.keep (i+1) s7.heap h' t7 λb hb o eo=>hk' b o (fpD b hb) (k10 b hb o eo)
        ·exact(rl5.mono ((e58.trans e9).trans e10)).append #v[rl10]
        ·rw[hw5,KG]; rfl
       ·cases w5
      ·cases w5
     ·rename_i S9 h9;refine bo (bk.tst _ _ _ _ _ s8 σ8 H8 (λb H'=>b=false/\∃A',Ext X.K A8 H8 A' H'/\StoreOk X.w X.K A' H' S9) I8 #[A8,ρ8,S8,false,S9,er8,so8,h9,λb H' #[z0,A',z1,z2]=>#[z0,A',z1,z2]]) λb s9 #[H9,I9,z0,A9,e9,so9]=>?_
      subst z0;rw[Iy HN];obtain⟨d9,n9⟩:=pD I9;obtain⟨f9,k9⟩:=pF I9;refine#[k,JH k,i+1,σ8,H9,A9,ρ8,S9,done,its,nn,vs,ys,I9.pins_of λp hp=>absurd hp (by simp),T.keep (i+1) s7.heap _ t7 k9,f9,d9,n9,v5,e8.trans e9,er8.mono e9,so9,rl5.mono (e58.trans e9),hw5,w5]
     ·cases w5
    ·cases w5
   ·cases w5
 exact codeAny_compStart_list (loop _ rfl) (T.self X.A 0 _ _ _ t1 (loop _ rfl))
theorem oV {fi:FI}{g:FG}{c:FT}{f:FE}{cap:Hj (Hr Hs)}{ρ:Fm}{S:aa}{w:W}{S':aa}(e:jY fi g c f cap ρ S=gV (w,S')) :
  ∃mi S1 n ys S2,fi ρ S=gV (mi,S1)/\mi.len S1=gV n/\bK mi g c f n 0 (eZ cap ρ) S1=gV (ys,S2)/\ys.length<=sizeLine/\w=.ref S2.length/\S'=S2++[.lst ys]:=by
 unfold jY at e;split at e
 ·rename_i mi S1 h1;split at e
  ·rename_i n h2;split at e
   ·rename_i ys S2 h3;obtain⟨h4,h5,h6⟩:=jy e;exact#[mi,S1,n,ys,S2,h1,h2,h3,h4,h5,h6]
   ·cases e
  ·cases e
 ·cases e
theorem zX {scope:KF}{N:Hj HM}{cap:Hj (Hr Hs)}{tg elt iter:HW}{ifs:Hj HW}{fi:FI}{g:FG}{c:FT}{f:FE}{pos:J2}(hc:X.calm=true)(hi:GI X tg iter fi)(hck:X.Ok->∃cl,CompOk X scope cl N cap/\BlockOk X scope cl N tg elt ifs g c f)
  (hs:∀x,foldedSetIterable iter X.env x=pure x):GE X (.ListComp elt [#[tg,iter,ifs,0]] scope pos) (jY fi g c f cap):=by
 intro pins s σ H Q I ⟨A,ρ,S,w,S',er,so,e,hq⟩;obtain⟨mi,S1,n,ys,S2,h1,h2,h3,h4,rfl,rfl⟩:=oV e;obtain⟨cl,ck,bk⟩:=hck I.ok;rw[eval_ListComp];refine Ma (use:=td) rfl hs ck.clos ck.kind ck.names (bo (hi pins s σ H (λJ H'=>∃A',Ext X.K A H A' H'/\StoreOk X.w X.K A' H' S1/\MIt X.w X.K mi J A' H') I #[A,ρ,S,mi,S1,er,so,h1,λJ H' A' z1 z2 z3=>#[A',z1,z2,z3]]) λv s1 q1=>bo q1 λitv s2 q2=>?_)
 obtain⟨it,fp,tn,J,H2,rfl,I2,T,t0,hfp,A2,e2,so2,mit⟩:=q2;refine lQ (RR:=λacc C=>compPost (model X.prog X.w) X.A X.xe td (EP X pins σ Q) acc C) I2 hc (er.mono e2) so2 ck bk T t0 hfp mit h3 h4 ?_
 intro D C s' H' A' vs m hn hDn hDC hCL hCf hCn hCs hCc hCp I3 ex so3 rl;refine#[m,hn,λh' hs'=>?_]
 have I4:Inv X pins σ (bR H' D (.lst vs)) { s' with heap:=h' }:=I3.turned (t':=s'.toks) (it:=C) (λb o hb eo=>hs'.extBut b o hb eo) (by rw[aH (Ne.symm hDC)]; exact hCn) hCL (.inr hCs) hCc hCp
 exact#[.ref D,_,I4,rfl,hq _ _ (EndV.after (e2.trans ex) (.lst so3 rl hDn))]
theorem qm {scope:KF}{N:Hj HM}{cap:Hj (Hr Hs)}{tg elt iter:HW}{ifs:Hj HW}{fi:FI}{g:FG}{c:FT}{f:FE}{pos py spos:J2}{y:HM}{i:Hs}(hc:X.calm=true)(hi:GI X tg iter fi)(hck:X.Ok->∃cl,CompOk X scope cl N cap/\BlockOk X scope cl N tg elt ifs g c f)
  (hs:∀x,foldedSetIterable iter X.env x=pure x) (hsw:swapsWith (.ListComp elt [#[tg,iter,ifs,0]] scope pos) (gV (.Name y py)) spos.line X.env=pure true) (hN:X.N.Nodup) (hy:X.N[i]?=gV y) (hl:X.env.scope.names.lookup y=gV .local) :
  GS X (.Assign [.Name y py] (.ListComp elt [#[tg,iter,ifs,0]] scope pos) spos) (jX (jY fi g c f cap) (zK i)):=by
 intro pins s σ H Dd I ⟨A,ρ,S,o,S',er,so,e,hd⟩;unfold jX at e;split at e
 ·rename_i w S0 h0;simp only[zK]at e;cases e;obtain⟨mi,S1,n,ys,S2,h1,h2,h3,h4,rfl,rfl⟩:=oV h0;obtain⟨cl,ck,bk⟩:=hck I.ok;rw[exec_Assign_Name_used _ _ _ _ hsw];refine Hl (Lu (Hl ?_));show wpAny _ X.A (do let _ <- comprehension (.ListComp elt [⟨tg,iter,ifs,0⟩] scope pos) scope X.env _ (newList []) false (eval iter X.env) (gV (assign (.Name y py) X.env))) _ _ s
  refine Hl (JA (Ma (use:=gV (assign (.Name y py) X.env)) (Q:=λ_ s'=>SP X pins Dd .next s') rfl hs ck.clos ck.kind ck.names
   (bo (hi pins s σ H (λJ H'=>∃A',Ext X.K A H A' H'/\StoreOk X.w X.K A' H' S1/\MIt X.w X.K mi J A' H') I #[A,ρ,S,mi,S1,er,so,h1,λJ H' A' z1 z2 z3=>#[A',z1,z2,z3]]) λv s1 q1=>bo q1 λitv s2 q2=>?_)) (λ_ s' hq=>HB (HB hq)) λ_ _ e=>e)
  obtain⟨it,fp,tn,J,H2,rfl,I2,T,t0,hfp,A2,e2,so2,mit⟩:=q2;refine lQ (RR:=λacc C=>compPost (model X.prog X.w) X.A X.xe (gV (assign (.Name y py) X.env)) (λ_ s'=>SP X pins Dd .next s') acc C) I2 hc (er.mono e2) so2 ck bk T t0 hfp mit h3 h4 ?_
  intro D C s' H' A' vs m hn hDn hDC hCL hCf hCn hCs hCc hCp I3 ex so3 rl;obtain⟨oC,esC,epC,hoC,hdC,hrC⟩:=id hn;have I3':Inv X (pins++[(C,oC)]) σ (bR H' D (.lst vs)) s':=I3.pins_of λp hp=>by
   rcases Ig.mp hp with hp|hp
   ·exact I3.pin p (Iu _ hp)
   ·have hp':p=(C,oC):=by simpa using hp
    subst hp';exact#[hoC,by rw[aH (Ne.symm hDC)]; exact hCn,hCL,hCf,λv z=>by rw[hdC]at z; cases z]
  show wpAny _ X.A (assign (.Name y py) X.env (.ref D)) _ _ _;refine NC (g8 I3' hN hy (.inl hl) (v:=.ref D) rfl (λs4 I4=>?_) (.inr hl))
  have pC:=I4.pin (C,oC) (Iu _ (Iu _ (HE.mpr rfl)));refine#[m,#[oC,esC,epC,pC.1,hdC,hrC],λh' hs'=>?_]
  have I5:Inv X pins (σ.set i (gV (.ref D))) (bR H' D (.lst vs)) s4:=I4.pins_of λp hp=>I4.pin p (Iu _ (JM _ hp))
  have I6:Inv X pins (σ.set i (gV (.ref D))) (bR H' D (.lst vs)) { s4 with heap:=h' }:=I5.turned (t':=s4.toks) (it:=C) (λb o hb eo=>hs'.extBut b o hb eo) (by rw[aH (Ne.symm hDC)]; exact hCn) hCL (.inr hCs) hCc hCp
  obtain⟨Af,f1,f2,f3⟩:=EndV.after (e2.trans ex) (EndV.lst so3 rl hDn);exact#[_,_,I6,hd.nx _ _ #[_,Af,rfl,f1,f2,(er.mono f1).set f3 i]]
 ·cases e
end
open PySem.Builtin.SmallTypes (nextOf)
section
variable{prog:Io}{w:IA}
structure Zit (prog:Io)(w:IA)(it:Hw)(T:Hs->IJ->Prop)(C:IJ->Prop)(i:Hs)(U:Hr (Hm->Prop)):Prop where
 keep:∀j h h',T j h->(∀o,h.get? it=gV o->h'.get? it=gV o)->T j h'
 next:∀V,U=gV V->∀(B:Ix) (s:Hq) (Q:Hm->Hq->Prop) (E:Hm->Hq->Prop),T i s.heap->C s.heap->(∀u h' tk,V u->T (i+1) h'->Kf it s.heap h'->Q u { s with heap:=h',toks:=tk })->wpAny (model prog w) B (nextOf (.ref it)) Q E s
 stop:U=td->∀(B:Ix) (s:Hq) (Q:Hm->Hq->Prop) (E:Hm->Hq->Prop),B.handled=td->T i s.heap->C s.heap->(∀h' e,MN it s.heap h'->(∃o,h'.get? e=gV o/\o.cls=.type "StopIteration")->E (.ref e) { s with heap:=h' })->wpAny (model prog w) B (nextOf (.ref it)) Q E s
variable{B:Ix}{E:Hm->Hq->Prop}{s:Hq}{z p q i1 i2:Hw}{T1 T2:Hs->IJ->Prop}{C1 C2:IJ->Prop}{i:Hs}{a b:Hm}
noncomputable def Zc (z q i1 i2:Hw)(C:IJ->Prop):Prop:=∀h h',C h->(∀c o,c≠z->c≠q->c≠i1->c≠i2->h.get? c=gV o->h'.get? c=gV o)->C h'
end
end Mi
namespace Mi
open PySem PySem.Spec PyProof.Rows L2
open PySem.Builtin.SmallTypes (nextOf)
noncomputable def qo (prog:Io)(w:IA)(v:Hm)(o:Jr)(C:IJ->Prop):Prop:=∀(B:Ix) (s:Hq) (Q:Hm->Hq->Prop) (E:Hm->Hq->Prop),C s.heap->Q (.ref s.heap.objs.size) { s with heap:=s.heap.push o }->wpAny (model prog w) B (pyIter v) Q E s
end Mi
namespace Mi
open PySem PySem.Spec PyProof.Rows L2
open PySem.Builtin.SmallTypes (nextOf)
section
variable{prog:Io}{w:IA}{A:Ix}{E:Hm->Hq->Prop}{s:Hq}
theorem Ed {it t:Hw}{i:Hs}{items:IF Hm}{x:Hm}{Q:Hm->Hq->Prop}(hit:s.heap.IsTupleIter it t i)(ht:s.heap.IsTuple t items)(hx:items[i]?=gV x)
  (hQ:∀h',h'.IsTupleIter it t (i+1)->Kf it s.heap h'->Q x { s with heap:=h' }):wpAny (model prog w) A (nextOf (.ref it)) Q E s:=by
 obtain⟨o,ho,hc,hd⟩:=id hit;obtain⟨ot,hot,_,nt,hdt⟩:=ht;unfold LU;refine Hl (IX (name:=JX "__next__") hit.typeIs F.slot_tuple_iterator_next (Ji F.slot_tuple_iterator_next hit.typeIs F.entry_tuple_iterator_next ?_ (F.args_tuple_iterator_next_1 _)));show wpAny _ _ (field (.ref it) 0 >>= _) _ _ s;refine Hl (JO ho hd (x:=.ref t) rfl ?_);show wpAny _ _ (if (IE t==IM)=true then _ else _) _ _ s
 rw[Iy (show ¬ ((IE t==IM)=true)from HN)]
 show wpAny _ _ (field (.ref it) 1 >>= _) _ _ s;refine Hl (JO ho hd (x:=.int i 0) rfl (Hl (KM hot hdt ?_)));simp only[HI,hx];refine Hl (LL ho hd (by simp) (HB #[x,rfl,HB (hQ _ #[_,J7 _ ho (MK (K8 hd _)),(NS ..).trans hc,?_] (KT ..))]))
 rw[K8 hd]; simp[rawInt]
theorem Ee {it t:Hw}{i:Hs}{items:IF Hm}{Q:Hm->Hq->Prop}(hh:A.handled=td)(hit:s.heap.IsTupleIter it t i)(ht:s.heap.IsTuple t items)(hx:items[i]?=td)
  (hE:∀h' e,MN it s.heap h'->(∃o,h'.get? e=gV o/\o.cls=.type "StopIteration")->E (.ref e) { s with heap:=h' }):wpAny (model prog w) A (nextOf (.ref it)) Q E s:=by
 obtain⟨o,ho,hc,hd⟩:=id hit;obtain⟨ot,hot,_,nt,hdt⟩:=ht;unfold LU;refine Hl (IX (name:=JX "__next__") hit.typeIs F.slot_tuple_iterator_next (Ji F.slot_tuple_iterator_next hit.typeIs F.entry_tuple_iterator_next ?_ (F.args_tuple_iterator_next_1 _)));show wpAny _ _ (field (.ref it) 0 >>= _) _ _ s;refine Hl (JO ho hd (x:=.ref t) rfl ?_);show wpAny _ _ (if (IE t==IM)=true then _ else _) _ _ s
 rw[Iy (show ¬ ((IE t==IM)=true)from HN)]
 show wpAny _ _ (field (.ref it) 1 >>= _) _ _ s;refine Hl (JO ho hd (x:=.int i 0) rfl (Hl (KM hot hdt ?_)));simp only[HI,hx];refine Hl (Nl (Hl (LL ho hd (by simp) ?_)))
 show wpAny _ _ (newExc (.type "StopIteration") [] >>= _) _ _ _;refine Hl ?_;simp only[newExc,newTuple];refine Hl (IK ?_ (by size_fits))
 refine Hl (m:=firstArgMember _ _) (MO (a:=IM) (by first|rfl|(simp only[firstArgMember]; rfl)) (IK ?_ (by size_fits)))
 simp only[raiseNew];refine Hl (O5 ?_)
 first|rw[show A.in1.handled=td from hh]|rw[hh]
 exact Hl (HB (Py (hE _ _ (((KT ..).extBut.push _).push _) #[_,HQ _ rfl,rfl])))
end
inductive Zs where|tup (a:Hw)|lst (a:Hw)|txt (x:HM)
noncomputable def Zs.T (it:Hw):Zs->Hs->IJ->Prop
 | .tup a,i,h=>h.IsTupleIter it a i
 | .lst a,i,h=>h.IsListIter it a i
 | .txt x,i,h=>∃t,h.IsStrIter it "str_ascii_iterator" x t i\/h.IsStrIter it "str_iterator" x t i
noncomputable def Zs.at (K:HD)(H:Hp)(i:Hs)(v:V):Zs->Prop
 | .tup a=>∃xs,SqT K H a xs/\xs[i]?=gV v
 | .lst a=>∃xs,SqL K H a xs/\xs[i]?=gV v
 | .txt x=>∃c,x.cps[i]?=gV c/\v=.str #[[c].toArray]
noncomputable def Zs.out (K:HD)(H:Hp)(i:Hs):Zs->Prop
 | .tup a=>∃xs,SqT K H a xs/\xs.length<=i
 | .lst a=>∃xs,SqL K H a xs/\xs.length<=i
 | .txt x=>x.cps.size<=i
theorem Zs.keep {S:Zs}{it:Hw}{j:Hs}{h h':IJ}(t:S.T it j h)(k:∀o,h.get? it=gV o->h'.get? it=gV o):S.T it j h':=by
 cases S with
 | tup a=>exact t.at k
 | lst a=>exact t.at k
 | txt x=>
  obtain⟨tk,t⟩:=t;exact#[tk,t.imp (λ#[o,e,r]=>#[o,k _ e,r]) λ#[o,e,r]=>#[o,k _ e,r]]
section
variable{X:Cx}{pins:Hj (Hw×Jr)}{σ:L2.St}{H:Hp}{s:Hq}
theorem v8 (I:Inv X pins σ H s){a b:Hw}{o:Jr}(h:X.K.lookup a=gV o)(f:iM X pins H b):a≠b:=λz=>by
 subst z;have hb:=I.ok.mod.kin a o h;rcases f.2.2.2.1 with q|q
 ·exact I.ok.noex a o hb q
 ·exact absurd (Ij (HR (I.ok.bs a o hb).1) q) (Ja _)
end
end Mi
namespace Mi
open PySem PySem.Spec PyProof.Rows L2
open PySem.Builtin.SmallTypes (nextOf)
section
variable{X:Cx}{pins:Hj (Hw×Jr)}{σ:L2.St}{H:Hp}{s:Hq}{h':IJ}
theorem wa {a b:Hw}{u:HO}(h:Rd H a u)(f:H b=td):a≠b:=λz=>by
 subst z;rcases h with h|⟨o,h⟩ <;> (rw[f]at h; cases h)
theorem Inv.turnedL {t':Hs}{ch:Hj Hw}(I:Inv X pins σ H s)(k:∀b o,b∉ch->s.heap.get? b=gV o->h'.get? b=gV o)(hf:∀b∈ch,iM X pins H b):Inv X pins σ H { s with heap:=h',toks:=t' }:=by
 have nit:∀b u,H b=gV u->b∉ch:=λb u e z=>by have:=(hf b z).1; rw[e]at this; cases this
 refine I.step (g':=s.gens) (d':=s.drawn) (ch:=ch) (λb hb=>?_) (λb o _ _ hc e _=>k b o hc e) (λb o _ _ hc e _=>#[o.slots,k b o hc e]) (λ_ _ _ _ n=>n) (λb o hc e=>#[o,k b o hc e]) (λ_ _ e=>e) (λ_ _ _ e=>e) (λb ps e=>#[#[],by rw[e]; simp]) (λm hm=>?_) (λb u e=>?_) I.bare
 ·obtain⟨_,f1,_,f3,f4,f5⟩:=hf b hb;exact#[f3,f1,f4,f5]
 ·obtain⟨o,es,ep,ho,r⟩:=hm;exact#[o,es,ep,k _ o (λz=>(hf _ z).2.1 rfl) ho,r]
 ·refine(I.hok b u e).stay (λc v hc q=>k c v ?_ q) (λ_ q=>q) λ_ _ q=>q
  rcases hc with z|z
  ·rw[z]; exact nit b u e
  ·exact nit c _ z
theorem Zs.zit {S:Zs}{it z q i1 i2:Hw}{i:Hs}{U:Hr V}(I:Inv X pins σ H s)(hf:∀b∈[z,q,i1,i2],iM X pins H b)(g:match U with|some v=>S.at X.K H i v|none=>S.out X.K H i) :
  ∃C,Zit X.prog X.w it (S.T it) C i (U.map λv u=>RelV v u)/\C s.heap/\Zc z q i1 i2 C:=by
 have zc:∀(a:Hw) (P:IJ->Prop),(∀h h',P h->(∀o,h.get? a=gV o->h'.get? a=gV o)->P h')->(∀b∈[z,q,i1,i2],a≠b)->Zc z q i1 i2 P:=λa P hP hn h h' p k=>
  hP h h' p λo e=>k a o (hn z (by simp)) (hn q (by simp)) (hn i1 (by simp)) (hn i2 (by simp)) e
 have sep:∀ {a:Hw} {u:HO} {o:Jr} {b:Hw},(Rd H a u\/X.K.lookup a=gV o)->b∈[z,q,i1,i2]->a≠b:=λh hb=>h.elim (λr=>wa r (hf _ hb).1) λr=>v8 I r (hf _ hb)
 cases S with
 | tup a=>
  obtain⟨xs,hq,hx⟩ : ∃xs,SqT X.K H a xs/\(match U with|some v=>xs[i]?=gV v|none=>xs.length<=i):=by
   cases U <;> exact g
  obtain⟨its,rv,p,_⟩:=I.tuple hq;have hne:∀b∈[z,q,i1,i2],a≠b:=λb hb=>by
   rcases hq with r|⟨o,_,_,r,_⟩
   ·exact wa r (hf b hb).1
   ·exact v8 I r (hf b hb)
  refine#[λh=>h.IsTuple a its.toArray,#[λj h h' t k=>Zs.keep (S:=.tup a) t k,λV hV B s2 Q E t c hQ=>?_,λhU B s2 Q E hh t c hE=>?_],p,zc a _ (λh h' #[o,e,r] k=>#[o,k _ e,r]) hne]
  ·cases U with
   | none=>cases hV
   | some v=>
    cases hV;obtain⟨u,hu,ru⟩:=rv.get hx;exact Ed t c (x:=u) (by simpa using hu) λh' t' sb=>hQ u h' s2.toks ru t' sb
  ·cases U with
   | some v=>cases hU
   | none=>
    have:=L2.Vals.length rv;have hx':xs.length<=i:=hx;exact Ee hh t c (by simp; omega) hE
 | lst a=>
  obtain⟨xs,hq,hx⟩ : ∃xs,SqL X.K H a xs/\(match U with|some v=>xs[i]?=gV v|none=>xs.length<=i):=by
   cases U <;> exact g
  obtain⟨its,rv,p,_⟩:=I.list hq;have hne:∀b∈[z,q,i1,i2],a≠b:=λb hb=>by
   rcases hq with r|⟨o,_,_,r,_⟩
   ·exact wa r (hf b hb).1
   ·exact v8 I r (hf b hb)
  refine#[λh=>h.IsList a its.toArray,#[λj h h' t k=>Zs.keep (S:=.lst a) t k,λV hV B s2 Q E t c hQ=>?_,λhU B s2 Q E hh t c hE=>?_],p.isList,zc a _ (λh h' #[o,e,r] k=>#[o,k _ e,r]) hne]
  ·cases U with
   | none=>cases hV
   | some v=>
    cases hV;obtain⟨u,hu,ru⟩:=rv.get hx;exact wpAny_nextOf_list_item t c (x:=u) (by simpa using hu) λh' t' sb=>hQ u h' s2.toks ru t' sb
  ·cases U with
   | some v=>cases hU
   | none=>
    have:=L2.Vals.length rv;have hx':xs.length<=i:=hx;exact wpAny_nextOf_list_end hh t c (by simp; omega) hE
 | txt x=>
  refine#[λ_=>Oy,#[λj h h' t k=>Zs.keep (S:=.txt x) t k,λV hV B s2 Q E t _ hQ=>?_,λhU B s2 Q E hh t _ hE=>?_],trivial,λ_ _ _ _=>trivial]
  ·cases U with
   | none=>cases hV
   | some v=>
    cases hV;obtain⟨c,hc,rfl⟩ : ∃c,x.cps[i]?=gV c/\v=.str #[[c].toArray]:=g;obtain⟨tk,t|t⟩:=t
    ·exact wpAny_nextOf_ascii_item t hc λh' t' sb=>hQ _ h' _ #[_,rfl] #[tk,.inl t'] sb
    ·exact wpAny_nextOf_wide_item t hc λh' t' sb=>hQ _ h' _ #[_,rfl] #[tk,.inr t'] sb
  ·cases U with
   | some v=>cases hU
   | none=>
    have hx:x.cps[i]?=td:=by simpa using(show x.cps.size<=i from g)
    obtain⟨tk,t|t⟩:=t
    ·exact wpAny_nextOf_ascii_end hh t hx hE
    ·exact wpAny_nextOf_wide_end hh t hx hE
end
noncomputable def Zs.is (K:HD)(H:Hp)(i:Hs)(v:V):Zs->Prop
 | .tup a=>∀xs,SqT K H a xs->xs[i]?=gV v
 | .lst a=>∀xs,SqL K H a xs->xs[i]?=gV v
 | .txt x=>∃c,x.cps[i]?=gV c/\v=.str #[[c].toArray]
theorem Zs.at_is {S:Zs}{X:Cx}{pins:Hj (Hw×Jr)}{σ:L2.St}{H:Hp}{s:Hq}{i:Hs}{v:V}(I:Inv X pins σ H s)(h:S.at X.K H i v):S.is X.K H i v:=by
 cases S with
 | tup a=>obtain⟨xs,hq,hx⟩:=h; exact λys hy=>by rw[I.tuple_inj hy hq]; exact hx
 | lst a=>obtain⟨xs,hq,hx⟩:=h; exact λys hy=>by rw[I.list_inj hy hq]; exact hx
 | txt x=>exact h
end Mi
namespace Mi
open PySem PySem.Spec PyProof.Rows L2
noncomputable def Fn:W->Hr (Hj W)
 | .tup xs=>gV xs
 | .str x=>gV (x.cps.toList.map λc=>.str #[[c].toArray])
 | _=>td
section
variable{X:Cx}{pins:Hj (Hw×Jr)}{σ:L2.St}{H:Hp}{s:Hq}{A:Hj Hw}
noncomputable def ZRel (K:HD)(A:Hj Hw)(H:Hp)(xs:Hj W):Zs->Prop
 | .tup a=>∃vs,SqT K H a vs/\RelL K A H xs vs
 | .lst a=>IY
 | .txt x=>xs=x.cps.toList.map λc=>.str #[[c].toArray]
theorem ZRel.mono {K:HD}{A A':Hj Hw}{H H':Hp}{xs:Hj W}{S:Zs}(e:Ext K A H A' H')(h:ZRel K A H xs S):ZRel K A' H' xs S:=by
 cases S with
 | tup a=>obtain⟨vs,h1,h2⟩:=h; exact#[vs,e.tp _ _ h1,h2.mono e]
 | lst a=>exact h
 | txt x=>exact h
theorem ZRel.at {K:HD}{xs:Hj W}{S:Zs}{i:Hs}{w:W}(h:ZRel K A H xs S)(hi:xs[i]?=gV w):∃v,S.at K H i v/\Rel K A H w v:=by
 cases S with
 | tup a=>obtain⟨vs,h1,h2⟩:=h; obtain⟨v,h3,h4⟩:=h2.get hi; exact#[v,#[vs,h1,h3],h4]
 | lst a=>exact h.elim
 | txt x=>
  have h:xs=x.cps.toList.map λc=>.str #[[c].toArray]:=h
  subst h;rw[Ht,Ho]at hi;obtain⟨c,hc,rfl⟩:=hi;exact#[.str #[[c].toArray],#[c,by rw[<- Js]; exact hc,rfl],.str]
theorem ZRel.is {K:HD}{xs:Hj W}{S:Zs}{i:Hs}{w:W}{v:V}(h:ZRel K A H xs S)(hi:xs[i]?=gV w)(z:S.is K H i v):Rel K A H w v:=by
 obtain⟨v',h1,h2⟩:=h.at hi;cases S with
 | tup a=>
  obtain⟨vs,q,e⟩:=h1;have:=z vs q;rw[e]at this; cases this
  exact h2
 | lst a=>exact h.elim
 | txt x=>
  obtain⟨c,e,rfl⟩:=h1;obtain⟨c',e',rfl⟩:=z;rw[e]at e'; cases e'
  exact h2
theorem ZRel.out {K:HD}{xs:Hj W}{S:Zs}{i:Hs}(h:ZRel K A H xs S)(hi:xs.length<=i):S.out K H i:=by
 cases S with
 | tup a=>obtain⟨vs,h1,h2⟩:=h; exact#[vs,h1,by rw[<- h2.length]; exact hi]
 | lst a=>exact h.elim
 | txt x=>
  have h:xs=x.cps.toList.map λc=>.str #[[c].toArray]:=h
  subst h;show x.cps.size<=i
  simpa using hi
theorem zY {x:W}{v:V}{u:Hm}{xs:Hj W}(I:Inv X pins σ H s)(r:Rel X.K A H x v)(ru:RelV v u)(e:Fn x=gV xs) :
  ∃(S:Zs) (o:Jr) (C:IJ->Prop),ZRel X.K A H xs S/\qo X.prog X.w u o C/\C s.heap/\(∀h o,C h->C (h.push o))/\o.isFreed=false/\∀it h,h.get? it=gV o->S.T it 0 h:=by
 cases r with
 | @tup ws a vs hq rl=>
  cases e;obtain⟨its,rv,p,_⟩:=I.tuple hq;obtain rfl:u=IE a:=ru;exact#[.tup a,{ cls:=.type "tuple_iterator",data:=.fields [.ref a,.int 0 0].toArray },λh=>h.IsTuple a its.toArray,#[vs,hq,rl],λB s Q E c hQ=>Nv c hQ,p,λh o #[ot,e,r]=>#[ot,Hu _ e,r],rfl,λit h e=>#[_,e,rfl,rfl]]
 | @str x=>
  cases e;obtain⟨t,rfl⟩:=ru;cases ha:x.cps.all (· < 128)with
  | false=>exact#[.txt x,{ cls:=.type "str_iterator",data:=.fields [.str x t,.int 0 0].toArray },λ_=>Oy,rfl,λB s Q E _ hQ=>wpAny_pyIter_wide ha hQ,trivial,λ_ _ _=>trivial,rfl,λit h e=>#[t,.inr #[_,e,rfl,rfl]]]
  | true=>exact#[.txt x,{ cls:=.type "str_ascii_iterator",data:=.fields [.str x t,.int 0 0].toArray },λ_=>Oy,rfl,λB s Q E _ hQ=>wpAny_pyIter_ascii ha hQ,trivial,λ_ _ _=>trivial,rfl,λit h e=>#[t,.inl #[_,e,rfl,rfl]]]
 | _=>cases e
end
open PySem.Builtin.SmallTypes (nextOf)
section
variable{prog:Io}{w:IA}{B:Ix}{E:Hm->Hq->Prop}{s:Hq}{e it:Hw}{T:Hs->IJ->Prop}{C:IJ->Prop}{i:Hs}{old:Hm}
structure EnAt (h0 h:IJ)(e it:Hw)(fs:IF Hm)(T:IJ->Prop):Prop where
 here:h.get? e=gV { cls:=.type "enumerate",dict:=td,data:=.fields fs,slots:=#[] }
 turn:T h
 kept:∀b o,b≠e->b≠it->h0.get? b=gV o->h.get? b=gV o
theorem EnAt.put {h0:IJ}{fs:IF Hm}{T:IJ->Prop}{k:Hs}{v:Hm}{Q:Unit->Hq->Prop}(x:EnAt h0 s.heap e it fs T)(hne:e≠it)(kT:∀h h',T h->(∀o,h.get? it=gV o->h'.get? it=gV o)->T h')(hk:k < fs.size)
  (q:∀h',EnAt h0 h' e it (fs.setIfInBounds k v) T->Kf e s.heap h'->Q () { s with heap:=h' }):wpAny (model prog w) B (setField (.ref e) k v) Q E s:=
 wpAny_setField_rec x.here hk λh' y sb=>q h' #[y,kT _ _ x.turn λo z=>sb.extBut _ _ (Ne.symm hne) z,λb o h1 h2 z=>sb.extBut b o h1 (x.kept b o h1 h2 z)] sb
theorem lR {U:Hr (Hm->Prop)}{Q:Hm->Hq->Prop}(Z:Zit prog w it T C i U)(hh:B.handled=td)(he:PV s.heap e it (i:Hy) old)(t:T i s.heap)(c:C s.heap)(hne:e≠it)
  (hI:∀V,U=gV V->∀u h' tk tk0,V u->IsEnumOut h' e it ((i:Hy)+1) u s.heap.objs.size->T (i+1) h'->h'.get? s.heap.objs.size=gV { cls:=.type "tuple",data:=.seq [.int i tk0,u].toArray }->
   (∀b o,b≠e->b≠it->s.heap.get? b=gV o->h'.get? b=gV o)->Q (.ref s.heap.objs.size) { s with heap:=h',toks:=tk })
  (hE:U=td->∀h' x,MN it s.heap h'->(∃o,h'.get? x=gV o/\o.cls=.type "StopIteration")->E (.ref x) { s with heap:=h' }) :
  wpAny (model prog w) B (Mq.«enumerate.__next__» #[[.ref e],[]]) (λfin s'=>∃v,fin=.done (.ret v)/\Q v s') E s:=by
 obtain⟨hp,g,d,tk,os⟩:=s;show wpAny _ _ (field (.ref e) 2 >>= _) _ _ _;refine Hl (JO he rfl (x:=.ref it) rfl (Hl ?_));cases U with
 | none=>exact Z.stop rfl _ _ _ _ hh t c λh' x a b=>hE rfl h' x a b
 | some V=>
  refine Z.next V rfl _ _ _ _ t c λu ha tka hu ta sba=>?_
  have kT:=Z.keep (i+1);have xa:EnAt hp ha e it [.none,.bool false,.ref it,rawInt i,.none,old].toArray (T (i+1)):=#[(sba.2 e hne).trans he,ta,λb o _ h2 z=>sba.extBut b o h2 z]
  have za:ha.objs.size=hp.objs.size:=sba.1;clear sba ta;show wpAny _ _ (field (.ref e) 3 >>= _) _ _ #[ha,g,d,tka,os];refine Hl (JO xa.here rfl (x:=rawInt i) rfl ?_);show wpAny _ _ (field (.ref e) 4 >>= _) _ _ #[ha,g,d,tka,os];refine Hl (JO xa.here rfl (x:=.none) rfl ?_);show wpAny _ _ (mkInt i >>= _) _ _ #[ha,g,d,tka,os];refine Hl (Ol (Hl (xa.put (s:=#[ha,g,d,tka+1,os]) hne kT (by simp) λhb xb sb1=>Hl (xb.put (s:=#[hb,g,d,tka+1,os]) hne kT (by simp) λhc xc sb2=>Hl (ON ?_)))))
  have zc:hc.objs.size=hp.objs.size:=by rw[sb2.1,<- za]; exact sb1.1
  have hel:hp.objs.size≠e:=Kv (HR he);have new:=HQ hc (o:={ cls:=.type "tuple",data:=.seq [.int i tka,u].toArray }) rfl;have xd:EnAt hp (hc.push { cls:=.type "tuple",data:=.seq [.int i tka,u].toArray }) e it [.none,.bool false,.ref it,rawInt ((i:Hy)+1),.none,old].toArray (T (i+1)):=#[Hu _ xc.here,kT _ _ xc.turn λo z=>Hu _ z,λb o h1 h2 z=>Hu _ (xc.kept b o h1 h2 z)]
  rw[zc]at new;show wpAny _ _ (KZ (.ref e) >>= _) _ _ #[hc.push _,g,d,tka+1,os];rw[zc];generalize hc.push { cls:=.type "tuple",data:=.seq [.int i tka,u].toArray }=hd at new xd ⊢;clear zc sb2 xc sb1 xb hb xa za;refine Hl ?_;unfold KZ;refine Hl (JO xd.here rfl (x:=.none) rfl (HB ?_));simp only[Kq];refine Hl (Nl (Hl (JO xd.here rfl (x:=old) rfl (Hl (xd.put (s:=#[hd,g,d,tka+1,os]) hne kT (by simp) λh1 x1 s1=>Hl ?_)))))
  unfold M5;refine Hl (x1.put (s:=#[h1,g,d,tka+1,os]) hne kT (by simp) λh2 x2 s2=>x2.put (s:=#[h2,g,d,tka+1,os]) hne kT (by simp) λh3 x3 s3=>Hl (Lv (HB #[_,rfl,hI V rfl u h3 (tka+1) tka hu x3.here x3.turn ?_ x3.kept])))
  exact s3.extBut _ _ hel (s2.extBut _ _ hel (s1.extBut _ _ hel new))
variable{v:Hm}{o:Jr}
theorem oW (h1:qo prog w v o C) :
  MeetsIn prog w (Mq.«enumerate.__new__» #[[.type "enumerate",v],[]]) (λ_ R s=>C s.heap/\R (.ok (.ret (.ref (s.heap.push o).objs.size))) { s with heap:=(s.heap.push o).push { cls:=.type "enumerate",data:=.fields [.none,.bool false,.ref s.heap.objs.size,rawInt 0,.none,.none].toArray } }):=
 .of_wp λA R s h=>by
  obtain⟨hp,g,d,tk,os⟩:=s;obtain⟨c,h⟩:=h;have hsub:=sub_enumerate;have d1:∀(B:Ix) (Q:Hm->Hq->Prop) (E:Hm->Hq->Prop),Q (.ref hp.objs.size) #[hp.push o,g,d,tk,os]->wpAny (model prog w) B (pyIter v) Q E #[hp,g,d,tk,os]:=λB Q E q=>h1 B #[hp,g,d,tk,os] Q E c q
  wp_walk
  refine wpAny_stack_any λst=>HB ?_
  split
  ·rename_i c _ _ _ _ _;cases(c==KI "enumerate")
   ·wp_walk using d1 _ _ _
    exact#[_,rfl,h]
   ·wp_walk using d1 _ _ _
    exact#[_,rfl,h]
  ·wp_walk using d1 _ _ _
   exact#[_,rfl,h]
theorem tU {Q:Hm->Hq->Prop}(h1:qo prog w v o C)(c:C s.heap)(n1:o.isFreed=false)
  (h:∀h',PV h' (s.heap.objs.size+1) s.heap.objs.size 0 .none->h'.get? s.heap.objs.size=gV o->(∀b o,s.heap.get? b=gV o->h'.get? b=gV o)->Q (.ref (s.heap.objs.size+1)) { s with heap:=h' }) :
  wpAny (model prog w) B (call (.type "enumerate") [v]) Q E s:=by
 refine callType_newIn F.called_enumerate #v[] (F.typeCall_enumerate_1 _) (F.newCall_enumerate_1 _) (λobj=>F.args_object_init_2 obj _) F.entry_enumerate_new (oW h1) #[c,?_]
 have hz:(s.heap.push o).objs.size=s.heap.objs.size+1:=OP ..;show _/\_;rw[hz];have he:PV ((s.heap.push o).push { cls:=.type "enumerate",data:=.fields [.none,.bool false,.ref s.heap.objs.size,rawInt 0,.none,.none].toArray }) (s.heap.objs.size+1) s.heap.objs.size 0 .none:=by
  have:=HQ (s.heap.push o) (o:={ cls:=.type "enumerate",data:=.fields [.none,.bool false,.ref s.heap.objs.size,rawInt 0,.none,.none].toArray }) rfl;rw[hz]at this; exact this
 exact#[#[_,he,rfl],h _ he (Hu _ (HQ _ n1)) λb o x=>Hu _ (Hu _ x)]
end
noncomputable def GR (K:HD)(S1:Zs):It:=
 #[λi H=>∃x,S1.at K H i x,λi H v H'=>∃p x,S1.is K H i x/\v=.ref p/\H p=td/\H'=bR H p (.tup [.int i,x]),λi H=>S1.out K H i]
theorem tV {P:Io}{w:IA}{K:HD}{els:Hj HW}{k0:Hs}{tp:J2}{S1:Zs}{z i1:Hw}(D:z≠i1) :
  Turn P w K (.Tuple els k0 tp) (GR K S1) [z,i1] z (λi h=>(∃old,PV h z i1 i old)/\S1.T i1 i h) where
 mem:=by simp
 obj:=λi h #[#[old,a],d] b' hb=>by
  have it:∀ {S:Zs} {it:Hw},S.T it i h->∃o,h.get? it=gV o/\∀v,o.data≠.cell v:=λ{S it} t=>by
   cases S with
   | tup a=>obtain⟨o,e,_,d⟩:=t; exact#[o,e,λv z=>by rw[d]at z; cases z]
   | lst a=>obtain⟨o,e,_,d⟩:=t; exact#[o,e,λv z=>by rw[d]at z; cases z]
   | txt x=>obtain⟨tk,⟨o,e,_,d⟩|⟨o,e,_,d⟩⟩:=t <;> exact#[o,e,λv z=>by rw[d]at z; cases z]
  simp only[HZ,IU,Ku]at hb;rcases hb with rfl|rfl
  ·exact#[_,a,λv z=>by cases z]
  ·exact it d
 keep:=λi h h' #[#[old,a],d] k=>#[#[old,k z (by simp) _ a],Zs.keep d (k i1 (by simp))]
 item:=by
  intro X hP hw hK hc i pins s σ H E I hf st hg;subst hP hw hK;obtain⟨x,g1⟩:=hg;obtain⟨⟨old,a⟩,d⟩:=st;have hf4:∀b∈[z,z,i1,i1],iM X pins H b:=λb hb=>hf b (by simp only[HZ,IU,Ku]at hb ⊢; rcases hb with h|h|h|h <;> simp[h])
  obtain⟨C1,Z1,c1,k1⟩:=Zs.zit (it:=i1) (U:=gV x) I hf4 g1;have hT:s.TypeIs (.ref z) "enumerate":=#[_,a,rfl];unfold pyNext;refine Hl (L8 (IX (name:=JX "__next__") hT F.slot_enumerate_next (Ji F.slot_enumerate_next hT F.entry_enumerate_next ?_ (F.args_enumerate_next_1 _))));refine lR Z1 (I.ok.hd hc) a d c1 D (λV e1 u g tk tk0 r1 zg t1 ng kp=>?_) (λz=>by cases z)
  cases e1;refine HB #[_,rfl,?_];refine wpAny_letOwnedTupleGo_enum (s:={ s with heap:=g,toks:=tk }) zg λg' zg' sb=>?_
  have N0:H s.heap.objs.size=td:=I.hok.fresh (HC _);have lt:∀ {b:Hw},b∈[z,i1]->s.heap.objs.size≠b:=λ{b} hb=>by
   have:∃o,s.heap.get? b=gV o:=by
    have it:∀ {S:Zs} {it:Hw},S.T it i s.heap->∃o,s.heap.get? it=gV o:=λ{S it} t=>by
     cases S with
     | tup a=>obtain⟨o,e,_⟩:=t; exact#[o,e]
     | lst a=>obtain⟨o,e,_⟩:=t; exact#[o,e]
     | txt x=>obtain⟨tk,⟨o,e,_⟩|⟨o,e,_⟩⟩:=t <;> exact#[o,e]
    simp only[HZ,IU,Ku]at hb;rcases hb with rfl|rfl
    ·exact#[_,a]
    ·exact it d
   obtain⟨o,e⟩:=this;exact Kv (HR e)
  have up:∀b o,b∉[z,i1]->s.heap.get? b=gV o->g'.get? b=gV o:=λb o hb e=>by
   simp only[HZ,IU,Ku,Pj]at hb;exact sb.extBut _ _ hb.1 (kp b o hb.1 hb.2 e)
  have I1:Inv X pins σ H { s with heap:=g',toks:=tk }:=Mi.Inv.turnedL I up hf
  have ng':g'.get? s.heap.objs.size=gV { cls:=.type "tuple",data:=.seq [.int i tk0,u].toArray }:=sb.extBut _ _ (lt (by simp)) ng
  have I2:Inv X pins σ (bR H s.heap.objs.size (.tup [.int i,x])) { s with heap:=g',toks:=tk }:=by
   refine Mi.Inv.adopt I1 N0 (.inr I.sz) (Kv I.lt) (λw c e=>?_) (λp hp=>?_) #[#[by show 2<=sizeLine; decide,#[_,ng',rfl]],[.int i tk0,u],.cons #[_,rfl] #v[r1],#[_,ng',rfl,0,rfl]]
   ·obtain⟨v,q⟩:=I.cell w c e;exact Ip q.lt
   ·exact Ip (HR (I.pin p hp).1)
  refine#[.ref s.heap.objs.size,_,I2,rfl,#[s.heap.objs.size,x,Zs.at_is I g1,rfl,N0,rfl],#[#[_,zg'],Zs.keep t1 λo e=>sb.extBut _ _ (Ne.symm D) e],λb hb=>?_]
  rw[aH (Ne.symm (lt hb))];exact(hf b hb).1
 done:=by
  intro X hP hw hK hc i pins s σ H E I hf st hg;subst hP hw hK;obtain⟨⟨old,a⟩,d⟩:=st;have hf4:∀b∈[z,z,i1,i1],iM X pins H b:=λb hb=>hf b (by simp only[HZ,IU,Ku]at hb ⊢; rcases hb with h|h|h|h <;> simp[h])
  obtain⟨C1,Z1,c1,k1⟩:=Zs.zit (it:=i1) (U:=td) I hf4 hg;have hT:s.TypeIs (.ref z) "enumerate":=#[_,a,rfl];unfold pyNext;refine Hl (L8 (IX (name:=JX "__next__") hT F.slot_enumerate_next (Ji F.slot_enumerate_next hT F.entry_enumerate_next ?_ (F.args_enumerate_next_1 _))));refine lR Z1 (I.ok.hd hc) a d c1 D (λV e1=>by cases e1) λ_ h' e k #[o,ho,hc]=>?_
  exact Hl (Mg (T:="StopIteration") (b:=true) #[o,ho,hc] OL (HB #[rfl,Mi.Inv.turnedL (t':=s.toks) I (λb o hb e=>by
    simp only[HZ,IU,Ku,Pj]at hb;exact k b o hb.2 e) hf]))
 self:=λ_ _ _ _ _ st h=>by obtain⟨⟨old,a⟩,_⟩:=st; exact NV a h
noncomputable def iV (xs:Hj W):Hj W:=xs.zipIdx.map λp=>.tup [.int (p.2:Hs),p.1]
theorem jZ {xs:Hj W}{i:Hs}{w:W}(h:(iV xs)[i]?=gV w):∃x,xs[i]?=gV x/\w=.tup [.int i,x]:=by
 unfold iV at h;rw[Ht,List.getElem?_zipIdx,Option.map_map,Ho]at h;obtain⟨x,h1,rfl⟩:=h;exact#[x,h1,by simp]
noncomputable def wb (f:FA):FI:=λρ S=>match f ρ S with
 | some ([x],S1)=>match Fn x with
  | some xs=>gV (.its (iV xs),S1)
  | none=>td
 | _=>td
section
variable{X:Cx}{pins:Hj (Hw×Jr)}{σ:L2.St}{H:Hp}{s:Hq}{A:Hj Hw}
theorem wc {S1:Zs}{xs:Hj W}(z1:ZRel X.K A H xs S1):MIt X.w X.K (.its (iV xs)) (GR X.K S1) A H:=by
 refine#[λA' H' S i w e so hi=>?_,λA' H' S i e so hi=>?_]
 ·simp only[MI.at,IG]at hi;obtain⟨x,e1,rfl⟩:=jZ hi;obtain⟨v,g1,r1⟩:=(z1.mono e).at e1;refine#[#[v,g1],λp H2 #[a,v',q1,hp,hn,hH]=>?_]
  subst hp hH;have ex:Ext X.K A' H' A' (bR H' a (.tup [.int i,v'])):=dm (.inl hn);exact#[ex,so.lay hn,.tup (.of aZ) #v[.int,((z1.mono e).is e1 q1).mono ex]]
 ·simp only[MI.at,IG,JG,iV,Hk,List.length_zipIdx]at hi;exact(z1.mono e).out hi
theorem tW:bootBuiltins "enumerate" = gV (.type "enumerate"):=rfl
theorem zZ {els:Hj HW}{k0:Hs}{tp:J2}{a:HW}{f:FA}{p pos:J2}(hg:Gl X "enumerate")(hm:X.mg "enumerate" = td)(ha:GA X [a] f)(hs:starEach [a] X.env=[(false,eval a X.env)]) :
  GI X (.Tuple els k0 tp) (.Call (.Name "enumerate" p) [a] [] pos) (wb f):=by
 intro pins s σ H R I ⟨A,ρ,S,mi,S',er,so,e,hq⟩;unfold wb at e;split at e
 ·rename_i x S1 h1;split at e
  ·rename_i xs e1;cases e;refine Call_ (iL I hg hm tW (JW (bo (ha pos pins s σ H _ I #[A,ρ,S,_,_,er,so,h1,λ_ _ z=>z]) λus s1 #[vs,H1,I1,r1,A1,z1,z2,z3]=>?_) (by rw[hs]; rfl) (by rfl)))
   cases z3 with
   | cons ra t=>
    cases t;cases r1 with
    | cons ua t=>
     cases t;obtain⟨Sa,oa,Ca,za,ia,ca,ka,na,ta⟩:=zY I1 ra ua e1;refine tU ia ca na λh' hz g1 kp=>?_
     have I2:Inv X pins σ H1 { s1 with heap:=h' }:=I1.kept (t':=s1.toks) kp
     refine NV (s:={ s1 with heap:=h' }) hz ?_
     refine#[s1.heap.objs.size+1,_,_,_,H1,rfl,I2,tV (S1:=Sa) (i1:=s1.heap.objs.size) (by simp),#[#[_,hz],ta _ _ g1],λb hb=>?_,hq _ _ A1 z1 z2 (wc za)]
     have hb':s1.heap.objs.size<=b:=by
      simp only[HZ,IU,Ku]at hb;rcases hb with rfl|rfl
      ·exact Nat.le_add_right _ _
      ·exact HC _
     exact I1.fpOk hb' (I1.hok.fresh hb')
  ·cases e
 ·cases e
end
end Mi
namespace Mi
open PySem PySem.Spec PyProof.Rows L2
noncomputable def Ef (g1 g2:Hj W->aa->Hr (W×aa))(xs:Hj W)(S:aa):Hr (W×aa):=match g1 xs S with
 | some r=>gV r
 | none=>g2 xs S
theorem we {X:Cx}{f:Hm}{g1 g2:Hj W->aa->Hr (W×aa)}(h1:LCall X f g1)(h2:LCall X f g2):LCall X f (Ef g1 g2):=by
 intro pins s σ H A S xs vs us w S' I so rl rv e;unfold Ef at e;split at e
 ·rename_i r hr;cases e;exact h1 pins s σ H A S xs vs us w S' I so rl rv hr
 ·exact h2 pins s σ H A S xs vs us w S' I so rl rv e
inductive Bi where|len|list|tuple|int|sorted|range|all|min
 deriving KH
noncomputable def Bi.fn:Bi->Hj W->aa->Hr (W×aa)
 | .len=>qg|.list=>Ef lF lJ|.tuple=>jV|.int=>DY|.sorted=>ik|.range=>qc|.all=>B8|.min=>zp
noncomputable def Bi.name:Bi->HM
 | .len=>"len"|.list=>"list"|.tuple=>"tuple"|.int=>"int"|.sorted=>"sorted"|.range=>"range"|.all=>"all"|.min=>"min"
inductive Me where|append|extend|join|pop|get|index
 deriving KH
noncomputable def Me.fn:Me->W->Hj W->aa->Hr (W×aa)
 | .append=>hZ|.extend=>ib|.join=>vt|.pop=>B5|.get=>rF|.index=>ic
noncomputable def Me.name:Me->HM
 | .append=>"append"|.extend=>"extend"|.join=>"join"|.pop=>"pop"|.get=>"get"|.index=>"index"
noncomputable def Me.ty:Me->Jf
 | .append=>"list"|.extend=>"list"|.join=>"str"|.pop=>"list"|.get=>"dict"|.index=>"tuple"
inductive Tg where
 | nm (i:Hs)|tp (is:Hj Hs)
set_option genSizeOf false in
set_option genInjectivity false in
mutual
inductive E where
 | c (w:W)|v (i:Hs)
 | op (o:BOp) (a b:E)
 | cmp (o:COp) (a b:E)
 | and (a b:E)|or (a b:E)|not (a:E)
 | own (f:HM) (n:Hs) (es:Es)|bi (b:Bi) (es:Es)|me (m:Me) (o:E) (es:Es)
 | ix (a b:E)|sl (a:E) (lo hi:Ep)|tup (es:Es)|lst (es:Es)
 | isi (c:Jf) (a:E)
 | neg (a:E)|dnew|disp (es:Es)|chn (o o':COp) (a b d:E)|ite (t a b:E)
 | comp (elt:E) (tg:Tg) (it:Ie) (cs:Es) (cap:Hj (Hr Hs))
inductive Es where
 | nil|cons (e:E) (es:Es)
inductive Ep where
 | no|yes (e:E)
inductive Ie where
 | seq (e:E)|rng (es:Es)|rng2 (es:Es)|enu (es:Es)
end
set_option genSizeOf false in
set_option genInjectivity false in
mutual
inductive Sm where
 | set (i:Hs) (e:E)|asg (is:Hj Hs) (e:E)|par (i j:Hs) (es:Es)|put (o k e:E)
 | ex (e:E)|ret (e:E)|retN|pass|brk|cont|bad
 | ite (t:E) (a b:Ss)|whl (t:E) (b:Ss)|loop (tg:Tg) (it:Ie) (b:Ss)
inductive Ss where
 | nil|cons (s:Sm) (ss:Ss)
end
noncomputable def eJ:Tg->FG
 | .nm i=>zK i
 | .tp is=>Dm is
section
variable (Φ:HM->FF)
mutual
noncomputable def az:E->FE
 | .c w=>fC w
 | .v i=>fV i
 | .op o a b=>zq (hJ o) (az a) (az b)
 | .cmp o a b=>zr o (az a) (az b)
 | .and a b=>rL (az a) (az b)
 | .or a b=>zw (az a) (az b)
 | .not a=>rM (az a)
 | .own f n es=>oR n (Φ f) (de es)
 | .bi b es=>jj b.fn (de es)
 | .me m o es=>Dl m.ty m.fn (az o) (de es)
 | .ix a b=>Gb (az a) (az b)
 | .sl a lo hi=>D6 (az a) (rT lo) (rT hi)
 | .tup es=>vN (de es)
 | .lst es=>vO (de es)
 | .isi c a=>vY c (az a)
 | .neg a=>vH (az a)
 | .dnew=>AR
 | .disp es=>oU (de es)
 | .chn o o' a b d=>fP o o' (az a) (az b) (az d)
 | .ite t a b=>zx (cV t) (az a) (az b)
 | .comp elt tg it cs cap=>jY (jv it) (eJ tg) (z5 cs) (az elt) cap
noncomputable def cV:E->FT
 | .cmp o a b=>oQ (zr o (az a) (az b))
 | .and a b=>vL (cV a) (cV b)
 | .or a b=>D3 (cV a) (cV b)
 | .not a=>zt (cV a)
 | .c w=>gD (fC w)
 | .v i=>gD (fV i)
 | .op o a b=>gD (zq (hJ o) (az a) (az b))
 | .own f n es=>gD (oR n (Φ f) (de es))
 | .bi b es=>gD (jj b.fn (de es))
 | .me m o es=>gD (Dl m.ty m.fn (az o) (de es))
 | .ix a b=>gD (Gb (az a) (az b))
 | .sl a lo hi=>gD (D6 (az a) (rT lo) (rT hi))
 | .tup es=>gD (vN (de es))
 | .lst es=>gD (vO (de es))
 | .isi c a=>gD (vY c (az a))
 | .neg a=>gD (vH (az a))
 | .dnew=>λ_ _=>td
 | .disp _=>λ_ _=>td
 | .chn o o' a b d=>oQ (fP o o' (az a) (az b) (az d))
 | .ite _ _ _=>λ_ _=>td
 | .comp _ _ _ _ _=>λ_ _=>td
noncomputable def de:Es->FA
 | .nil=>io
 | .cons e es=>dG (az e) (de es)
noncomputable def z5:Es->FT
 | .nil=>AS
 | .cons e .nil=>cV e
 | .cons _ (.cons _ _)=>λ_ _=>td
noncomputable def rT:Ep->FO
 | .no=>Co
 | .yes e=>rP (az e)
noncomputable def jv:Ie->FI
 | .seq e=>eP (az e)
 | .rng es=>qj (de es)
 | .rng2 es=>iRng2 (de es)
 | .enu es=>wb (de es)
end
variable (fuel:Hs)
mutual
noncomputable def fJ:Sm->FS
 | .set i e=>jX (az Φ e) (zK i)
 | .asg is e=>jX (az Φ e) (Dm is)
 | .par i j es=>zM i j (de Φ es)
 | .put o k e=>jX (az Φ e) (zL (az Φ o) (az Φ k))
 | .ex e=>zE (az Φ e)
 | .ret e=>zH (az Φ e)
 | .retN=>λ_ S=>gV (.rt .non,S)
 | .pass=>vT
 | .brk=>λρ S=>gV (.bk ρ,S)
 | .cont=>λρ S=>gV (.ct ρ,S)
 | .bad=>λ_ _=>td
 | .ite t a b=>zJ (cV Φ t) (fR a) (fR b)
 | .whl t b=>ny (cV Φ t) (fR b) fuel
 | .loop tg it b=>vW (jv Φ it) (eJ tg) (fR b)
noncomputable def fR:Ss->FS
 | .nil=>λρ S=>gV (.nx ρ,S)
 | .cons s ss=>zD (fJ s) (fR ss)
end
end
structure Gam where
 sc:Hj (HM×JC)
 N:Hj HM
 fns:Hj (HM×Hs)
 blt:Hj HM
 dfn:HX
noncomputable def CB:Hr JC->HX
 | some .local=>true|some .cell=>true|some .free=>true|_=>false
noncomputable def z6:Hr JC->HX
 | some .cell=>true|some .free=>true|_=>false
noncomputable def fS (names outer:Hj (HM×JC)):Hj (HM×JC):=names.map λ(n,k)=>if (k==.free&&outer.lookup n==gV .cell)then(n,.cell)else(n,k)
noncomputable def slot (Γ:Gam)(x:HM):Hr Hs:=if CB (Γ.sc.lookup x) && !(x==("__debug__" : HM)) && !(x==("__classdict__" : HM))then Γ.N.findIdx? (· == x)else td
noncomputable def rV:NE->Hr BOp
 | .Add=>gV .add|.Sub=>gV .sub|.Mult=>gV .mul|.FloorDiv=>gV .fdiv|.Mod=>gV .mod|.Pow=>gV .pow|_=>td
noncomputable def jk:Oi->Hr COp
 | .Eq=>gV .eq|.NotEq=>gV .ne|.Lt=>gV .lt|.LtE=>gV .le|.Gt=>gV .gt|.GtE=>gV .ge|.In=>gV .isin|.NotIn=>gV .notin|.Is=>gV .is|.IsNot=>gV .isnot
noncomputable def z7 (x:HM):Hr Bi:=[Bi.len,.list,.tuple,.int,.sorted,.range,.all,.min].find? λb=>b.name==x
noncomputable def z8 (x:HM):Hr Me:=[Me.append,.extend,.join,.pop,.get,.index].find? λb=>b.name==x
noncomputable def Eg (Γ:Gam)(x:HM):HX:=Γ.sc.lookup x==gV .globalImplicit && !(x==("__debug__" : HM))
noncomputable def wf (x:HM):Hr Jf:=if x==("bool" : HM)then gV "bool" else if x==("int" : HM)then gV "int" else if x==("str" : HM)then gV "str" else if x==("tuple" : HM)then gV "tuple" else if x==("list" : HM)then gV "list" else if x==("dict" : HM)then gV "dict" else td
noncomputable def rW:Hj (Hr HW)->Hj HW->Hj HW
 | some k::ks,v::vs=>k::v::rW ks vs
 | _,_=>[]
noncomputable def z9 (Γ:Gam)(f:HW->Hr E):Hj HW->Hr E
 | [a,.Name c _]=>if Eg Γ c&&Γ.blt.contains c then match wf c,f a with
  | some cs,gV a'=>gV (.isi cs a')
  | _,_=>td
  else td
 | _=>td
noncomputable def gw:HW->HX
 | .Name _ _=>true|.Constant _ _ _=>true|.Subscript _ _ _=>true|_=>false
noncomputable def lc (Γ:Gam)(x:HM):HX:=Γ.sc.lookup x==gV .globalImplicit && !(x==("__debug__" : HM))
noncomputable def dg (Γ:Gam)(x:HM):Hr Hs:=if (Γ.sc.lookup x==gV .local)||(Γ.dfn&&Γ.sc.lookup x==gV .cell)then Γ.N.findIdx? (· == x)else td
noncomputable def cA (f:HW->Hr E)(es:Hj HW):Hr Es:=es.foldr (λe acc=>match f e,acc with|some e',gV es'=>gV (.cons e' es')|_,_=>td) (gV .nil)
noncomputable def cB (f:HW->Hr E)(op:PU):Hj HW->Hr E
 | []=>td
 | [a]=>f a
 | a::b::cw=>match f a,cB f op (b::cw)with
  | some a',gV b'=>gV (match op with|.And=>.and a' b'|.Or=>.or a' b')
  | _,_=>td
noncomputable def cP (f:HW->Hr E):Hr HW->Hr Ep
 | none=>gV .no
 | some e=>(f e).map .yes
noncomputable def isTup:HW->HX
 | .Tuple _ _ _=>true
 | _=>false
noncomputable def cI (Γ:Gam)(f:HW->Hr E)(tg:HW):HW->Hr Ie
 | .Call (.Name x p) [a] [] q=>if x==("range" : HM)&&lc Γ x&&Γ.blt.contains x then(cA f [a]).map .rng else if x==("enumerate" : HM)&&lc Γ x&&Γ.blt.contains x&&isTup tg then(cA f [a]).map .enu else(f (.Call (.Name x p) [a] [] q)).map .seq
 | .Call (.Name x p) [a,b] [] q=>if x==("range" : HM)&&lc Γ x&&Γ.blt.contains x then(cA f [a,b]).map .rng2 else(f (.Call (.Name x p) [a,b] [] q)).map .seq
 | e=>(f e).map .seq
noncomputable def Dn (Γ:Gam):Hj HW->Hr (Hj Hs)
 | []=>gV []
 | .Name x _::ts=>match dg Γ x,Dn Γ ts with
  | some i,gV is=>gV (i::is)
  | _,_=>td
 | _::_=>td
noncomputable def cT (Γ:Gam):HW->Hr Tg
 | .Name x _=>(dg Γ x).map .nm
 | .Tuple ts _ _=>(Dn Γ ts).map .tp
 | _=>td
noncomputable def gJ (names:Hj (HM×JC)):Hj HM:=(names.filter λp=>p.2==.local||p.2==.free).map (·.1)
noncomputable def gx (Γ:Gam)(names:Hj (HM×JC)):Hj (Hr Hs):=(gJ names).map λx=>if names.lookup x==gV .local then td else Γ.N.findIdx? (· == x)
noncomputable def wg (Γ:Gam)(scope:KF):HX:=
 (scope.kind==.function)&&scope.names.all (λy=>!(y.2==.local)||scope.names.lookup y.1==gV .local)&&scope.names.all (λy=>!(y.2==.cell)) &&
 scope.names.all (λy=>!(y.2==.free)||(z6 (Γ.sc.lookup y.1)&&scope.names.lookup y.1==gV .free&&(Γ.N.findIdx? (· == y.1)).isSome))&&decide (gJ scope.names).Nodup
noncomputable def gK (Γ:Gam)(scope:KF):Gam:={ Γ with sc:=fS scope.names Γ.sc,N:=gJ scope.names,dfn:=false }
noncomputable def wj (f:HW->Hr E)(keys:Hj (Hr HW))(values:Hj HW):Hr E:=
 if keys.isEmpty&&values.isEmpty then gV .dnew
 else if keys.all (·.isSome)&&decide (keys.length=values.length)&&decide (keys.length<=15)then(cA f (rW keys values)).map .disp else td
noncomputable def cE:Hs->Gam->HW->Hr E
 | 0,_,_=>td
 | n+1,Γ,e=>match e with
  | .Constant (.int i) _ _=>gV (.c (.int i))
  | .Constant (.str x) _ _=>gV (.c (.str x))
  | .Constant (.bool b) _ _=>gV (.c (.bl b))
  | .Constant .none _ _=>gV (.c .non)
  | .Name x _=>match slot Γ x with
   | some i=>gV (.v i)
   | none=>td
  | .BinOp a op b _=>match rV op,cE n Γ a,cE n Γ b with
   | some o,gV a',gV b'=>gV (.op o a' b')
   | _,_,_=>td
  | .UnaryOp .Not a _=>(cE n Γ a).map .not
  | .UnaryOp .USub a _=>(cE n Γ a).map .neg
  | .BoolOp op vs _=>cB (cE n Γ) op vs
  | .Compare a [op] [b] _=>match jk op,cE n Γ a,cE n Γ b with
   | some o,gV a',gV b'=>gV (.cmp o a' b')
   | _,_,_=>td
  | .Compare a [op,op'] [b,d] _=>match jk op,jk op',cE n Γ a,cE n Γ b,cE n Γ d with
   | some o,gV o',gV a',gV b',gV d'=>gV (.chn o o' a' b' d')
   | _,_,_,_,_=>td
  | .IfExp t a b _=>match cE n Γ t,cE n Γ a,cE n Γ b with
   | some t',gV a',gV b'=>gV (.ite t' a' b')
   | _,_,_=>td
  | .Call (.Name f _) args [] _=>if lc Γ f then match Γ.fns.lookup f with
    | some k=>(cA (cE n Γ) args).map (.own f k)
    | none=>if f==("isinstance" : HM)then(if Γ.blt.contains f then z9 Γ (cE n Γ) args else td)else match z7 f,args with
     | some b,a::as=>if Γ.blt.contains f then(cA (cE n Γ) (a::as)).map (.bi b)else td
     | _,_=>td
   else td
  | .Call (.Attribute o m apos) (a::as) [] cpos=>match z8 m,cE n Γ o,cA (cE n Γ) (a::as)with
   | some m',gV o',gV es=>if gw o&&(apos.endLine==cpos.line)&&decide ((a::as).length < 29)then gV (.me m' o' es)else td
   | _,_,_=>td
  | .Subscript a (.Slice lo hi td _) _=>match cE n Γ a,cP (cE n Γ) lo,cP (cE n Γ) hi with
   | some a',gV lo',gV hi'=>gV (.sl a' lo' hi')
   | _,_,_=>td
  | .Subscript a b _=>match cE n Γ a,cE n Γ b with
   | some a',gV b'=>gV (.ix a' b')
   | _,_=>td
  | .Tuple es _ _=>(cA (cE n Γ) es).map .tup
  | .List es _=>(cA (cE n Γ) es).map .lst
  | .Dict keys values _=>wj (cE n Γ) keys values
  | .ListComp elt [#[tg,iter,ifs,asy]] scope _=>if (asy==0)&&(wg Γ scope&&decide (ifs.length<=1))then
    match cI Γ (cE n Γ) tg iter,cT (gK Γ scope) tg,cA (cE n (gK Γ scope)) ifs,cE n (gK Γ scope) elt with
    | some it,gV t,gV cs,gV el=>gV (.comp el t it cs (gx Γ scope.names))
    | _,_,_,_=>td
   else td
  | _=>td
structure CtxOk (Φ:HM->FF)(X:Cx)(Γ:Gam):Prop where
 names:X.env.scope.names=Γ.sc
 kind:X.env.scope.kind=.function
 N:X.N=Γ.N
 nd:Γ.N.Nodup
 calm:X.calm=true
 xe:X.xe=λ_ _=>IY
 un:X.A.units+fM < cLine
 dfn:Γ.dfn=true->∀x,X.fn x=true
 blt:∀x∈Γ.blt,X.mg x=td
 fns:∀f n,Γ.fns.lookup f=gV n->∃k fa fd ps,FnOk X.prog X.w X.K X.mg X.base uG k fa fd ps (vR X.w X.K n (Φ f))/\Room k X.A/\X.mg f=gV (.ref fa)/\Jh X.K (.ref fa)=true/\Binds X.K fd ps []
theorem aI {α:Type}{x:α}{P:Prop}(h:(td:Hr α)=gV x):P:=nomatch h
noncomputable def gU:HW->HX
 | .Starred _ _=>false
 | _=>true
theorem aA {e:HW}{es:Hj HW}{env:NB}(h:gU e=true):starEach (e::es) env=(false,eval e env)::starEach es env:=by
 cases e <;> first|rfl|cases h
theorem ba {env:NB}{pos:J2}:∀ {es:Hj HW},es.all gU=true->(backTo pos (starEach es env)).any (·.1)=false
 | [],_=>rfl
 | e::es,h=>by
  rw[II,Hv]at h;rw[aA h.1];show(false||(backTo pos (starEach es env)).any (·.1))=false
  rw[ba h.2];rfl
theorem oX {env:NB}{pos:J2}:∀ {es:Hj HW},es.all gU=true->(backTo pos (starEach es env)).all (λx=>!x.1)=true
 | [],_=>rfl
 | e::es,h=>by
  rw[II,Hv]at h;rw[aA h.1];show(true&&(backTo pos (starEach es env)).all (λx=>!x.1))=true
  rw[oX h.2];rfl
theorem iW {n:Hs}{Γ:Gam}{e:HW}{e':E}(h:cE n Γ e=gV e'):gU e=true:=by
 cases n with
 | zero=>cases h
 | succ n=>cases e <;> first|rfl|(exact aI h)
theorem iq {f:HW->Hr E}{e:HW}{es:Hj HW}{r:Es}(h:cA f (e::es)=gV r):∃e' es',f e=gV e'/\cA f es=gV es'/\r=.cons e' es':=by
 simp only[cA,Ot]at h;split at h
 ·rename_i e' es' h1 h2;cases h;exact#[e',es',h1,h2,rfl]
 ·cases h
theorem cQ {n:Hs}{Γ:Gam}:∀ {es:Hj HW} {r:Es},cA (cE n Γ) es=gV r->es.all gU=true
 | [],_,_=>rfl
 | e::es,r,h=>by
  obtain⟨e',es',h1,h2,_⟩:=iq h;rw[II,iW h1,cQ h2];rfl
theorem dv {N:Hj HM}{x:HM}{i:Hs}(h:N.findIdx? (· == x)=gV i):N[i]?=gV x:=by
 obtain⟨hl,h1,_⟩:=J8.mp h;rw[HH hl];exact congrArg gV (eq_of_beq h1)
section
variable{Φ:HM->FF}{X:Cx}{Γ:Gam}
theorem jB {e:HW}:GT X e (λ_ _=>td):=λpins s σ H Q I #[A,ρ,S,k,S',er,so,e1,hq]=>by cases e1
theorem wm {x:HM}(h:CB (X.env.scope.names.lookup x)=true):Fs X.env.scope x:=by
 unfold CB at h;split at h
 ·exact .inl (by assumption)
 ·exact .inr (.inl (by assumption))
 ·exact .inr (.inr (by assumption))
 ·cases h
theorem wn (K:CtxOk Φ X Γ){x:HM}{pos:J2}{i:Hs}(h:slot Γ x=gV i):GE X (.Name x pos) (fV i):=by
 unfold slot at h;split at h
 ·rename_i hc;rw[Hv,Hv]at hc;obtain⟨⟨h1,h2⟩,h3⟩:=hc;refine Ga (Br (by rw[K.N]; exact dv h) (wm (by rw[K.names]; exact h1)) (by simpa using h2) (by simpa using h3))
 ·cases h
theorem j3 (K:CtxOk Φ X Γ){x:HM}(h:lc Γ x=true):Gl X x/\(x==("__debug__" : HM))=false:=by
 unfold lc at h;rw[Hv]at h;refine#[?_,by simpa using h.2]
 show X.env.scope.names.lookup x=_;rw[K.names];exact eq_of_beq h.1
theorem j4 {o:Oi}{c:COp}(h:jk o=gV c):c.py=o:=by
 cases o <;> (simp only[jk,IG]at h; subst h; rfl)
theorem wo {o:NE}{c:BOp}(h:rV o=gV c):c.py=o:=by
 cases o <;> simp only[rV,IG]at h <;> first|(subst h; rfl)|cases h
theorem tX {x:HM}{b:Bi}(h:z7 x=gV b):b.name=x:=by
 have:=MF h;exact eq_of_beq this
theorem tY {x:HM}{b:Me}(h:z8 x=gV b):b.name=x:=by
 have:=MF h;exact eq_of_beq this
theorem dD {n:Hs}(ih:∀ {e:HW} {e':E},cE n Γ e=gV e'->GE X e (az Φ e')):∀ {es:Hj HW} {r:Es},cA (cE n Γ) es=gV r->GA X es (de Φ r)
 | [],r,h=>by cases h; exact Cn
 | e::es,r,h=>by
  obtain⟨e',es',h1,h2,rfl⟩:=iq h;exact zy (ih h1) (dD ih h2) (aA (iW h1))
theorem Eh (K:CtxOk Φ X Γ){n:Hs}{f:HM}{p pos:J2}{args:Hj HW}{k:Hs}{r:Es}(hg:lc Γ f=true)(hf:Γ.fns.lookup f=gV k)(ha:cA (cE n Γ) args=gV r)(h:GA X args (de Φ r)):GE X (.Call (.Name f p) args [] pos) (oR k (Φ f) (de Φ r)):=by
 obtain⟨d,fa,fd,ps,F,hr,hm,hk,hb⟩:=K.fns f k hf;obtain⟨g1,g2⟩:=j3 K hg;cases args with
 | nil=>cases ha; exact zB F hr g1 hm hk hb g2
 | cons a as=>
  have ns:=cQ ha;rw[II,Hv]at ns;exact Cq F hr g1 hm hk hb h g2 (aA ns.1) (ba ns.2)
theorem Gd (K:CtxOk Φ X Γ){n:Hs}{f:HM}{p pos:J2}{a:HW}{as:Hj HW}{b:Bi}{r:Es}(hg:lc Γ f=true)(hb:z7 f=gV b)(hc:Γ.blt.contains f=true)(ha:cA (cE n Γ) (a::as)=gV r)(h:GA X (a::as) (de Φ r)):GE X (.Call (.Name f p) (a::as) [] pos) (jj b.fn (de Φ r)):=by
 obtain⟨g1,g2⟩:=j3 K hg;have hm:X.mg f=td:=K.blt f (by simpa using hc)
 have ns:=cQ ha;rw[II,Hv]at ns;have e:=tX hb;subst e;have hu:X.A.units+12 < cLine:=by have:=K.un; have:fM=20:=rfl; omega
 have calm:∀ {f:Hm} {g:Hj W->aa->Hr (W×aa)},(X.A.handled=td->LCall X f g)->LCall X f g:=λh pins s σ H A S xs vs us w S' I=>h (I.ok.hd K.calm) pins s σ H A S xs vs us w S' I
 cases b with
 | len=>exact rN ql g1 hm PySem.boot_len h #v[] g2 (aA ns.1) (ba ns.2)
 | list=>exact rO (calm λhh=>we (oz hh) (oO hh)) g1 hm rfl h #v[] g2 (aA ns.1) (ba ns.2)
 | tuple=>exact rO (calm nw) g1 hm rfl h #v[] g2 (aA ns.1) (ba ns.2)
 | int=>exact rO tu g1 hm rfl h #v[] g2 (aA ns.1) (ba ns.2)
 | sorted=>exact rN (calm λhh=>nv hh hu) g1 hm rfl h #v[] g2 (aA ns.1) (ba ns.2)
 | range=>exact rO oy g1 hm rfl h #v[] g2 (aA ns.1) (ba ns.2)
 | all=>exact rN (calm tP) g1 hm rfl h #v[] g2 (aA ns.1) (ba ns.2)
 | min=>exact rN (calm λhh=>tM hh hu) g1 hm rfl h #v[] g2 (aA ns.1) (ba ns.2)
theorem wp {x:HM}{c:Jf}(h:wf x=gV c):bootBuiltins x=gV (.type c)/\x≠"__name__":=by
 unfold wf at h;split at h
 ·rename_i e; cases h; rw[eq_of_beq e]; exact#[rfl,#v[]]
 ·split at h
  ·rename_i e; cases h; rw[eq_of_beq e]; exact#[rfl,#v[]]
  ·split at h
   ·rename_i e; cases h; rw[eq_of_beq e]; exact#[rfl,#v[]]
   ·split at h
    ·rename_i e; cases h; rw[eq_of_beq e]; exact#[rfl,#v[]]
    ·split at h
     ·rename_i e; cases h; rw[eq_of_beq e]; exact#[rfl,#v[]]
     ·split at h
      ·rename_i e; cases h; rw[eq_of_beq e]; exact#[rfl,#v[]]
      ·cases h
theorem Ei (K:CtxOk Φ X Γ){n:Hs}{f:HM}{p pos:J2}{args:Hj HW}{r:E}(hg:lc Γ f=true)(hb:(f==("isinstance" : HM))=true)(hc:Γ.blt.contains f=true)(ih:∀ {e:HW} {e':E},cE n Γ e=gV e'->GE X e (az Φ e'))(h:z9 Γ (cE n Γ) args=gV r) :
  GE X (.Call (.Name f p) args [] pos) (az Φ r)/\∃a c,r=.isi c a:=by
 obtain⟨g1,g2⟩:=j3 K hg;have hm:X.mg f=td:=K.blt f (by simpa using hc)
 have e:=eq_of_beq hb;subst e;unfold z9 at h;split at h
 ·rename_i a c q;split at h
  ·rename_i hcc;rw[Hv]at hcc;obtain⟨g3,g4⟩:=j3 K (x:=c) hcc.1;have hm2:X.mg c=td:=K.blt c (by simpa using hcc.2)
   split at h
   ·rename_i cs a' h1 h2;cases h;obtain⟨b1,b2⟩:=wp h1;exact#[Cz g1 hm g3 hm2 b1 b2 g4 (ih h2) (aA (iW h2)),a',cs,rfl]
   ·cases h
  ·cases h
 ·cases h
theorem dS {o:HW}{name:HM}{env:NB}(h:gw o=true):attributeBase o name env (eval o env)=eval o env:=by
 cases o <;> first|rfl|cases h
theorem rX {n:Hs}{pos:J2}(ih:∀ {e:HW} {e':E},cE n Γ e=gV e'->GE X e (az Φ e')):∀(keys:Hj (Hr HW)) (values:Hj HW) {r:Es},keys.all (·.isSome)=true->keys.length=values.length->cA (cE n Γ) (rW keys values)=gV r->Ec X pos keys values (de Φ r)
 | [],[],r,_,_,h=>by cases h; exact zT
 | [],_::_,r,_,hl,_=>by cases hl
 | _::_,[],r,_,hl,_=>by cases hl
 | none::_,_::_,r,ha,_,_=>by cases ha
 | some k::ks,v::vs,r,ha,hl,h=>by
  dsimp only[rW]at h;obtain⟨e1,es1,h1,h2,rfl⟩:=iq h;obtain⟨e2,es2,h3,h4,rfl⟩:=iq h2;rw[II,Hv]at ha;exact vZ (ih h1) (ih h3) (rX ih ks vs ha.2 (by simpa using hl) h4)
theorem Ge (K:CtxOk Φ X Γ){n:Hs}{m:HM}{apos cpos:J2}{o a:HW}{as:Hj HW}{b:Me}{o':E}{r:Es}(hm:z8 m=gV b)(hr:gw o=true)(hl:(apos.endLine==cpos.line)=true)(hn:(a::as).length < 29)(ho:GE X o (az Φ o'))(ha:cA (cE n Γ) (a::as)=gV r)(h:GA X (a::as) (de Φ r)) :
  GE X (.Call (.Attribute o m apos) (a::as) [] cpos) (Dl b.ty b.fn (az Φ o') (de Φ r)):=by
 have ns:=cQ ha;have ns':=ns;rw[II,Hv]at ns;have ki:((backTo cpos (starEach (a::as) X.env)).all (λx=>!x.1)&&(backToKw cpos (keywordEach [] X.env)).all (λx=>x.1.isSome)&&decide ((a::as).length+([]:Hj Ow).length+(if ([]:Hj Ow).isEmpty then 0 else 1) < 30))=true:=by
  rw[oX ns',K1,Hv];exact#[rfl,IZ (by simp only[Jw,List.isEmpty_nil,Kq]; omega)]
 have e:=tY hm;subst e;cases b with
 | append=>exact lO Lc PySem.F.slot_list_append PySem.F.type_list_append mS ho h (dS hr) ki hl (aA ns.1) (ba ns.2)
 | extend=>exact lO Lc PySem.F.slot_list_extend PySem.F.type_list_extend mT ho h (dS hr) ki hl (aA ns.1) (ba ns.2)
 | join=>exact lO PySem.F.plainAttrs_str PySem.F.slot_str_join PySem.F.type_str_join qb ho h (dS hr) ki hl (aA ns.1) (ba ns.2)
 | pop=>exact lO Lc PySem.F.slot_list_pop PySem.F.type_list_pop tz ho h (dS hr) ki hl (aA ns.1) (ba ns.2)
 | get=>exact lO PySem.F.plainAttrs_dict MG PySem.F.type_dict_get (qd (by have:=K.un; have:fM=20:=rfl; omega)) ho h (dS hr) ki hl (aA ns.1) (ba ns.2)
 | index=>exact lO PySem.F.plainAttrs_tuple L7 PySem.F.type_tuple_index ow ho h (dS hr) ki hl (aA ns.1) (ba ns.2)
theorem ir {n:Hs}{Γ:Gam}{e:HW}{e':E}{op:Oi}(h:cE n Γ e=gV e'):behindInMarks op e=false:=by
 cases n with
 | zero=>cases h
 | succ n=>cases e <;> first|rfl|(exact aI h)
theorem qp {n:Hs}{Γ:Gam}{e:HW}{e':E}(h:cE n Γ e=gV e'):mI e:=by
 cases n with
 | zero=>cases h
 | succ n=>cases e <;> first|(intro o i; rfl)|(exact aI h)
theorem nA {n:Hs}{Γ:Gam}{f:HW->Hr E}{e:HW}{i:Ie}{env:NB}{tg:HW}(hf:∀el k p,f (.Set el k p)=td)(h:cI Γ f tg e=gV i):∀x,foldedSetIterable e env x=pure x:=by
 intro x;cases e <;> first|rfl|(simp[cI,hf]at h)
theorem nB {n:Hs}{op:PU}{pos:J2}(ih:∀ {e:HW} {e':E},cE n Γ e=gV e'->GE X e (az Φ e')):∀ {vs:Hj HW} {r:E},cB (cE n Γ) op vs=gV r->GE X (.BoolOp op vs pos) (az Φ r)
 | [],r,h=>by cases h
 | [a],r,h=>Ci (ih h)
 | a::b::cw,r,h=>by
  simp only[cB]at h;split at h
  ·rename_i a' b' h1 h2;cases h;cases op with
   | And=>exact Cj (ih h1) (nB ih h2)
   | Or=>exact D5 (ih h1) (nB ih h2)
  ·cases h
theorem nC {n:Hs}{op:PU}{pos:J2}(ih:∀ {e:HW} {e':E},cE n Γ e=gV e'->GT X e (cV Φ e')):∀ {vs:Hj HW} {r:E},cB (cE n Γ) op vs=gV r->GW X (.BoolOp op vs pos) (cV Φ r)
 | [],r,h=>by cases h
 | [a],r,h=>by
  cases op with
  | And=>exact zv (ih h)
  | Or=>exact Ce (ih h)
 | a::b::cw,r,h=>by
  simp only[cB]at h;split at h
  ·rename_i a' b' h1 h2;cases h;cases op with
   | And=>exact Cg (ih h1) (nC ih h2)
   | Or=>exact D4 (ih h1) (nC ih h2)
  ·cases h
theorem wq {n:Hs}(ih:∀ {e:HW} {e':E},cE n Γ e=gV e'->GE X e (az Φ e')){o:Hr HW}{p:Ep}(h:cP (cE n Γ) o=gV p):GO X o (rT Φ p):=by
 cases o with
 | none=>cases h; exact zz
 | some e=>
  simp only[cP,Ho]at h;obtain⟨e',h1,rfl⟩:=h;exact zA (ih h1)
theorem qr (K:CtxOk Φ X Γ){n:Hs}(ih:∀ {e:HW} {e':E},cE n Γ e=gV e'->GE X e (az Φ e')){tg e:HW}{i:Ie}(h:cI Γ (cE n Γ) tg e=gV i):GI X tg e (jv Φ i):=by
 have gen:(cE n Γ e).map Ie.seq=gV i->GI X tg e (jv Φ i):=λh=>by
  rw[Ho]at h;obtain⟨e',h1,rfl⟩:=h;exact zW (ih h1)
 unfold cI at h;split at h
 ·rename_i x p a pos;split at h
  ·rename_i hc;rw[Hv,Hv]at hc;obtain⟨⟨h1,h2⟩,h3⟩:=hc;have hx:=eq_of_beq h1;subst hx;rw[Ho]at h;obtain⟨r,hr,rfl⟩:=h;have ns:=cQ hr;rw[II,Hv]at ns;exact zQ (j3 K h2).1 (K.blt _ (by simpa using h3)) (dD ih hr) (aA ns.1)
  ·split at h
   ·rename_i hc;rw[Hv,Hv,Hv]at hc;obtain⟨⟨⟨h1,h2⟩,h3⟩,h4⟩:=hc;have hx:=eq_of_beq h1;subst hx;rw[Ho]at h;obtain⟨r,hr,rfl⟩:=h;have ns:=cQ hr;rw[II,Hv]at ns;cases tg with
    | Tuple els k0 tp=>exact zZ (j3 K h2).1 (K.blt _ (by simpa using h3)) (dD ih hr) (aA ns.1)
    | _=>cases h4
   ·exact gen h
 ·rename_i x p a b pos;split at h
  ·rename_i hc;rw[Hv,Hv]at hc;obtain⟨⟨h1,h2⟩,h3⟩:=hc;have hx:=eq_of_beq h1;subst hx;rw[Ho]at h;obtain⟨r,hr,rfl⟩:=h;have ns:=cQ hr;rw[II,II,Hv,Hv]at ns;exact zR (j3 K h2).1 (K.blt _ (by simpa using h3)) (dD ih hr) (by rw[aA ns.1,aA ns.2.1]; rfl) (aA ns.2.1)
  ·exact gen h
 ·exact gen h
theorem nD (K:CtxOk Φ X Γ){x:HM}{i:Hs}(h:dg Γ x=gV i):X.N[i]?=gV x/\yr X.env.scope x/\(X.fn x=true\/X.env.scope.names.lookup x=gV .local):=by
 unfold dg at h;split at h
 ·rename_i hc;refine#[by rw[K.N]; exact dv h,?_]
  unfold L2.yr;rw[K.names];rw[JT,Hv]at hc;rcases hc with hc|⟨hd,hc⟩
  ·have:=eq_of_beq hc;exact#[.inl this,.inr this]
  ·exact#[.inr (eq_of_beq hc),.inl (K.dfn hd x)]
 ·cases h
theorem oY (K:CtxOk Φ X Γ):∀ {ts:Hj HW} {is:Hj Hs},Dn Γ ts=gV is->(∀x∈ts,∃y p,x=M2 y p)/\Ml (λ(t:HW) (i:Hs)=>∃x p,t=M2 x p/\X.N[i]?=gV x/\yr X.env.scope x/\(X.fn x=true\/X.env.scope.names.lookup x=gV .local)) ts is
 | [],is,h=>by cases h; exact#[λx hx=>by simp at hx,.nil]
 | t::ts,is,h=>by
  cases t with
  | Name x p=>
   dsimp only[Dn]at h;split at h
   ·rename_i i is' h1 h2;cases h;obtain⟨a,b⟩:=oY K h2;exact#[λy hy=>(HZ.mp hy).elim (λe=>#[x,p,e]) (a y),.cons #[x,p,rfl,nD K h1] b]
   ·cases h
  | _=>cases h
theorem gW {env:NB}:∀ {ts:Hj HW},(∀x∈ts,∃y p,x=M2 y p)->(assignEach ts env).length=ts.length/\(assignEach ts env).findIdx? (·.1)=td
 | [],_=>#[rfl,rfl]
 | t::ts,h=>by
  obtain⟨y,p,rfl⟩:=h t Jk;obtain⟨a,b⟩:=gW (env:=env) λx hx=>h x (IL _ hx)
  refine#[by show(assignEach ts env).length+1=ts.length+1; rw[a],?_]
  show List.findIdx? (·.1) ((false,assign (.Name y p) env)::assignEach ts env)=td
  rw[List.findIdx?_cons,b];rfl
theorem rY (K:CtxOk Φ X Γ){tg:HW}{t:Tg}(h:cT Γ tg=gV t):GG X tg (eJ t):=by
 have hN:X.N.Nodup:=by rw[K.N]; exact K.nd
 cases tg with
 | Name x p=>
  dsimp only[cT]at h; simp only[Ho]at h
  obtain⟨i,h1,rfl⟩:=h;obtain⟨a,b,c⟩:=nD K h1;exact rQ hN a b c
 | Tuple ts k p=>
  dsimp only[cT]at h; simp only[Ho]at h
  obtain⟨is,h1,rfl⟩:=h;obtain⟨a,b⟩:=oY K h1;exact Ct K.calm a b hN (gW a).1 (gW a).2
 | _=>cases h
end
noncomputable def eH (env:NB):Hj (HM×JC)->Hj (HM×Hw)->Hj (HM×Hw)
 | [],cs=>cs
 | (n,k)::r,cs=>eH env r (if k==.free then(n,(env.cells.lookup n).getD 0)::cs else cs)
theorem iX {env:NB}:∀(names:Hj (HM×JC)) (cs:Hj (HM×Hw)),(∀y∈names,y.2=.free->(env.cells.lookup y.1).isSome=true)->
  (forIn names cs λx r=>match x with|(name,kind)=>if (kind==K4)=true then do let a <- cellOf env name; pure (Jx ((name,a)::r))else pure (Jx r):Pn (Hj (HM×Hw)))=pure (eH env names cs)
 | [],cs,_=>by rw[OO]; rfl
 | (n,k)::r,cs,h=>by
  rw[MA];have hr:=λy hy=>h y (IL _ hy)
  by_cases hk:(k==K4)=true
  ·obtain⟨c,hc⟩:=IR.mp (h (n,k) Jk (eq_of_beq hk));have e1:cellOf env n=pure c:=by unfold cellOf; rw[hc]
   simp only[hk,Kq,e1,pure_bind];rw[iX r _ hr];simp only[eH,hk,Kq,hc,Oc]
  ·have hk':(k==K4)=false:=by simpa using hk
   simp only[hk',Jg,Kg,pure_bind];rw[iX r _ hr];simp only[eH,hk',Jg,Kg]
theorem jw {scope:KF}{env:NB}(h:∀y∈scope.names,y.2=.free->(env.cells.lookup y.1).isSome=true):closureFor scope env=pure (eH env scope.names []):=by
 have:=iX scope.names [] h;unfold closureFor;simp only[this,pure_bind]
theorem j5 {env:NB}:∀(names:Hj (HM×JC)) (cs:Hj (HM×Hw)),(∀y∈names,y.2=.free->(env.cells.lookup y.1).isSome=true)->(∀x c,cs.lookup x=gV c->env.cells.lookup x=gV c)->
  ∀x c,(eH env names cs).lookup x=gV c->env.cells.lookup x=gV c
 | [],cs,_,h,x,c,e=>h x c e
 | (n,k)::r,cs,hn,h,x,c,e=>by
  refine j5 r _ (λy hy=>hn y (IL _ hy)) (λx c e=>?_) x c e
  split at e
  ·rename_i hk;rw[Jp]at e;split at e
   ·rename_i hx;cases e;have:=eq_of_beq hx;subst this;obtain⟨c,hc⟩:=IR.mp (hn (x,k) Jk (eq_of_beq hk));rw[hc]; rfl
   ·exact h x c e
  ·exact h x c e
theorem jl {env:NB}{x:HM}:∀(names:Hj (HM×JC)) (cs:Hj (HM×Hw)),(∃c,cs.lookup x=gV c)->∃c,(eH env names cs).lookup x=gV c
 | [],cs,h=>h
 | (n,k)::r,cs,h=>by
  refine jl r _ ?_;split
  ·rw[Jp];split
   ·exact#[_,rfl]
   ·exact h
  ·exact h
theorem j6 {env:NB}{x:HM}:∀(names:Hj (HM×JC)) (cs:Hj (HM×Hw)),(x,K4)∈names->∃c,(eH env names cs).lookup x=gV c
 | [],cs,h=>by simp at h
 | (n,k)::r,cs,h=>by
  rcases HZ.mp h with e|h
  ·cases e;refine jl r _ ?_;simp[Jp]
  ·exact j6 r _ h
theorem j7 {x:HM}{k:JC}:∀ {l:Hj (HM×JC)},l.lookup x=gV k->(x,k)∈l
 | [],h=>by simp at h
 | (n,j)::r,h=>by
  rw[Jp]at h;split at h
  ·rename_i hx;cases h;have:=eq_of_beq hx;subst this;exact Jk
  ·exact IL _ (j7 h)
theorem eI {X:Cx}{Φ:HM->FF}{Γ:Gam}(K:CtxOk Φ X Γ)(scope:KF):(relabel scope X.env).names=fS scope.names Γ.sc:=by
 unfold relabel fS Mt;rw[K.kind,K.names];refine IP λ#[n,k] _=>?_
 have e:(Nw==Nw)=true:=rfl;simp only[e,Nb]
theorem d6 {outer:Hj (HM×JC)}{x:HM}:∀ {names:Hj (HM×JC)},(fS names outer).lookup x=(names.lookup x).map λk=>if (k==.free&&outer.lookup x==gV .cell)then .cell else k
 | []=>rfl
 | (n,k)::r=>by
  have ih:=d6 (outer:=outer) (x:=x) (names:=r);show List.lookup x ((if (k==K4&&outer.lookup n==gV .cell)=true then(n,Qe)else(n,k))::fS r outer)=_
  cases hx:x==n with
  | true=>
   have:=eq_of_beq hx;subst this;simp only[Jp,IS,Iv];split <;> simp[Jp]
  | false=>
   simp only[Jp,hx];split <;> (simp only[Jp,hx]; exact ih)
section
variable{Φ:HM->FF}{X:Cx}{Γ:Gam}
structure ScOk (Γ:Gam)(scope:KF):Prop where
 kind:scope.kind=.function
 names:∀y∈scope.names,y.2=.local->scope.names.lookup y.1=gV .local
 nocell:∀y∈scope.names,y.2≠.cell
 free:∀y∈scope.names,y.2=.free->z6 (Γ.sc.lookup y.1)=true/\scope.names.lookup y.1=gV .free/\(Γ.N.findIdx? (· == y.1)).isSome=true
 nd:(gJ scope.names).Nodup
theorem rZ {scope:KF}(h:wg Γ scope=true):ScOk Γ scope:=by
 unfold wg at h;rw[Hv,Hv,Hv,Hv]at h;obtain⟨⟨⟨⟨h1,h2⟩,h3⟩,h4⟩,h5⟩:=h;refine#[eq_of_beq h1,λy hy e=>?_,λy hy e=>?_,λy hy e=>?_,IW h5]
 ·have:=HS.mp h2 y hy;rw[e]at this
  simpa using this
 ·have:=HS.mp h3 y hy;rw[e]at this;simp at this
 ·have:=HS.mp h4 y hy;rw[e]at this;simp only[IS,Nc,Nd,Hv]at this;exact#[this.1.1,eq_of_beq this.1.2,this.2]
theorem r0 {o:Hr JC}(h:z6 o=true):o=gV .cell\/o=gV .free:=by
 unfold z6 at h;split at h
 ·exact .inl rfl
 ·exact .inr rfl
 ·cases h
theorem lS (K:CtxOk Φ X Γ)(ok:X.Ok){scope:KF}(sc:ScOk Γ scope):CompOk X scope (eH X.env scope.names []) (gJ scope.names) (gx Γ scope.names):=by
 have cells:∀y∈scope.names,y.2=.free->(X.env.cells.lookup y.1).isSome=true:=λy hy e=>by
  have hk:=r0 (sc.free y hy e).1;obtain⟨c,hc⟩:=ok.has y.1 (by unfold Mt; rw[K.names]; exact hk)
  rw[hc]; rfl
 have relab:∀x,((relabel scope X.env).names.lookup x=gV .cell\/(relabel scope X.env).names.lookup x=gV .free)->(x,K4)∈scope.names:=λx h=>by
  rw[eI K,d6]at h;cases q:scope.names.lookup x with
  | none=>rw[q]at h; rcases h with h|h <;> cases h
  | some k=>
   rw[q]at h;have hm:=j7 q;cases k with
   | free=>exact hm
   | cell=>exact absurd rfl (sc.nocell _ hm)
   | _=>rcases h with h|h <;> simp at h
 refine#[jw cells,sc.kind,sc.names,sc.nocell,j5 _ _ cells (λx c e=>by cases e),λx h=>j6 _ _ (relab x h),by simp[gx],λi j x hi hx=>?_]
 unfold gx at hi;rw[Ht,hx]at hi;simp only[Iv,IG]at hi;split at hi
 ·cases hi
 ·rename_i hl;have hx2:x∈gJ scope.names:=HF hx;unfold gJ at hx2;obtain⟨⟨x',k⟩,hf,e⟩:=HU.mp hx2;obtain⟨hm,hk⟩:=JE.mp hf;have e':x'=x:=e;subst e';have hkf:k=.free:=by
   simp only[JT]at hk;rcases hk with hk|hk
   ·have:k=.local:=eq_of_beq hk;subst this;have:=sc.names (x',.local) hm rfl;rw[this]at hl;simp at hl
   ·exact eq_of_beq hk
  subst hkf;obtain⟨f1,f2,f3⟩:=sc.free _ hm rfl;refine#[by rw[K.N]; exact dv hi,by unfold Mt; rw[K.names]; exact r0 f1,?_]
  rw[eI K,d6,f2];simp only[Iv,IG,IS,K1];split
  ·exact .inl rfl
  ·exact .inr rfl
theorem eQ (K:CtxOk Φ X Γ){scope:KF}(sc:ScOk Γ scope)(C:Hw)(s0:Hq)(H0:Hp)(ex:Hj Hw):CtxOk Φ (kU X scope (eH X.env scope.names []) C (gJ scope.names) s0 H0 ex) (gK Γ scope) where
 names:=eI K scope
 kind:=sc.kind
 N:=rfl
 nd:=sc.nd
 calm:=K.calm
 xe:=rfl
 un:=K.un
 dfn:=λh=>by cases h
 blt:=K.blt
 fns:=K.fns
theorem oZ {cs:Es}{n:Hs}{ifs:Hj HW}{Γ:Gam}(hl:ifs.length<=1)(hc:cA (cE n Γ) ifs=gV cs){Y:Cx}(ih:∀ {e:HW} {e':E},cE n Γ e=gV e'->GT Y e (cV Φ e'))(hx:Y.xe=λ_ _=>IY) :
  ∀pins s σ H Q,Inv Y pins σ H s->tT Y (z5 Φ cs) σ H Q->
  wpAny (model Y.prog Y.w) Y.A (forIn ifs true λc r=>if r=true then do let ok <- isTrue c Y.env (eval c Y.env); pure (Jx ok)else pure (Jx r)) (TP Y pins σ Q) (λ_ _=>IY) s:=by
 intro pins s σ H Q I h
 match ifs,hl,hc with
 | [],_,hc=>
  cases hc;obtain⟨A,ρ,S,k,S',er,so,e,hq⟩:=h;cases e;exact wpAny_tests_nil #[H,I,hq _ _ #[rfl,A,.refl,so]]
 | [c],_,hc=>
  obtain⟨e',es',h1,h2,rfl⟩:=iq hc;cases h2;have:=ih h1 pins s σ H Q I h;rw[hx]at this;exact wpAny_tests_one this
theorem bZ:∀(n:Hs) {Γ:Gam} {X:Cx} {e:HW} {e':E},CtxOk Φ X Γ->cE n Γ e=gV e'->GE X e (az Φ e')/\GT X e (cV Φ e'):=by
 intro n
 induction n with
 | zero=>intro Γ X e e' K h; cases h
 | succ n ih=>
  intro Γ X e e' K h;have ihE:∀ {e:HW} {e':E},cE n Γ e=gV e'->GE X e (az Φ e'):=λq=>(ih K q).1
  have ihT:∀ {e:HW} {e':E},cE n Γ e=gV e'->GT X e (cV Φ e'):=λq=>(ih K q).2
  have hu10:X.A.units+10 < cLine:=by have:=K.un; have:fM=20:=rfl; omega
  cases e with
  | Constant c k p=>
   cases c <;> cases h
   all_goals first
    | exact#[oP uK (λ_ _=>.non),cK (oP uK (λ_ _=>.non)) λ_=>rfl]
    | exact#[oP AI (λ_ _=>.bl),cK (oP AI (λ_ _=>.bl)) λ_=>rfl]
    | exact#[oP uJ (λ_ _=>.int),cK (oP uJ (λ_ _=>.int)) λ_=>rfl]
    | exact#[oP uL (λ_ _=>.str),cK (oP uL (λ_ _=>.str)) λ_=>rfl]
  | Name x p=>
   replace h:(match slot Γ x with|some i=>gV (E.v i)|none=>td)=gV e':=h
   split at h
   ·rename_i i h1;cases h;exact#[wn K h1,cK (wn K h1) λ_=>rfl]
   ·cases h
  | BinOp a op b p=>
   replace h:(match rV op,cE n Γ a,cE n Γ b with|some o,gV a',gV b'=>gV (E.op o a' b')|_,_,_=>td)=gV e':=h
   split at h
   ·rename_i o a' b' h1 h2 h3;cases h;have e:=wo h1;subst e;exact#[AQ (rq o) (ihE h2) (ihE h3),cK (AQ (rq o) (ihE h2) (ihE h3)) λ_=>rfl]
   ·cases h
  | UnaryOp op a p=>
   cases op with
   | Not=>
    replace h:(cE n Γ a).map E.not=gV e':=h;rw[Ho]at h;obtain⟨a',h1,rfl⟩:=h;exact#[Ck (ihE h1),Ch (ihT h1)]
   | USub=>
    replace h:(cE n Γ a).map E.neg=gV e':=h;rw[Ho]at h;obtain⟨a',h1,rfl⟩:=h;exact#[vI (ihE h1),cK (vI (ihE h1)) λ_=>rfl]
   | _=>exact aI h
  | BoolOp op vs p=>
   replace h:cB (cE n Γ) op vs=gV e':=h;exact#[nB ihE h,(nC ihT h).pt]
  | Compare a ops cs p=>
   match ops,cs,h with
   | [op],[b],h=>
    replace h:(match jk op,cE n Γ a,cE n Γ b with|some o,gV a',gV b'=>gV (E.cmp o a' b')|_,_,_=>td)=gV e':=h
    split at h
    ·rename_i o a' b' h1 h2 h3;cases h;have e:=j4 h1;subst e;exact#[Cc K.un (ihE h2) (ihE h3) (ir h3),Cd K.un (ihE h2) (ihE h3) (ir h3)]
    ·cases h
   | [],_,h=>exact aI h
   | [_],[],h=>exact aI h
   | [_],_::_::_,h=>exact aI h
   | [op,op'],[b,d],h=>
    replace h:(match jk op,jk op',cE n Γ a,cE n Γ b,cE n Γ d with|some o,gV o',gV a',gV b',gV d'=>gV (E.chn o o' a' b' d')|_,_,_,_,_=>td)=gV e':=h
    split at h
    ·rename_i o o' a' b' d' h1 h2 h3 h4 h5;cases h;have e:=j4 h1;subst e;have e:=j4 h2;subst e;exact#[vJ K.un (ihE h3) (ihE h4) (ihE h5) (ir h5),vK K.un (ihE h3) (ihE h4) (ihE h5) (ir h5)]
    ·cases h
   | [_,_],[],h=>exact aI h
   | [_,_],[_],h=>exact aI h
   | [_,_],_::_::_::_,h=>exact aI h
   | _::_::_::_,_,h=>exact aI h
  | IfExp t a b p=>
   replace h:(match cE n Γ t,cE n Γ a,cE n Γ b with|some t',gV a',gV b'=>gV (E.ite t' a' b')|_,_,_=>td)=gV e':=h
   split at h
   ·rename_i t' a' b' h1 h2 h3;cases h;exact#[Cm (ihT h1) (ihE h2) (ihE h3),jB]
   ·cases h
  | Call f args kws p=>
   cases kws with
   | cons _ _=>cases f <;> first|(exact aI h)|(cases args <;> (exact aI h))
   | nil=>
    cases f with
    | Name x q=>
     replace h:(if lc Γ x then match Γ.fns.lookup x with|some k=>(cA (cE n Γ) args).map (E.own x k)|none=>if x==("isinstance" : HM)then(if Γ.blt.contains x then z9 Γ (cE n Γ) args else td)else match (generalizing:=false) z7 x,args with|some b,a::as=>if Γ.blt.contains x then(cA (cE n Γ) (a::as)).map (E.bi b)else td|_,_=>td else td)=gV e':=h
     split at h
     ·rename_i hg;split at h
      ·rename_i k hk;rw[Ho]at h;obtain⟨r,hr,rfl⟩:=h;have g:=Eh (pos:=p) (p:=q) K hg hk hr (dD ihE hr);exact#[g,cK g λ_=>rfl]
      ·split at h
       ·rename_i his;split at h
        ·rename_i hc;obtain⟨g,a',c',rfl⟩:=Ei (pos:=p) (p:=q) K hg his hc ihE h;exact#[g,cK g λ_=>rfl]
        ·cases h
       ·split at h
        ·rename_i bb a as hb;split at h
         ·rename_i hc;rw[Ho]at h;obtain⟨r,hr,rfl⟩:=h;have g:=Gd (pos:=p) (p:=q) K hg hb hc hr (dD ihE hr);exact#[g,cK g λ_=>rfl]
         ·cases h
        ·cases h
     ·cases h
    | Attribute o m q=>
     cases args with
     | nil=>exact aI h
     | cons a as=>
      replace h:(match z8 m,cE n Γ o,cA (cE n Γ) (a::as)with|some m',gV o',gV es=>if gw o&&(q.endLine==p.line)&&decide ((a::as).length < 29)then gV (E.me m' o' es)else td|_,_,_=>td)=gV e':=h
      split at h
      ·rename_i m' o' es h1 h2 h3;split at h
       ·rename_i hc;rw[Hv,Hv,Ir]at hc;cases h;have g:=Ge K (cpos:=p) (apos:=q) h1 hc.1.1 hc.1.2 hc.2 (ihE h2) h3 (dD ihE h3);exact#[g,cK g λ_=>rfl]
       ·cases h
      ·cases h
    | _=>exact aI h
  | Subscript a b p=>
   have plain:(match cE n Γ a,cE n Γ b with|some a',gV b'=>gV (E.ix a' b')|_,_=>td)=gV e'->GE X (.Subscript a b p) (az Φ e')/\GT X (.Subscript a b p) (cV Φ e'):=λh=>by
    split at h
    ·rename_i a' b' h1 h2;cases h;have g:=D7 (pos:=p) hu10 (ihE h1) (ihE h2) (qp h2);exact#[g,cK g λ_=>rfl]
    ·cases h
   cases b with
   | Slice lo hi st q=>
    cases st with
    | none=>
     replace h:(match cE n Γ a,cP (cE n Γ) lo,cP (cE n Γ) hi with|some a',gV lo',gV hi'=>gV (E.sl a' lo' hi')|_,_,_=>td)=gV e':=h
     split at h
     ·rename_i a' lo' hi' h1 h2 h3;cases h;have g:=D8 (pos:=p) (p2:=q) (ihE h1) (wq ihE h2) (wq ihE h3);exact#[g,cK g λ_=>rfl]
     ·cases h
    | some z=>exact plain h
   | _=>exact plain h
  | Tuple es k p=>
   replace h:(cA (cE n Γ) es).map E.tup=gV e':=h;rw[Ho]at h;obtain⟨r,h1,rfl⟩:=h;exact#[vP (dD ihE h1),cK (vP (dD ihE h1)) λ_=>rfl]
  | List es p=>
   replace h:(cA (cE n Γ) es).map E.lst=gV e':=h;rw[Ho]at h;obtain⟨r,h1,rfl⟩:=h;exact#[vQ (dD ihE h1),cK (vQ (dD ihE h1)) λ_=>rfl]
  | Dict keys values p=>
   replace h:wj (cE n Γ) keys values=gV e':=h;unfold wj at h;split at h
   ·rename_i hc;cases h;rw[Hv]at hc;have k0:keys=[]:=Ls.mp hc.1;have v0:values=[]:=Ls.mp hc.2;subst k0 v0;exact#[zU,jB]
   ·rename_i hc0;split at h
    ·rename_i hc;rw[Hv,Hv,Ir,Ir]at hc;rw[Ho]at h;obtain⟨r,hr,rfl⟩:=h;have h0:keys≠[]:=λz=>by
      subst z;have v0:values=[]:=Lb.mp hc.1.2.symm;subst v0;exact hc0 rfl
     exact#[zV (pos:=p) hu10 (rX ihE keys values hc.1.1 hc.1.2 hr) hc.1.1 hc.1.2 h0 hc.2,jB]
    ·cases h
  | ListComp elt gens scope p=>
   match gens,h with
   | [#[tg,iter,ifs,asy]],h=>
    replace h:(if (asy==0)&&(wg Γ scope&&decide (ifs.length<=1))then match cI Γ (cE n Γ) tg iter,cT (gK Γ scope) tg,cA (cE n (gK Γ scope)) ifs,cE n (gK Γ scope) elt with|some it,gV t,gV cs,gV el=>gV (E.comp el t it cs (gx Γ scope.names))|_,_,_,_=>td else td)=gV e':=h
    split at h
    ·rename_i hc;rw[Hv,Hv,Ir]at hc;have e0:asy=0:=eq_of_beq hc.1;subst e0;replace hc:=hc.2;split at h
     ·rename_i it t cs el h1 h2 h3 h4;cases h;have sc:=rZ hc.1;refine#[zX K.calm (qr K ihE h1) (λok=>#[_,lS K ok sc,?_]) (nA (n:=n) (λel k p=>by cases n <;> rfl) h1),jB]
      refine#[λC s0 H0 ex=>rY (eQ K sc C s0 H0 ex) h2,λC s0 H0 ex pins s σ H Q I q=>?_,λC s0 H0 ex=>(ih (eQ K sc C s0 H0 ex) h4).1]
      exact oZ hc.2 h3 (λz=>(ih (eQ K sc C s0 H0 ex) z).2) rfl pins s σ H Q I q
     ·cases h
    ·cases h
   | [],h=>exact aI h
   | #[_,_,_,_]::_::_,h=>exact aI h
  | _=>exact aI h
end
noncomputable abbrev b6:Hs:=30
noncomputable def AT:HW->HX
 | .Constant (.str _) _ _=>true
 | _=>false
noncomputable def iY:HW->HX
 | .ListComp _ _ _ _=>true
 | _=>false
noncomputable def r6:HW->HX
 | .Slice _ _ _ _=>true
 | _=>false
noncomputable def r8 (f:Kn->Hr Sm)(ss:Hj Kn):Hr Ss:=ss.foldr (λs acc=>match f s,acc with|some s',gV ss'=>gV (.cons s' ss')|_,_=>td) (gV .nil)
noncomputable def CC (Γ:Gam):Hj HW->HW->Hr Sm
 | [.Name x px,.Name y py],.Tuple [a,b] _ _=>match Γ.N.findIdx? (· == x),Γ.N.findIdx? (· == y),cA (cE b6 Γ) [a,b]with
  | some i,gV j,gV es=>if !(i==j)&&(Γ.sc.lookup x==gV .local)&&(Γ.sc.lookup y==gV .local)&&(py.line==px.line) && !([a,b].all (foldedForSure 8)) && !([a,b].all (constantsAlone 8))then gV (.par i j es)else td
  | _,_,_=>td
 | _,_=>td
noncomputable def cS:Hs->Gam->Kn->Hr Sm
 | 0,_,_=>td
 | n+1,Γ,st=>match st with
  | .Assign [.Name x _] e _=>match dg Γ x,cE b6 Γ e with
   | some i,gV e'=>gV (.set i e')
   | _,_=>td
  | .Assign [.Tuple ts _ _] e _=>if isTup e then CC Γ ts e else if iY e then td else match Dn Γ ts,cE b6 Γ e with
   | some is,gV e'=>gV (.asg is e')
   | _,_=>td
  | .Assign [.Subscript o k _] e _=>if r6 k then td else match cE b6 Γ o,cE b6 Γ k,cE b6 Γ e with
   | some o',gV k',gV e'=>gV (.put o' k' e')
   | _,_,_=>td
  | .Expr e _=>if AT e then gV .pass else if iY e then td else(cE b6 Γ e).map .ex
  | .Return (gV e) _=>(cE b6 Γ e).map .ret
  | .Return td _=>gV .retN
  | .Pass _=>gV .pass
  | .Raise _ _ _=>gV .bad
  | .Break _=>gV .brk
  | .Continue _=>gV .cont
  | .If t a b _=>match cE b6 Γ t,r8 (cS n Γ) a,r8 (cS n Γ) b with
   | some t',gV a',gV b'=>gV (.ite t' a' b')
   | _,_,_=>td
  | .While t b [] _=>match cE b6 Γ t,r8 (cS n Γ) b with
   | some t',gV b'=>gV (.whl t' b')
   | _,_=>td
  | .For tg it b [] _=>match cT Γ tg,cI Γ (cE b6 Γ) tg it,r8 (cS n Γ) b with
   | some t,gV i,gV b'=>gV (.loop t i b')
   | _,_,_=>td
  | _=>td
section
variable{Φ:HM->FF}{X:Cx}{Γ:Gam}{fuel:Hs}
theorem wt {f:Kn->Hr Sm}{s:Kn}{ss:Hj Kn}{r:Ss}(h:r8 f (s::ss)=gV r):∃s' ss',f s=gV s'/\r8 f ss=gV ss'/\r=.cons s' ss':=by
 simp only[r8,Ot]at h;split at h
 ·rename_i e' es' h1 h2;cases h;exact#[e',es',h1,h2,rfl]
 ·cases h
theorem gy {n:Hs}(ih:∀ {st:Kn} {s':Sm},cS n Γ st=gV s'->GS X st (fJ Φ fuel s')):∀ {ss:Hj Kn} {r:Ss},r8 (cS n Γ) ss=gV r->GSs X ss (fR Φ fuel r)
 | [],r,h=>by cases h; exact zC
 | s::ss,r,h=>by
  obtain⟨s',ss',h1,h2,rfl⟩:=wt h;exact vS (ih h1) (gy ih h2)
theorem j8 {e:HW}{t:Hr HW}{l:Hs}{env:NB}(h:iY e=false)(n:Hs){Γ:Gam}{e':E}(hc:cE n Γ e=gV e'):swapsWith e t l env=pure false:=by
 cases n with
 | zero=>cases hc
 | succ n=>cases e <;> first|(exfalso; exact aI hc)|rfl|cases h
theorem qt (K:CtxOk Φ X Γ){n:Hs}{elt:HW}{gens:Hj Comprehension}{scope:KF}{p:J2}{e':E}(h:cE (n+1) Γ (.ListComp elt gens scope p)=gV e') :
  ∃tg iter ifs fi g c f cap,gens=[#[tg,iter,ifs,0]]/\az Φ e'=jY fi g c f cap/\GI X tg iter fi/\(X.Ok->∃cl,CompOk X scope cl (gJ scope.names) cap/\BlockOk X scope cl (gJ scope.names) tg elt ifs g c f)/\∀x,foldedSetIterable iter X.env x=pure x:=by
 match gens,h with
 | [#[tg,iter,ifs,asy]],h=>
  replace h:(if (asy==0)&&(wg Γ scope&&decide (ifs.length<=1))then match cI Γ (cE n Γ) tg iter,cT (gK Γ scope) tg,cA (cE n (gK Γ scope)) ifs,cE n (gK Γ scope) elt with|some it,gV t,gV cs,gV el=>gV (E.comp el t it cs (gx Γ scope.names))|_,_,_,_=>td else td)=gV e':=h
  split at h
  ·rename_i hc;rw[Hv,Hv,Ir]at hc;have e0:asy=0:=eq_of_beq hc.1;subst e0;replace hc:=hc.2;split at h
   ·rename_i it t cs el h1 h2 h3 h4;cases h;have sc:=rZ hc.1;refine#[tg,iter,ifs,_,_,_,_,_,rfl,rfl,qr K (λz=>(bZ n K z).1) h1,λok=>#[_,lS K ok sc,?_],nA (n:=n) (λel k p=>by cases n <;> rfl) h1]
    refine#[λC s0 H0 ex=>rY (eQ K sc C s0 H0 ex) h2,λC s0 H0 ex pins s σ H Q I q=>?_,λC s0 H0 ex=>(bZ n (eQ K sc C s0 H0 ex) h4).1]
    exact oZ hc.2 h3 (λz=>(bZ n (eQ K sc C s0 H0 ex) z).2) rfl pins s σ H Q I q
   ·cases h
  ·cases h
 | [],h=>exact aI h
 | #[_,_,_,_]::_::_,h=>exact aI h
theorem Ej (K:CtxOk Φ X Γ){x:HM}{px pos:J2}{e:HW}{i:Hs}{e':E}(hi:dg Γ x=gV i)(he:cE b6 Γ e=gV e'):GS X (.Assign [.Name x px] e pos) (jX (az Φ e') (zK i)):=by
 obtain⟨a,b,c⟩:=nD K hi;have hN:X.N.Nodup:=by rw[K.N]; exact K.nd
 have plain:swapsWith e (gV (.Name x px)) pos.line X.env=pure false->GS X (.Assign [.Name x px] e pos) (jX (az Φ e') (zK i)):=λhs=>qi (bZ _ K he).1 (rQ hN a b c) hs (by cases e <;> rfl) rfl
 cases hc:iY e with
 | false=>exact plain (j8 hc _ he)
 | true=>
  cases e with
  | ListComp elt gens scope p=>
   cases hsw:(X.env.blockKind==.function&&X.env.kindOf x==gV .local&&px.line==p.line && !(scope.names.any λ(n,k)=>n==x&&(k==.local||k==.cell)))with
   | false=>
    refine plain ?_;show(pure (X.env.blockKind==.function&&X.env.kindOf x==gV .local&&px.line==p.line && !(scope.names.any λ(n,k)=>n==x&&(k==.local||k==.cell))):Pn HX)=pure false
    rw[hsw]
   | true=>
    have hsw':swapsWith (.ListComp elt gens scope p) (gV (.Name x px)) pos.line X.env=pure true:=by
     show(pure (X.env.blockKind==.function&&X.env.kindOf x==gV .local&&px.line==p.line && !(scope.names.any λ(n,k)=>n==x&&(k==.local||k==.cell))):Pn HX)=pure true
     rw[hsw]
    rw[Hv,Hv,Hv]at hsw;have hl:X.env.scope.names.lookup x=gV .local:=eq_of_beq hsw.1.1.2;obtain⟨tg,iter,ifs,fi,g,c',f,cap,rfl,e2,gi,hck,hs⟩:=qt K he;rw[e2];exact qm K.calm gi hck hs hsw' hN a hl
  | _=>cases hc
theorem o4 (K:CtxOk Φ X Γ){x y:HM}{px py pt pt2:J2}{kt k2:Hs}{a b:HW}(hxy:x≠y)(hx:Γ.sc.lookup x=gV .local)(hy:Γ.sc.lookup y=gV .local)(hl:(py.line==px.line)=true)(h1:[a,b].all (foldedForSure 8)=false)(h2:[a,b].all (constantsAlone 8)=false)(hs:gU a=true)(hs2:gU b=true) :
  swappedStores [.Tuple [.Name x px,.Name y py] kt pt] (.Tuple [a,b] k2 pt2) X.env=pure (gV [x,y]):=by
 have kx:(X.env.kindOf x==gV .local)=true:=by unfold Mt; rw[K.names,hx]; rfl
 have ky:(X.env.kindOf y==gV .local)=true:=by unfold Mt; rw[K.names,hy]; rfl
 have bk:(X.env.blockKind != .function)=false:=by
  unfold Env.blockKind;rw[K.kind];rfl
 have hp:(px.line==px.line)=true:=by simp
 have ed:([x,y].eraseDups.length != [x,y].length)=false:=by
  have:(y==x)=false:=by simpa using Ne.symm hxy
  simp[M6,this]
 have kx':X.env.kindOf x=gV .local:=eq_of_beq kx;have ky':X.env.kindOf y=gV .local:=eq_of_beq ky;have hl':py.line=px.line:=eq_of_beq hl;have bk':X.env.blockKind=.function:=by simpa using bk
 have yx:(y==x)=false:=by simpa using Ne.symm hxy
 have h1':(foldedForSure 8 a&&foldedForSure 8 b)=false:=by simpa using h1
 have h2':(constantsAlone 8 a&&constantsAlone 8 b)=false:=by simpa using h2
 unfold swappedStores;simp only[Kk,List.any_nil,OZ,KS,List.filterMap_nil,kx',ky',bk',List.head?_cons,Iv,Oc,Iz,Jw,II,List.all_nil,Nb,h1',h2'];refine Eq.trans (Iy ?_) (Eq.trans (Iy ?_) ?_)
 ·decide
 ·rw[JT];rintro(hh|hh)
  ·clear h1 h2 h1' h2';cases a <;> first|(cases hh; done)|(cases hs; done)
  ·clear h1 h2 h1' h2';cases b <;> first|(cases hh; done)|(cases hs2; done)
 ·dsimp only[Expr.pos]; simp[hl',yx,M6]
theorem Aa (fuel:Hs)(K:CtxOk Φ X Γ):∀(n:Hs) {st:Kn} {s':Sm},cS n Γ st=gV s'->GS X st (fJ Φ fuel s'):=by
 have hN:X.N.Nodup:=by rw[K.N]; exact K.nd
 have own:M1 (model X.prog X.w) X.A X.env X.xe:=by rw[K.xe]; exact P8
 intro n
 induction n with
 | zero=>intro st s' h; cases h
 | succ n ih=>
  intro st s' h;cases st with
  | Expr e p=>
   replace h:(if AT e then gV Sm.pass else if iY e then td else(cE b6 Γ e).map Sm.ex)=gV s':=h
   split at h
   ·rename_i hd;cases h;cases e with
    | Constant c k q=>
     cases c with
     | str x=>exact Cr
     | _=>cases hd
    | _=>cases hd
   ·split at h
    ·cases h
    ·rename_i hd hc;rw[Ho]at h;obtain⟨e',h1,rfl⟩:=h;exact D9 (bZ _ K h1).1 (j8 (by simpa using hc) _ h1)
  | Return o p=>
   cases o with
   | none=>cases h; exact zI
   | some e=>
    replace h:(cE b6 Γ e).map Sm.ret=gV s':=h;rw[Ho]at h;obtain⟨e',h1,rfl⟩:=h;exact Cs (bZ _ K h1).1
  | Pass p=>cases h; exact zF
  | Raise exc cause pos=>cases h; exact λpins s D σ H I #[A,ρ,S,o,S',er,so,e,hq]=>nomatch e
  | Break p=>cases h; exact vU
  | Continue p=>cases h; exact zG
  | If t a b p=>
   replace h:(match cE b6 Γ t,r8 (cS n Γ) a,r8 (cS n Γ) b with|some t',gV a',gV b'=>gV (Sm.ite t' a' b')|_,_,_=>td)=gV s':=h
   split at h
   ·rename_i t' a' b' h1 h2 h3;cases h;exact Ea (bZ _ K h1).2 (gy ih h2) (gy ih h3)
   ·cases h
  | While t b o p=>
   cases o with
   | cons _ _=>exact aI h
   | nil=>
    replace h:(match cE b6 Γ t,r8 (cS n Γ) b with|some t',gV b'=>gV (Sm.whl t' b')|_,_=>td)=gV s':=h
    split at h
    ·rename_i t' b' h1 h2;cases h;exact vV fuel own (bZ _ K h1).2 (gy ih h2)
    ·cases h
  | For tg it b o p=>
   cases o with
   | cons _ _=>exact aI h
   | nil=>
    replace h:(match cT Γ tg,cI Γ (cE b6 Γ) tg it,r8 (cS n Γ) b with|some t,gV i,gV b'=>gV (Sm.loop t i b')|_,_,_=>td)=gV s':=h
    split at h
    ·rename_i t i b' h1 h2 h3;cases h;exact Cy own K.calm (qr K (λz=>(bZ _ K z).1) h2) (rY K h1) (gy ih h3) (nA (n:=b6) (λel k p=>rfl) h2)
    ·cases h
  | Assign ts e p=>
   match ts,h with
   | [],h=>exact aI h
   | a::_::_,h=>cases a <;> exact aI h
   | [t],h=>
    cases t with
    | Name x px=>
     replace h:(match dg Γ x,cE b6 Γ e with|some i,gV e'=>gV (Sm.set i e')|_,_=>td)=gV s':=h
     split at h
     ·rename_i i e' h1 h2;cases h;exact Ej K h1 h2
     ·cases h
    | Subscript o k q=>
     replace h:(if r6 k then td else match cE b6 Γ o,cE b6 Γ k,cE b6 Γ e with|some o',gV k',gV e'=>gV (Sm.put o' k' e')|_,_,_=>td)=gV s':=h
     split at h
     ·cases h
     ·rename_i hc;split at h
      ·rename_i o' k' e' h1 h2 h3;cases h;refine qi (bZ _ K h3).1 (Cu (by have:=K.un; have:fM=20:=rfl; omega) (bZ _ K h1).1 (bZ _ K h2).1 ?_) (by cases e <;> rfl) (by cases e <;> rfl) rfl
       intro v;cases k <;> first|rfl|exact absurd rfl hc
      ·cases h
    | Tuple ts' k q=>
     have par:∀ {x y:HM} {px py:J2} {a b:PySem.Expr} {k2:Hs} {q2:J2},(match Γ.N.findIdx? (· == x),Γ.N.findIdx? (· == y),cA (cE b6 Γ) [a,b]with
       | some i,gV j,gV es=>if !(i==j)&&(Γ.sc.lookup x==gV .local)&&(Γ.sc.lookup y==gV .local)&&(py.line==px.line) && !([a,b].all (foldedForSure 8)) && !([a,b].all (constantsAlone 8))then gV (Sm.par i j es)else td
       | _,_,_=>td)=gV s'->GS X (.Assign [.Tuple [.Name x px,.Name y py] k q] (.Tuple [a,b] k2 q2) p) (fJ Φ fuel s'):=λ{x y px py a b k2 q2} h=>by
      split at h
      ·rename_i i j es h1 h2 h3;split at h
       ·rename_i hc;cases h;rw[Hv,Hv,Hv,Hv,Hv]at hc;obtain⟨⟨⟨⟨⟨c1,c2⟩,c3⟩,c4⟩,c5⟩,c6⟩:=hc;have hij:i≠j:=by simpa using c1
        have ns:=cQ h3;rw[II,II,Hv,Hv]at ns;have hi:X.N[i]?=gV x:=by rw[K.N]; exact dv h1
        have hj:X.N[j]?=gV y:=by rw[K.N]; exact dv h2
        refine Cv K.calm hN hi hj hij (by rw[K.names]; exact eq_of_beq c2) (by rw[K.names]; exact eq_of_beq c3) (dD (λz=>(bZ _ K z).1) h3) (o4 K ?_ (eq_of_beq c2) (eq_of_beq c3) c4 (by rw[<- Ki]; exact c5) (by rw[<- Ki]; exact c6) ns.1 ns.2.1) rfl
        rintro rfl;rw[h1]at h2;cases h2;exact hij rfl
       ·cases h
      ·cases h
     replace h:(if isTup e then CC Γ ts' e else if iY e then td else match Dn Γ ts',cE b6 Γ e with|some is,gV e'=>gV (Sm.asg is e')|_,_=>td)=gV s':=h
     split at h
     ·unfold CC at h;split at h
      ·exact par h
      ·cases h
     ·split at h
      ·cases h
      ·rename_i hc1 hc2;split at h
       ·rename_i is e' h1 h2;cases h;refine qi (bZ _ K h2).1 (rY (tg:=.Tuple ts' k q) (t:=.tp is) K (by simp[cT,h1])) (j8 (t:=gV (.Tuple ts' k q)) (l:=p.line) (env:=X.env) (by simpa using hc2) _ h2) ?_ rfl
        cases e <;> first|rfl|exact absurd rfl hc1
       ·cases h
    | _=>exact aI h
  | _=>exact aI h
end
structure Df where
 ps:Hj HM
 N:Hj HM
 body:Ss
noncomputable def ff (N:Hj HM)(ws:Hj W):Fm:=ws.map gV++Ik (N.length - ws.length) td
noncomputable def ak (defs:Hj (HM×Df))(fuel:Hs):Hs->HM->FF
 | 0,_,_,_=>td
 | d+1,f,ws,S=>match defs.lookup f with
  | some df=>if ws.length=df.ps.length then match fR (ak defs fuel d) fuel df.body (ff df.N ws) S with
    | some (.rt w,S')=>gV (w,S')
    | some (.nx _,S')=>gV (.non,S')
    | _=>td
   else td
  | none=>td
structure Md where
 fns:Hj (HM×Hs)
 blt:Hj HM
noncomputable def wu (M:Md)(st:Kn)(N:Hj HM):Gam:={ sc:=(aS st).names,N:=N,fns:=M.fns,blt:=M.blt,dfn:=true }
noncomputable def Ek (M:Md)(st:Kn)(df:Df):Prop:=r8 (cS 20 (wu M st df.N)) (cz st)=gV df.body
theorem lT {K:HD}{A:Hj Hw}{H:Hp}{ws:Hj W}{vs:Hj V}{N:Hj HM}(r:RelL K A H ws vs):EnvRel K A H (ff N ws) (fK N vs):=by
 refine#[by simp[ff,L2.fK,r.length],λi w h=>?_]
 unfold ff at h;unfold L2.fK
 by_cases hi:i < ws.length
 ·rw[Il (by simpa using hi),Ht]at h
  rw[Il (by rw[Hk,<- r.length]; exact hi),Ht]
  cases q:ws[i]? with
  | none=>rw[q]at h; cases h
  | some w'=>
   rw[q]at h;simp only[Iv,IG]at h;subst h;obtain⟨v,h1,h2⟩:=r.get q;exact#[v,by rw[h1]; rfl,h2]
 ·rw[ID (by simpa using hi)]at h
  have:=HF h;simp at this
section
variable{P:Io}{w:IA}{K:HD}{mg:HM->Hr Hm}{base:IJ}
noncomputable def AU (P:Io)(w:IA)(K:HD)(mg:HM->Hr Hm)(base:IJ)(M:Md)(defs:Hj (HM×Df))(fuel d:Hs):Prop:=
 ∀f n,M.fns.lookup f=gV n->∃fa fd ps,FnOk P w K mg base uG d fa fd ps (vR w K n (ak defs fuel d f))/\mg f=gV (.ref fa)/\Jh K (.ref fa)=true/\Binds K fd ps []
structure MdOk (w:IA)(K:HD)(mg:HM->Hr Hm)(M:Md):Prop where
 blt:∀y∈M.blt,mg y=td
theorem AV {M:Md}{defs:Hj (HM×Df)}{fuel d:Hs}{x qual:HM}{st:Kn}{f:Hw}{fd:J4}{df:Df}(F:Fun K x qual st f fd)(S:FnScope df.N df.ps (aS st))(hd:defs.lookup x=gV df)(hc:Ek M st df)
  (hb:MdOk w K mg M) (prev:AU P w K mg base M defs fuel d):FnOk P w K mg base uG (d+1) f fd df.ps (vR w K df.ps.length (ak defs fuel (d+1) x)):=by
 refine F.ok S (λvs H Q E h=>?_) (λcdv A outer s H vs Q E hr h=>?_)
 ·obtain⟨A,S,ws,w',S',_,rl,hl,_⟩:=h;rw[<- rl.length]; exact hl
 ·obtain⟨A',St,ws,w',S',so,rl,hl,e,hq⟩:=h;have K':CtxOk (ak defs fuel d) (pX uG P w K mg base df.N qual (aS st) f cdv A outer s H E).nox (wu M st df.N):=by
   refine#[rfl,S.kind,rfl,S.nd,rfl,rfl,?_,λ_ _=>rfl,hb.blt,λg n hg=>?_]
   ·have:=hr.un;show(A.deeper _).units+20 < cLine;omega
   ·obtain⟨fa,fd',ps',h1,h2,h3,h4⟩:=prev g n hg;exact#[d,fa,fd',ps',h1,hr,h2,h3,h4]
  refine#[tS _ (fR (ak defs fuel d) fuel df.body),gy (λz=>Aa fuel K' 20 z) hc,?_]
  simp only[ak,hd]at e;rw[HY hl]at e;split at e
  ·rename_i w1 S1 h1;cases e;refine#[A',ff df.N ws,St,_,_,lT rl,so,h1,#[λσ' H' #[_,_,z,_]=>(by cases z),λv H' #[w2,A2,z0,z1,z2,z3]=>?_,λσ' H' #[_,_,z,_]=>(by cases z),λσ' H' #[_,_,z,_]=>(by cases z)]]
   cases z0;exact hq v H' #[A2,z1,z2,z3]
  ·rename_i ρ1 S1 h1;cases e;refine#[A',ff df.N ws,St,_,_,lT rl,so,h1,#[λσ' H' #[w2,A2,z0,z1,z2,z3]=>?_,λσ' H' #[_,_,z,_]=>(by cases z),λσ' H' #[_,_,z,_]=>(by cases z),λσ' H' #[_,_,z,_]=>(by cases z)]]
   exact hq _ H' #[A2,z1,z2,.non]
  ·cases e
theorem tZ {H:Hp}{a:Hw}{ns:Hj Hy}(hO:u9 H)(hS:SqL K H a (ns.map V.int)):StoreOk w K [a] H [.fro (ns.map W.int)]/\RelL K [a] H [.ref 0] [.ref a]:=by
 have rl:∀ns:Hj Hy,RelL K [a] H (ns.map W.int) (ns.map V.int):=by
  intro ns
  induction ns with
  | nil=>exact .nil
  | cons n ns ih=>exact .cons .int ih
 have fr:FroL K H a (ns.map V.int):=by
  rcases hS with(h|⟨o,h⟩)|h
  ·rcases hO a with z|⟨o,xs,z⟩ <;> (rw[z]at h; cases h)
  ·exact .inl #[o,h]
  ·exact .inr h
 refine#[#[rfl,λi j b o u e1 m1 e2 m2 _ _=>?_,λi o b e1 e2=>?_],.cons (.ref rfl) .nil]
 ·cases i with
  | zero=>simp at e1; subst e1; cases m1
  | succ i=>simp at e1
 ·cases i with
  | zero=>
   simp at e1 e2;subst e1 e2;exact#[_,fr,rl ns]
  | succ i=>simp at e1
theorem CD {g:FF}{H:Hp}{a:Hw}{ns:Hj Hy}(h:∃S',g [.ref 0] [.fro (ns.map W.int)]=gV (.bl true,S'))(hO:u9 H)(hS:SqL K H a (ns.map V.int)):vR w K 1 g [.ref a] H (λv _=>v=.bl true) λ_ _ _=>IY:=by
 obtain⟨S',e⟩:=h;obtain⟨so,rl⟩:=tZ hO hS;exact#[[a],_,_,_,S',so,rl,rfl,e,λv H' #[A',z1,z2,z3]=>by cases z3; rfl]
end
noncomputable def Wp {α:Type}(o:Hr α)(Q:α->Prop):Prop:=∃a,o=gV a/\Q a
theorem af {α:Type}{a:α}{Q:α->Prop}:Wp (gV a) Q↔Q a:=#[λ#[b,e,h]=>(by cases e; exact h),λh=>#[a,rfl,h]]
theorem ag {α:Type}{Q:α->Prop}:Wp (td:Hr α) Q↔IY:=#[λ#[b,e,h]=>(by cases e),λh=>h.elim]
theorem Wp.mono {α:Type}{o:Hr α}{Q Q':α->Prop}(h:Wp o Q)(k:∀a,Q a->Q' a):Wp o Q':=let ⟨a,e,q⟩:=h; #[a,e,k a q]
theorem Gf {α β:Type}{o:Hr α}{f:α->β}{Q:β->Prop}:Wp (o.map f) Q↔Wp o λa=>Q (f a):=by cases o <;> simp[af,ag]
section
variable{Φ:HM->FF}{fuel:Hs}{ρ:Fm}{S:aa}
noncomputable abbrev QW:=W×aa->Prop
theorem G6 {w:W}{Q:QW}:Wp (az Φ (.c w) ρ S) Q↔Q (w,S):=by(dsimp only[az]; simp[fC,af,ag])
theorem GU {i:Hs}{Q:QW}:Wp (az Φ (.v i) ρ S) Q↔∃w,ρ[i]?=gV (gV w)/\Q (w,S):=by
 (dsimp only[az]; simp only[fV])
 rcases h:ρ[i]? with _|_|w <;> simp[af,ag]
theorem wx {g:W->W->aa->Hr (W×aa)}{a b:FE}{Q:QW}:Wp (zq g a b ρ S) Q↔Wp (a ρ S) λp=>Wp (b ρ p.2) λq=>Wp (g p.1 q.1 q.2) Q:=by
 unfold zq;rcases h:a ρ S with _|⟨x,S1⟩
 ·simp[af,ag]
 ·rcases h2:b ρ S1 with _|⟨y,S2⟩ <;> simp[af,ag,h2]
theorem Gg {o:BOp}{a b:E}{Q:QW}:Wp (az Φ (.op o a b) ρ S) Q↔Wp (az Φ a ρ S) λp=>Wp (az Φ b ρ p.2) λq=>Wp (hJ o p.1 q.1 q.2) Q:=by dsimp only[az]; exact wx
theorem AW {o:COp}{a b:E}{Q:QW}:Wp (az Φ (.cmp o a b) ρ S) Q↔Wp (az Φ a ρ S) λp=>Wp (az Φ b ρ p.2) λq=>Wp (aK o p.1 q.1 q.2) Q:=by dsimp only[az]; exact wx
theorem Gh {a b:E}{Q:QW}:Wp (az Φ (.ix a b) ρ S) Q↔Wp (az Φ a ρ S) λp=>Wp (az Φ b ρ p.2) λq=>Wp (ju p.1 q.1 q.2) Q:=by dsimp only[az]; exact wx
theorem El {a b:E}{Q:QW}:Wp (az Φ (.and a b) ρ S) Q↔Wp (az Φ a ρ S) λp=>∃k,p.1=.bl k/\(k=true->Wp (az Φ b ρ p.2) Q)/\(k=false->Q (.bl false,p.2)):=by
 (dsimp only[az]; simp only[rL])
 rcases h:az Φ a ρ S with _|⟨x,S1⟩
 ·simp[af,ag]
 ·cases x <;> simp[af,ag]
  rename_i b; cases b <;> simp[af,ag]
theorem Gi {a b:E}{Q:QW}:Wp (az Φ (.or a b) ρ S) Q↔Wp (az Φ a ρ S) λp=>∃k,p.1=.bl k/\(k=true->Q (.bl true,p.2))/\(k=false->Wp (az Φ b ρ p.2) Q):=by
 (dsimp only[az]; simp only[zw])
 rcases h:az Φ a ρ S with _|⟨x,S1⟩
 ·simp[af,ag]
 ·cases x <;> simp[af,ag]
  rename_i b; cases b <;> simp[af,ag]
theorem Em {a:E}{Q:QW}:Wp (az Φ (.not a) ρ S) Q↔Wp (az Φ a ρ S) λp=>∃k,p.1=.bl k/\Q (.bl (!k),p.2):=by
 (dsimp only[az]; simp only[rM])
 rcases h:az Φ a ρ S with _|⟨x,S1⟩
 ·simp[af,ag]
 ·cases x <;> simp[af,ag]
  rename_i k; cases k <;> simp
theorem En {t a b:E}{Q:QW}:Wp (az Φ (.ite t a b) ρ S) Q↔Wp (cV Φ t ρ S) λp=>(p.1=true->Wp (az Φ a ρ p.2) Q)/\(p.1=false->Wp (az Φ b ρ p.2) Q):=by
 (dsimp only[az]; simp only[zx])
 rcases h:cV Φ t ρ S with _|⟨x,S1⟩
 ·simp[af,ag]
 ·cases x <;> simp[af,ag]
theorem AX {f:HM}{n:Hs}{es:Es}{Q:QW}:Wp (az Φ (.own f n es) ρ S) Q↔Wp (de Φ es ρ S) λp=>p.1.length=n/\Wp (Φ f p.1 p.2) Q:=by
 (dsimp only[az]; simp only[oR])
 rcases h:de Φ es ρ S with _|⟨x,S1⟩
 ·simp[af,ag]
 ·by_cases hl:x.length=n <;> simp[af,ag,hl]
theorem Eo {b:Bi}{es:Es}{Q:QW}:Wp (az Φ (.bi b es) ρ S) Q↔Wp (de Φ es ρ S) λp=>Wp (b.fn p.1 p.2) Q:=by
 (dsimp only[az]; simp only[jj])
 rcases h:de Φ es ρ S with _|⟨x,S1⟩ <;> simp[af,ag]
theorem Gj {m:Me}{o:E}{es:Es}{Q:QW}:Wp (az Φ (.me m o es) ρ S) Q↔Wp (az Φ o ρ S) λp=>tyOk m.ty p.2 p.1=true/\Wp (de Φ es ρ p.2) λq=>Wp (m.fn p.1 q.1 q.2) Q:=by
 (dsimp only[az]; simp only[Dl])
 rcases h:az Φ o ρ S with _|⟨x,S1⟩
 ·simp[af,ag]
 ·by_cases ht:tyOk m.ty S1 x=true
  ·rcases h2:de Φ es ρ S1 with _|⟨y,S2⟩ <;> simp[af,ag,ht,h2]
  ·simp[af,ag,ht]
theorem Gk {a:E}{lo hi:Ep}{Q:QW}:Wp (az Φ (.sl a lo hi) ρ S) Q↔Wp (az Φ a ρ S) λp=>Wp (rT Φ lo ρ p.2) λq=>Wp (rT Φ hi ρ q.2) λr=>Wp (js p.1 q.1 r.1 r.2) Q:=by
 (dsimp only[az]; simp only[D6])
 rcases h:az Φ a ρ S with _|⟨x,S1⟩
 ·simp[af,ag]
 ·rcases h2:rT Φ lo ρ S1 with _|⟨y,S2⟩
  ·simp[af,ag,h2]
  ·rcases h3:rT Φ hi ρ S2 with _|⟨z,S3⟩ <;> simp[af,ag,h2,h3]
theorem Gm {Q:Hr Hy×aa->Prop}:Wp (rT Φ .no ρ S) Q↔Q (td,S):=by(dsimp only[rT]; simp[Co,af,ag])
theorem Er {a:E}{Q:Hr Hy×aa->Prop}:Wp (rT Φ (.yes a) ρ S) Q↔Wp (az Φ a ρ S) λp=>∃i,p.1=.int i/\Q (gV i,p.2):=by
 (dsimp only[rT]; simp only[rP])
 rcases h:az Φ a ρ S with _|⟨x,S1⟩
 ·simp[af,ag]
 ·cases x <;> simp[af,ag]
theorem Et {es:Es}{Q:QW}:Wp (az Φ (.tup es) ρ S) Q↔Wp (de Φ es ρ S) λp=>p.1.length<=sizeLine/\Q (.tup p.1,p.2):=by
 (dsimp only[az]; simp only[vN,p8])
 rcases h:de Φ es ρ S with _|⟨x,S1⟩
 ·simp[af,ag]
 ·by_cases hl:x.length<=sizeLine <;> simp[af,ag,hl]
theorem Eu {es:Es}{Q:QW}:Wp (az Φ (.lst es) ρ S) Q↔Wp (de Φ es ρ S) λp=>p.1.length<=sizeLine/\Q (.ref p.2.length,p.2++[.lst p.1]):=by
 (dsimp only[az]; simp only[vO,kX])
 rcases h:de Φ es ρ S with _|⟨x,S1⟩
 ·simp[af,ag]
 ·by_cases hl:x.length<=sizeLine <;> simp[af,ag,hl]
theorem AY {c:Jf}{a:E}{Q:QW}:Wp (az Φ (.isi c a) ρ S) Q↔Wp (az Φ a ρ S) λp=>∃k,nZ p.2 p.1 c=gV k/\Q (.bl k,p.2):=by
 (dsimp only[az]; simp only[vY])
 rcases h:az Φ a ρ S with _|⟨x,S1⟩
 ·simp[af,ag]
 ·cases h2:nZ S1 x c <;> simp[af,ag,h2]
  rename_i k; cases k <;> simp
theorem Ev {a:E}{Q:QW}:Wp (az Φ (.neg a) ρ S) Q↔Wp (az Φ a ρ S) λp=>∃i,p.1=.int i/\Q (.int (-i),p.2):=by
 (dsimp only[az]; simp only[vH])
 rcases h:az Φ a ρ S with _|⟨x,S1⟩
 ·simp[af,ag]
 ·cases x <;> simp[af,ag]
theorem CF {es:Es}{Q:QW}:Wp (az Φ (.disp es) ρ S) Q↔Wp (de Φ es ρ (S++[.dic []])) λp=>p.2[S.length]?=gV (.dic [])/\∃kvs,dC [] p.1=gV kvs/\Q (.ref S.length,p.2.set S.length (.dic kvs)):=by
 have e:az Φ (.disp es) ρ S=oU (de Φ es) ρ S:=by dsimp only[az]
 rw[e];unfold oU;cases de Φ es ρ (S++[.dic []])with
 | none=>simp[ag]
 | some p=>
  obtain⟨x,S1⟩:=p;simp only[af];cases h2:S1[S.length]? with
  | none=>simp[ag]
  | some o=>
   cases o with
   | lst _=>simp[ag]
   | fro _=>simp[ag]
   | frd _=>simp[ag]
   | rng _ _=>simp[ag]
   | dic kvs=>
    cases kvs with
    | nil=>cases h3:dC [] x <;> simp[af,ag]
    | cons a b=>simp[ag]
theorem AZ {o o':COp}{a b d:E}{Q:QW}(h:Wp (az Φ a ρ S) λp=>Wp (az Φ b ρ p.2) λq=>∃k,uH o p.1 q.1 q.2=gV k/\(k=true->Wp (az Φ d ρ q.2) λr=>Wp (dI o' q.1 r.1 r.2) Q)/\(k=false->Q (.bl false,q.2))):Wp (az Φ (.chn o o' a b d) ρ S) Q:=by
 obtain⟨⟨x,S1⟩,e1,⟨y,S2⟩,e2,k,e3,h1,h2⟩:=h;have e:az Φ (.chn o o' a b d) ρ S=fP o o' (az Φ a) (az Φ b) (az Φ d) ρ S:=by dsimp only[az]
 rw[e];unfold fP;rw[e1];dsimp only;rw[e2];dsimp only;rw[e3];cases k with
 | false=>exact#[_,rfl,h2 rfl]
 | true=>
  obtain⟨⟨z,S3⟩,e4,⟨r,e5,q⟩⟩:=h1 rfl;dsimp only;rw[e4];exact#[_,e5,q]
theorem Ew {Q:Hj W×aa->Prop}:Wp (de Φ .nil ρ S) Q↔Q ([],S):=by(dsimp only[de]; simp[io,af,ag])
theorem CG {e:E}{es:Es}{Q:Hj W×aa->Prop}:Wp (de Φ (.cons e es) ρ S) Q↔Wp (az Φ e ρ S) λp=>Wp (de Φ es ρ p.2) λq=>Q (p.1::q.1,q.2):=by
 (dsimp only[de]; simp only[dG])
 rcases h:az Φ e ρ S with _|⟨x,S1⟩
 ·simp[af,ag]
 ·rcases h2:de Φ es ρ S1 with _|⟨y,S2⟩ <;> simp[af,ag,h2]
noncomputable abbrev QB:=HX×aa->Prop
theorem A6 {f:FE}{Q:QB}:Wp (oQ f ρ S) Q↔Wp (f ρ S) λp=>∃k,p.1=.bl k/\Q (k,p.2):=by
 unfold oQ;rcases h:f ρ S with _|⟨x,S1⟩
 ·simp[af,ag]
 ·cases x <;> simp[af,ag]
  rename_i k; cases k <;> simp
theorem r9 {f:FE}{Q:QB}:Wp (gD f ρ S) Q↔Wp (f ρ S) λp=>∃k,cJ p.2 p.1=gV k/\Q (k,p.2):=by
 unfold gD;rcases h:f ρ S with _|⟨x,S1⟩
 ·simp[af,ag]
 ·cases h2:cJ S1 x <;> simp[af,ag,h2]
  rename_i k; cases k <;> simp
theorem Ex {o:COp}{a b:E}{Q:QB}:Wp (cV Φ (.cmp o a b) ρ S) Q↔Wp (az Φ (.cmp o a b) ρ S) λp=>∃k,p.1=.bl k/\Q (k,p.2):=by dsimp only[cV,az]; exact A6
theorem Ey {o o':COp}{a b d:E}{Q:QB}:Wp (cV Φ (.chn o o' a b d) ρ S) Q↔Wp (az Φ (.chn o o' a b d) ρ S) λp=>∃k,p.1=.bl k/\Q (k,p.2):=by dsimp only[cV,az]; exact A6
theorem Ez {a b:E}{Q:QB}:Wp (cV Φ (.and a b) ρ S) Q↔Wp (cV Φ a ρ S) λp=>(p.1=true->Wp (cV Φ b ρ p.2) Q)/\(p.1=false->Q (false,p.2)):=by
 (dsimp only[cV]; simp only[vL])
 rcases h:cV Φ a ρ S with _|⟨x,S1⟩
 ·simp[af,ag]
 ·cases x <;> simp[af,ag]
theorem Gn {a b:E}{Q:QB}:Wp (cV Φ (.or a b) ρ S) Q↔Wp (cV Φ a ρ S) λp=>(p.1=true->Q (true,p.2))/\(p.1=false->Wp (cV Φ b ρ p.2) Q):=by
 (dsimp only[cV]; simp only[D3])
 rcases h:cV Φ a ρ S with _|⟨x,S1⟩
 ·simp[af,ag]
 ·cases x <;> simp[af,ag]
theorem EA {a:E}{Q:QB}:Wp (cV Φ (.not a) ρ S) Q↔Wp (cV Φ a ρ S) λp=>Q (!p.1,p.2):=by
 (dsimp only[cV]; simp only[zt])
 rcases h:cV Φ a ρ S with _|⟨x,S1⟩ <;> simp[af,ag]
theorem G7 {i:Hs}{Q:QB}:Wp (cV Φ (.v i) ρ S) Q↔Wp (az Φ (.v i) ρ S) λp=>∃k,cJ p.2 p.1=gV k/\Q (k,p.2):=by dsimp only[cV,az]; exact r9
theorem EB {f:HM}{n:Hs}{es:Es}{Q:QB}:Wp (cV Φ (.own f n es) ρ S) Q↔Wp (az Φ (.own f n es) ρ S) λp=>∃k,cJ p.2 p.1=gV k/\Q (k,p.2):=by dsimp only[cV,az]; exact r9
theorem Go {b:Bi}{es:Es}{Q:QB}:Wp (cV Φ (.bi b es) ρ S) Q↔Wp (az Φ (.bi b es) ρ S) λp=>∃k,cJ p.2 p.1=gV k/\Q (k,p.2):=by dsimp only[cV,az]; exact r9
theorem EC {c:Jf}{a:E}{Q:QB}:Wp (cV Φ (.isi c a) ρ S) Q↔Wp (az Φ (.isi c a) ρ S) λp=>∃k,cJ p.2 p.1=gV k/\Q (k,p.2):=by dsimp only[cV,az]; exact r9
noncomputable abbrev QO:=Out×aa->Prop
theorem ED {Q:QO}:Wp (fR Φ fuel .nil ρ S) Q↔Q (.nx ρ,S):=by(dsimp only[fR]; simp[af,ag])
theorem CH {s:Sm}{ss:Ss}{Q:QO}:Wp (fR Φ fuel (.cons s ss) ρ S) Q↔Wp (fJ Φ fuel s ρ S) λp=>(∀ρ',p.1=.nx ρ'->Wp (fR Φ fuel ss ρ' p.2) Q)/\((∀ρ',p.1≠.nx ρ')->Q p):=by
 (dsimp only[fR]; simp only[zD])
 rcases h:fJ Φ fuel s ρ S with _|⟨o,S1⟩
 ·simp[af,ag]
 ·cases o <;> simp[af,ag]
theorem wy {f:FE}{g:FG}{Q:QO}:Wp (jX f g ρ S) Q↔Wp (f ρ S) λp=>Wp (g p.1 ρ p.2) λq=>Q (.nx q.1,q.2):=by
 unfold jX;rcases h:f ρ S with _|⟨x,S1⟩
 ·simp[af,ag]
 ·rcases h2:g x ρ S1 with _|⟨y,S2⟩ <;> simp[af,ag,h2]
theorem CI {i:Hs}{e:E}{Q:QO}:Wp (fJ Φ fuel (.set i e) ρ S) Q↔Wp (az Φ e ρ S) λp=>Q (.nx (ρ.set i (gV p.1)),p.2):=by
 dsimp only[fJ]; rw[wy]; simp[zK,af,ag]
theorem CJ {is:Hj Hs}{e:E}{Q:QO}:Wp (fJ Φ fuel (.asg is e) ρ S) Q↔Wp (az Φ e ρ S) λp=>∃ws ρ',p.1=.tup ws/\cL is ws ρ=gV ρ'/\Q (.nx ρ',p.2):=by
 dsimp only[fJ]; rw[wy]
 constructor
 ·refine λh=>h.mono λp hp=>?_
  obtain⟨w,S1⟩:=p;obtain⟨q,h1,h2⟩:=hp;cases w with
  | tup ws=>
   simp only[Dm,Ho]at h1;obtain⟨ρ',h3,rfl⟩:=h1;exact#[ws,ρ',rfl,h3,h2]
  | _=>cases h1
 ·refine λh=>h.mono λp hp=>?_
  obtain⟨w,S1⟩:=p;obtain⟨ws,ρ',h0,h1,h2⟩:=hp;subst h0;exact#[(ρ',S1),by simp[Dm,h1],h2]
theorem CK {i j:Hs}{es:Es}{Q:QO}:Wp (fJ Φ fuel (.par i j es) ρ S) Q↔Wp (de Φ es ρ S) λp=>∃x y,p.1=[x,y]/\Q (.nx ((ρ.set i (gV x)).set j (gV y)),p.2):=by
 (dsimp only[fJ]; simp only[zM])
 rcases h:de Φ es ρ S with _|⟨x,S1⟩
 ·simp[ag]
 ·match x with
  | []=>simp[af,ag]
  | [_]=>simp[af,ag]
  | [a,b]=>
   simp only[af];exact#[λh=>#[a,b,rfl,h],λ#[x,y,e,h]=>by cases e; exact h]
  | _::_::_::_=>simp[af,ag]
theorem CL {o k e:E}{Q:QO}:Wp (fJ Φ fuel (.put o k e) ρ S) Q↔Wp (az Φ e ρ S) λp=>Wp (az Φ o ρ p.2) λq=>Wp (az Φ k ρ q.2) λr=>∃S',ii q.1 r.1 p.1 r.2=gV S'/\Q (.nx ρ,S'):=by
 dsimp only[fJ]; rw[wy]
 rcases h:az Φ e ρ S with _|⟨x,S1⟩
 ·simp[af,ag]
 ·simp only[af];unfold zL;rcases h2:az Φ o ρ S1 with _|⟨y,S2⟩
  ·simp[af,ag]
  ·rcases h3:az Φ k ρ S2 with _|⟨z,S3⟩
   ·simp[af,ag,h3]
   ·cases h4:ii y z x S3 <;> simp[af,ag,h3,h4]
theorem EE {e:E}{Q:QO}:Wp (fJ Φ fuel (.ex e) ρ S) Q↔Wp (az Φ e ρ S) λp=>Q (.nx ρ,p.2):=by
 (dsimp only[fJ]; simp only[zE])
 rcases h:az Φ e ρ S with _|⟨x,S1⟩ <;> simp[af,ag]
theorem CM {e:E}{Q:QO}:Wp (fJ Φ fuel (.ret e) ρ S) Q↔Wp (az Φ e ρ S) λp=>Q (.rt p.1,p.2):=by
 (dsimp only[fJ]; simp only[zH])
 rcases h:az Φ e ρ S with _|⟨x,S1⟩ <;> simp[af,ag]
theorem CN {t:E}{a b:Ss}{Q:QO}:Wp (fJ Φ fuel (.ite t a b) ρ S) Q↔Wp (cV Φ t ρ S) λp=>(p.1=true->Wp (fR Φ fuel a ρ p.2) Q)/\(p.1=false->Wp (fR Φ fuel b ρ p.2) Q):=by
 (dsimp only[fJ]; simp only[zJ])
 rcases h:cV Φ t ρ S with _|⟨x,S1⟩
 ·simp[af,ag]
 ·cases x <;> simp[af,ag]
end
section
variable{Φ:HM->FF}{fuel:Hs}{ρ:Fm}{S:aa}
noncomputable def wz (I:Fm->aa->Prop)(Q:QO)(o:Out×aa):Prop:=match o.1 with
 | .nx ρ'=>I ρ' o.2
 | .ct ρ'=>I ρ' o.2
 | .bk ρ'=>Q (.nx ρ',o.2)
 | .rt w=>Q (.rt w,o.2)
theorem iZ {mi:MI}{g:FG}{b:FS}{xs:Hj W}{Q:QO}(I:Hs->Fm->aa->Prop)(hat:∀i ρ S,I i ρ S->mi.at S i=gV xs[i]?)
  (hstep:∀i w ρ S,xs[i]?=gV w->I i ρ S->Wp (g w ρ S) λq=>Wp (b q.1 q.2) (wz (I (i+1)) Q)) (hend:∀ρ S,I xs.length ρ S->Q (.nx ρ,S)):∀(n i:Hs) (ρ:Fm) (S:aa),i+n=xs.length->I i ρ S->Wp (fQ mi g b n i ρ S) Q
 | 0,i,ρ,S,hl,hI=>by
  have e:mi.at S i=gV td:=by rw[hat i ρ S hI,KA ∅]
  simp only[fQ,e];have hi:i=xs.length:=∅
  exact af.mpr (hend ρ S (hi ▸ hI))
 | n+1,i,ρ,S,hl,hI=>by
  have hi:i < xs.length:=∅
  have e:mi.at S i=gV (gV xs[i]):=by rw[hat i ρ S hI,HH hi]
  obtain⟨⟨ρ1,S1⟩,h1,⟨o,S2⟩,h2,h3⟩:=hstep i xs[i] ρ S (HH hi) hI;simp only[fQ,e,h1,h2];cases o with
  | nx ρ2=>exact iZ I hat hstep hend n (i+1) ρ2 S2 ∅ h3
  | ct ρ2=>exact iZ I hat hstep hend n (i+1) ρ2 S2 ∅ h3
  | bk ρ2=>exact af.mpr h3
  | rt w=>exact af.mpr h3
theorem EF {fi:FI}{g:FG}{b:FS}{Q:QO}:Wp (vW fi g b ρ S) Q↔Wp (fi ρ S) λp=>∃n,p.1.len p.2=gV n/\Wp (fQ p.1 g b n 0 ρ p.2) Q:=by
 unfold vW;rcases h:fi ρ S with _|⟨mi,S1⟩
 ·simp[ag]
 ·cases h2:mi.len S1 <;> simp[af,ag,h2]
theorem dJ {mi:MI}{g:FG}{c:FT}{f:FE}{xs:Hj W}{Q:Hj W×aa->Prop}(I:Hs->Hj W->Fm->aa->Prop)(hat:∀i ys ρ S,I i ys ρ S->mi.at S i=gV xs[i]?)
  (hstep:∀i w ys ρ S,xs[i]?=gV w->I i ys ρ S->Wp (g w ρ S) λq=>Wp (c q.1 q.2) λk=>(k.1=true->Wp (f q.1 k.2) λy=>I (i+1) (ys++[y.1]) q.1 y.2)/\(k.1=false->I (i+1) ys q.1 k.2))
  (hend:∀ys ρ S,I xs.length ys ρ S->Q (ys,S)):∀(n i:Hs) (ys:Hj W) (ρ:Fm) (S:aa),i+n=xs.length->I i ys ρ S->Wp (bK mi g c f n i ρ S) λp=>Q (ys++p.1,p.2)
 | 0,i,ys,ρ,S,hl,hI=>by
  have e:mi.at S i=gV td:=by rw[hat i ys ρ S hI,KA ∅]
  simp only[bK,e];refine af.mpr ?_;have:i=xs.length:=∅
  simpa using hend ys ρ S (this ▸ hI)
 | n+1,i,ys,ρ,S,hl,hI=>by
  have hi:i < xs.length:=∅
  have e:mi.at S i=gV (gV xs[i]):=by rw[hat i ys ρ S hI,HH hi]
  obtain⟨⟨ρ1,S1⟩,h1,⟨k,S2⟩,h2,h3,h4⟩:=hstep i xs[i] ys ρ S (HH hi) hI;simp only[bK,e,h1,h2];cases k with
  | true=>
   obtain⟨⟨y,S3⟩,h5,h6⟩:=h3 rfl;simp only[h5];obtain⟨⟨zs,S4⟩,h7,h8⟩:=dJ I hat hstep hend n (i+1) (ys++[y]) ρ1 S3 ∅ h6
   simp only[h7];exact af.mpr (by simpa using h8)
  | false=>exact dJ I hat hstep hend n (i+1) ys ρ1 S2 ∅ (h4 rfl)
theorem wD {elt:E}{tg:Tg}{it:Ie}{cs:Es}{cap:Hj (Hr Hs)}{Q:QW}:Wp (az Φ (.comp elt tg it cs cap) ρ S) Q↔Wp (jv Φ it ρ S) λp=>∃n,p.1.len p.2=gV n/\Wp (bK p.1 (eJ tg) (z5 Φ cs) (az Φ elt) n 0 (eZ cap ρ) p.2) λq=>q.1.length<=sizeLine/\Q (.ref q.2.length,q.2++[.lst q.1]):=by
 (dsimp only[az]; simp only[jY,kX])
 rcases h:jv Φ it ρ S with _|⟨mi,S1⟩
 ·simp[ag]
 ·rcases h2:mi.len S1 with _|n
  ·simp[af,ag,h2]
  ·rcases h3:bK mi (eJ tg) (z5 Φ cs) (az Φ elt) n 0 (eZ cap ρ) S1 with _|⟨ys,S2⟩
   ·simp[af,ag,h2,h3]
   ·by_cases hl:ys.length<=sizeLine <;> simp[af,ag,h2,h3,hl]
theorem EG {Q:QB}:Wp (z5 Φ .nil ρ S) Q↔Q (true,S):=by(dsimp only[z5]; simp[AS,af])
theorem EH {e:E}{Q:QB}:Wp (z5 Φ #v[e] ρ S) Q↔Wp (cV Φ e ρ S) Q:=by dsimp only[z5]; exact Iff.rfl
theorem Gp {i:Hs}{w:W}{Q:Fm×aa->Prop}:Wp (eJ (.nm i) w ρ S) Q↔Q (ρ.set i (gV w),S):=by(dsimp only[eJ]; simp[zK,af])
theorem j9 {c:FT}{b:FS}{Q:QO}(I:Hs->Fm->aa->Prop)(hstep:∀m ρ S,I m ρ S->Wp (c ρ S) λk=>(k.1=true->∃m',m=m'+1/\Wp (b ρ k.2) (wz (I m') Q))/\(k.1=false->Q (.nx ρ,k.2))) :
  ∀(n m:Hs) (ρ:Fm) (S:aa),m < n->I m ρ S->Wp (ny c b n ρ S) Q
 | 0,m,ρ,S,h,_=>∅
 | n+1,m,ρ,S,h,hI=>by
  obtain⟨⟨k,S1⟩,h1,h2,h3⟩:=hstep m ρ S hI;simp only[ny,h1];cases k with
  | false=>exact af.mpr (h3 rfl)
  | true=>
   obtain⟨m',rfl,⟨o,S2⟩,h5,h6⟩:=h2 rfl;simp only[h5];cases o with
   | nx ρ2=>exact j9 I hstep n m' ρ2 S2 ∅ h6
   | ct ρ2=>exact j9 I hstep n m' ρ2 S2 ∅ h6
   | bk ρ2=>exact af.mpr h6
   | rt w=>exact af.mpr h6
theorem t8 {defs:Hj (HM×Df)}{d:Hs}{f:HM}{ws:Hj W}{df:Df}{Q:QW}(h:defs.lookup f=gV df)(hl:ws.length=df.ps.length)
  (hb:Wp (fR (ak defs fuel d) fuel df.body (ff df.N ws) S) λp=>match p.1 with|.rt w=>Q (w,p.2)|.nx _=>Q (.non,p.2)|_=>IY):Wp (ak defs fuel (d+1) f ws S) Q:=by
 obtain⟨⟨o,S1⟩,h1,h2⟩:=hb;simp only[ak,h,HY hl,h1];cases o with
 | rt w=>exact af.mpr h2
 | nx ρ=>exact af.mpr h2
 | bk _=>exact h2.elim
 | ct _=>exact h2.elim
end
section
variable{S:aa}{Q:QW}
theorem cq {a b:Hy}:hJ .add (.int a) (.int b) S=gV (.int (a+b),S):=rfl
theorem gL {a b:Hy}:hJ .sub (.int a) (.int b) S=gV (.int (a - b),S):=rfl
theorem nE {c:Hy->Hy->HX}{f:Hy->Hy->Hy}{i j:Hy}(h:c i j=true):ym c f (.int i) (.int j) S=gV (.int (f i j),S):=by
 unfold ym;dsimp only;rw[HY h]
theorem sa {a b:Hy}(h : -(2 ^ 64) < b)(h2:b < 2 ^ 64):hJ .mul (.int a) (.int b) S=gV (.int (a*b),S):=nE (c:=tf) (f:=(· * ·)) (by
 unfold tf;simp only[JT,Hv,Ir];exact .inr #[h,h2])
theorem ke {a b:Hy}(h:0 < b):hJ .mod (.int a) (.int b) S=gV (.int (a % b),S):=nE (c:=λ_ j=>decide (0 < j)) (f:=(· % ·)) (IZ h)
theorem nF {a b:Hy}(h:0 < b)(h2:b < 1073741824):hJ .fdiv (.int a) (.int b) S=gV (.int (a / b),S):=nE (c:=λ_ j=>yS j) (f:=(· / ·)) (by
 unfold yS;simp only[Hv,Ir];exact#[h,h2])
theorem CO:hJ .pow (.int 10) (.int 18) S=gV (.int 1000000000000000000,S):=rfl
theorem bL {xs ys:Hj W}(h:(xs++ys).length<=sizeLine):hJ .add (.tup xs) (.tup ys) S=gV (.tup (xs++ys),S):=by simp only[hJ,vg,p8]; rw[HY h]
theorem nG {i j:Hs}{xs ys:Hj W}(h1:S[i]?=gV (.lst xs))(h2:S[j]?=gV (.lst ys))(h:(xs++ys).length<=sizeLine):hJ .add (.ref i) (.ref j) S=gV (.ref S.length,S++[.lst (xs++ys)]):=by
 simp only[hJ,vg,nY,h1,h2,kX]; rw[HY h]
theorem kg {a b:Hy}:aK .eq (.int a) (.int b) S=gV (.bl (a==b),S):=rfl
theorem t9 {a b:Hy}:aK .ne (.int a) (.int b) S=gV (.bl (!(a==b)),S):=rfl
theorem wF {a b:Hy}:aK .lt (.int a) (.int b) S=gV (.bl (decide (a < b)),S):=rfl
theorem CP {a b:Hy}:aK .gt (.int a) (.int b) S=gV (.bl (decide (a > b)),S):=rfl
theorem Gq {a b:Hy}:aK .ge (.int a) (.int b) S=gV (.bl (decide (a>=b)),S):=rfl
theorem aJ {r:Hs}{xs:Hj W}(h:S[r]?=gV (.lst xs)):gP S r=gV xs:=by simp[gP,h]
theorem Ab {r:Hs}{xs:Hj W}(h:S[r]?=gV (.fro xs)):gP S r=gV xs:=by simp[gP,h]
theorem cX {r:Hs}{xs:Hj W}(h:S[r]?=gV (.lst xs)):nY S r=gV xs:=by simp[nY,h]
theorem nH {r:Hs}{xs:Hj W}(h:S[r]?=gV (.lst xs)):jt S r=td:=by simp[jt,h]
theorem bI {r:Hs}{kvs:Hj (T×W)}(h:S[r]?=gV (.dic kvs)):jt S r=gV kvs:=by simp[jt,h]
theorem nI {r:Hs}{kvs:Hj (T×W)}(h:S[r]?=gV (.dic kvs)):gP S r=td:=by simp[gP,h]
theorem Ac {r:Hs}{kvs:Hj (T×W)}(h:S[r]?=gV (.frd kvs)):jt S r=gV kvs:=by simp[jt,h]
theorem atI_nat {α:Type}{xs:Hj α}{j:Hs}{w:α}(h:xs[j]?=gV w):om xs (j:Hy)=gV w:=by
 have hl:=(HG.mp h).1;unfold om rh;rw[HY (Hx j),HY (by exact_mod_cast hl)]
 simpa using h
theorem nJ {α:Type}{xs:Hj α}{i:Hy}{w:α}(h0:0<=i)(h:xs[i.toNat]?=gV w):om xs i=gV w:=by
 have:=atI_nat h
 rwa [Kr h0]at this
theorem wH {r:Hs}{xs:Hj W}{i:Hy}{w:W}(h:S[r]?=gV (.lst xs))(h0:0<=i)(hw:xs[i.toNat]?=gV w):ju (.ref r) (.int i) S=gV (w,S):=by
 show tm (.ref r) (.int i) S=_;simp[tm,aJ h,nJ h0 hw]
theorem EI {xs:Hj W}{i:Hy}{w:W}(h0:0<=i)(hw:xs[i.toNat]?=gV w):ju (.tup xs) (.int i) S=gV (w,S):=by
 show tm (.tup xs) (.int i) S=_;simp[tm,nJ h0 hw]
theorem EJ {x:HM}{i:Hy}{c:Hs}(hz:x.length<=sizeLine)(h0:0<=i)(hw:x.cps.toList[i.toNat]?=gV c):ju (.str x) (.int i) S=gV (.str #[[c].toArray],S):=by
 show tm (.str x) (.int i) S=_;simp[tm,hz,nJ h0 hw]
theorem A7 {r:Hs}{xs:Hj W}{i:Hy}{w:W}(h:S[r]?=gV (.lst xs))(h0:0<=i)(hi:i.toNat < xs.length):ii (.ref r) (.int i) w S=gV (S.set r (.lst (xs.set i.toNat w))):=by
 show tq (.ref r) (.int i) w S=_;have:rh xs.length i=gV i.toNat:=by
  unfold rh;rw[HY h0,HY ∅]
 simp[tq,cX h,this]
theorem Ba {r:Hs}{xs:Hj W}(h:S[r]?=gV (.lst xs)):qg [.ref r] S=gV (.int xs.length,S):=by
 simp[qg,nH h,qa,aJ h]
theorem wI {r:Hs}{xs:Hj W}{y:W}(h:S[r]?=gV (.lst xs))(hl:xs.length < sizeLine):hZ (.ref r) [y] S=gV (.non,S.set r (.lst (xs++[y]))):=by
 simp[hZ,cX h,hl]
theorem EK {r:Hs}{xs:Hj W}(h:S[r]?=gV (.lst xs)):jV [.ref r] S=gV (.tup xs,S):=by
 simp[jV,zf,h,jO,aJ h]
theorem dE {r:Hs}{xs:Hj W}(h:S[r]?=gV (.lst xs)):tyOk "list" S (.ref r)=true:=by simp[tyOk,aJ h]
theorem bG {r:Hs}{o o':O}(h:S[r]?=gV o):(S.set r o')[r]?=gV o':=by
 rw[JD,HY rfl,HY (HG.mp h).1]
theorem bh {r j:Hs}{o':O}(h:r≠j):(S.set r o')[j]?=S[j]?:=by rw[JD,Iy h]
theorem aj {o:O}:(S++[o])[S.length]?=gV o:=by simp
theorem ar {j:Hs}{o u:O}(h:S[j]?=gV o):(S++[u])[j]?=gV o:=by rw[Il (HG.mp h).1]; exact h
theorem b7 {j:Hs}{o:O}(h:S[j]?=gV o):j < S.length:=(HG.mp h).1
structure Kp (r:Hs)(S S':aa):Prop where
 get:∀j o,j≠r->S[j]?=gV o->S'[j]?=gV o
 len:S.length<=S'.length
theorem Kp.refl {r:Hs}{S:aa}:Kp r S S:=#[λ_ _ _ h=>h,HC _]
theorem Kp.trans {r:Hs}{S S' S'':aa}(a:Kp r S S')(b:Kp r S' S''):Kp r S S'':=#[λj o n h=>b.get j o n (a.get j o n h),Ih a.len b.len]
theorem Kp.set {r:Hs}{S:aa}{o:O}:Kp r S (S.set r o):=#[λj u n h=>by rw[bh (Ne.symm n)]; exact h,by simp]
theorem Kp.push {r:Hs}{S:aa}{o:O}:Kp r S (S++[o]):=#[λj u n h=>ar h,by simp]
theorem Kp.late {r t:Hs}{S0 S:aa}{o:O}(a:Kp r S0 S)(h:S0.length<=t):Kp r S0 (S.set t o):=
 #[λj u n e=>by
  have:=b7 e;rw[bh ∅]; exact a.get j u n e,by simpa using a.len]
end
noncomputable def wO {α:Type}(o:Hr α)(Q:α->Prop):Prop:=match o with
 | some a=>Q a
 | none=>IY
theorem bS {α:Type}{o:Hr α}{Q:α->Prop}(h:wO o Q):Wp o Q:=by
 cases o with
 | none=>exact h.elim
 | some a=>exact#[a,rfl,h]
theorem EM {α:Type}{o:Hr α}{Q:α->Prop}(h:Wp o Q):wO o Q:=by
 obtain⟨a,rfl,q⟩:=h;exact q
theorem ab {α:Type}{o:Hr α}{a:α}{Q:α->Prop}(e:o=gV a)(h:Q a):wO o Q:=by subst e; exact h
noncomputable def wB:W->(HX->Prop)->Prop
 | .bl k,Q=>Q k
 | _,_=>IY
noncomputable def wN:W->(Hy->Prop)->Prop
 | .int k,Q=>Q k
 | _,_=>IY
noncomputable def wU:W->(Hj W->Prop)->Prop
 | .tup k,Q=>Q k
 | _,_=>IY
theorem o5 {w:W}{Q:HX->Prop}(h:wB w Q):∃k,w=.bl k/\Q k:=by cases w <;> first|exact h.elim|exact#[_,rfl,h]
theorem Bb {w:W}{Q:Hy->Prop}(h:wN w Q):∃k,w=.int k/\Q k:=by cases w <;> first|exact h.elim|exact#[_,rfl,h]
theorem EN {w:W}{Q:Hj W->Prop}(h:wU w Q):∃k,w=.tup k/\Q k:=by cases w <;> first|exact h.elim|exact#[_,rfl,h]
noncomputable def w2:Hj W->(W->W->Prop)->Prop
 | [x,y],Q=>Q x y
 | _,_=>IY
theorem EO {xs:Hj W}{Q:W->W->Prop}(h:w2 xs Q):∃x y,xs=[x,y]/\Q x y:=by
 match xs,h with
 | [x,y],h=>exact#[x,y,rfl,h]
noncomputable def wG:Hr W->(W->Prop)->Prop
 | some w,Q=>Q w
 | none,_=>IY
noncomputable def wV:Fm->Hs->(W->Prop)->Prop
 | [],_,_=>IY
 | o::_,0,Q=>wG o Q
 | _::ρ,n+1,Q=>wV ρ n Q
theorem wJ {Q:W->Prop}:∀ {ρ:Fm} {i:Hs},wV ρ i Q->∃w,ρ[i]?=gV (gV w)/\Q w
 | [],i,h=>h.elim
 | some w::ρ,0,h=>#[w,rfl,h]
 | none::ρ,0,h=>h.elim
 | x::ρ,n+1,h=>by
  obtain⟨w,e2,q⟩:=wJ (ρ:=ρ) (i:=n) h;exact#[w,e2,q]
noncomputable def aC (Φ:HM->FF)(f:HM)(n:Hs)(ws:Hj W)(S:aa):Hr (W×aa):=if ws.length=n then Φ f ws S else td
section
variable (Φ:HM->FF) (fuel:Hs)
mutual
noncomputable def wE:E->Fm->aa->QW->Prop
 | .c w,_,S,Q=>Q (w,S)
 | .v i,ρ,S,Q=>wV ρ i λw=>Q (w,S)
 | .op o a b,ρ,S,Q=>wE a ρ S λp=>wE b ρ p.2 λq=>wO (hJ o p.1 q.1 q.2) Q
 | .cmp o a b,ρ,S,Q=>wE a ρ S λp=>wE b ρ p.2 λq=>wO (aK o p.1 q.1 q.2) Q
 | .and a b,ρ,S,Q=>wE a ρ S λp=>wB p.1 λk=>(k=true->wE b ρ p.2 Q)/\(k=false->Q (.bl false,p.2))
 | .or a b,ρ,S,Q=>wE a ρ S λp=>wB p.1 λk=>(k=true->Q (.bl true,p.2))/\(k=false->wE b ρ p.2 Q)
 | .not a,ρ,S,Q=>wE a ρ S λp=>wB p.1 λk=>Q (.bl (!k),p.2)
 | .own f n es,ρ,S,Q=>wA es ρ S λp=>wO (aC Φ f n p.1 p.2) Q
 | .bi b es,ρ,S,Q=>wA es ρ S λp=>wO (b.fn p.1 p.2) Q
 | .me m o es,ρ,S,Q=>wE o ρ S λp=>tyOk m.ty p.2 p.1=true/\wA es ρ p.2 λq=>wO (m.fn p.1 q.1 q.2) Q
 | .ix a b,ρ,S,Q=>wE a ρ S λp=>wE b ρ p.2 λq=>wO (ju p.1 q.1 q.2) Q
 | .sl a lo hi,ρ,S,Q=>wE a ρ S λp=>wP lo ρ p.2 λq=>wP hi ρ q.2 λr=>wO (js p.1 q.1 r.1 r.2) Q
 | .tup es,ρ,S,Q=>wA es ρ S λp=>Q (.tup p.1,p.2)
 | .lst es,ρ,S,Q=>wA es ρ S λp=>Q (.ref p.2.length,p.2++[.lst p.1])
 | .isi c a,ρ,S,Q=>wE a ρ S λp=>wO (nZ p.2 p.1 c) λk=>Q (.bl k,p.2)
 | .neg a,ρ,S,Q=>wE a ρ S λp=>wN p.1 λi=>Q (.int (-i),p.2)
 | .dnew,_,S,Q=>Q (.ref S.length,S++[.dic []])
 | .disp es,ρ,S,Q=>wA es ρ (S++[.dic []]) λp=>p.2[S.length]?=gV (.dic [])/\wO (dC [] p.1) λkvs=>Q (.ref S.length,p.2.set S.length (.dic kvs))
 | .chn o o' a b d,ρ,S,Q=>wE a ρ S λp=>wE b ρ p.2 λq=>wO (uH o p.1 q.1 q.2) λk=>(k=true->wE d ρ q.2 λr=>wO (dI o' q.1 r.1 r.2) Q)/\(k=false->Q (.bl false,q.2))
 | .ite t a b,ρ,S,Q=>wT t ρ S λp=>(p.1=true->wE a ρ p.2 Q)/\(p.1=false->wE b ρ p.2 Q)
 | .comp elt tg it cs cap,ρ,S,Q=>Wp (az Φ (.comp elt tg it cs cap) ρ S) Q
noncomputable def wT:E->Fm->aa->QB->Prop
 | .cmp o a b,ρ,S,Q=>wE a ρ S λp=>wE b ρ p.2 λq=>wO (aK o p.1 q.1 q.2) λr=>wB r.1 λk=>Q (k,r.2)
 | .and a b,ρ,S,Q=>wT a ρ S λp=>(p.1=true->wT b ρ p.2 Q)/\(p.1=false->Q (false,p.2))
 | .or a b,ρ,S,Q=>wT a ρ S λp=>(p.1=true->Q (true,p.2))/\(p.1=false->wT b ρ p.2 Q)
 | .not a,ρ,S,Q=>wT a ρ S λp=>Q (!p.1,p.2)
 | .isi c a,ρ,S,Q=>wE a ρ S λp=>wO (nZ p.2 p.1 c) λk=>Q (k,p.2)
 | .c w,ρ,S,Q=>Wp (cV Φ (.c w) ρ S) Q
 | .v i,ρ,S,Q=>wV ρ i λw=>wO (cJ S w) λk=>Q (k,S)
 | .op o a b,ρ,S,Q=>Wp (cV Φ (.op o a b) ρ S) Q
 | .own f n es,ρ,S,Q=>wA es ρ S λp=>wO (aC Φ f n p.1 p.2) λq=>wO (cJ q.2 q.1) λk=>Q (k,q.2)
 | .bi b es,ρ,S,Q=>wA es ρ S λp=>wO (b.fn p.1 p.2) λq=>wO (cJ q.2 q.1) λk=>Q (k,q.2)
 | .me m o es,ρ,S,Q=>Wp (cV Φ (.me m o es) ρ S) Q
 | .ix a b,ρ,S,Q=>Wp (cV Φ (.ix a b) ρ S) Q
 | .sl a lo hi,ρ,S,Q=>Wp (cV Φ (.sl a lo hi) ρ S) Q
 | .tup es,ρ,S,Q=>Wp (cV Φ (.tup es) ρ S) Q
 | .lst es,ρ,S,Q=>Wp (cV Φ (.lst es) ρ S) Q
 | .neg a,ρ,S,Q=>Wp (cV Φ (.neg a) ρ S) Q
 | .dnew,ρ,S,Q=>Wp (cV Φ .dnew ρ S) Q
 | .disp es,ρ,S,Q=>Wp (cV Φ (.disp es) ρ S) Q
 | .chn o o' a b d,ρ,S,Q=>wE a ρ S λp=>wE b ρ p.2 λq=>wO (uH o p.1 q.1 q.2) λk=>(k=true->wE d ρ q.2 λr=>wO (dI o' q.1 r.1 r.2) λs=>wB s.1 λc=>Q (c,s.2))/\(k=false->Q (false,q.2))
 | .ite t a b,ρ,S,Q=>Wp (cV Φ (.ite t a b) ρ S) Q
 | .comp elt tg it cs cap,ρ,S,Q=>Wp (cV Φ (.comp elt tg it cs cap) ρ S) Q
noncomputable def wA:Es->Fm->aa->(Hj W×aa->Prop)->Prop
 | .nil,_,S,Q=>Q ([],S)
 | .cons e es,ρ,S,Q=>wE e ρ S λp=>wA es ρ p.2 λq=>Q (p.1::q.1,q.2)
noncomputable def wP:Ep->Fm->aa->(Hr Hy×aa->Prop)->Prop
 | .no,_,S,Q=>Q (td,S)
 | .yes a,ρ,S,Q=>wE a ρ S λp=>wN p.1 λi=>Q (gV i,p.2)
end
noncomputable def o7 (K:Fm->aa->Prop)(Q:QO)(p:Out×aa):Prop:=match p.1 with
 | .nx ρ=>K ρ p.2
 | o=>Q (o,p.2)
mutual
noncomputable def wS:Sm->Fm->aa->(Fm->aa->Prop)->QO->Prop
 | .set i e,ρ,S,K,_=>wE Φ e ρ S λp=>K (ρ.set i (gV p.1)) p.2
 | .asg is e,ρ,S,K,_=>wE Φ e ρ S λp=>wU p.1 λws=>wO (cL is ws ρ) λρ'=>K ρ' p.2
 | .par i j es,ρ,S,K,_=>wA Φ es ρ S λp=>w2 p.1 λx y=>K ((ρ.set i (gV x)).set j (gV y)) p.2
 | .put o k e,ρ,S,K,_=>wE Φ e ρ S λp=>wE Φ o ρ p.2 λq=>wE Φ k ρ q.2 λr=>wO (ii q.1 r.1 p.1 r.2) λS'=>K ρ S'
 | .ex e,ρ,S,K,_=>wE Φ e ρ S λp=>K ρ p.2
 | .ret e,ρ,S,_,Q=>wE Φ e ρ S λp=>Q (.rt p.1,p.2)
 | .retN,_,S,_,Q=>Q (.rt .non,S)
 | .pass,ρ,S,K,_=>K ρ S
 | .brk,ρ,S,_,Q=>Q (.bk ρ,S)
 | .cont,ρ,S,_,Q=>Q (.ct ρ,S)
 | .bad,_,_,_,_=>IY
 | .ite t a b,ρ,S,K,Q=>wT Φ t ρ S λp=>∀Q':QO,(∀ρ' S',K ρ' S'->Q' (.nx ρ',S'))->(∀o S',(∀ρ',o≠.nx ρ')->Q (o,S')->Q' (o,S'))->(p.1=true->Ad a ρ p.2 Q')/\(p.1=false->Ad b ρ p.2 Q')
 | .whl t b,ρ,S,K,Q=>Wp (fJ Φ fuel (.whl t b) ρ S) (o7 K Q)
 | .loop tg it b,ρ,S,K,Q=>Wp (fJ Φ fuel (.loop tg it b) ρ S) (o7 K Q)
noncomputable def Ad:Ss->Fm->aa->QO->Prop
 | .nil,ρ,S,Q=>Q (.nx ρ,S)
 | .cons s ss,ρ,S,Q=>wS s ρ S (λρ' S'=>Ad ss ρ' S' Q) Q
end
end
noncomputable def Fo:Es->Hs
 | .nil=>0
 | .cons _ es=>Fo es+1
mutual
noncomputable def dL:E->HX
 | .c _|.v _|.comp _ _ _ _ _|.dnew=>true
 | .op _ a b|.cmp _ a b|.and a b|.or a b|.ix a b=>dL a&&dL b
 | .chn _ _ a b c|.ite a b c=>dL a&&dL b&&dL c
 | .neg a|.not a|.isi _ a=>dL a
 | .own _ n es=>Fo es==n&&n0 es
 | .bi _ es|.disp es=>n0 es
 | .me _ o es=>dL o&&n0 es
 | .sl a lo hi=>dL a&&Gr lo&&Gr hi
 | .tup es|.lst es=>decide (Fo es<=1000)&&n0 es
noncomputable def n0:Es->HX
 | .nil=>true
 | .cons e es=>dL e&&n0 es
noncomputable def Gr:Ep->HX
 | .no=>true
 | .yes e=>dL e
end
mutual
noncomputable def GV:Sm->HX
 | .set _ e|.asg _ e|.ex e|.ret e=>dL e
 | .put o k e=>dL o&&dL k&&dL e
 | .par _ _ es=>n0 es
 | .ite t a b=>dL t&&fT a&&fT b
 | _=>true
noncomputable def fT:Ss->HX
 | .nil=>true
 | .cons s ss=>GV s&&fT ss
end
section
variable{Φ:HM->FF}{fuel:Hs}
theorem iu:∀ {es:Es} {ρ:Fm} {S S':aa} {ws:Hj W},de Φ es ρ S=gV (ws,S')->ws.length=Fo es
 | .nil,ρ,S,S',ws,h=>by dsimp only[de]at h; cases h; rfl
 | .cons e es,ρ,S,S',ws,h=>by
  dsimp only[de]at h;unfold dG at h;split at h
  ·split at h
   ·rename_i h2; cases h; rw[Iz,iu h2]; rfl
   ·cases h
  ·cases h
theorem wK {n:Hs}(h:decide (n<=1000)=true):n<=sizeLine:=Ih (IW h) (by rw[IN]; decide)
theorem cg {a b:HX}(h:(a&&b)=true):a=true:=by cases a <;> first|rfl|cases h
theorem dh {a b:HX}(h:(a&&b)=true):b=true:=by cases a <;> first|exact h|cases h
mutual
theorem aQ:∀(e:E) {ρ:Fm} {S:aa} {Q:QW},dL e=true->wE Φ e ρ S Q->Wp (az Φ e ρ S) Q
 | .c w,ρ,S,Q,k,h=>G6.mpr h
 | .v i,ρ,S,Q,k,h=>GU.mpr (wJ h)
 | .op o a b,ρ,S,Q,k,h=>Gg.mpr ((aQ a (cg k) h).mono λp hp=>(aQ b (dh k) hp).mono λq hq=>bS hq)
 | .cmp o a b,ρ,S,Q,k,h=>AW.mpr ((aQ a (cg k) h).mono λp hp=>(aQ b (dh k) hp).mono λq hq=>bS hq)
 | .and a b,ρ,S,Q,k,h=>El.mpr ((aQ a (cg k) h).mono λp hp=>let ⟨c,e,h1,h2⟩:=o5 hp; #[c,e,λz=>aQ b (dh k) (h1 z),h2])
 | .or a b,ρ,S,Q,k,h=>Gi.mpr ((aQ a (cg k) h).mono λp hp=>let ⟨c,e,h1,h2⟩:=o5 hp; #[c,e,h1,λz=>aQ b (dh k) (h2 z)])
 | .not a,ρ,S,Q,k,h=>Em.mpr ((aQ a k h).mono λp hp=>o5 hp)
 | .own f n es,ρ,S,Q,k,h=>AX.mpr (by
   obtain⟨⟨ws,S1⟩,e,hq⟩:=gM es (dh k) h;have hl:ws.length=n:=(iu e).trans (eq_of_beq (cg k));simp only[aC,HY hl]at hq;exact#[_,e,hl,bS hq])
 | .bi b es,ρ,S,Q,k,h=>Eo.mpr ((gM es k h).mono λp hp=>bS hp)
 | .me m o es,ρ,S,Q,k,h=>Gj.mpr ((aQ o (cg k) h).mono λp hp=>#[hp.1,(gM es (dh k) hp.2).mono λq hq=>bS hq])
 | .ix a b,ρ,S,Q,k,h=>Gh.mpr ((aQ a (cg k) h).mono λp hp=>(aQ b (dh k) hp).mono λq hq=>bS hq)
 | .sl a lo hi,ρ,S,Q,k,h=>Gk.mpr ((aQ a (cg (cg k)) h).mono λp hp=>(Bc lo (dh (cg k)) hp).mono λq hq=>(Bc hi (dh k) hq).mono λr hr=>bS hr)
 | .tup es,ρ,S,Q,k,h=>Et.mpr (by
   obtain⟨⟨ws,S1⟩,e,hq⟩:=gM es (dh k) h;exact#[_,e,by rw[iu e]; exact wK (cg k),hq])
 | .lst es,ρ,S,Q,k,h=>Eu.mpr (by
   obtain⟨⟨ws,S1⟩,e,hq⟩:=gM es (dh k) h;exact#[_,e,by rw[iu e]; exact wK (cg k),hq])
 | .isi c a,ρ,S,Q,k,h=>AY.mpr ((aQ a k h).mono λp hp=>bS hp)
 | .neg a,ρ,S,Q,k,h=>Ev.mpr ((aQ a k h).mono λp hp=>Bb hp)
 | .dnew,ρ,S,Q,k,h=>#[_,rfl,h]
 | .disp es,ρ,S,Q,k,h=>CF.mpr ((gM es k h).mono λp hp=>#[hp.1,let ⟨kvs,e,q⟩:=bS hp.2; #[kvs,e,q]])
 | .chn o o' a b d,ρ,S,Q,k,h=>AZ ((aQ a (cg (cg k)) h).mono λp hp=>(aQ b (dh (cg k)) hp).mono λq hq=>let ⟨c,e,h1,h2⟩:=bS hq; #[c,e,λz=>(aQ d (dh k) (h1 z)).mono λr hr=>bS hr,h2])
 | .ite t a b,ρ,S,Q,k,h=>En.mpr ((iy t (cg (cg k)) h).mono λp hp=>#[λz=>aQ a (dh (cg k)) (hp.1 z),λz=>aQ b (dh k) (hp.2 z)])
 | .comp elt tg it cs cap,ρ,S,Q,k,h=>h
theorem gM:∀(es:Es) {ρ:Fm} {S:aa} {Q:Hj W×aa->Prop},n0 es=true->wA Φ es ρ S Q->Wp (de Φ es ρ S) Q
 | .nil,ρ,S,Q,k,h=>Ew.mpr h
 | .cons e es,ρ,S,Q,k,h=>CG.mpr ((aQ e (cg k) h).mono λp hp=>gM es (dh k) hp)
theorem Bc:∀(e:Ep) {ρ:Fm} {S:aa} {Q:Hr Hy×aa->Prop},Gr e=true->wP Φ e ρ S Q->Wp (rT Φ e ρ S) Q
 | .no,ρ,S,Q,k,h=>Gm.mpr h
 | .yes a,ρ,S,Q,k,h=>Er.mpr ((aQ a k h).mono λp hp=>Bb hp)
theorem iy:∀(e:E) {ρ:Fm} {S:aa} {Q:QB},dL e=true->wT Φ e ρ S Q->Wp (cV Φ e ρ S) Q
 | .cmp o a b,ρ,S,Q,k,h=>Ex.mpr (AW.mpr ((aQ a (cg k) h).mono λp hp=>(aQ b (dh k) hp).mono λq hq=>(bS hq).mono λr hr=>o5 hr))
 | .and a b,ρ,S,Q,k,h=>Ez.mpr ((iy a (cg k) h).mono λp hp=>#[λz=>iy b (dh k) (hp.1 z),hp.2])
 | .or a b,ρ,S,Q,k,h=>Gn.mpr ((iy a (cg k) h).mono λp hp=>#[hp.1,λz=>iy b (dh k) (hp.2 z)])
 | .not a,ρ,S,Q,k,h=>EA.mpr (iy a k h)
 | .isi c a,ρ,S,Q,k,h=>EC.mpr (AY.mpr ((aQ a k h).mono λp hp=>let ⟨b,e,q⟩:=bS hp; #[b,e,b,rfl,q]))
 | .v i,ρ,S,Q,k,h=>G7.mpr (GU.mpr (let ⟨w,e,q⟩:=wJ h; #[w,e,bS q]))
 | .own f n es,ρ,S,Q,k,h=>EB.mpr (AX.mpr (by
   obtain⟨⟨ws,S1⟩,e,hq⟩:=gM es (dh k) h;have hl:ws.length=n:=(iu e).trans (eq_of_beq (cg k));simp only[aC,HY hl]at hq;exact#[_,e,hl,(bS hq).mono λq hq=>bS hq]))
 | .c w,ρ,S,Q,k,h=>h
 | .op o a b,ρ,S,Q,k,h=>h
 | .bi b es,ρ,S,Q,k,h=>Go.mpr (Eo.mpr ((gM es k h).mono λp hp=>(bS hp).mono λq hq=>bS hq))
 | .me m o es,ρ,S,Q,k,h=>h
 | .ix a b,ρ,S,Q,k,h=>h
 | .sl a lo hi,ρ,S,Q,k,h=>h
 | .tup es,ρ,S,Q,k,h=>h
 | .lst es,ρ,S,Q,k,h=>h
 | .neg a,ρ,S,Q,k,h=>h
 | .dnew,ρ,S,Q,k,h=>h
 | .disp es,ρ,S,Q,k,h=>h
 | .chn o o' a b d,ρ,S,Q,k,h=>Ey.mpr (AZ ((aQ a (cg (cg k)) h).mono λp hp=>(aQ b (dh (cg k)) hp).mono λq hq=>let ⟨c,e,h1,h2⟩:=bS hq; #[c,e,λz=>(aQ d (dh k) (h1 z)).mono λr hr=>(bS hr).mono λs hs=>o5 hs,λz=>#[false,rfl,h2 z]]))
 | .ite t a b,ρ,S,Q,k,h=>h
 | .comp elt tg it cs cap,ρ,S,Q,k,h=>h
end
mutual
theorem EQ:∀(s:Sm) {ρ:Fm} {S:aa} {K:Fm->aa->Prop} {Q:QO},GV s=true->wS Φ fuel s ρ S K Q->Wp (fJ Φ fuel s ρ S) (o7 K Q)
 | .set i e,ρ,S,K,Q,k,h=>CI.mpr (aQ e k h)
 | .asg is e,ρ,S,K,Q,k,h=>CJ.mpr ((aQ e k h).mono λp hp=>let ⟨ws,e1,h1⟩:=EN hp; let ⟨ρ',e2,h2⟩:=bS h1; #[ws,ρ',e1,e2,h2])
 | .par i j es,ρ,S,K,Q,k,h=>CK.mpr ((gM es k h).mono λp hp=>EO hp)
 | .put o i e,ρ,S,K,Q,k,h=>CL.mpr ((aQ e (dh k) h).mono λp hp=>(aQ o (cg (cg k)) hp).mono λq hq=>(aQ i (dh (cg k)) hq).mono λr hr=>bS hr)
 | .ex e,ρ,S,K,Q,k,h=>EE.mpr (aQ e k h)
 | .ret e,ρ,S,K,Q,k,h=>CM.mpr (aQ e k h)
 | .retN,ρ,S,K,Q,k,h=>#[_,rfl,h]
 | .pass,ρ,S,K,Q,k,h=>#[_,rfl,h]
 | .brk,ρ,S,K,Q,k,h=>#[_,rfl,h]
 | .cont,ρ,S,K,Q,k,h=>#[_,rfl,h]
 | .bad,ρ,S,K,Q,k,h=>h.elim
 | .ite t a b,ρ,S,K,Q,k,h=>CN.mpr ((iy t (cg (cg k)) h).mono λp hp=>by
   obtain⟨h1,h2⟩:=hp (o7 K Q) (λρ' S' z=>z) (λo S' hn z=>by cases o <;> first|exact z|exact absurd rfl (hn _))
   exact#[λz=>i3 a (dh (cg k)) (h1 z),λz=>i3 b (dh k) (h2 z)])
 | .whl t b,ρ,S,K,Q,k,h=>h
 | .loop tg it b,ρ,S,K,Q,k,h=>h
theorem i3:∀(ss:Ss) {ρ:Fm} {S:aa} {Q:QO},fT ss=true->Ad Φ fuel ss ρ S Q->Wp (fR Φ fuel ss ρ S) Q
 | .nil,ρ,S,Q,k,h=>ED.mpr h
 | .cons s ss,ρ,S,Q,k,h=>CH.mpr ((EQ s (cg k) h).mono λp hp=>by
   obtain⟨o,S1⟩:=p;cases o with
   | nx ρ'=>exact#[λρ2 e=>by cases e; exact i3 ss (dh k) hp,λz=>absurd rfl (z ρ')]
   | _=>exact#[λρ2 e=>(by cases e),λ_=>hp])
end
structure wZ (Φ:HM->FF)(fuel:Hs)(ss:Ss)(ρ:Fm)(S:aa)(Q:QO):Prop where
 out:Ad Φ fuel ss ρ S Q
theorem ER {ss:Ss}{ρ:Fm}{S:aa}{Q:QO}:Ad Φ fuel ss ρ S Q=wZ Φ fuel ss ρ S Q:=propext #[λh=>#[h],λh=>h.out]
theorem CQ {defs:Hj (HM×Df)}{d:Hs}{f:HM}{n:Hs}{ws:Hj W}{df:Df}{S:aa}{Q:QW}(h:defs.lookup f=gV df)(hn:ws.length=n)(hl:ws.length=df.ps.length)(ok:fT df.body=true)
  (hb:∀Q':QO,(∀w S',Q (w,S')->Q' (.rt w,S'))->wZ (ak defs fuel d) fuel df.body (ff df.N ws) S Q'):wO (aC (ak defs fuel (d+1)) f n ws S) Q:=by
 unfold aC;rw[HY hn];exact EM (t8 h hl ((i3 _ ok (hb (λp=>match p.1 with|.rt w=>Q (w,p.2)|_=>IY) λw S' q=>q).out).mono λp hp=>by
  obtain⟨o,S1⟩:=p;cases o <;> first|exact hp|exact hp.elim))
end
section
variable{Φ:HM->FF}{fuel:Hs}{ρ:Fm}{S:aa}{K:Fm->aa->Prop}{Q:QO}
noncomputable def ub (Φ:HM->FF)(fuel:Hs)(b:Ss)(ρ:Fm)(S:aa)(I:Fm->aa->Prop)(Q:QO):Prop:=∀Q':QO,(∀ρ' S',I ρ' S'->Q' (.nx ρ',S'))->(∀w S',Q (.rt w,S')->Q' (.rt w,S'))->wZ Φ fuel b ρ S Q'
theorem fU {tg:Tg}{it:Ie}{b:Ss}{mi:MI}{S1:aa}{xs:Hj W}(I:Hs->Fm->aa->Prop)(ok:fT b=true)(hi:jv Φ it ρ S=gV (mi,S1))(hat:∀i ρ S,I i ρ S->mi.at S i=gV xs[i]?)(hl:mi.len S1=gV xs.length)(h0:I 0 ρ S1)
  (hstep:∀(i:Hs) (w:W) (ρ:Fm) (S:aa),xs[i]?=gV w->I i ρ S->wO (eJ tg w ρ S) λq=>ub Φ fuel b q.1 q.2 (I (i+1)) Q) (hend:∀ρ S,I xs.length ρ S->K ρ S):Wp (fJ Φ fuel (.loop tg it b) ρ S) (o7 K Q):=by
 rw[fJ,EF];refine#[_,hi,xs.length,hl,?_];refine iZ (Q:=o7 K Q) I hat (λi w ρ S h1 h2=>?_) (λρ S h=>hend ρ S h) _ 0 ρ S1 ∅ h0
 exact(bS (hstep i w ρ S h1 h2)).mono λq hq=>i3 b ok (wZ.out (hq _ (λ_ _ h=>h) λ_ _ h=>h))
theorem bW {e:E}{Q:QW}(ok:dL e=true)(h:wE Φ e ρ S Q):∃w S',az Φ e ρ S=gV (w,S')/\Q (w,S'):=let ⟨⟨w,S'⟩,a,b⟩:=aQ e ok h; #[w,S',a,b]
theorem bD {i0:Hs}{e:E}{b:Ss}(j:Hy)(I:Hs->Fm->aa->Prop)(oe:dL e=true)(ok:fT b=true)(hj : -(2 ^ 62)<=j/\j < 2 ^ 62)(he:wE Φ e ρ S λp=>p.1=.int j/\I 0 ρ p.2)
  (hstep:∀(i:Hs) (ρ:Fm) (S:aa),(i:Hy) < j->I i ρ S->ub Φ fuel b (ρ.set i0 (gV (.int i))) S (I (i+1)) Q) (hend:∀ρ S,I j.toNat ρ S->K ρ S):Wp (fJ Φ fuel (.loop (.nm i0) (.rng #v[e]) b) ρ S) (o7 K Q):=by
 obtain⟨w,S1,e1,rfl,h0⟩:=bW oe he;have hl:(dc 0 j.toNat).length=j.toNat:=by simp[dc]
 refine fU (mi:=.its (dc 0 j.toNat)) (S1:=S1) (xs:=dc 0 j.toNat) I ok ?_ (λ_ _ _ _=>rfl) rfl h0 (λi w ρ S hw hI=>?_) λρ S hI=>hend ρ S (hl ▸ hI)
 ·simp only[jv,de,dG,io,qj,e1];rw[HY hj]
 ·rw[d4]at hw;split at hw
  ·rename_i hk;cases hw;rw[LG];exact hstep i ρ S ∅ hI
  ·cases hw
theorem for_tup {tg:Tg}{e:E}{b:Ss}(xs:Hj W)(I:Hs->Fm->aa->Prop)(oe:dL e=true)(ok:fT b=true)(he:wE Φ e ρ S λp=>p.1=.tup xs/\I 0 ρ p.2)
  (hstep:∀(i:Hs) (w:W) (ρ:Fm) (S:aa),xs[i]?=gV w->I i ρ S->wO (eJ tg w ρ S) λq=>ub Φ fuel b q.1 q.2 (I (i+1)) Q) (hend:∀ρ S,I xs.length ρ S->K ρ S):Wp (fJ Φ fuel (.loop tg (.seq e) b) ρ S) (o7 K Q):=by
 obtain⟨w,S1,e1,rfl,h0⟩:=bW oe he;exact fU (mi:=.its xs) (S1:=S1) I ok (by simp only[jv,eP,e1]) (λ_ _ _ _=>rfl) rfl h0 hstep hend
theorem jC {tg:Tg}{e:E}{b:Ss}(t:Hs)(xs:Hj W)(I:Hs->Fm->aa->Prop)(oe:dL e=true)(ok:fT b=true)(he:wE Φ e ρ S λp=>p.1=.ref t/\I 0 ρ p.2)(hat:∀i ρ S,I i ρ S->S[t]?=gV (.lst xs))
  (hstep:∀(i:Hs) (w:W) (ρ:Fm) (S:aa),xs[i]?=gV w->I i ρ S->wO (eJ tg w ρ S) λq=>ub Φ fuel b q.1 q.2 (I (i+1)) Q) (hend:∀ρ S,I xs.length ρ S->K ρ S):Wp (fJ Φ fuel (.loop tg (.seq e) b) ρ S) (o7 K Q):=by
 obtain⟨w,S1,e1,rfl,h0⟩:=bW oe he;exact fU (mi:=.live t) (S1:=S1) I ok (by simp only[jv,eP,e1,aJ (hat _ _ _ h0)]) (λi ρ S h=>by simp only[MI.at,aJ (hat _ _ _ h)]) (by simp only[MI.len,aJ (hat _ _ _ h0),Iv]) h0 hstep hend
theorem ES {t:E}{b:Ss}(I:Hs->Fm->aa->Prop)(m:Hs)(ot:dL t=true)(ok:fT b=true)(hm:m < fuel)(h0:I m ρ S)
  (hstep:∀m ρ S,I m ρ S->wT Φ t ρ S λk=>(k.1=true->∃m',m=m'+1/\ub Φ fuel b ρ k.2 (I m') Q)/\(k.1=false->K ρ k.2)):Wp (fJ Φ fuel (.whl t b) ρ S) (o7 K Q):=by
 rw[fJ];refine j9 (Q:=o7 K Q) I (λm ρ S hI=>(iy t ot (hstep m ρ S hI)).mono λk hk=>#[λz=>?_,λz=>hk.2 z]) fuel m ρ S hm h0
 obtain⟨m',e,h⟩:=hk.1 z;exact#[m',e,i3 b ok (wZ.out (h _ (λ_ _ h=>h) λ_ _ h=>h))]
noncomputable def wC (Φ:HM->FF):Es->Fm->aa->QB->Prop
 | .nil,_,S,Q=>Q (true,S)
 | .cons e .nil,ρ,S,Q=>wT Φ e ρ S Q
 | .cons _ (.cons _ _),_,_,_=>IY
theorem Bd {cs:Es}{Q:QB}(ok:n0 cs=true)(h:wC Φ cs ρ S Q):Wp (z5 Φ cs ρ S) Q:=by
 match cs,h,ok with
 | .nil,h,_=>exact EG.mpr h
 | .cons e .nil,h,ok=>exact EH.mpr (iy e (cg ok) h)
noncomputable def fW (Φ:HM->FF)(elt:E)(cs:Es)(ρ:Fm)(S:aa)(G:W->Fm->aa->Prop)(N:Fm->aa->Prop):Prop:=wC Φ cs ρ S λk=>(k.1=true->wE Φ elt ρ k.2 λy=>G y.1 ρ y.2)/\(k.1=false->N ρ k.2)
theorem kh {elt:E}{tg:Tg}{it:Ie}{cs:Es}{cap:Hj (Hr Hs)}{mi:MI}{S1:aa}{xs:Hj W}{Q:QW}(I:Hs->Hj W->Fm->aa->Prop)(oe:dL elt=true)(oc:n0 cs=true)(hi:jv Φ it ρ S=gV (mi,S1))(hat:∀i ys ρ S,I i ys ρ S->mi.at S i=gV xs[i]?)(hl:mi.len S1=gV xs.length)(h0:I 0 [] (eZ cap ρ) S1)
  (hstep:∀(i:Hs) (w:W) (ys:Hj W) (ρ:Fm) (S:aa),xs[i]?=gV w->I i ys ρ S->wO (eJ tg w ρ S) λq=>fW Φ elt cs q.1 q.2 (λy=>I (i+1) (ys++[y])) (I (i+1) ys))
  (hend:∀ys ρ S,I xs.length ys ρ S->ys.length<=sizeLine/\Q (.ref S.length,S++[.lst ys])):Wp (az Φ (.comp elt tg it cs cap) ρ S) Q:=by
 rw[wD];refine#[_,hi,xs.length,hl,?_];refine(dJ (xs:=xs) (Q:=λq=>q.1.length<=sizeLine/\Q (.ref q.2.length,q.2++[.lst q.1])) I hat (λi w ys ρ S h1 h2=>?_) hend xs.length 0 [] _ S1 ∅ h0).mono λq hq=>by simpa using hq
 exact(bS (hstep i w ys ρ S h1 h2)).mono λq hq=>(Bd oc hq).mono λk hk=>#[λz=>aQ elt oe (hk.1 z),hk.2]
theorem eA {elt e:E}{i0:Hs}{cs:Es}{cap:Hj (Hr Hs)}{Q:QW}(j:Hy)(I:Hs->Hj W->Fm->aa->Prop)(oi:dL e=true)(oe:dL elt=true)(oc:n0 cs=true)(hj : -(2 ^ 62)<=j/\j < 2 ^ 62)(he:wE Φ e ρ S λp=>p.1=.int j/\I 0 [] (eZ cap ρ) p.2)
  (hstep:∀(i:Hs) (ys:Hj W) (ρ:Fm) (S:aa),(i:Hy) < j->I i ys ρ S->fW Φ elt cs (ρ.set i0 (gV (.int i))) S (λy=>I (i+1) (ys++[y])) (I (i+1) ys))
  (hend:∀ys ρ S,I j.toNat ys ρ S->ys.length<=sizeLine/\Q (.ref S.length,S++[.lst ys])):Wp (az Φ (.comp elt (.nm i0) (.rng #v[e]) cs cap) ρ S) Q:=by
 obtain⟨w,S1,e1,rfl,h0⟩:=bW oi he;have hl:(dc 0 j.toNat).length=j.toNat:=by simp[dc]
 refine kh (mi:=.its (dc 0 j.toNat)) (S1:=S1) (xs:=dc 0 j.toNat) I oe oc ?_ (λ_ _ _ _ _=>rfl) rfl h0 (λi w ys ρ S hw hI=>?_) λys ρ S hI=>hend ys ρ S (hl ▸ hI)
 ·simp only[jv,de,dG,io,qj,e1];rw[HY hj]
 ·rw[d4]at hw;split at hw
  ·rename_i hk;cases hw;rw[LG];exact hstep i ys ρ S ∅ hI
  ·cases hw
theorem sd {elt e:E}{tg:Tg}{cs:Es}{cap:Hj (Hr Hs)}{Q:QW}(xs:Hj W)(I:Hs->Hj W->Fm->aa->Prop)(oi:dL e=true)(oe:dL elt=true)(oc:n0 cs=true)(he:wE Φ e ρ S λp=>p.1=.tup xs/\I 0 [] (eZ cap ρ) p.2)
  (hstep:∀(i:Hs) (w:W) (ys:Hj W) (ρ:Fm) (S:aa),xs[i]?=gV w->I i ys ρ S->wO (eJ tg w ρ S) λq=>fW Φ elt cs q.1 q.2 (λy=>I (i+1) (ys++[y])) (I (i+1) ys))
  (hend:∀ys ρ S,I xs.length ys ρ S->ys.length<=sizeLine/\Q (.ref S.length,S++[.lst ys])):Wp (az Φ (.comp elt tg (.seq e) cs cap) ρ S) Q:=by
 obtain⟨w,S1,e1,rfl,h0⟩:=bW oi he;exact kh (mi:=.its xs) (S1:=S1) I oe oc (by simp only[jv,eP,e1]) (λ_ _ _ _ _=>rfl) rfl h0 hstep hend
theorem se {elt e:E}{tg:Tg}{cs:Es}{cap:Hj (Hr Hs)}{Q:QW}(t:Hs)(xs:Hj W)(I:Hs->Hj W->Fm->aa->Prop)(oi:dL e=true)(oe:dL elt=true)(oc:n0 cs=true)(he:wE Φ e ρ S λp=>p.1=.ref t/\I 0 [] (eZ cap ρ) p.2)(hat:∀i ys ρ S,I i ys ρ S->S[t]?=gV (.lst xs))
  (hstep:∀(i:Hs) (w:W) (ys:Hj W) (ρ:Fm) (S:aa),xs[i]?=gV w->I i ys ρ S->wO (eJ tg w ρ S) λq=>fW Φ elt cs q.1 q.2 (λy=>I (i+1) (ys++[y])) (I (i+1) ys))
  (hend:∀ys ρ S,I xs.length ys ρ S->ys.length<=sizeLine/\Q (.ref S.length,S++[.lst ys])):Wp (az Φ (.comp elt tg (.seq e) cs cap) ρ S) Q:=by
 obtain⟨w,S1,e1,rfl,h0⟩:=bW oi he;exact kh (mi:=.live t) (S1:=S1) I oe oc (by simp only[jv,eP,e1,aJ (hat _ _ _ _ h0)]) (λi ys ρ S h=>by simp only[MI.at,aJ (hat _ _ _ _ h)]) (by simp only[MI.len,aJ (hat _ _ _ _ h0),Iv]) h0 hstep hend
theorem sf {elt a:E}{tg:Tg}{cs:Es}{cap:Hj (Hr Hs)}{Q:QW}(xs:Hj W)(I:Hs->Hj W->Fm->aa->Prop)(oa:dL a=true)(oe:dL elt=true)(oc:n0 cs=true)(he:wE Φ a ρ S λp=>Fn p.1=gV xs/\I 0 [] (eZ cap ρ) p.2)
  (hstep:∀(i:Hs) (x:W) (ys:Hj W) (ρ:Fm) (S:aa),xs[i]?=gV x->I i ys ρ S->wO (eJ tg (.tup [.int i,x]) ρ S) λq=>fW Φ elt cs q.1 q.2 (λy=>I (i+1) (ys++[y])) (I (i+1) ys))
  (hend:∀ys ρ S,I xs.length ys ρ S->ys.length<=sizeLine/\Q (.ref S.length,S++[.lst ys])):Wp (az Φ (.comp elt tg (.enu #v[a]) cs cap) ρ S) Q:=by
 obtain⟨x,S1,e1,h1,h0⟩:=bW oa he;have hl:(iV xs).length=xs.length:=by simp[iV]
 refine kh (mi:=.its (iV xs)) (S1:=S1) (xs:=iV xs) I oe oc (by simp only[jv,de,dG,io,wb,e1,h1]) (λ_ _ _ _ _=>rfl) rfl h0 (λi w ys ρ S hw hI=>?_) λys ρ S hI=>hend ys ρ S (hl ▸ hI)
 obtain⟨y,hy,rfl⟩:=jZ hw;exact hstep i y ys ρ S hy hI
theorem st {s:Sm}{ss:Ss}(h:wS Φ fuel s ρ S (λρ' S'=>wZ Φ fuel ss ρ' S' Q) Q):wZ Φ fuel (.cons s ss) ρ S Q:=#[by
 dsimp only[Ad];simp only[ER];exact h]
theorem aL (h:Q (.nx ρ,S)):wZ Φ fuel .nil ρ S Q:=#[h]
theorem ah {t:HX}{a b:Ss}{Q Q0:QO}{K:Fm->aa->Prop}(ha:t=true->∀Q':QO,(∀ρ' S',K ρ' S'->Q' (.nx ρ',S'))->(∀w S',Q (.rt w,S')->Q' (.rt w,S'))->wZ Φ fuel a ρ S Q')(hb:t=false->∀Q':QO,(∀ρ' S',K ρ' S'->Q' (.nx ρ',S'))->(∀w S',Q (.rt w,S')->Q' (.rt w,S'))->wZ Φ fuel b ρ S Q') :
  ∀Q':QO,(∀ρ' S',K ρ' S'->Q' (.nx ρ',S'))->(∀o S',(∀ρ',o≠.nx ρ')->Q (o,S')->Q' (o,S'))->(t=true->Ad Φ fuel a ρ S Q')/\(t=false->Ad Φ fuel b ρ S Q'):=
 λQ' h1 h2=>#[λe=>(ha e Q' h1 λw S'=>h2 (.rt w) S' (λ_ z=>nomatch z)).out,λe=>(hb e Q' h1 λw S'=>h2 (.rt w) S' (λ_ z=>nomatch z)).out]
end
noncomputable def d7:Ss:=
 #v[.ret (.lst #v[.bi .list #v[.v 0],.c (.int 0),.c (.int 0),.c (.int 1),.c (.int 0)])]
noncomputable def cM:Ss:=
 #v[.ite (.and (.cmp .eq (.ix (.v 0) (.c (.int 2))) (.c (.int 0))) (.cmp .lt (.ix (.v 0) (.c (.int 1))) (.bi .len #v[.ix (.v 0) (.c (.int 0))]))) #v[.set 2 (.ix (.ix (.v 0) (.c (.int 0))) (.ix (.v 0) (.c (.int 1)))),.put (.v 0) (.c (.int 1)) (.op .add (.ix (.v 0) (.c (.int 1))) (.c (.int 1))),.ite (.cmp .ge (.v 2) (.op .pow (.c (.int 10)) (.c (.int 18)))) #v[.put (.v 0) (.c (.int 2)) (.v 2)] #v[.put (.v 0) (.c (.int 3)) (.op .mod (.op .add (.op .add (.op .mul (.ix (.v 0) (.c (.int 3))) (.c (.int 40013))) (.op .mod (.v 2) (.c (.int 1000003)))) (.c (.int 1))) (.c (.int 2147483647)))]] .nil,.ite (.cmp .gt (.ix (.v 0) (.c (.int 2))) (.c (.int 0))) #v[.set 3 (.op .mod (.ix (.v 0) (.c (.int 2))) (.v 1)),.put (.v 0) (.c (.int 2)) (.op .fdiv (.ix (.v 0) (.c (.int 2))) (.v 1)),.ret (.v 3)] .nil,.put (.v 0) (.c (.int 4)) (.op .add (.ix (.v 0) (.c (.int 4))) (.c (.int 1))),.put (.v 0) (.c (.int 3)) (.op .mod (.op .add (.op .add (.op .mul (.ix (.v 0) (.c (.int 3))) (.c (.int 48271))) (.c (.int 12820163))) (.ix (.v 0) (.c (.int 4)))) (.c (.int 2147483647))),.ret (.op .mod (.op .fdiv (.op .mod (.op .mul (.op .add (.op .mod (.ix (.v 0) (.c (.int 3))) (.c (.int 65521))) (.c (.int 1))) (.op .add (.op .fdiv (.ix (.v 0) (.c (.int 3))) (.c (.int 65521))) (.c (.int 7919)))) (.c (.int 1000003))) (.c (.int 7))) (.v 1))]
noncomputable def dq:Ss:=
 #v[.ite (.cmp .lt (.v 3) (.v 2)) #v[.ret (.ix (.ix (.ix (.v 1) (.v 2)) (.c (.int 1))) (.v 3))] .nil,.ret (.ix (.ix (.ix (.v 0) (.c (.int 1))) (.ix (.ix (.ix (.v 1) (.v 3)) (.c (.int 1))) (.v 2))) (.c (.int 1)))]
noncomputable def fg:Ss:=
 #v[.set 3 (.lst .nil),.loop (.nm 4) (.rng #v[.bi .len #v[.v 2]]) #v[.set 5 (.ix (.v 2) (.v 4)),.ex (.me .append (.v 3) #v[.tup #v[.ix (.ix (.v 1) (.v 5)) (.c (.int 0)),.bi .tuple #v[.comp (.own "_law_between" 4 #v[.v 3,.v 4,.v 2,.v 1]) (.nm 1) (.seq (.sl (.v 2) .no (.yes (.v 4)))) .nil [td,td,gV 5,gV 0,gV 1]]]])],.ret (.bi .tuple #v[.v 3])]
noncomputable def fX:Ss:=
 #v[.ret (.lst #v[.tup #v[.c (.int 0),.c (.int 1),.c (.int 2)],.tup #v[.c (.int 0),.c (.int 2),.c (.int 1)],.tup #v[.c (.int 1),.c (.int 0),.c (.int 2)],.tup #v[.c (.int 1),.c (.int 2),.c (.int 0)],.tup #v[.c (.int 2),.c (.int 0),.c (.int 1)],.tup #v[.c (.int 2),.c (.int 1),.c (.int 0)]])]
noncomputable def dM:Ss:=
 #v[.ret (.bi .min #v[.comp (.own "_law_part" 3 #v[.v 2,.v 3,.v 1]) (.nm 1) (.seq (.own "_law_turns" 0 .nil)) .nil [td,td,gV 0,gV 1]])]
noncomputable def eB:Ss:=
 #v[.set 2 (.ix (.lst #v[.lst #v[.tup #v[.c (.int 0)]],.lst #v[.tup #v[.c (.int 0),.c (.int 1)],.tup #v[.c (.int 1),.c (.int 0)]],.lst #v[.tup #v[.c (.int 0),.c (.int 1),.c (.int 2)],.tup #v[.c (.int 1),.c (.int 0),.c (.int 2)],.tup #v[.c (.int 0),.c (.int 2),.c (.int 1)]]]) (.op .sub (.v 1) (.c (.int 1)))),.ret (.ix (.v 2) (.own "_law_pick" 2 #v[.v 0,.bi .len #v[.v 2]]))]
noncomputable def dt:Ss:=
 #v[.set 4 (.own "_law_names" 2 #v[.v 0,.op .add (.v 1) (.bi .len #v[.v 2])]),.set 5 (.bi .tuple #v[.comp (.tup #v[.ix (.v 4) (.op .add (.v 3) (.v 1)),.ix (.v 2) (.v 1)]) (.nm 1) (.rng #v[.bi .len #v[.v 2]]) .nil [td,td,gV 2,gV 1,gV 4]]),.ret (.tup #v[.sl (.v 4) .no (.yes (.v 1)),.v 5,.bi .tuple #v[.bi .sorted #v[.v 3]]])]
noncomputable def ci:Ss:=
 #v[.set 3 (.lst .nil),.loop (.nm 4) (.rng #v[.c (.int 3)]) #v[.ex (.me .append (.v 3) #v[.tup #v[.own "_law_pick" 2 #v[.v 0,.v 1],.bi .tuple #v[.comp (.own "_law_pick" 2 #v[.v 2,.v 3]) (.nm 1) (.rng #v[.v 4]) .nil [td,td,gV 0,gV 2]]]])],.ret (.bi .tuple #v[.v 3])]
noncomputable def eC:Ss:=
 #v[.set 1 (.lst #v[.tup #v[.c (.int 1),.c (.int 1)],.tup #v[.c (.int 2),.c (.int 1)],.tup #v[.c (.int 3),.c (.int 1)],.tup #v[.c (.int 1),.c (.int 2)],.tup #v[.c (.int 1),.c (.int 2)],.tup #v[.c (.int 2),.c (.int 2)],.tup #v[.c (.int 2),.c (.int 2)],.tup #v[.c (.int 3),.c (.int 2)],.tup #v[.c (.int 1),.c (.int 3)],.tup #v[.c (.int 1),.c (.int 3)],.tup #v[.c (.int 2),.c (.int 3)]]),.ret (.ix (.v 1) (.own "_law_pick" 2 #v[.v 0,.c (.int 11)]))]
noncomputable def cY:Ss:=
 #v[.asg [1,2] (.own "_law_sizes" 1 #v[.v 0]),.set 3 (.own "_law_rule_of" 4 #v[.v 0,.v 1,.own "_law_backs" 2 #v[.v 0,.v 2],.tup .nil]),.set 4 .dnew,.loop (.nm 5) (.rng #v[.own "_law_pick" 2 #v[.v 0,.c (.int 9)]]) #v[.put (.v 4) (.own "_law_figure" 2 #v[.v 3,.own "_law_free_three" 3 #v[.v 0,.v 1,.v 2]]) (.c (.bl true))],.ret (.tup #v[.ix (.v 3) (.c (.int 0)),.ix (.v 3) (.c (.int 1)),.bi .tuple #v[.bi .sorted #v[.v 4]]])]
noncomputable def b8:Ss:=
 #v[.set 1 (.lst #v[.tup #v[.tup #v[.c (.int 1),.c (.int 0)],.disp #v[.tup #v[.c (.int 0),.c (.int 0)],.lst #v[.c (.int 0)]],.c (.int 3)],.tup #v[.tup #v[.c (.int 0),.c (.int 2),.c (.int 1)],.disp #v[.tup #v[.c (.int 1),.c (.int 1)],.lst #v[.c (.int 1)]],.c (.int 2)],.tup #v[.tup #v[.c (.int 0),.c (.int 1)],.disp #v[.tup #v[.c (.int 1),.c (.int 1)],.lst #v[.c (.int 1)]],.c (.int 3)]]),.ex (.me .append (.v 1) #v[.tup #v[.tup #v[.c (.int 0),.c (.int 1)],.disp #v[.tup #v[.c (.int 1),.c (.int 1)],.lst #v[.c (.int 1)],.tup #v[.c (.int 0),.c (.int 0)],.lst #v[.c (.int 1)]],.c (.int 3)]]),.ex (.me .append (.v 1) #v[.tup #v[.tup #v[.c (.int 0),.c (.int 1)],.disp #v[.tup #v[.c (.int 1),.c (.int 1)],.lst .nil],.c (.int 1)]]),.ex (.me .append (.v 1) #v[.tup #v[.tup #v[.c (.int 0),.c (.int 2),.c (.int 1)],.disp #v[.tup #v[.c (.int 0),.c (.int 0)],.lst #v[.c (.int 0)],.tup #v[.c (.int 0),.c (.int 1)],.lst #v[.c (.int 1)],.tup #v[.c (.int 1),.c (.int 0)],.lst #v[.c (.int 1)],.tup #v[.c (.int 1),.c (.int 1)],.lst #v[.c (.int 1)]],.c (.int 2)]]),.ex (.me .append (.v 1) #v[.tup #v[.tup #v[.c (.int 1),.c (.int 0)],.dnew,.c (.int 3)]]),.ex (.me .append (.v 1) #v[.tup #v[.tup #v[.c (.int 0),.c (.int 1),.c (.int 2)],.disp #v[.tup #v[.c (.int 2),.c (.int 2)],.lst #v[.c (.int 2)],.tup #v[.c (.int 1),.c (.int 2)],.lst #v[.c (.int 1)],.tup #v[.c (.int 2),.c (.int 1)],.lst #v[.c (.int 1)],.tup #v[.c (.int 1),.c (.int 1)],.lst #v[.c (.int 1),.c (.int 2)]],.c (.int 2)]]),.ex (.me .append (.v 1) #v[.tup #v[.tup #v[.c (.int 0),.c (.int 1),.c (.int 2)],.disp #v[.tup #v[.c (.int 0),.c (.int 0)],.lst #v[.c (.int 0),.c (.int 1)]],.c (.int 2)]]),.ret (.ix (.v 1) (.own "_law_pick" 2 #v[.v 0,.c (.int 9)]))]
noncomputable def dN:Ss:=
 #v[.set 5 (.disp #v[.tup #v[.c (.int 1),.c (.int 0)],.v 2,.tup #v[.c (.int 2),.c (.int 0)],.v 3,.tup #v[.c (.int 2),.c (.int 1)],.v 4]),.loop (.nm 6) (.seq (.bi .list #v[.v 5])) #v[.put (.v 5) (.tup #v[.ix (.v 6) (.c (.int 1)),.ix (.v 6) (.c (.int 0))]) (.ix (.v 0) (.ix (.v 5) (.v 6)))],.loop (.tp [7,8,9]) (.seq (.own "_law_turns" 0 .nil)) #v[.ite (.cmp .notin (.ix (.v 5) (.tup #v[.v 7,.v 9])) (.me .get (.v 1) #v[.tup #v[.ix (.v 5) (.tup #v[.v 7,.v 8]),.ix (.v 5) (.tup #v[.v 8,.v 9])],.lst #v[.ix (.v 5) (.tup #v[.v 7,.v 9])]])) #v[.ret (.c (.bl true))] .nil],.ret (.c (.bl false))]
noncomputable def bj:Ss:=
 #v[.set 3 (.bi .len #v[.v 1]),.set 4 (.lst #v[.lst #v[.tup #v[.c (.int 0)]],.lst #v[.tup #v[.c (.int 0),.c (.int 1)],.tup #v[.c (.int 1),.c (.int 0)]]]),.ex (.me .append (.v 4) #v[.lst #v[.tup #v[.c (.int 0),.c (.int 1),.c (.int 2)],.tup #v[.c (.int 0),.c (.int 2),.c (.int 1)],.tup #v[.c (.int 2),.c (.int 0),.c (.int 1)],.tup #v[.c (.int 2),.c (.int 1),.c (.int 0)]]]),.set 5 (.ix (.v 4) (.op .sub (.v 3) (.c (.int 1)))),.ite (.cmp .eq (.v 1) (.tup #v[.c (.int 0),.c (.int 1),.c (.int 2)])) #v[.set 5 (.own "_law_turns" 0 .nil)] .nil,.set 6 (.ix (.v 5) (.own "_law_pick" 2 #v[.v 0,.bi .len #v[.v 5]])),.set 7 (.op .mul (.lst #v[.c (.int 0)]) (.v 3)),.loop (.nm 8) (.rng #v[.v 3]) #v[.put (.v 7) (.ix (.v 6) (.v 8)) (.ix (.v 6) (.ix (.v 1) (.v 8)))],.set 9 .dnew,.loop (.tp [10,11]) (.seq (.v 2)) #v[.put (.v 9) (.tup #v[.ix (.v 6) (.v 10),.ix (.v 6) (.v 11)]) (.comp (.ix (.v 2) (.v 1)) (.nm 1) (.seq (.ix (.v 2) (.tup #v[.v 10,.v 11]))) .nil [td,td,gV 6])],.ret (.tup #v[.bi .tuple #v[.v 7],.v 9])]
noncomputable def b9:Ss:=
 #v[.set 1 (.own "_law_pick" 2 #v[.v 0,.c (.int 7)]),.ite (.cmp .eq (.v 1) (.c (.int 0))) #v[.ret (.own "_law_free_rule" 1 #v[.v 0])] .nil,.ite (.cmp .eq (.v 1) (.c (.int 1))) #v[.ret (.own "_law_one_way_rule" 1 #v[.v 0])] .nil,.asg [2,3,4] (.own "_law_laying_kind" 1 #v[.v 0]),.set 5 (.op .add (.c (.int 1)) (.own "_law_pick" 2 #v[.v 0,.v 4])),.asg [2,3] (.own "_law_numbered" 3 #v[.v 0,.v 2,.v 3]),.set 6 (.own "_law_rule_of" 4 #v[.v 0,.v 5,.v 2,.tup .nil]),.set 7 .dnew,.set 8 (.bi .len #v[.v 2]),.loop (.nm 9) (.rng #v[.op .mul (.op .mul (.v 8) (.v 8)) (.v 8)]) #v[.par 10 11 #v[.op .mod (.v 9) (.v 8),.op .mod (.op .fdiv (.v 9) (.v 8)) (.v 8)],.set 12 (.op .fdiv (.op .fdiv (.v 9) (.v 8)) (.v 8)),.ite (.own "_law_breaks" 5 #v[.v 2,.v 3,.v 10,.v 11,.v 12]) #v[.loop (.nm 13) (.seq (.own "_law_rising" 1 #v[.v 5])) #v[.set 14 (.tup #v[.tup #v[.ix (.v 13) (.c (.int 0)),.tup .nil],.tup #v[.ix (.v 13) (.c (.int 1)),.tup #v[.v 10]]]),.put (.v 7) (.own "_law_figure" 2 #v[.v 6,.op .add (.v 14) (.tup #v[.tup #v[.ix (.v 13) (.c (.int 2)),.tup #v[.v 11,.v 12]]])]) (.c (.bl true))]] .nil],.ret (.tup #v[.ix (.v 6) (.c (.int 0)),.ix (.v 6) (.c (.int 1)),.bi .tuple #v[.bi .sorted #v[.v 7]]])]
noncomputable def dO:Ss:=
 #v[.set 1 (.lst .nil),.loop (.nm 2) (.rng #v[.v 0]) #v[.loop (.nm 3) (.rng2 #v[.v 2,.v 0]) #v[.set 1 (.op .add (.v 1) (.comp (.tup #v[.v 2,.v 3,.v 1]) (.nm 1) (.rng2 #v[.v 3,.v 0]) .nil [td,td,gV 2,gV 3]))]],.ret (.v 1)]
noncomputable def cD:Ss:=
 #v[.asg [1,2] (.own "_law_sizes" 1 #v[.v 0]),.set 3 (.own "_law_rule_of" 4 #v[.v 0,.v 1,.own "_law_backs" 2 #v[.v 0,.v 2],.tup .nil]),.set 5 (.comp (.v 1) (.nm 1) (.rng #v[.v 2]) #v[.cmp .eq (.ix (.ix (.ix (.v 2) (.c (.int 1))) (.v 1)) (.c (.int 1))) (.v 1)] [td,td,gV 3]),.ite (.or (.cmp .eq (.v 5) (.lst .nil)) (.cmp .eq (.v 2) (.c (.int 1)))) #v[.ret (.v 3)] .nil,.set 6 (.ix (.v 5) (.own "_law_pick" 2 #v[.v 0,.bi .len #v[.v 5]])),.set 7 .dnew,.loop (.nm 4) (.rng #v[.own "_law_pick" 2 #v[.v 0,.c (.int 9)]]) #v[.set 8 (.own "_law_free_three" 3 #v[.v 0,.v 1,.v 2]),.ite (.and (.cmp .ne (.ix (.ix (.ix (.v 8) (.c (.int 1))) (.c (.int 1))) (.c (.int 0))) (.v 6)) (.cmp .notin (.v 6) (.ix (.ix (.v 8) (.c (.int 2))) (.c (.int 1))))) #v[.put (.v 7) (.own "_law_figure" 2 #v[.v 3,.v 8]) (.c (.bl true))] .nil],.ret (.tup #v[.ix (.v 3) (.c (.int 0)),.ix (.v 3) (.c (.int 1)),.bi .tuple #v[.bi .sorted #v[.v 7]]])]
noncomputable def bP:Ss:=
 #v[.set 1 (.op .add (.c (.int 1)) (.own "_law_pick" 2 #v[.v 0,.c (.int 3)])),.set 2 (.comp (.tup #v[.tup #v[.v 1,.tup .nil],.tup #v[.v 1,.tup #v[.c (.int 0)]],.tup #v[.v 1,.tup #v[.c (.int 0),.c (.int 0)]]]) (.nm 1) (.rng #v[.v 1]) #v[.cmp .eq (.own "_law_pick" 2 #v[.v 2,.c (.int 2)]) (.c (.int 0))] [td,td,gV 0]),.ret (.own "_law_rule_of" 4 #v[.v 0,.v 1,.tup #v[.c (.int 0)],.v 2])]
noncomputable def bc:Ss:=
 #v[.set 1 (.own "_law_pick" 2 #v[.v 0,.c (.int 3)]),.ite (.cmp .eq (.v 1) (.c (.int 0))) #v[.ret (.own "_law_rule_of" 4 #v[.v 0,.c (.int 1),.tup #v[.c (.int 0),.c (.int 1)],.comp (.tup #v[.tup #v[.c (.int 0),.tup .nil],.tup #v[.c (.int 0),.tup #v[.v 1]],.tup #v[.c (.int 0),.tup #v[.v 1,.v 1]]]) (.nm 1) (.rng #v[.c (.int 2)]) .nil [td,td]])] .nil,.ite (.cmp .eq (.v 1) (.c (.int 1))) #v[.set 2 (.own "_law_rule_of" 4 #v[.v 0,.c (.int 2),.tup #v[.c (.int 0),.c (.int 1)],.tup .nil]),.set 3 .dnew,.loop (.nm 4) (.seq (.own "_law_rising" 1 #v[.c (.int 2)])) #v[.loop (.tp [5,6,7]) (.seq (.lst #v[.tup #v[.c (.int 1),.c (.int 1),.c (.int 0)],.tup #v[.c (.int 1),.c (.int 1),.c (.int 1)],.tup #v[.c (.int 1),.c (.int 0),.c (.int 1)],.tup #v[.c (.int 0),.c (.int 1),.c (.int 1)]])) #v[.set 8 (.tup #v[.tup #v[.ix (.v 4) (.c (.int 0)),.tup .nil],.tup #v[.ix (.v 4) (.c (.int 1)),.tup #v[.v 5]]]),.put (.v 3) (.own "_law_figure" 2 #v[.v 2,.op .add (.v 8) (.tup #v[.tup #v[.ix (.v 4) (.c (.int 2)),.tup #v[.v 6,.v 7]]])]) (.c (.bl true))]],.ret (.tup #v[.ix (.v 2) (.c (.int 0)),.ix (.v 2) (.c (.int 1)),.bi .tuple #v[.bi .sorted #v[.v 3]]])] .nil,.set 9 (.op .add (.c (.int 2)) (.own "_law_pick" 2 #v[.v 0,.c (.int 2)])),.set 3 (.comp (.tup #v[.tup #v[.c (.int 0),.tup .nil],.tup #v[.v 1,.tup #v[.c (.int 0)]],.tup #v[.op .sub (.v 2) (.c (.int 1)),.tup #v[.c (.int 0),.c (.int 0)]]]) (.nm 1) (.rng #v[.v 9]) .nil [td,td,gV 9]),.ret (.own "_law_rule_of" 4 #v[.v 0,.v 9,.tup #v[.c (.int 0)],.sl (.v 3) .no (.yes (.op .add (.c (.int 1)) (.own "_law_pick" 2 #v[.v 0,.v 9])))])]
noncomputable def Is (defs:Hj (HM×Df))(f:HM)(np nn:Hs)(b:Ss):Prop:=∃df:Df,defs.lookup f=gV df/\df.ps.length=np/\df.N.length=nn/\df.body=b
theorem al {defs:Hj (HM×Df)}{fuel d:Hs}{f:HM}{np nn:Hs}{b:Ss}{ws:Hj W}{S:aa}{Q:QW}(h:Is defs f np nn b)(hl:ws.length=np)(ok:fT b=true)
  (hb:∀Q':QO,(∀w S',Q (w,S')->Q' (.rt w,S'))->wZ (ak defs fuel d) fuel b (ws.map gV++Ik (nn - np) td) S Q'):wO (aC (ak defs fuel (d+1)) f np ws S) Q:=by
 obtain⟨df,h1,h2,h3,h4⟩:=h;subst h4;refine CQ h1 hl (hl.trans h2.symm) ok λQ' hR=>?_
 have:=hb Q' hR;unfold ff;rw[h3,hl];exact this
noncomputable def eE:Ss:=
 #v[.ret (.bi .tuple #v[.comp (.ix (.c (.str "abcdef")) (.v 1)) (.nm 1) (.rng #v[.v 1]) .nil [td,td]])]
structure Gen (defs:Hj (HM×Df)):Prop where
 pick:Is defs ("_law_pick" : HM) 2 4 cM
 names:Is defs ("_law_names" : HM) 2 2 eE
 between:Is defs ("_law_between" : HM) 4 4 dq
 part:Is defs ("_law_part" : HM) 3 6 fg
 turns:Is defs ("_law_turns" : HM) 0 0 fX
 figure:Is defs ("_law_figure" : HM) 2 2 dM
 backs:Is defs ("_law_backs" : HM) 2 3 eB
 rule_of:Is defs ("_law_rule_of" : HM) 4 6 dt
 free_three:Is defs ("_law_free_three" : HM) 3 5 ci
 sizes:Is defs ("_law_sizes" : HM) 1 2 eC
 any_rule:Is defs ("_law_any_rule" : HM) 1 6 cY
 laying_kind:Is defs ("_law_laying_kind" : HM) 1 2 b8
 breaks:Is defs ("_law_breaks" : HM) 5 10 dN
 numbered:Is defs ("_law_numbered" : HM) 3 12 bj
 laying_rule:Is defs ("_law_laying_rule" : HM) 1 15 b9
 rising:Is defs ("_law_rising" : HM) 1 4 dO
 free_rule:Is defs ("_law_free_rule" : HM) 1 9 cD
 one_way_rule:Is defs ("_law_one_way_rule" : HM) 1 3 bP
structure FlA (S:aa)(r q:Hs)(ns:Hj Hy)(i c x n:Hy):Prop where
 at_r:S[r]?=gV (.lst [.ref q,.int i,.int c,.int x,.int n])
 at_q:S[q]?=gV (.lst (ns.map W.int))
 lt:q < r
 i0:0<=i
 c0:0<=c
 x0:0<=x
 x1:x < 2147483647
theorem FlA.ne {S:aa}{r q:Hs}{ns:Hj Hy}{i c x n:Hy}(h:FlA S r q ns i c x n):q≠r:=Ip h.lt
noncomputable def Fl (S:aa)(r:Hs):Prop:=∃(q:Hs) (ns:Hj Hy) (i c x n:Hy),FlA S r q ns i c x n
theorem FlA.put {S:aa}{r q:Hs}{ns:Hj Hy}{i c x n i' c' x' n':Hy}(h:FlA S r q ns i c x n)(h1:0<=i')(h2:0<=c')(h3:0<=x')(h4:x' < 2147483647):FlA (S.set r (.lst [.ref q,.int i',.int c',.int x',.int n'])) r q ns i' c' x' n':=
 #[bG h.at_r,by rw[bh (Ne.symm h.ne)]; exact h.at_q,h.lt,h1,h2,h3,h4]
theorem Fl.keep {S S':aa}{r:Hs}(h:Fl S r)(h1:S'[r]?=S[r]?)(k:Kp r S S'):Fl S' r:=
 let ⟨q,ns,i,c,x,n,f⟩:=h; #[q,ns,i,c,x,n,by rw[h1]; exact f.at_r,k.get _ _ f.ne f.at_q,f.lt,f.i0,f.c0,f.x0,f.x1]
theorem Fl.lt {S:aa}{r:Hs}(h:Fl S r):r < S.length:=let ⟨_,_,_,_,_,_,f⟩:=h; b7 f.at_r
structure Ka (S S':aa):Prop where
 get:∀(j:Hs) (o:O),S[j]?=gV o->S'[j]?=gV o
 len:S.length<=S'.length
theorem Ka.refl {S:aa}:Ka S S:=#[λ_ _ h=>h,HC _]
theorem Ka.trans {S S' S'':aa}(a:Ka S S')(b:Ka S' S''):Ka S S'':=#[λj o h=>b.get j o (a.get j o h),Ih a.len b.len]
theorem Ka.push {S:aa}{o:O}:Ka S (S++[o]):=#[λj u h=>ar h,by simp]
theorem Ka.late {t:Hs}{S0 S:aa}{o:O}(a:Ka S0 S)(h:S0.length<=t):Ka S0 (S.set t o):=
 #[λj u e=>by have:=b7 e; rw[bh ∅]; exact a.get j u e,by simpa using a.len]
theorem Ka.kp {S S':aa}(a:Ka S S')(r:Hs):Kp r S S':=#[λj o _ h=>a.get j o h,a.len]
theorem Fl.ka {S S':aa}{r:Hs}(h:Fl S r)(k:Ka S S'):Fl S' r:=h.keep (by obtain⟨q,ns,i,c,x,n,f⟩:=h; rw[k.get _ _ f.at_r,f.at_r]) (k.kp r)
theorem Fl.own {S:aa}{r t:Hs}{o:O}(h:Fl S r)(ht:r < t):Fl (S.set t o) r:=by
 obtain⟨q,ns,i,c,x,n,f⟩:=h;have:=f.lt;exact#[q,ns,i,c,x,n,by rw[bh ∅]; exact f.at_r,by rw[bh ∅]; exact f.at_q,f.lt,f.i0,f.c0,f.x0,f.x1]
theorem d8 {S:aa}{r:Hs}{xs:Hj W}{i:Hs}{w:W}{Q:QW}(h:S[r]?=gV (.lst xs))(hw:xs[i]?=gV w)(q:Q (w,S)):wO (ju (.ref r) (.int (i:Hy)) S) Q:=ab (wH h (Hx i) (by rw[HI]; exact hw)) q
theorem lU {S:aa}{r:Hs}{xs:Hj W}{i:Hs}{w:W}{Q:aa->Prop}(h:S[r]?=gV (.lst xs))(hi:Qi (i+1) xs.length=true)(q:Q (S.set r (.lst (xs.set i w)))):wO (ii (.ref r) (.int (i:Hy)) w S) Q:=ab (A7 h (Hx i) (by rw[HI]; exact KC hi)) (by rw[HI]; exact q)
section
variable{defs:Hj (HM×Df)}{fuel d:Hs}{S:aa}{r:Hs}{Q:QW}
theorem aT (hd:Is defs ("_law_pick" : HM) 2 4 cM){m:Hy}(hf:Fl S r)(h0:0 < m)(h1:m < 1073741824)(k:∀v S',0<=v->v < m->Fl S' r->Kp r S S'->Q (.int v,S')) :
  wO (aC (ak defs fuel (d+1)) "_law_pick" 2 [.ref r,.int m] S) Q:=by
 obtain⟨q,ns,i,c,x,n,f⟩:=hf;refine al hd rfl rfl λQ' hR=>?_
 replace k:∀v S',0<=v->v < m->Fl S' r->Kp r S S'->Q' (.rt (.int v),S'):=λv S' a b c e=>hR _ _ (k v S' a b c e)
 clear hR;show wZ _ _ cM [gV (.ref r),gV (.int m),td,td] S Q';have cw:∀(S1:aa) (w2:Hr W) (i1 c1 x1 n1:Hy),FlA S1 r q ns i1 c1 x1 n1->Kp r S S1->wZ (ak defs fuel d) fuel (match cM with|.cons _ ss=>ss|.nil=>.nil) [gV (.ref r),gV (.int m),w2,td] S1 Q':=by
  intro S1 w2 i1 c1 x1 n1 f1 k1;dsimp only[cM];refine st ?_;dsimp only[wS,wT,wE,wV,wG];refine d8 (i:=2) f1.at_r rfl ?_;dsimp only[CP,wO,wB];refine ah (Q0:=Q') (λhg Q2 hn hr=>?_) (λhg Q2 hn hr=>?_)
  ·clear hn;refine st ?_;dsimp only[wS,wE,wV,wG];refine d8 (i:=2) f1.at_r rfl (ab (ke h0) ?_);refine st ?_;dsimp only[wS,wE,wV,wG,Hz];refine d8 (i:=2) f1.at_r rfl (ab (nF h0 h1) (lU (i:=2) f1.at_r rfl ?_));refine st ?_;dsimp only[wS,wE,wV,wG,Hz];exact hr _ _ (k _ _ (Kd _ ∅) (JI _ h0) #[q,ns,i1,c1 / m,x1,n1,f1.put f1.i0 (Ou f1.c0 ∅) f1.x0 f1.x1] (k1.trans .set))
  ·refine aL (hn _ _ ?_);clear hn hr;have f2:FlA (S1.set r (.lst [.ref q,.int i1,.int c1,.int x1,.int (n1+1)])) r q ns i1 c1 x1 (n1+1):=f1.put f1.i0 f1.c0 f1.x0 f1.x1;refine st ?_;dsimp only[wS,wE,wV,wG];refine d8 (i:=4) f1.at_r rfl ?_;dsimp only[cq,wO];refine lU (i:=4) f1.at_r rfl ?_;refine st ?_;dsimp only[wS,wE,wV,wG,Hz];refine d8 (i:=3) f2.at_r rfl (ab (sa #v[] #v[]) ?_)
   dsimp only[cq,wO];refine d8 (i:=4) f2.at_r rfl ?_;dsimp only[cq,wO];refine(lU (i:=3) f2.at_r rfl ?_);have f3:FlA ((S1.set r (.lst [.ref q,.int i1,.int c1,.int x1,.int (n1+1)])).set r (.lst [.ref q,.int i1,.int c1,.int ((x1*48271+12820163+(n1+1)) % 2147483647),.int (n1+1)])) r q ns i1 c1 ((x1*48271+12820163+(n1+1)) % 2147483647) (n1+1):=f2.put f1.i0 f1.c0 (Kd _ #v[]) (JI _ #v[])
   dsimp only[Hz];generalize(x1*48271+12820163+(n1+1)) % 2147483647=y at f3 ⊢;have b1:y / 65521+7919 < 2 ^ 64:=by
    have:=f3.x1;have:=Int.ediv_le_self 65521 f3.x0;omega
   have b2 : -(2 ^ 64) < y / 65521+7919:=by
    have:=Ou f3.x0 (show(0:Hy)<=65521 by decide)
    omega
   refine st ?_;dsimp only[wS,wE,wV,wG,Hz];refine d8 (i:=3) f3.at_r rfl (ab (ke #v[]) ?_)
   dsimp only[cq,wO];refine d8 (i:=3) f3.at_r rfl ?_;dsimp only[cq,wO];refine ab (sa b2 b1) ?_;refine ab (ke h0) ?_;exact k _ _ (Kd _ ∅) (JI _ h0) #[q,ns,_,_,_,_,f3] (k1.trans (Kp.set.trans .set))
 dsimp only[cM]at cw ⊢;refine st ?_;dsimp only[wS,wT,wE,wV,wG,wA];refine d8 (i:=2) f.at_r rfl ?_;dsimp only[kg,wO,wB];have skip:∀Q2:QO,(∀ρ' S',wZ (ak defs fuel d) fuel _ ρ' S' Q'->Q2 (.nx ρ',S'))->Q2 (.nx [gV (.ref r),gV (.int m),td,td],S):=λQ2 hn=>hn _ _ (cw S td i c x n f .refl)
 refine#[λ_=>?_,λ_ Q2 hn hr=>#[λz=>(by cases z),λ_=>(aL (skip Q2 hn)).out]]
 refine d8 (i:=1) f.at_r rfl (d8 (i:=0) f.at_r rfl (ab (Ba f.at_q) ?_));dsimp only[wF,wO,wB];refine ah (Q0:=Q') (λhl Q2 hn _=>?_) (λhg Q2 hn hr=>aL (skip Q2 hn))
 clear skip;have hl':i.toNat < ns.length:=by
  have:=IW hl;rw[Hk]at this;have:=f.i0;omega
 have hcell:(ns.map W.int)[i.toNat]?=gV (.int ns[i.toNat]):=by simp[hl']
 generalize ns[i.toNat]=cell at hcell;have f1:FlA (S.set r (.lst [.ref q,.int (i+1),.int c,.int x,.int n])) r q ns (i+1) c x n:=f.put (by have:=f.i0; omega) f.c0 f.x0 f.x1
 refine st ?_;dsimp only[wS,wE,wV,wG];refine d8 (i:=0) f.at_r rfl (d8 (i:=1) f.at_r rfl (ab (wH f.at_q f.i0 hcell) ?_));refine st ?_;dsimp only[wS,wE,wV,wG,Hz];refine d8 (i:=1) f.at_r rfl ?_;dsimp only[cq,wO];refine lU (i:=1) f.at_r rfl ?_;refine st ?_;dsimp only[wS,wT,wE,wV,wG,CO,Gq,wO,wB];refine ah (Q0:=Q') (λhg Q3 hn3 _=>?_) (λhg Q3 hn3 _=>?_)
 ·refine st ?_;dsimp only[wS,wE,wV,wG];refine lU (i:=2) f1.at_r rfl (aL (hn3 _ _ (aL (hn _ _ ?_))));exact cw _ _ (i+1) cell x n (f1.put f1.i0 (by have:=IW hg; omega) f.x0 f.x1) (Kp.set.trans .set)
 ·refine st ?_;dsimp only[wS,wE,wV,wG];refine d8 (i:=3) f1.at_r rfl (ab (sa #v[] #v[]) (ab (ke #v[]) ?_))
  dsimp only[cq,wO];refine lU (i:=3) f1.at_r rfl (aL (hn3 _ _ (aL (hn _ _ ?_))));exact cw _ _ (i+1) c _ n (f1.put f1.i0 f.c0 (Kd _ #v[]) (JI _ #v[])) (Kp.set.trans .set)
end
noncomputable def dr:Hs->Ss->Ss
 | 0,ss=>ss
 | n+1,.cons _ ss=>dr n ss
 | _,.nil=>.nil
theorem aO {α:Type}{a:α}{Q:α->Prop}:wO (gV a) Q=Q a:=rfl
theorem aF {Φ:HM->FF}{fuel:Hs}{ρ:Fm}{S:aa}{Q:QO}{s:Sm}{ss:Ss}(h:∀K:Fm->aa->Prop,(∀ρ' S',wZ Φ fuel ss ρ' S' Q->K ρ' S')->wS Φ fuel s ρ S K Q):wZ Φ fuel (.cons s ss) ρ S Q:=st (h _ λ_ _ h=>h)
theorem ET {Φ:HM->FF}{fuel:Hs}{ρ:Fm}{S:aa}{i:Hs}{e:E}{K:Fm->aa->Prop}{Q:QO}(h:wE Φ e ρ S λp=>K (ρ.set i (gV p.1)) p.2):wS Φ fuel (.set i e) ρ S K Q:=h
theorem fY {n:Hs}(h:Qi n 1000=true):n<=sizeLine:=Ih (KC h) (by rw[IN]; decide)
theorem ki {n:Hs}(h:n<=1000):n<=sizeLine:=Ih h (by rw[IN]; decide)
theorem kj {S:aa}{r:Hs}{xs:Hj W}{i:Hy}{w:W}{Q:QW}(h:S[r]?=gV (.lst xs))(h0:0<=i)(hw:xs[i.toNat]?=gV w)(q:Q (w,S)):wO (ju (.ref r) (.int i) S) Q:=ab (wH h h0 hw) q
theorem ae {S:aa}{xs:Hj W}{i:Hy}{w:W}{Q:QW}(h0:0<=i)(hw:xs[i.toNat]?=gV w)(q:Q (w,S)):wO (ju (.tup xs) (.int i) S) Q:=ab (EI h0 hw) q
theorem lV {S:aa}{r:Hs}{xs:Hj W}{y:W}{Q:QW}(h:S[r]?=gV (.lst xs))(hl:xs.length < 1000)(q:Q (.non,S.set r (.lst (xs++[y])))):wO (Me.append.fn (.ref r) [y] S) Q:=ab (wI h (Ij hl (fY rfl))) q
theorem sg {S:aa}{r:Hs}{xs:Hj W}{Q:QW}(h:S[r]?=gV (.lst xs))(q:Q (.int xs.length,S)):wO (Bi.len.fn [.ref r] S) Q:=ab (Ba h) q
theorem ay {S:aa}{xs:Hj W}{Q:QW}(q:Q (.int xs.length,S)):wO (Bi.len.fn [.tup xs] S) Q:=q
theorem fH {S:aa}{r:Hs}{xs:Hj W}{Q:QW}(h:S[r]?=gV (.lst xs))(q:Q (.tup xs,S)):wO (Bi.tuple.fn [.ref r] S) Q:=ab (EK h) q
section
variable{Φ:HM->FF}{fuel:Hs}{ρ:Fm}{S S1:aa}{K:Fm->aa->Prop}
theorem wL {t:E}{a:Ss}{Q:QO}(ht:∀Q:QB,Q (false,S1)->wT Φ t ρ S Q)(h:K ρ S1):wS Φ fuel (.ite t a .nil) ρ S K Q:=by
 dsimp only[wS];exact ht _ λQ' h1 h2=>#[λz=>(by cases z),λ_=>(aL (h1 _ _ h)).out]
theorem EU {t:E}{a b:Ss}{Q:QO}(ht:∀Q:QB,Q (true,S1)->wT Φ t ρ S Q)(h:∀Q':QO,(∀ρ' S',K ρ' S'->Q' (.nx ρ',S'))->(∀w S',Q (.rt w,S')->Q' (.rt w,S'))->wZ Φ fuel a ρ S1 Q'):wS Φ fuel (.ite t a b) ρ S K Q:=by
 dsimp only[wS];exact ht _ λQ' h1 h2=>#[λ_=>(h Q' h1 λw S' q=>h2 (.rt w) S' (λ_ z=>nomatch z) q).out,λz=>(by cases z)]
end
noncomputable def EV (y:HM):Prop:=∀c∈y.cps.toList,97<=c/\c<=122
noncomputable def Name (y:HM):Prop:=1<=y.cps.toList.length/\y.cps.toList.length<=8/\EV y
theorem nK {α:Type}{f:α->W}{xs:Hj α}{i:Hs}(h:i < xs.length):∃x∈xs,(xs.map f)[i]?=gV (f x):=#[xs[i],IT _,by rw[Ht,HH h]; rfl]
theorem nL {α:Type}[KH α]:∀(l m:Hj α),l.Nodup->(∀x∈l,x∈m)->l.length<=m.length
 | [],_,_,_=>JN _
 | x::l,m,hn,hs=>by
  rw[Jv]at hn;have hx:x∈m:=hs x (.head _);have h1:=nL l (m.erase x) hn.2 λy hy=>(List.mem_erase_of_ne (λ(e:y=x)=>hn.1 (by rw[<- e]; exact hy))).mpr (hs y (.tail _ hy))
  rw[List.length_erase_of_mem hx]at h1;have:=Mu hx;rw[Iz]; omega
noncomputable def Ae (k:Hs):HM:=#[[97+k].toArray]
theorem uc {k:Hs}(h:k < 26):Name (Ae k):=#[HC 1,(by decide:1<=8),λc hc=>by
 cases HE.mp (show c∈[97+k]from hc)
 omega]
noncomputable def qu:Hj HM:=["marks","ways","bar","some","each","not","and","or","is"]
theorem ee {xs:Hj W}{k:Hs}:jr xs td (gV (k:Hy))=xs.take k:=by
 unfold jr;rw[HT.jH,HT.rf,OQ,NP]
 by_cases h:k<=xs.length
 ·rw[Ov h]
 ·rw[Od ∅,Lh (HC _),Lh ∅]
theorem wM {xs:Hj W}{k:Hs}:jr xs (gV (k:Hy)) td=xs.drop k:=by
 unfold jr;rw[HT.jH,HT.rf]
 by_cases h:k<=xs.length
 ·rw[Ov h,Lh (by rw[Kt]; exact HC _)]
 ·rw[Od ∅,Mv (HC _),Mv ∅]; exact List.take_nil
section
variable{defs:Hj (HM×Df)}{fuel d:Hs}{S:aa}{r:Hs}{Q:QW}
theorem wQ:∀m,m<=6->(qu++(HJ m).map Ae).Nodup:=λm hm=>by
 rcases(show m=0\/m=1\/m=2\/m=3\/m=4\/m=5\/m=6 by omega)with rfl|rfl|rfl|rfl|rfl|rfl|rfl <;> decide
theorem Ag:∀k:Fin 6,("abcdef" : HM).cps.toList[k.val]?=gV (97+k.val):=by decide
theorem Ah (hfu:20 < fuel)(G:Gen defs){m:Hs}(hf:Fl S r)(h1:m<=6)(k:∀(ys:Hj HM) S',ys.length=m->(∀y∈ys,Name y)->(qu++ys).Nodup->Fl S' r->Kp r S S'->Q (.tup (ys.map W.str),S')) :
  wO (aC (ak defs fuel (d+4)) "_law_names" 2 [.ref r,.int m] S) Q:=by
 refine al G.names rfl rfl λQ' hR=>?_
 show wZ _ _ eE [gV (.ref r),gV (.int m)] S Q';dsimp only[eE];refine st ?_;dsimp only[wS,wE,wA];refine eA (m:Hy) (λi ys ρ2 S2=>(∃a1,ρ2=[td,a1])/\ys=((HJ i).map Ae).map W.str/\S2=S) rfl rfl rfl ∅ #[rfl,#[td,rfl],rfl,rfl] ?_ ?_
 ·rintro i ys ρ2 S2 hi ⟨⟨a1,rfl⟩,rfl,rfl⟩;dsimp only[fW,wC,wE,wV,wG,Hz];refine#[λ_=>ab (EJ (c:=97+i) #v[] (Hx i) ?_) #[#[_,rfl],?_,rfl],λz=>by cases z]
  ·rw[HI]; exact Ag #[i,∅]
  ·rw[Jz,HV,HV]; rfl
 ·rintro ys ρ2 S2 ⟨_,rfl,rfl⟩;rw[HI];refine#[ki (by rw[Hk,Hk,Ii]; omega),fH aj (hR _ _ (k ((HJ m).map Ae) _ (by rw[Hk,Ii]) (λy hy=>?_) (wQ m h1) (hf.ka .push) .push))]
  obtain⟨i,hi,rfl⟩:=HU.mp hy;exact uc (by have:=HL.mp hi; omega)
end
noncomputable abbrev Pt:=Hy×Hj Hy
noncomputable abbrev Wd:=Hj Pt
noncomputable def ap (p:Pt):W:=.tup [.int p.1,.tup (p.2.map W.int)]
noncomputable def am (u:Wd):W:=.tup (u.map ap)
noncomputable def o8 (p:Pt):T:=.tup [.int p.1,.tup (p.2.map T.int)]
noncomputable def du (u:Wd):T:=.tup (u.map o8)
theorem sh:∀xs:Hj Hy,T.ws (xs.map T.int)=xs.map W.int
 | []=>rfl
 | x::xs=>by simp[T.ws,T.w,sh xs]
theorem EW (p:Pt):(o8 p).w=ap p:=by simp[o8,ap,T.w,T.ws,sh]
theorem wR:∀u:Wd,T.ws (u.map o8)=u.map ap
 | []=>rfl
 | p::u=>by simp[T.ws,EW,wR u]
theorem wW (u:Wd):(du u).w=am u:=by simp[du,am,T.w,wR]
theorem wX (u:Wd):W.t (am u)=gV (du u):=by rw[<- wW]; exact T.w_t _
theorem wY:∀us:Hj Wd,T.ws (us.map du)=us.map am
 | []=>rfl
 | u::us=>by simp[T.ws,wW,wY us]
theorem Be (us:Hj Wd):W.ts (us.map am)=gV (us.map du):=by rw[<- wY]; exact T.ws_ts _
theorem km:∀xs:Hj Hy,T.depths (xs.map T.int)=0
 | []=>rfl
 | x::xs=>by simp[T.depths,T.depth,km xs]
theorem w6 (p:Pt):(o8 p).depth=2:=by simp[o8,T.depth,T.depths,km]
theorem lW:∀u:Wd,T.depths (u.map o8)<=2
 | []=>by simp[T.depths]
 | p::u=>by
  have:=lW u;simp only[Jd,T.depths,w6]; omega
theorem o9 (u:Wd):(du u).depth<=3:=by
 have:=lW u;simp only[du,T.depth]; omega
theorem i4:∀us:Hj Wd,T.depths (us.map du)<=3
 | []=>by simp[T.depths]
 | u::us=>by
  have:=i4 us;have:=o9 u;simp only[Jd,T.depths]; omega
theorem gX (u:Wd):gC (am u)=gV (du u):=by
 unfold gC;rw[wX];show(if (du u).isTup=true/\(du u).depth<=bg then _ else _)=_
 rw[HY #[rfl,by have:=o9 u; unfold bg; omega]]
mutual
noncomputable def pb:T->T->HX
 | .int _,.int _=>true
 | .str _,.str _=>true
 | .tup xs,.tup ys=>iz xs ys
 | _,_=>false
noncomputable def iz:Hj T->Hj T->HX
 | [],_=>true
 | _,[]=>true
 | x::xs,y::ys=>pb x y&&iz xs ys
end
mutual
theorem w8:∀x y:T,pb x y=true->(zj x y).isSome=true
 | .int _,.int _,_=>rfl
 | .str _,.str _,_=>rfl
 | .tup xs,.tup ys,h=>by
  dsimp only[pb]at h;dsimp only[zj];exact si xs ys h
 | .int _,.str _,h|.int _,.tup _,h|.str _,.int _,h|.str _,.tup _,h|.tup _,.int _,h|.tup _,.str _,h=>by cases h
theorem si:∀xs ys:Hj T,iz xs ys=true->(oI xs ys).isSome=true
 | [],[],_=>rfl
 | [],_::_,_=>rfl
 | _::_,[],_=>rfl
 | x::xs,y::ys,h=>by
  dsimp only[iz]at h; simp only[Hv]at h
  dsimp only[oI];split
  ·exact si xs ys h.2
  ·exact w8 x y h.1
end
theorem pc:∀xs ys:Hj Hy,iz (xs.map T.int) (ys.map T.int)=true
 | [],_=>rfl
 | _::_,[]=>rfl
 | x::xs,y::ys=>by dsimp only[Qc,iz,pb]; simp[pc xs ys]
theorem CS (p q:Pt):pb (o8 p) (o8 q)=true:=by dsimp only[o8,pb,iz]; simp[pc]
theorem sj:∀u v:Wd,iz (u.map o8) (v.map o8)=true
 | [],_=>rfl
 | _::_,[]=>rfl
 | p::u,q::v=>by dsimp only[Qc,iz]; simp[CS,sj u v]
theorem CT (u v:Wd):pb (du u) (du v)=true:=by dsimp only[du,pb]; exact sj _ _
theorem lX (us:Hj Wd):jT (us.map du)=true:=by
 unfold jT;rw[HS];intro x hx;obtain⟨u,_,rfl⟩:=HU.mp hx;rw[HS];intro y hy;obtain⟨v,_,rfl⟩:=HU.mp hy;exact w8 _ _ (CT u v)
theorem CU (us:Hj Wd)(h:∀u∈us,u≠[]):(zm (us.map du)).isSome=true:=by
 unfold zm;split
 ·rfl
 ·split
  ·rfl
  ·split
   ·rfl
   ·split
    ·rfl
    ·split
     ·rfl
     ·rename_i h5;exfalso;apply h5;rw[HS];intro x hx;obtain⟨u,hu,rfl⟩:=HU.mp hx;cases u with
      | nil=>exact absurd rfl (h [] hu)
      | cons p u=>rfl
noncomputable def bM (bs:Hj Hy)(u:Wd)(i j:Hs):Hy:=if j < i then((u.getD i (0,[])).2).getD j 0 else bs.getD (((u.getD j (0,[])).2).getD i 0).toNat 0
noncomputable def au (bs:Hj Hy)(u:Wd)(ps:Hj Hs):Wd:=(HJ ps.length).map λk=>((u.getD (ps.getD k 0) (0,[])).1,(ps.take k).map λj=>bM bs u (ps.getD k 0) j)
noncomputable def aw:Hj (Hj Hs):=[[0,1,2],[0,2,1],[1,0,2],[1,2,0],[2,0,1],[2,1,0]]
noncomputable def kn (bs:Hj Hy)(u:Wd):Wd:=(aw.map (au bs u)).getD (nr ((aw.map (au bs u)).map du)) []
noncomputable def aB (n:HM)(b:Hy):W:=.tup [.str n,.int b]
structure GoodW (a n:Hs)(u:Wd):Prop where
 mark:∀(k:Hs) (p:Pt),u[k]?=gV p->0<=p.1/\p.1 < a
 len:∀(k:Hs) (p:Pt),u[k]?=gV p->p.2.length=k
 way:∀(k:Hs) (p:Pt),u[k]?=gV p->∀w∈p.2,0<=w/\w < n
noncomputable def GoodB (bs:Hj Hy):Prop:=bs=[0]\/bs=[0,1]\/bs=[1,0]\/bs=[0,1,2]\/bs=[1,0,2]\/bs=[0,2,1]
theorem GoodB.rng {bs:Hj Hy}(h:GoodB bs):∀k:Hs,k < bs.length->∃b:Hy,bs[k]?=gV b/\0<=b/\b < bs.length:=by
 rcases h with rfl|rfl|rfl|rfl|rfl|rfl <;> intro k hk
 ·match k,hk with
  | 0,_=>exact#[0,rfl,#v[],#v[]]
 ·match k,hk with
  | 0,_=>exact#[0,rfl,#v[],#v[]]
  | 1,_=>exact#[1,rfl,#v[],#v[]]
 ·match k,hk with
  | 0,_=>exact#[1,rfl,#v[],#v[]]
  | 1,_=>exact#[0,rfl,#v[],#v[]]
 ·match k,hk with
  | 0,_=>exact#[0,rfl,#v[],#v[]]
  | 1,_=>exact#[1,rfl,#v[],#v[]]
  | 2,_=>exact#[2,rfl,#v[],#v[]]
 ·match k,hk with
  | 0,_=>exact#[1,rfl,#v[],#v[]]
  | 1,_=>exact#[0,rfl,#v[],#v[]]
  | 2,_=>exact#[2,rfl,#v[],#v[]]
 ·match k,hk with
  | 0,_=>exact#[0,rfl,#v[],#v[]]
  | 1,_=>exact#[2,rfl,#v[],#v[]]
  | 2,_=>exact#[1,rfl,#v[],#v[]]
theorem getD_some {α:Type}{xs:Hj α}{i:Hs}{x d:α}(h:xs[i]?=gV x):xs.getD i d=x:=by simp[h]
theorem aq {α:Type}{xs:Hj α}{i:Hs}{d:α}(h:i < xs.length):xs[i]?=gV (xs.getD i d):=by simp[h]
theorem i5 {ns:Hj HM}{bs:Hj Hy}{k:Hs}{n:HM}{b:Hy}(h1:ns[k]?=gV n)(h2:bs[k]?=gV b):(HA aB ns bs)[k]?=gV (aB n b):=by
 rw[List.getElem?_zipWith,h1,h2]
noncomputable def aD (ps:Hj Hs):Hj W:=ps.map λ(p:Hs)=>W.int (p:Hy)
theorem sn {ps:Hj Hs}{k p:Hs}(h:ps[k]?=gV p):(aD ps)[k]?=gV (.int p):=by simp[aD,h]
theorem bx (bs:Hj Hy)(u:Wd)(ps:Hj Hs):(au bs u ps).length=ps.length:=by unfold au; rw[Hk,Ii]
theorem cZ {u:Wd}{i:Hs}(hi:i < u.length):(u.map ap)[((i:Hs):Hy).toNat]?=gV (ap (u.getD i (0,[]))):=by
 rw[HI,Ht,aq hi]; rfl
section
variable{defs:Hj (HM×Df)}{fuel d:Hs}{S:aa}{r:Hs}{Q:QW}
theorem xf {Φ:HM->FF}{m0 b0:W}{ns:Hj HM}{bs:Hj Hy}{a:Hs}{u:Wd}{i j:Hs}{Q:QO}(hb:GoodB bs)(hl:ns.length=bs.length)(hu:GoodW a bs.length u)(hi:i < u.length)(hj:j < u.length)(hij:i≠j)(k:Q (.rt (.int (bM bs u i j)),S)) :
  wZ Φ fuel dq [gV (.tup [m0,.tup (HA aB ns bs),b0]),gV (am u),gV (.int i),gV (.int j)] S Q:=by
 have hpi:=aq (d:=(0,[])) hi;have hpj:=aq (d:=(0,[])) hj;unfold bM at k;dsimp only[dq];refine aF λK hK=>?_
 dsimp only[wS,wT,wE,wV,wG,wF,wO,wB,am];refine ah (Q0:=Q) (λh Q2 _ hr=>?_) (λh Q2 hn _=>?_)
 ·have hji:j < i:=by have:=IW h; omega
  rw[HY hji]at k;have hw:j < (u.getD i (0,[])).2.length:=by rw[hu.len i _ hpi]; exact hji
  refine st ?_;dsimp only[wS,wE,wV,wG];refine ae (Hx i) (cZ hi) (ae #v[] rfl (ae (Hx j) ?_ (hr _ _ k)))
  rw[HI,Ht,aq (d:=0) hw]; rfl
 ·have hji:¬ j < i:=by have:=K9 h; omega
  rw[Iy hji]at k;refine aL (hn _ _ (hK _ _ ?_));clear hn hK;have hw:i < (u.getD j (0,[])).2.length:=by rw[hu.len j _ hpj]; omega
  have hg:=aq (d:=0) hw;obtain⟨g1,g2⟩:=hu.way j _ hpj _ (HF hg);obtain⟨b,hb1,hb2,hb3⟩:=hb.rng ((u.getD j (0,[])).2.getD i 0).toNat ∅
  have hn:((u.getD j (0,[])).2.getD i 0).toNat < ns.length:=∅
  rw[getD_some hb1]at k;refine st ?_;dsimp only[wS,wE,wV,wG];refine ae #v[] rfl (ae (Hx j) (cZ hj) (ae #v[] rfl (ae (Hx i) ?_ (ae g1 (i5 (HH hn) hb1) (ae #v[] rfl k)))))
  rw[HI,Ht,hg]; rfl
theorem ud (G:Gen defs){m0 b0:W}{ns:Hj HM}{bs:Hj Hy}{a:Hs}{u:Wd}{i j:Hs}(hb:GoodB bs)(hl:ns.length=bs.length)(hu:GoodW a bs.length u)(hi:i < u.length)(hj:j < u.length)(hij:i≠j)(k:Q (.int (bM bs u i j),S)) :
  wO (aC (ak defs fuel (d+1)) "_law_between" 4 [.tup [m0,.tup (HA aB ns bs),b0],am u,.int i,.int j] S) Q:=
 al G.between rfl rfl λQ' hR=>xf hb hl hu hi hj hij (hR _ _ k)
theorem xg (G:Gen defs){m0 b0:W}{ns:Hj HM}{bs:Hj Hy}{a:Hs}{u:Wd}{ps:Hj Hs}(hb:GoodB bs)(hl:ns.length=bs.length)(hu:GoodW a bs.length u)(hps:∀p∈ps,p < u.length)(hnd:ps.Nodup)(hsz:ps.length < 1000)(k:∀S',Ka S S'->Q (am (au bs u ps),S')) :
  wO (aC (ak defs fuel (d+2)) "_law_part" 3 [.tup [m0,.tup (HA aB ns bs),b0],am u,.tup (aD ps)] S) Q:=by
 refine al G.part rfl rfl λQ' hR=>?_
 replace k:∀S',Ka S S'->Q' (.rt (am (au bs u ps)),S'):=λS' a=>hR _ _ (k S' a)
 clear hR;show wZ _ _ fg [gV (.tup [m0,.tup (HA aB ns bs),b0]),gV (am u),gV (.tup (aD ps)),td,td,td] S Q';generalize hR0:W.tup [m0,.tup (HA aB ns bs),b0]=R;dsimp only[fg];refine st ?_;dsimp only[wS,wE,wA,Hz];refine aF λK hK=>?_
 have nl:(aD ps).length=ps.length:=Hk ..;refine bD (ps.length:Hy) (λk ρ S'=>∃a4 a5,ρ=[gV R,gV (am u),gV (.tup (aD ps)),gV (.ref S.length),a4,a5]/\S'[S.length]?=gV (.lst (((au bs u ps).take k).map ap))/\Ka S S') rfl rfl ∅ ?_ ?_ ?_
 ·dsimp only[wE,wA,wV,wG];refine ay ?_;rw[nl];exact#[rfl,td,td,rfl,aj,.push]
 ·rintro i ρ S1 hi ⟨a4,a5,rfl,e1,k1⟩ Q2 hn _;clear hK;have hi':i < ps.length:=∅
  have hp:ps[i]?=gV ps[i]:=HH hi';have hpu:ps[i] < u.length:=hps _ (IT hi');refine st ?_;dsimp only[wS,wE,wV,wG,Hz];refine ae (Hx i) (by rw[HI]; exact sn hp) ?_
  refine st ?_;dsimp only[wS,wE,wA,wV,wG,Hz];refine#[dE e1,ae (Hx _) (cZ hpu) (ae #v[] rfl ?_)]
  refine sd (aD (ps.take i)) (λj ys ρ2 S2=>(∃a1,ρ2=[td,a1,gV (.int ps[i]),gV R,gV (am u)])/\ys=((ps.take i).take j).map (λq=>W.int (bM bs u ps[i] q))/\Ka S1 S2) rfl rfl rfl ?_ ?_ ?_
  ·dsimp only[wE,wP,wV,wG,wN];refine ab (a:=(.tup (aD (ps.take i)),S1)) ?_ #[rfl,#[td,rfl],rfl,.refl];simp only[js,ee];unfold aD;rw[K5]
  ·rintro j w ys ρ2 S2 hw ⟨⟨a1,rfl⟩,rfl,k2⟩;have hjl:j < (ps.take i).length:=by
    have:=(HG.mp hw).1;unfold aD at this
    rwa [Hk]at this
   have hq:(ps.take i)[j]?=gV (ps.take i)[j]:=HH hjl;cases(sn hq).symm.trans hw;have hj:j < i:=by rw[Ic]at hjl; omega
   have eq:(ps.take i)[j]=ps[j]'∅:=Li
   generalize(ps.take i)[j]=q at hq eq ⊢;refine ab (show eJ (.nm 1) (.int (q:Hy)) [td,a1,gV (.int ps[i]),gV R,gV (am u)] S2=gV ([td,gV (.int (q:Hy)),gV (.int ps[i]),gV R,gV (am u)],S2)from rfl) ?_
   dsimp only[fW,wC,wE,wA,wV,wG];subst hR0;refine#[λ_=>ud (d:=d) G hb hl hu hpu (by rw[eq]; exact hps _ (IT _)) ?_ #[#[_,rfl],?_,k2],λz=>by cases z]
   ·rw[eq];intro h;have:=(J1 hnd).mp h;omega
   ·rw[IB,hq];simp
  ·rintro ys ρ2 S2 ⟨_,rfl,k2⟩;rw[show(aD (ps.take i)).length=(ps.take i).length from Hk ..,IH]
   refine#[ki (by rw[Hk,Ic]; omega),fH aj ?_]
   have e2:=ar (u:=O.lst ((ps.take i).map λq=>W.int (bM bs u ps[i] q))) (k2.get _ _ e1)
   refine lV e2 (by rw[Hk,Ic]; omega) (aL (hn _ _ #[_,_,rfl,?_,((k1.trans k2).trans .push).late (HC _)]))
   rw[bG e2];have ep:(au bs u ps)[i]?=gV ((u.getD ps[i] (0,[])).1,(ps.take i).map λq=>bM bs u ps[i] q):=by
    unfold au;rw[Ht,JU hi',Iv,getD_some hp]
   rw[IB,ep];simp[ap,L0]
 ·rintro ρ S1 ⟨a4,a5,rfl,e1,k1⟩;rw[HI,<- bx bs u ps,IH]at e1;refine hK _ _ (st ?_);dsimp only[wS,wE,wA,wV,wG];exact fH e1 (k _ k1)
theorem jD (G:Gen defs)(k:Q (.ref S.length,S++[.lst (aw.map λt=>W.tup (aD t))])):wO (aC (ak defs fuel (d+1)) "_law_turns" 0 [] S) Q:=by
 refine al G.turns rfl rfl λQ' hR=>?_
 dsimp only[fX];refine st ?_;dsimp only[wS,wE,wA];exact hR _ _ k
theorem fj (bt:Hs->Hs->HX):∀n:Hs,argBest bt n<=n
 | 0=>HC _
 | n+1=>by have:=fj bt n; simp only[argBest]; split <;> omega
theorem iA (G:Gen defs){m0 b0:W}{ns:Hj HM}{bs:Hj Hy}{a:Hs}{u:Wd}(hb:GoodB bs)(hl:ns.length=bs.length)(hu:GoodW a bs.length u)(h3:u.length=3)(k:∀S',Ka S S'->Q (am (kn bs u),S')) :
  wO (aC (ak defs fuel (d+3)) "_law_figure" 2 [.tup [m0,.tup (HA aB ns bs),b0],am u] S) Q:=by
 refine al G.figure rfl rfl λQ' hR=>?_
 replace k:∀S',Ka S S'->Q' (.rt (am (kn bs u)),S'):=λS' a=>hR _ _ (k S' a)
 clear hR;show wZ _ _ dM [gV (.tup [m0,.tup (HA aB ns bs),b0]),gV (am u)] S Q';generalize hR0:W.tup [m0,.tup (HA aB ns bs),b0]=R;dsimp only[dM];refine st ?_;dsimp only[wS,wE,wA];refine se S.length (aw.map λt=>W.tup (aD t)) (λi ys ρ2 S2=>(∃a1,ρ2=[td,a1,gV R,gV (am u)])/\ys=((aw.take i).map λt=>am (au bs u t))/\Ka (S++[.lst (aw.map λt=>W.tup (aD t))]) S2) rfl rfl rfl ?_ ?_ ?_ ?_
 ·dsimp only[wE,wA];exact jD (d:=d+1) G #[rfl,#[td,rfl],rfl,.refl]
 ·rintro i ys ρ2 S2 ⟨_,_,k2⟩;exact k2.get _ _ aj
 ·rintro i w ys ρ2 S2 hw ⟨⟨a1,rfl⟩,rfl,k2⟩;rw[Ht,Ho]at hw;obtain⟨t,ht,rfl⟩:=hw;have ht3:(∀p∈t,p < 3)/\t.Nodup/\t.length < 1000:=by
   have:∀t∈aw,(∀p∈t,p < 3)/\t.Nodup/\t.length < 1000:=by decide
   exact this t (HF ht)
  refine ab (show eJ (.nm 1) (.tup (aD t)) [td,a1,gV R,gV (am u)] S2=gV ([td,gV (.tup (aD t)),gV R,gV (am u)],S2)from rfl) ?_
  dsimp only[fW,wC,wE,wA,wV,wG];subst hR0;refine#[λ_=>xg (d:=d) G hb hl hu (λp hp=>by rw[h3]; exact ht3.1 p hp) ht3.2.1 ht3.2.2 λS3 k3=>#[#[_,rfl],?_,k2.trans k3],λz=>by cases z]
  rw[IB,ht];simp
 ·rintro ys ρ2 S2 ⟨_,rfl,k2⟩;have e:((aw.take (aw.map λt=>W.tup (aD t)).length).map λt=>am (au bs u t))=(aw.map (au bs u)).map am:=by
   rw[Hk,IH,J0]; rfl
  rw[e];refine#[fY rfl,ab (a:=(am (kn bs u),S2++[.lst ((aw.map (au bs u)).map am)])) ?_ (k _ ((Ka.push.trans k2).trans .push))];simp only[Bi.fn,zp,aJ aj,Be];rw[HY #[by have:=i4 (aw.map (au bs u)); unfold ey; omega,lX _]]
  unfold kn;have hlt:nr ((aw.map (au bs u)).map du) < (aw.map (au bs u)).length:=Nx (fj _ _) (by decide:5 < 6)
  rw[Ht,aq (d:=[]) hlt];rfl
end
noncomputable def ac (xs:Hj Hy):Hj W:=xs.map W.int
noncomputable def iB (us:Hj Wd):Hj Wd:=eO (AO (us.map du)) [] us
theorem xi {α β:Type}{lt:Hs->Hs->HX}{d:α}{d':β}{f:α->β}{us:Hj α}:eO lt d' (us.map f)=(eO lt d us).map f:=by
 unfold eO;rw[Hk];split
 ·rfl
 ·rw[J0];refine IP λi hi=>?_
  have hl:i < us.length:=nu ∅ i hi
  simp[hl]
theorem qv {S:aa}{x:W}{us:Hj Wd}(h:d3 S x=gV (us.map am))(h64:us.length < 64)(hne:∀u∈us,u≠[]):ik [x] S=gV (.ref S.length,S++[.lst ((iB us).map am)]):=by
 have ok:nq (us.map du)=true:=by
  unfold nq;simp only[Hv,JT,Ir,Hk];exact#[#[h64,by have:=i4 us; unfold ey; omega],.inr #[CU us hne,lX us]]
 simp only[ik,h,Be];rw[HY ok,xi (d:=[])];rfl
noncomputable def cr (ms ns:Hj HM)(bs:Hj Hy)(us:Hj Wd):W:=.tup [.tup (ms.map W.str),.tup (HA aB ns bs),.tup (us.map am)]
structure GoodN (ms ns:Hj HM):Prop where
 name:∀y∈ms++ns,Name y
 nd:(qu++(ms++ns)).Nodup
theorem GoodW.nil {a n:Hs}:GoodW a n []:=#[λk p h=>(by simp at h),λk p h=>(by simp at h),λk p h=>(by simp at h)]
theorem GoodW.snoc {a n:Hs}{u:Wd}{m:Hy}{ws:Hj Hy}(h:GoodW a n u)(h1:0<=m/\m < a)(h2:ws.length=u.length)(h3:∀w∈ws,0<=w/\w < (n:Hy)):GoodW a n (u++[(m,ws)]):=by
 have key:∀(k:Hs) (p:Pt),(u++[(m,ws)])[k]?=gV p->u[k]?=gV p\/(k=u.length/\p=(m,ws)):=λk p e=>by
  rcases NQ k u.length with hk|hk
  ·rw[Il hk]at e; exact .inl e
  ·rw[ID hk]at e;have:k - u.length=0:=by
    have:=(HG.mp e).1;simp at this; omega
   rw[this]at e;cases e;exact .inr #[∅,rfl]
 refine#[λk p e=>?_,λk p e=>?_,λk p e=>?_] <;> rcases key k p e with e|⟨rfl,rfl⟩
 ·exact h.mark k p e
 ·exact h1
 ·exact h.len k p e
 ·exact h2
 ·exact h.way k p e
 ·exact h3
theorem GoodB.inv {bs:Hj Hy}(h:GoodB bs):∀k:Hs,k < bs.length->bs.getD (bs.getD k 0).toNat 0=k:=by
 rcases h with rfl|rfl|rfl|rfl|rfl|rfl <;> decide
theorem GoodB.at {bs:Hj Hy}(h:GoodB bs){x:Hy}(h0:0<=x)(h1:x < bs.length):bs[x.toNat]?=gV (bs.getD x.toNat 0)/\0<=bs.getD x.toNat 0/\bs.getD x.toNat 0 < bs.length:=by
 obtain⟨b,h2,h3⟩:=h.rng x.toNat ∅
 rw[getD_some h2];exact#[h2,h3]
theorem xj {S:aa}{x:W}{us:Hj Wd}{Q:QW}(h:d3 S x=gV (us.map am))(h64:us.length < 64)(hne:∀u∈us,u≠[])(q:Q (.ref S.length,S++[.lst ((iB us).map am)])):wO (Bi.sorted.fn [x] S) Q:=by
 refine ab ?_ q;exact qv h h64 hne
noncomputable def xk:Hj (Hs×Hs):=[(1,1),(2,1),(3,1),(1,2),(1,2),(2,2),(2,2),(3,2),(1,3),(1,3),(2,3)]
theorem xm:∀p∈xk,1<=p.1/\p.1<=3/\1<=p.2/\p.2<=3/\p.1*p.2<=6:=by decide
noncomputable def ko:Hs->Hj (Hj Hy)
 | 1=>[[0]]
 | 2=>[[0,1],[1,0]]
 | _=>[[0,1,2],[1,0,2],[0,2,1]]
theorem xn:∀n:Hs,1<=n->n<=3->(∀b∈ko n,GoodB b/\b.length=n)/\0 < (ko n).length/\(ko n).length<=3
 | 1,_,_=>#[λb h=>by cases HE.mp h; exact#[.inl rfl,rfl],#v[],#v[]]
 | 2,_,_=>#[λb h=>by
   rcases HZ.mp h with rfl|h
   ·exact#[.inr (.inl rfl),rfl]
   ·cases HE.mp h; exact#[.inr (.inr (.inl rfl)),rfl],#v[],#v[]]
 | 3,_,_=>#[λb h=>by
   rcases HZ.mp h with rfl|h
   ·exact#[.inr (.inr (.inr (.inl rfl))),rfl]
   ·rcases HZ.mp h with rfl|h
    ·exact#[.inr (.inr (.inr (.inr (.inl rfl)))),rfl]
    ·cases HE.mp h; exact#[.inr (.inr (.inr (.inr (.inr rfl)))),rfl],#v[],#v[]]
 | 0,h,_=>absurd h #v[]
 | n+4,_,h=>absurd h ∅
section
variable{defs:Hj (HM×Df)}{fuel d:Hs}{S:aa}{r:Hs}{Q:QW}
theorem sr (G:Gen defs)(hf:Fl S r)(k:∀(a n:Hs) S',1<=a->a<=3->1<=n->n<=3->a*n<=6->Fl S' r->Kp r S S'->Q (.tup [.int a,.int n],S')) :
  wO (aC (ak defs fuel (d+2)) "_law_sizes" 1 [.ref r] S) Q:=by
 refine al G.sizes rfl rfl λQ' hR=>?_
 show wZ _ _ eC [gV (.ref r),td] S Q';dsimp only[eC];refine st ?_;dsimp only[wS,wE,wA,Hz];refine st ?_;dsimp only[wS,wE,wA,wV,wG];refine aT (d:=d) G.pick (hf.ka .push) #v[] #v[] λv S1 v0 v1 f1 k1=>?_
 have e:=k1.get _ _ (Kv hf.lt) aj;obtain⟨p,hp,ep⟩:=nK (f:=λp:Hs×Hs=>W.tup [.int p.1,.int p.2]) (xs:=xk) (i:=v.toNat) (by show v.toNat < 11; omega)
 obtain⟨a1,a3,n1,n3,an⟩:=xm p hp;exact kj e v0 ep (hR _ _ (k _ _ _ a1 a3 n1 n3 an f1 (Kp.push.trans k1)))
theorem sv (G:Gen defs){n:Hs}(hf:Fl S r)(h1:1<=n)(h3:n<=3)(k:∀(bs:Hj Hy) S',GoodB bs->bs.length=n->Fl S' r->Kp r S S'->Q (.tup (ac bs),S')) :
  wO (aC (ak defs fuel (d+2)) "_law_backs" 2 [.ref r,.int n] S) Q:=by
 refine al G.backs rfl rfl λQ' hR=>?_
 replace k:∀(bs:Hj Hy) S',GoodB bs->bs.length=n->Fl S' r->Kp r S S'->Q' (.rt (.tup (ac bs)),S'):=λz S' a b c e=>hR _ _ (k z S' a b c e)
 clear hR;show wZ _ _ eB [gV (.ref r),gV (.int n),td] S Q';dsimp only[eB];refine aF λK hK=>?_
 dsimp only[wS,wE,wA,wV,wG,Hz];dsimp only[gL,aO];obtain⟨hg,g0,g3⟩:=xn n h1 h3;have fin:∀(t:Hs) (S1:aa),S.length<=t->S1[t]?=gV (.lst ((ko n).map λb=>.tup (ac b)))->Ka S S1->K [gV (.ref r),gV (.int n),gV (.ref t)] S1:=by
  intro t S1 ht et ka;refine hK _ _ (st ?_);dsimp only[wS,wE,wA,wV,wG];refine sg et ?_;rw[Hk];refine aT (d:=d) G.pick (hf.ka ka) ∅ ∅ λv S2 v0 v1 f2 k2=>?_
  have e2:=k2.get _ _ (by have:=hf.lt; omega) et
  obtain⟨b,hb,eb⟩:=nK (f:=λb:Hj Hy=>W.tup (ac b)) (xs:=ko n) (i:=v.toNat) ∅
  exact kj e2 v0 eb (k b S2 (hg b hb).1 (hg b hb).2 f2 ((ka.kp r).trans k2))
 clear hK g0 g3 hg;rcases(show n=1\/n=2\/n=3 by omega)with rfl|rfl|rfl
 ·exact d8 (i:=0) aj rfl (fin _ _ (HC _) (ar (ar (ar aj))) (Ka.push.trans (Ka.push.trans (Ka.push.trans .push))))
 ·exact d8 (i:=1) aj rfl (fin _ _ (by simp) (ar (ar aj)) (Ka.push.trans (Ka.push.trans (Ka.push.trans .push))))
 ·exact d8 (i:=2) aj rfl (fin _ _ (by simp only[Hn]; omega) (ar aj) (Ka.push.trans (Ka.push.trans (Ka.push.trans .push))))
theorem gz (hfu:20 < fuel)(G:Gen defs){a:Hs}{bs:Hj Hy}{x:W}{us:Hj Wd}(hf:Fl S r)(ha:a<=3)(hb:bs.length<=3)(hx:∀S',Kp r S S'->d3 S' x=gV (us.map am))(h64:us.length < 64)(hne:∀u∈us,u≠[])
  (k:∀(ms ns:Hj HM) S',ms.length=a->ns.length=bs.length->GoodN ms ns->Fl S' r->Kp r S S'->Q (cr ms ns bs (iB us),S')) :
  wO (aC (ak defs fuel (d+5)) "_law_rule_of" 4 [.ref r,.int a,.tup (ac bs),x] S) Q:=by
 refine al G.rule_of rfl rfl λQ' hR=>?_
 replace k:∀(ms ns:Hj HM) S',ms.length=a->ns.length=bs.length->GoodN ms ns->Fl S' r->Kp r S S'->Q' (.rt (cr ms ns bs (iB us)),S'):=λz y S' a b c e f=>hR _ _ (k z y S' a b c e f)
 clear hR;show wZ _ _ dt [gV (.ref r),gV (.int a),gV (.tup (ac bs)),gV x,td,td] S Q';have hbl:(ac bs).length=bs.length:=Hk ..;dsimp only[dt];refine aF λK hK=>?_
 dsimp only[wS,wE,wA,wV,wG,Hz];refine ay ?_;rw[hbl];dsimp only[cq,aO];refine Ah (d:=d) (m:=a+bs.length) hfu G hf ∅ λys S1 q2 q3 q4 f1 k1=>hK _ _ ?_
 clear hK K;have hzl:(HA aB (ys.drop a) bs).length=bs.length:=by
  rw[Jb,Kt]; omega
 refine aF λK hK=>?_
 dsimp only[wS,wE,wA,Hz];refine eA (bs.length:Hy) (λk zs ρ2 S2=>(∃a1,ρ2=[td,a1,gV (.tup (ac bs)),gV (.int a),gV (.tup (ys.map W.str))])/\zs=((HA aB (ys.drop a) bs).take k)/\S2=S1) rfl rfl rfl ∅ ?_ ?_ ?_
 ·dsimp only[wE,wA,wV,wG];refine ay ?_;rw[hbl];exact#[rfl,#[td,rfl],rfl,rfl]
 ·rintro i zs ρ2 S2 hi ⟨⟨a1,rfl⟩,rfl,rfl⟩;clear hK;have hi':i < bs.length:=∅
  have h1:a+i < ys.length:=∅
  dsimp only[fW,wC,wE,wA,wV,wG,Hz,cq,aO];refine#[λ_=>ae ∅ (w:=.str ys[a+i]) ?_ (ae ∅ (w:=.int bs[i]) ?_ #[#[_,rfl],?_,rfl]),λz=>by cases z]
  ·rw[show((a:Hy)+(i:Hy)).toNat=a+i by omega,Ht,HH h1]; rfl
  ·unfold ac;rw[HI,Ht,HH hi']; rfl
  ·have ez:(HA aB (ys.drop a) bs)[i]?=gV (aB ys[a+i] bs[i]):=i5 (by rw[List.getElem?_drop]; exact HH h1) (HH hi')
   rw[IB,ez];rfl
 ·rintro zs ρ2 S2 ⟨_,rfl,rfl⟩;rw[HI,<- hzl,IH];refine#[ki ∅,fH aj (hK _ _ ?_)]
  clear hK K;refine st ?_;dsimp only[wS,wE,wA,wP,wV,wG,wN];have hs:js (.tup (ys.map W.str)) td (gV (a:Hy)) (S2++[O.lst (HA aB (ys.drop a) bs)])=gV (.tup ((ys.take a).map W.str),S2++[O.lst (HA aB (ys.drop a) bs)]):=by
   simp only[js,ee];rw[K5]
  refine ab hs (xj (hx _ (k1.trans .push)) h64 hne (fH aj ?_));refine k (ys.take a) (ys.drop a) _ ?_ ?_ #[?_,?_] ((f1.ka .push).ka .push) (k1.trans (Kp.push.trans .push))
  ·rw[Ic]; omega
  ·rw[Kt]; omega
  ·rw[KD]; exact q3
  ·rw[KD]; exact q4
theorem fm (hfu:20 < fuel)(G:Gen defs){a:Hs}{bs:Hj Hy}(hf:Fl S r)(ha:a<=3)(hb:bs.length<=3)
  (k:∀(ms ns:Hj HM) S',ms.length=a->ns.length=bs.length->GoodN ms ns->Fl S' r->Kp r S S'->Q (cr ms ns bs [],S')) :
  wO (aC (ak defs fuel (d+5)) "_law_rule_of" 4 [.ref r,.int a,.tup (ac bs),.tup []] S) Q:=
 gz hfu G hf ha hb (us:=[]) (λ_ _=>rfl) #v[] (λ_ h=>nomatch h) k
theorem draws {Φ:HM->FF}{ρ:Fm}{elt e:E}{cap:Hj (Hr Hs)}{n i:Hs}{R:Fm}(oe:dL elt=true)(oi:dL e=true)(h1:i<=1000)(hc:eZ cap ρ=td::td::R)(hf:Fl S r)(he:∀Q:QW,Q (.int i,S)->wE Φ e ρ S Q)
  (hp:∀(a:Hr W) (S1:aa) (Q:QW),Fl S1 r->(∀v S',0<=v->v < (n:Hy)->Fl S' r->Kp r S1 S'->Q (.int v,S'))->wE Φ elt (td::a::R) S1 Q)
  (k:∀(vs:Hj Hy) S',vs.length=i->(∀w∈vs,0<=w/\w < (n:Hy))->Fl S' r->Kp r S S'->Q (.ref S'.length,S'++[.lst (ac vs)])) :
  Wp (az Φ (.comp elt (.nm 1) (.rng #v[e]) .nil cap) ρ S) Q:=by
 refine eA (i:Hy) (λj ys ρ2 S3=>(∃a1,ρ2=td::a1::R)/\(∃vs:Hj Hy,ys=ac vs/\vs.length=j/\∀w∈vs,0<=w/\w < (n:Hy))/\Fl S3 r/\Kp r S S3) oi oe rfl ∅ (he _ #[rfl,#[td,hc],#[[],rfl,rfl,λ_ h=>nomatch h],hf,.refl]) ?_ ?_
 ·rintro j ys ρ2 S3 hj ⟨⟨a1,rfl⟩,⟨vs,rfl,hvl,hv⟩,f3,k3⟩;refine#[λ_=>hp _ _ _ f3 λv S4 v0 v1 f4 k4=>#[#[_,rfl],#[vs++[v],(HV (l₁:=vs) (l₂:=[v])).symm,by rw[Hn,hvl]; rfl,λw hw=>?_],f4,k3.trans k4],λz=>by cases z]
  rcases Ig.mp hw with h|h
  ·exact hv w h
  ·rw[HE.mp h]; exact#[v0,v1]
 ·rintro ys ρ2 S3 ⟨_,⟨vs,rfl,hvl,hv⟩,f3,k3⟩;rw[HI]at hvl;exact#[ki (by rw[show(ac vs).length=vs.length from Hk ..]; omega),k vs S3 hvl hv f3 k3]
theorem iC (G:Gen defs){a n:Hs}(hf:Fl S r)(ha:0 < a)(ha3:a<=3)(hn:0 < n)(hn3:n<=3)(k:∀(u:Wd) S',u.length=3->GoodW a n u->Fl S' r->Kp r S S'->Q (am u,S')) :
  wO (aC (ak defs fuel (d+2)) "_law_free_three" 3 [.ref r,.int a,.int n] S) Q:=by
 refine al G.free_three rfl rfl λQ' hR=>?_
 replace k:∀(u:Wd) S',u.length=3->GoodW a n u->Fl S' r->Kp r S S'->Q' (.rt (am u),S'):=λz S' a b c e=>hR _ _ (k z S' a b c e)
 clear hR;show wZ _ _ ci [gV (.ref r),gV (.int a),gV (.int n),td,td] S Q';dsimp only[ci];have hrt:=hf.lt;refine st ?_;dsimp only[wS,wE,wA,Hz];refine aF λK hK=>?_
 refine bD 3 (λk ρ S'=>∃a4 u,ρ=[gV (.ref r),gV (.int a),gV (.int n),gV (.ref S.length),a4]/\S'[S.length]?=gV (.lst (u.map ap))/\u.length=k/\GoodW a n u/\Fl S' r/\Kp r S S') rfl rfl #v[] #[rfl,td,[],rfl,aj,rfl,.nil,hf.ka .push,.push] ?_ ?_
 ·rintro i ρ S1 hi ⟨a4,u,rfl,e1,hul,hu,f1,k1⟩ Q2 hn' _;clear hK;refine st ?_;dsimp only[wS,wE,wA,wV,wG,Hz];refine#[dE e1,aT (d:=d) G.pick f1 ∅ ∅ λv S2 v0 v1 f2 k2=>?_]
  have e2:=k2.get _ _ ∅ e1
  refine draws (n:=n) (i:=i) (R:=[gV (.ref r),gV (.int n)]) rfl rfl ∅ rfl f2 (λQ q=>q) (λa S1 Q f q=>aT (d:=d) G.pick f ∅ ∅ q) λvs S3 hvl hv f3 k3=>?_
  have e3:=ar (u:=O.lst (ac vs)) (k3.get _ _ ∅ e2)
  refine fH aj (lV e3 (by rw[Hk]; omega) (aL (hn' _ _ #[_,u++[(v,vs)],rfl,?_,by rw[Hn,hul]; rfl,hu.snoc #[v0,v1] (hvl.trans hul.symm) hv,(f3.ka .push).own hrt,(k1.trans (k2.trans (k3.trans .push))).late (HC _)])))
  rw[bG e3,HV]; rfl
 ·rintro ρ S1 ⟨a4,u,rfl,e1,hul,hu,f1,k1⟩;refine hK _ _ (st ?_);dsimp only[wS,wE,wA,wV,wG];exact fH e1 (k u _ hul hu f1 k1)
end
noncomputable def eu (n:Hs):Hj Hy:=(HJ n).map λ(k:Hs)=>(k:Hy)
noncomputable def pd (a n:Hs):Hj Wd:=(eu a).flatMap λm0=>(eu a).flatMap λm1=>(eu a).flatMap λm2=>(eu n).flatMap λw1=>(eu n).flatMap λw2=>(eu n).map λw3=>[(m0,[]),(m1,[w1]),(m2,[w2,w3])]
noncomputable def aM (a:Hs)(bs:Hj Hy):Hj Wd:=((pd a bs.length).map (kn bs)).eraseDups
theorem c7 {n:Hs}{x:Hy}(h0:0<=x)(h1:x < n):x∈eu n:=HU.mpr #[x.toNat,HL.mpr ∅,∅]
theorem ue {a n:Hs}{u:Wd}(h:GoodW a n u)(h3:u.length=3):u∈pd a n:=by
 match u,h3 with
 | [(m0,w0),(m1,w1),(m2,w2)],_=>
  have l0:=h.len 0 _ rfl;have l1:=h.len 1 _ rfl;have l2:=h.len 2 _ rfl;simp only at l0 l1 l2
  match w0,l0 with
  | [],_=>
   match w1,l1 with
   | [x],_=>
    match w2,l2 with
    | [y,z],_=>
     have a0:=h.mark 0 _ rfl;have a1:=h.mark 1 _ rfl;have a2:=h.mark 2 _ rfl;have b1:=h.way 1 _ rfl x (by simp)
     have b2:=h.way 2 _ rfl y (by simp)
     have b3:=h.way 2 _ rfl z (by simp)
     unfold pd;simp only[Jc,HU];exact#[m0,c7 a0.1 a0.2,m1,c7 a1.1 a1.2,m2,c7 a2.1 a2.2,x,c7 b1.1 b1.2,y,c7 b2.1 b2.2,z,c7 b3.1 b3.2,rfl]
theorem Ai {a:Hs}{bs:Hj Hy}{u:Wd}(h:GoodW a bs.length u)(h3:u.length=3):kn bs u∈aM a bs:=by
 unfold aM;rw[LO];exact HU.mpr #[u,ue h h3,rfl]
structure SizeOk (a:Hs)(bs:Hj Hy):Prop where
 pos:0 < a
 good:GoodB bs
 most:a*bs.length<=6
 a3:a<=3
theorem Gs:(aM 1 [0]).length < 64/\(aM 2 [0]).length < 64/\(aM 3 [0]).length < 64:=by decide +kernel
theorem Fp:(aM 1 [0,1]).length < 64/\(aM 2 [0,1]).length < 64/\(aM 1 [1,0]).length < 64/\(aM 2 [1,0]).length < 64:=by decide +kernel
theorem Gu:(aM 1 [0,1,2]).length < 64/\(aM 1 [1,0,2]).length < 64/\(aM 1 [0,2,1]).length < 64:=by decide +kernel
theorem Gv:(aM 3 [0,1]).length < 64:=by decide +kernel
theorem Gw:(aM 3 [1,0]).length < 64:=by decide +kernel
theorem Gx:(aM 2 [0,1,2]).length < 64:=by decide +kernel
theorem Gy:(aM 2 [1,0,2]).length < 64:=by decide +kernel
theorem Gz:(aM 2 [0,2,1]).length < 64:=by decide +kernel
theorem nM {a:Hs}{bs:Hj Hy}(h:SizeOk a bs):(aM a bs).length < 64:=by
 obtain⟨h0,hb,hm,h3⟩:=h;have ha:a=1\/a=2\/a=3:=∅
 rcases hb with rfl|rfl|rfl|rfl|rfl|rfl <;> rcases ha with rfl|rfl|rfl
 ·exact Gs.1
 ·exact Gs.2.1
 ·exact Gs.2.2
 ·exact Fp.1
 ·exact Fp.2.1
 ·exact Gv
 ·exact Fp.2.2.1
 ·exact Fp.2.2.2
 ·exact Gw
 ·exact Gu.1
 ·exact Gx
 ·simp at hm
 ·exact Gu.2.1
 ·exact Gy
 ·simp at hm
 ·exact Gu.2.2
 ·exact Gz
 ·simp at hm
theorem xo (bs:Hj Hy)(u:Wd):∃t∈aw,kn bs u=au bs u t:=by
 have h7:(aw.map (au bs u)).length=6:=by rw[Hk]; rfl
 have h8:((aw.map (au bs u)).map du).length=6:=by rw[Hk,h7]
 have hlt:nr ((aw.map (au bs u)).map du) < (aw.map (au bs u)).length:=by
  unfold nr;have h6:=fj (AO ((aw.map (au bs u)).map du)) (((aw.map (au bs u)).map du).length - 1);rw[h7]; omega
 unfold kn;rw[getD_some (HH hlt)];obtain⟨t,ht,e⟩:=HU.mp (IT hlt);exact#[t,ht,e.symm]
theorem Aj (bs:Hj Hy)(u:Wd):kn bs u≠[]:=by
 obtain⟨t,ht,e⟩:=xo bs u;rw[e];have:∀t∈aw,t≠[]:=by decide
 have h:=this t ht;intro z;have hl:(au bs u t).length=t.length:=by simp[au]
 rw[z]at hl;exact h (Lb.mp hl.symm)
theorem pe:∀ {xs ys:Hj Hy},xs.map T.int=ys.map T.int->xs=ys
 | [],[],_=>rfl
 | [],_::_,h=>by cases h
 | _::_,[],h=>by cases h
 | x::xs,y::ys,h=>by
  rw[Jd,Jd]at h;injection h with h1 h2
  injection h1 with h1
  rw[h1,pe h2]
theorem Ak {p q:Pt}(h:o8 p=o8 q):p=q:=by
 unfold o8 at h;injection h with h
 injection h with h1 h2
 injection h1 with h1
 injection h2 with h2 _
 injection h2 with h2
 exact Pq h1 (pe h2)
theorem nN {u v:Wd}(h:du u=du v):u=v:=by
 unfold du at h;injection h with h
 have inj:∀ {u v:Wd},u.map o8=v.map o8->u=v:=by
  intro u
  induction u with
  | nil=>intro v h; cases v with
   | nil=>rfl
   | cons _ _=>cases h
  | cons p u ih=>intro v h; cases v with
   | nil=>cases h
   | cons q v=>
    rw[Jd,Jd]at h;injection h with h1 h2
    rw[Ak h1,ih h2]
 exact inj h
theorem i6 {kvs:Hj (T×W)}{k:T}{v:W}:(en kvs k v).map (·.1)=if k∈kvs.map (·.1)then kvs.map (·.1)else kvs.map (·.1)++[k]:=by
 have hany:(kvs.any λp=>decide (p.1=k))=decide (k∈kvs.map (·.1)):=by
  induction kvs with
  | nil=>rfl
  | cons p kvs ih=>
   rw[Kk,ih,Jd]
   by_cases e:p.1=k
   ·subst e; simp
   ·rw[Iq e,Nd];have:(k∈p.1::kvs.map (·.1))=(k∈kvs.map (·.1)):=by simp[Ne.symm e]
    simp only[this]
 unfold en;rw[hany]
 by_cases h:k∈kvs.map (·.1)
 ·rw[HY h,HY (IZ h),J0];refine IP λp _=>?_
  show(if p.1=k then(p.1,v)else p).1=p.1
  split <;> rfl
 ·rw[Iy h,Iy (by simpa using h),HV]
  rfl
structure FigD (L:Hj Wd)(kvs:Hj (T×W))(fs:Hj Wd):Prop where
 keys:kvs.map (·.1)=fs.map du
 nd:fs.Nodup
 mem:∀f∈fs,f∈L
theorem FigD.nil {L:Hj Wd}:FigD L [] []:=#[rfl,MS,λ_ h=>nomatch h]
theorem FigD.len {L:Hj Wd}{kvs:Hj (T×W)}{fs:Hj Wd}(h:FigD L kvs fs):kvs.length=fs.length/\fs.length<=L.length:=by
 have:=congrArg Pp h.keys;rw[Hk,Hk]at this;exact#[this,nL fs L h.nd h.mem]
theorem FigD.put {L:Hj Wd}{kvs:Hj (T×W)}{fs:Hj Wd}{f:Wd}{v:W}(h:FigD L kvs fs)(hf:f∈L):∃fs',FigD L (en kvs (du f) v) fs':=by
 by_cases hm:f∈fs
 ·refine#[fs,?_,h.nd,h.mem];rw[i6,HY (by rw[h.keys]; exact HU.mpr #[f,hm,rfl]),h.keys]
 ·refine#[fs++[f],?_,?_,λg hg=>?_]
  ·rw[i6,Iy,h.keys,HV]
   ·rfl
   ·rw[h.keys];intro z;obtain⟨g,hg,e⟩:=HU.mp z;exact hm (nN e ▸ hg)
  ·rw[L3];refine#[h.nd,by simp,λa ha b hb e=>?_]
   rw[HE.mp hb]at e;exact hm (e ▸ ha)
  ·rcases Ig.mp hg with h'|h'
   ·exact h.mem g h'
   ·rw[HE.mp h']; exact hf
theorem FigD.items {S:aa}{t:Hs}{L:Hj Wd}{kvs:Hj (T×W)}{fs:Hj Wd}(h:FigD L kvs fs)(e:S[t]?=gV (.dic kvs)):d3 S (.ref t)=gV (fs.map am):=by
 simp only[d3,nI e,bI e,Iv];congr 1;have:(kvs.map (·.1)).map T.w=(fs.map du).map T.w:=by rw[h.keys]
 rw[J0,J0]at this
 calc kvs.map (λp=>p.1.w)=kvs.map (T.w∘λx=>x.1):=rfl
  _=fs.map (T.w∘du):=this
  _=fs.map am:=by
   refine IP λf _=>?_
   exact wW f
theorem pf {a:Hs}{bs:Hj Hy}{f:Wd}(h:f∈aM a bs):f≠[]:=by
 unfold aM at h;rw[LO]at h;obtain⟨u,_,rfl⟩:=HU.mp h;exact Aj bs u
theorem xp {S:aa}{t:Hs}{kvs:Hj (T×W)}{u:Wd}{v:W}(h:S[t]?=gV (.dic kvs))(hl:kvs.length < sizeLine):ii (.ref t) (am u) v S=gV (S.set t (.dic (en kvs (du u) v))):=by
 have hk:=gX u;unfold am at hk ⊢;simp only[ii,mY,h,hk];rw[HY hl]
structure RuleAt (a:Hs)(bs:Hj Hy)(ms ns:Hj HM)(gs:Hj Wd):Prop where
 size:SizeOk a bs
 ml:ms.length=a
 nl:ns.length=bs.length
 nm:GoodN ms ns
 nd:gs.Nodup
 mem:∀g∈gs,g∈aM a bs
noncomputable def di (w:W):Prop:=∃a bs ms ns gs,w=cr ms ns bs (iB gs)/\RuleAt a bs ms ns gs
section
variable{Φ:HM->FF}{fuel:Hs}{ρ:Fm}{S:aa}{K:Fm->aa->Prop}{Q:QO}
theorem kq {i0:Hs}{e:E}{b:Ss}(oe:dL e=true)(ok:fT b=true)(he:wE Φ e ρ S λp=>∃(j:Hy) (I:Hs->Fm->aa->Prop),p.1=.int j/\(-(2 ^ 62)<=j/\j < 2 ^ 62)/\I 0 ρ p.2/\
  (∀(i:Hs) (ρ:Fm) (S:aa),(i:Hy) < j->I i ρ S->ub Φ fuel b (ρ.set i0 (gV (.int i))) S (I (i+1)) Q)/\∀ρ S,I j.toNat ρ S->K ρ S):Wp (fJ Φ fuel (.loop (.nm i0) (.rng #v[e]) b) ρ S) (o7 K Q):=by
 obtain⟨w,S1,e1,j,I,rfl,hj,h0,hs,hend⟩:=bW oe he;have hl:(dc 0 j.toNat).length=j.toNat:=by simp[dc]
 refine fU (mi:=.its (dc 0 j.toNat)) (S1:=S1) (xs:=dc 0 j.toNat) I ok ?_ (λ_ _ _ _=>rfl) rfl h0 (λi w ρ S hw hI=>?_) λρ S hI=>hend ρ S (hl ▸ hI)
 ·simp only[jv,de,dG,io,qj,e1];rw[HY hj]
 ·rw[d4]at hw;split at hw
  ·rename_i hk;cases hw;rw[LG];exact hs i ρ S ∅ hI
  ·cases hw
theorem c8 {tg:Tg}{e:E}{b:Ss}(oe:dL e=true)(ok:fT b=true)(he:wE Φ e ρ S λp=>∃(t:Hs) (xs:Hj W) (I:Hs->Fm->aa->Prop),p.1=.ref t/\I 0 ρ p.2/\(∀i ρ S,I i ρ S->S[t]?=gV (.lst xs))/\
  (∀(i:Hs) (w:W) (ρ:Fm) (S:aa),xs[i]?=gV w->I i ρ S->wO (eJ tg w ρ S) λq=>ub Φ fuel b q.1 q.2 (I (i+1)) Q)/\∀ρ S,I xs.length ρ S->K ρ S):Wp (fJ Φ fuel (.loop tg (.seq e) b) ρ S) (o7 K Q):=by
 obtain⟨w,S1,e1,t,xs,I,rfl,h0,hat,hs,hend⟩:=bW oe he;exact fU (mi:=.live t) (S1:=S1) I ok (by simp only[jv,eP,e1,aJ (hat _ _ _ h0)]) (λi ρ S h=>by simp only[MI.at,aJ (hat _ _ _ h)]) (by simp only[MI.len,aJ (hat _ _ _ h0),Iv]) h0 hs hend
end
section
variable{defs:Hj (HM×Df)}{fuel d:Hs}{S:aa}{r:Hs}{Q:QW}
theorem sw {q:Hs}{a:Hs}{bs:Hj Hy}{ms ns:Hj HM}{fs0:Hj Wd}{kvs:Hj (T×W)}{fs:Hj Wd}(h3:S[q]?=gV (.dic kvs))(h4:FigD (aM a bs) kvs fs)(hs:SizeOk a bs)(hml:ms.length=a)(hnl:ns.length=bs.length)(hnm:GoodN ms ns)(k:∀w S',di w->Ka S S'->Q (w,S')) :
  wO (ju (cr ms ns bs fs0) (.int 0) S) λp=>wO (ju (cr ms ns bs fs0) (.int 1) p.2) λq'=>wO (Bi.sorted.fn [.ref q] q'.2) λs=>wO (Bi.tuple.fn [s.1] s.2) λz=>Q (.tup [p.1,q'.1,z.1],z.2):=by
 refine ae #v[] rfl (ae #v[] rfl ?_)
 have hl:=h4.len;exact xj (h4.items h3) (by have:=nM hs; omega) (λf hf=>pf (h4.mem f hf)) (fH aj (k _ _ #[a,bs,ms,ns,fs,rfl,hs,hml,hnl,hnm,h4.nd,h4.mem] .push))
theorem sx {q:Hs}{a:Hs}{bs:Hj Hy}{u:Wd}{kvs:Hj (T×W)}{fs:Hj Wd}{Q:aa->Prop}(h3:S[q]?=gV (.dic kvs))(h4:FigD (aM a bs) kvs fs)(hs:SizeOk a bs)(hu:GoodW a bs.length u)(hu3:u.length=3)
  (k:∀o,(∃kvs fs,(S.set q o)[q]?=gV (.dic kvs)/\FigD (aM a bs) kvs fs)->Q (S.set q o)):wO (ii (.ref q) (am (kn bs u)) (.bl true) S) Q:=by
 have hl:=h4.len;have:=nM hs;obtain⟨fs',h5⟩:=h4.put (v:=.bl true) (Ai hu hu3);exact ab (xp h3 (by rw[IN]; omega)) (k _ #[_,fs',bG h3,h5])
theorem qw (hfu:20 < fuel)(G:Gen defs)(hf:Fl S r)(k:∀w S',di w->Fl S' r->Kp r S S'->Q (w,S')):wO (aC (ak defs fuel (d+6)) "_law_any_rule" 1 [.ref r] S) Q:=by
 refine al G.any_rule rfl rfl λQ' hR=>?_
 replace k:∀w S',di w->Fl S' r->Kp r S S'->Q' (.rt w,S'):=λz S' a b c=>hR _ _ (k z S' a b c)
 clear hR;show wZ _ _ cY [gV (.ref r),td,td,td,td,td] S Q';dsimp only[cY];refine aF λK hK=>?_
 dsimp only[wS,wE,wA,wV,wG];refine sr (d:=d+3) G hf λa n S1 a1 a3 n1 n3 an f1 k1=>?_
 dsimp only[wU];refine ab (show cL [1,2] [.int a,.int n] [gV (.ref r),td,td,td,td,td]=gV [gV (.ref r),gV (.int a),gV (.int n),td,td,td]from rfl) (hK _ _ ?_)
 clear hK K;refine aF λK hK=>?_
 dsimp only[wS,wE,wA,wV,wG,Hz];refine sv (d:=d+3) G f1 n1 n3 λbs S2 hb hbl f2 k2=>?_
 have hsz:SizeOk a bs:=#[∅,hb,by rw[hbl]; exact an,a3]
 refine fm (d:=d) hfu G f2 a3 ∅ λms ns S3 hml hnl hnm f3 k3=>hK _ _ ?_
 clear hK K;have hrt:=f3.lt;replace k3:Kp r S S3:=k1.trans (k2.trans k3);clear k1 k2 f1 f2;refine st ?_;dsimp only[wS,wE,Hz];refine aF λK hK=>?_
 refine kq rfl rfl ?_;dsimp only[wE,wA,wV,wG];refine aT (d:=d+4) G.pick (f3.ka .push) #v[] #v[] λv S4 v0 v9 f4 k4=>?_
 refine#[v,λk ρ S'=>(∃a5,ρ=[gV (.ref r),gV (.int a),gV (.int n),gV (cr ms ns bs []),gV (.ref S3.length),a5])/\(∃kvs fs,S'[S3.length]?=gV (.dic kvs)/\FigD (aM a bs) kvs fs)/\Fl S' r/\Kp r S S',rfl,∅,#[#[td,rfl],#[[],[],k4.get _ _ ∅ aj,.nil],f4,(k3.trans .push).trans k4],?_,?_]
 ·rintro i ρ S5 hi ⟨⟨a5,rfl⟩,⟨kvs,fs,e5,hd⟩,f5,k5⟩ Q2 hn _;clear hK;refine st ?_;dsimp only[wS,wE,wA,wV,wG,Hz];refine iC (d:=d+3) G f5 ∅ a3 ∅ n3 λu S6 hu3 hu f6 k6=>?_
  have hu:GoodW a bs.length u:=hbl.symm ▸ hu;refine iA (d:=d+2) G hb hnl hu hu3 λS7 k7=>?_
  have e7:=k7.get _ _ (k6.get _ _ ∅ e5)
  exact sx e7 hd hsz hu hu3 λo ho=>aL (hn _ _ #[#[_,rfl],ho,(f6.ka k7).own hrt,((k5.trans k6).trans (k7.kp r)).late k3.len])
 ·rintro ρ S5 ⟨⟨a5,rfl⟩,⟨kvs,fs,e5,hd⟩,f5,k5⟩;refine hK _ _ (st ?_);dsimp only[wS,wE,wA,wV,wG];exact sw (Q:=λp=>Q' (.rt p.1,p.2)) e5 hd hsz hml hnl hnm λw S6 hw k6=>k w S6 hw (f5.ka k6) (k5.trans (k6.kp r))
end
noncomputable def eR (t:Hy×Hy×Hy):W:=.tup [.int t.1,.int t.2.1,.int t.2.2]
noncomputable def pg (a:Hs)(t:Hy×Hy×Hy):Prop:=(0<=t.1/\t.1 < a)/\(0<=t.2.1/\t.2.1 < a)/\(0<=t.2.2/\t.2.2 < a)
noncomputable def xq (k:Hy):Wd:=[(k,[]),(k,[0]),(k,[0,0])]
theorem GB:∀k∈eu 1,xq k∈aM 1 [0]:=by decide +kernel
theorem GC:∀k∈eu 2,xq k∈aM 2 [0]:=by decide +kernel
theorem GD:∀k∈eu 3,xq k∈aM 3 [0]:=by decide +kernel
theorem Al {a:Hs}{k:Hy}(h0:1<=a)(h3:a<=3)(hk:0<=k)(hk2:k < a):xq k∈aM a [0]:=by
 have ha:a=1\/a=2\/a=3:=∅
 rcases ha with rfl|rfl|rfl
 ·exact GB k (c7 hk hk2)
 ·exact GC k (c7 hk hk2)
 ·exact GD k (c7 hk hk2)
theorem Am {a b:Hy}(h:xq a=xq b):a=b:=by
 unfold xq at h;injection h with h1 h2
 injection h1
theorem iD:GoodB [0]:=.inl rfl
theorem sy {S:aa}{i j:Hs}{xs:Hj W}(h1:S[i]?=gV (.lst xs))(h2:S[j]?=gV (.lst [])):aK .eq (.ref i) (.ref j) S=gV (.bl xs.isEmpty,S):=by
 show(gQ S (19+1) (.ref i) (.ref j)).map _=_;simp only[gQ,cX h1,cX h2];cases xs with
 | nil=>rfl
 | cons x xs=>rfl
theorem An {S:aa}{f:Hy}{ws:Hj Hy}:∃b,aK .notin (.int f) (.tup (ac ws)) S=gV (.bl b,S):=by
 have hf:(bC (.int f)&&(ac ws).all bC)=true:=by
  simp only[bC,K1,HS];intro x hx;obtain⟨z,_,rfl⟩:=HU.mp hx;rfl
 refine#[!(ac ws).any λz=>mO z (.int f),?_]
 show dI .notin (.int f) (.tup (ac ws)) S=_;simp only[dI,uH,zb,eN,hf,Kq,Iv]
section
variable{Φ:HM->FF}{fuel:Hs}{ρ:Fm}{S:aa}{K:Fm->aa->Prop}{Q:QO}
theorem cx {i0:Hs}{a b:E}{bd:Ss}(i j:Hy)(I:Hs->Fm->aa->Prop)(oa:dL a=true)(ob:dL b=true)(ok:fT bd=true)(hj : -(2 ^ 62)<=i/\i < 2 ^ 62/\-(2 ^ 62)<=j/\j < 2 ^ 62)(he:wE Φ a ρ S λp=>p.1=.int i/\wE Φ b ρ p.2 λq=>q.1=.int j/\I 0 ρ q.2)
  (hstep:∀(k:Hs) (ρ:Fm) (S:aa),(k:Hy) < j - i->I k ρ S->ub Φ fuel bd (ρ.set i0 (gV (.int (i+k)))) S (I (k+1)) Q) (hend:∀ρ S,I (j - i).toNat ρ S->K ρ S):Wp (fJ Φ fuel (.loop (.nm i0) (.rng2 #v[a,b]) bd) ρ S) (o7 K Q):=by
 obtain⟨w,S1,e1,rfl,h1⟩:=bW oa he;obtain⟨w,S2,e2,rfl,h0⟩:=bW ob h1;have hl:(dc i (j - i).toNat).length=(j - i).toNat:=by simp[dc]
 refine fU (mi:=.its (dc i (j - i).toNat)) (S1:=S2) (xs:=dc i (j - i).toNat) I ok ?_ (λ_ _ _ _=>rfl) rfl h0 (λk w ρ S hw hI=>?_) λρ S hI=>hend ρ S (hl ▸ hI)
 ·simp only[jv,de,dG,io,iRng2,e1,e2];rw[HY hj]
 ·rw[d4]at hw;split at hw
  ·rename_i hk;cases hw;exact hstep k ρ S ∅ hI
  ·cases hw
theorem xr {elt a b:E}{i0:Hs}{cs:Es}{cap:Hj (Hr Hs)}{Q:QW}(i j:Hy)(I:Hs->Hj W->Fm->aa->Prop)(oa:dL a=true)(ob:dL b=true)(oe:dL elt=true)(oc:n0 cs=true)(hj : -(2 ^ 62)<=i/\i < 2 ^ 62/\-(2 ^ 62)<=j/\j < 2 ^ 62)(he:wE Φ a ρ S λp=>p.1=.int i/\wE Φ b ρ p.2 λq=>q.1=.int j/\I 0 [] (eZ cap ρ) q.2)
  (hstep:∀(k:Hs) (ys:Hj W) (ρ:Fm) (S:aa),(k:Hy) < j - i->I k ys ρ S->fW Φ elt cs (ρ.set i0 (gV (.int (i+k)))) S (λy=>I (k+1) (ys++[y])) (I (k+1) ys))
  (hend:∀ys ρ S,I (j - i).toNat ys ρ S->ys.length<=sizeLine/\Q (.ref S.length,S++[.lst ys])):Wp (az Φ (.comp elt (.nm i0) (.rng2 #v[a,b]) cs cap) ρ S) Q:=by
 obtain⟨w,S1,e1,rfl,h1⟩:=bW oa he;obtain⟨w,S2,e2,rfl,h0⟩:=bW ob h1;have hl:(dc i (j - i).toNat).length=(j - i).toNat:=by simp[dc]
 refine kh (mi:=.its (dc i (j - i).toNat)) (S1:=S2) (xs:=dc i (j - i).toNat) I oe oc ?_ (λ_ _ _ _ _=>rfl) rfl h0 (λk w ys ρ S hw hI=>?_) λys ρ S hI=>hend ys ρ S (hl ▸ hI)
 ·simp only[jv,de,dG,io,iRng2,e1,e2];rw[HY hj]
 ·rw[d4]at hw;split at hw
  ·rename_i hk;cases hw;exact hstep k ys ρ S ∅ hI
  ·cases hw
end
section
variable{defs:Hj (HM×Df)}{fuel d:Hs}{S:aa}{r:Hs}{Q:QW}
theorem ph (G:Gen defs){a:Hs}(ha:a<=3)(k:∀(q:Hs) (ts:Hj (Hy×Hy×Hy)) (S':aa),S'[q]?=gV (.lst (ts.map eR))->(∀t∈ts,pg a t)->S.length<=q->Ka S S'->Q (.ref q,S')) :
  wO (aC (ak defs fuel (d+1)) "_law_rising" 1 [.int a] S) Q:=by
 refine al G.rising rfl rfl λQ' hR=>?_
 replace k:∀(q:Hs) (ts:Hj (Hy×Hy×Hy)) (S':aa),S'[q]?=gV (.lst (ts.map eR))->(∀t∈ts,pg a t)->S.length<=q->Ka S S'->Q' (.rt (.ref q),S'):=λq ts S' a b c e=>hR _ _ (k q ts S' a b c e)
 clear hR;show wZ _ _ dO [gV (.int a),td,td,td] S Q';dsimp only[dO];refine st ?_;dsimp only[wS,wE,wA,Hz];refine aF λK hK=>?_
 refine bD (a:Hy) (λi ρ S'=>∃(q:Hs) (ts:Hj (Hy×Hy×Hy)) (a2 a3:Hr W),ρ=[gV (.int a),gV (.ref q),a2,a3]/\S'[q]?=gV (.lst (ts.map eR))/\(∀t∈ts,pg a t)/\S.length<=q/\ts.length<=9*i/\Ka S S') rfl rfl ∅ #[rfl,_,[],_,_,rfl,aj,λ_ h=>(nomatch h),HC _,JN _,.push] ?_ ?_
 ·rintro i ρ S1 hi ⟨q,ts,a2,a3,rfl,e1,ht,hq,hl,k1⟩ Q2 hn _;clear hK k;refine aF λK hK=>?_
  refine cx (i:Hy) (a:Hy) (λj ρ S'=>∃(q:Hs) (ts:Hj (Hy×Hy×Hy)) (a3:Hr W),ρ=[gV (.int a),gV (.ref q),gV (.int i),a3]/\S'[q]?=gV (.lst (ts.map eR))/\(∀t∈ts,pg a t)/\S.length<=q/\ts.length<=9*i+3*j/\Ka S S') rfl rfl rfl ∅ #[rfl,rfl,q,ts,a3,rfl,e1,ht,hq,∅,k1] ?_ ?_
  ·rintro j ρ S2 hj ⟨q,ts,a3,rfl,e2,ht,hq,hl,k2⟩ Q3 hn3 _;clear hK hn;refine st ?_;dsimp only[wS,wE,wV,wG,Hz];refine xr ((i:Hy)+j) (a:Hy) (λm ys ρ2 S3=>(∃a1,ρ2=[td,a1,gV (.int i),gV (.int ((i:Hy)+j))])/\(∃us:Hj (Hy×Hy×Hy),ys=us.map eR/\us.length=m/\∀t∈us,pg a t)/\S3=S2) rfl rfl rfl rfl ∅ #[rfl,rfl,#[td,rfl],#[[],rfl,rfl,λ_ h=>nomatch h],rfl] ?_ ?_
   ·rintro m ys ρ2 S3 hm ⟨⟨a1,rfl⟩,⟨us,rfl,hul,hu⟩,rfl⟩;refine#[λ_=>#[#[_,rfl],#[us++[((i:Hy),(i:Hy)+j,(i:Hy)+j+m)],by rw[HV]; rfl,by rw[Hn,hul]; rfl,λt h=>?_],rfl],λz=>by cases z]
    rcases Ig.mp h with h|h
    ·exact hu t h
    ·rw[HE.mp h];exact#[#[∅,∅],#[by dsimp only; omega,by dsimp only; omega],#[by dsimp only; omega,by dsimp only; omega]]
   ·rintro ys ρ2 S3 ⟨_,⟨us,rfl,hul,hu⟩,rfl⟩;refine#[ki (by rw[Hk]; omega),ab (nG (ar e2) aj ?_) (aL (hn3 _ _ #[_,ts++us,_,rfl,?_,λt h=>(Ig.mp h).elim (ht t) (hu t),?_,?_,k2.trans (Ka.push.trans .push)]))]
    ·refine ki ?_;rw[Hn,Hk,Hk];omega
    ·rw[HV]; exact aj
    ·have:=k2.len;simp only[Hn]; omega
    ·rw[Hn]; omega
  ·rintro ρ S2 ⟨q,ts,a3,rfl,e2,ht,hq,hl,k2⟩;exact hK _ _ (aL (hn _ _ #[q,ts,_,_,rfl,e2,ht,hq,∅,k2]))
 ·rintro ρ S1 ⟨q,ts,a2,a3,rfl,e1,ht,hq,hl,k1⟩;refine hK _ _ (st ?_);exact k q ts S1 e1 ht hq k1
theorem uf (hfu:20 < fuel)(G:Gen defs)(hf:Fl S r)(k:∀w S',di w->Fl S' r->Kp r S S'->Q (w,S')):wO (aC (ak defs fuel (d+6)) "_law_one_way_rule" 1 [.ref r] S) Q:=by
 refine al G.one_way_rule rfl rfl λQ' hR=>?_
 replace k:∀w S',di w->Fl S' r->Kp r S S'->Q' (.rt w,S'):=λz S' a b c=>hR _ _ (k z S' a b c)
 clear hR;show wZ _ _ bP [gV (.ref r),td,td] S Q';dsimp only[bP];refine aF λK hK=>?_
 dsimp only[wS,wE,wA,wV,wG,Hz];refine aT (d:=d+4) G.pick hf #v[] #v[] λv S1 v0 v3 f1 k1=>?_
 dsimp only[cq,aO];obtain⟨a,ea⟩ : ∃a:Hs,1+v=a:=#[(1+v).toNat,∅]
 rw[ea];refine hK _ _ ?_;clear hK K;refine aF λK hK=>?_
 dsimp only[wS,wE,Hz];refine eA (a:Hy) (λk zs ρ2 S2=>(∃a1,ρ2=[td,a1,gV (.ref r)])/\(∃ks:Hj Hy,zs=(ks.map xq).map am/\ks.Pairwise (·≠·)/\ks.length<=k/\∀x∈ks,0<=x/\x < k)/\Fl S2 r/\Kp r S1 S2) rfl rfl rfl ∅ #[rfl,#[td,rfl],#[[],rfl,.nil,HC _,λ_ h=>(nomatch h)],f1,.refl] ?_ ?_
 ·rintro i zs ρ2 S2 hi ⟨⟨a1,rfl⟩,⟨ks,rfl,hkp,hkl,hks⟩,f2,k2⟩;clear hK k;dsimp only[fW,wC,wT,wE,wA,wV,wG,Hz];refine aT (d:=d+4) G.pick f2 #v[] #v[] λv S3 _ _ f3 k3=>?_
  dsimp only[kg,aO,wB];refine#[λ_=>#[#[_,rfl],#[ks++[(i:Hy)],by simp[xq,am,ap],?_,by rw[Hn]; exact Lo hkl,λx hx=>?_],f3,k2.trans k3],λ_=>#[#[_,rfl],#[ks,rfl,hkp,∅,λx hx=>#[(hks x hx).1,by have:=(hks x hx).2; omega]],f3,k2.trans k3]]
  ·rw[List.pairwise_append];refine#[hkp,by simp,λx hx y hy e=>?_]
   have:=(hks x hx).2;rw[HE.mp hy]at e;omega
  ·rcases Ig.mp hx with h|h
   ·exact#[(hks x h).1,by have:=(hks x h).2; omega]
   ·rw[HE.mp h]; omega
 ·rintro zs ρ2 S2 ⟨_,⟨ks,rfl,hkp,hkl,hks⟩,f2,k2⟩;rw[HI]at hkl hks;refine#[ki (by rw[Hk,Hk]; omega),hK _ _ (st ?_)]
  clear hK K;dsimp only[wS,wE,wA,wV,wG,Hz];have hlt:=f2.lt;refine gz (d:=d) (a:=a) (bs:=[0]) (us:=ks.map xq) hfu G (f2.ka .push) ∅ #v[] (λS' kk=>?_) (by rw[Hk]; omega) (λu hu=>by obtain⟨x,_,rfl⟩:=HU.mp hu; exact List.cons_ne_nil _ _) λms ns S3 hml hnl hnm f3 k3=>?_
  ·simp only[d3,aJ (kk.get _ _ ∅ aj)]
  refine k _ _ #[a,[0],ms,ns,ks.map xq,rfl,#[#[∅,iD,by simp; omega,∅],hml,hnl,hnm,?_,λg hg=>?_]] f3 (k1.trans (k2.trans (Kp.push.trans k3)))
  ·unfold PX;rw[L4];exact hkp.imp λh e=>h (Am e)
  ·obtain⟨x,hx,rfl⟩:=HU.mp hg;exact Al ∅ ∅ (hks x hx).1 (hks x hx).2
theorem pi (hfu:20 < fuel)(G:Gen defs)(hf:Fl S r)(k:∀w S',di w->Fl S' r->Kp r S S'->Q (w,S')):wO (aC (ak defs fuel (d+6)) "_law_free_rule" 1 [.ref r] S) Q:=by
 refine al G.free_rule rfl rfl λQ' hR=>?_
 replace k:∀w S',di w->Fl S' r->Kp r S S'->Q' (.rt w,S'):=λz S' a b c=>hR _ _ (k z S' a b c)
 clear hR;show wZ _ _ cD [gV (.ref r),td,td,td,td,td,td,td,td] S Q';dsimp only[cD];refine aF λK hK=>?_
 dsimp only[wS,wE,wA,wV,wG];refine sr (d:=d+3) G hf λa n S1 a1 a3 n1 n3 an f1 k1=>?_
 dsimp only[wU];refine ab (show cL [1,2] [.int a,.int n] [gV (.ref r),td,td,td,td,td,td,td,td]=gV [gV (.ref r),gV (.int a),gV (.int n),td,td,td,td,td,td]from rfl) (hK _ _ ?_)
 clear hK K;refine aF λK hK=>?_
 dsimp only[wS,wE,wA,wV,wG,Hz];refine sv (d:=d+3) G f1 n1 n3 λbs S2 hb hbl f2 k2=>?_
 have hsz:SizeOk a bs:=#[∅,hb,by rw[hbl]; exact an,a3]
 refine fm (d:=d) hfu G f2 a3 ∅ λms ns S3 hml hnl hnm f3 k3=>hK _ _ ?_
 clear hK K;have hrt:=f3.lt;replace k3:Kp r S S3:=k1.trans (k2.trans k3);clear k1 k2 f1 f2;refine aF λK hK=>?_
 dsimp only[wS,wE,Hz];refine eA (n:Hy) (λi zs ρ2 S2=>(∃a1,ρ2=[td,a1,gV (cr ms ns bs [])])/\(∃ks:Hj Hy,zs=ac ks/\ks.length<=i)/\S2=S3) rfl rfl rfl ∅ #[rfl,#[td,rfl],#[[],rfl,HC _],rfl] ?_ ?_
 ·rintro i zs ρ2 S2 hi ⟨⟨a1,rfl⟩,⟨ks,rfl,hkl⟩,rfl⟩;clear hK k;have hi':i < bs.length:=∅
  dsimp only[fW,wC,wT,wE,wA,wV,wG,Hz];refine ae #v[] rfl (ae (Hx i) (by rw[HI]; exact i5 (HH ∅) (HH hi')) (ae #v[] rfl ?_))
  dsimp only[kg,aO,wB];exact#[λ_=>#[#[_,rfl],#[ks++[(i:Hy)],by unfold ac; rw[HV]; rfl,by rw[Hn]; exact Lo hkl],rfl],λ_=>#[#[_,rfl],#[ks,rfl,∅],rfl]]
 ·rintro zs ρ2 S2 ⟨_,⟨ks,rfl,hkl⟩,rfl⟩;rw[HI]at hkl;have il:(ac ks).length=ks.length:=Hk ..;refine#[ki ∅,hK _ _ ?_]
  clear hK K;refine aF λK hK=>?_
  dsimp only[wS,wT,wE,wA,wV,wG,Hz];refine ab (sy (ar aj) aj) ?_;dsimp only[wB];have f4:=(f3.ka (Ka.push (o:=O.lst (ac ks)))).ka (Ka.push (o:=O.lst []));have k4:=k3.trans ((Kp.push (o:=O.lst (ac ks))).trans (Kp.push (o:=O.lst [])));have e4:=ar (u:=O.lst []) (aj (S:=S2) (o:=O.lst (ac ks)));have hl4:S2.length < (S2++[O.lst (ac ks)]++[O.lst []]).length:=by simp
  generalize hS4:S2++[O.lst (ac ks)]++[O.lst []]=S4 at f4 k4 e4 hl4;clear hS4;have ret:∀Q2:QO,(∀w S',Q' (.rt w,S')->Q2 (.rt w,S'))->wZ (ak defs fuel (d+5)) fuel #v[.ret (.v 3)] [gV (.ref r),gV (.int a),gV (.int n),gV (cr ms ns bs []),td,gV (.ref S2.length),td,td,td] S4 Q2:=λQ2 hr=>st (hr _ _ (k _ _ #[a,bs,ms,ns,[],rfl,hsz,hml,hnl,hnm,.nil,λ_ h=>(nomatch h)] f4 k4))
  refine#[λ_=>ah (Q0:=Q') (λ_ Q2 _ hr=>ret Q2 hr) (λz=>by cases z),λhne=>?_]
  dsimp only[kg,aO,wB];refine ah (Q0:=Q') (λ_ Q2 _ hr=>ret Q2 hr) (λ_ Q2 hn _=>aL (hn _ _ (hK _ _ ?_)))
  clear hK ret hn;have hk0:0 < ks.length:=by
   cases ks with
   | nil=>cases hne
   | cons x ks=>exact Nat.succ_pos _
  refine aF λK hK=>?_
  dsimp only[wS,wE,wA,wV,wG,Hz];refine sg e4 ?_;rw[il];refine aT (d:=d+4) G.pick f4 ∅ ∅ λv S5 v0 v1 f5 k5=>?_
  have e5:=k5.get _ _ ∅ e4
  obtain⟨x,_,ex⟩:=nK (f:=W.int) (xs:=ks) (i:=v.toNat) ∅
  refine kj e5 v0 ex (hK _ _ ?_);clear hK K;replace k5:Kp r S S5:=k4.trans k5;have hrt5:=f5.lt;refine st ?_;dsimp only[wS,wE,Hz];refine aF λK hK=>?_
  refine kq rfl rfl ?_;dsimp only[wE,wA,wV,wG];refine aT (d:=d+4) G.pick (f5.ka .push) #v[] #v[] λv S6 v0 v9 f6 k6=>?_
  refine#[v,λ_ ρ S'=>(∃a4 a8,ρ=[gV (.ref r),gV (.int a),gV (.int n),gV (cr ms ns bs []),a4,gV (.ref S2.length),gV (.int x),gV (.ref S5.length),a8])/\(∃kvs fs,S'[S5.length]?=gV (.dic kvs)/\FigD (aM a bs) kvs fs)/\Fl S' r/\Kp r S S',rfl,∅,#[#[td,td,rfl],#[[],[],k6.get _ _ ∅ aj,.nil],f6,(k5.trans .push).trans k6],?_,?_]
  ·rintro i ρ S7 hi ⟨⟨a4,a8,rfl⟩,⟨kvs,fs,e7,hd⟩,f7,k7⟩ Q2 hn _;clear hK k;refine st ?_;dsimp only[wS,wE,wA,wV,wG,Hz];refine iC (d:=d+3) G f7 ∅ a3 ∅ n3 λu S8 hu3 hu f8 k8=>?_
   have hu:GoodW a bs.length u:=hbl.symm ▸ hu;have e8:=k8.get _ _ ∅ e7
   obtain⟨p0,p1,p2,rfl⟩ : ∃p0 p1 p2,u=[p0,p1,p2]:=by
    match u,hu3 with
    | [p0,p1,p2],_=>exact#[p0,p1,p2,rfl]
   have l1:=hu.len 1 p1 rfl;obtain⟨m1,ws1⟩:=p1;obtain⟨w1,rfl⟩ : ∃w1,ws1=[w1]:=by
    match ws1,l1 with
    | [w1],_=>exact#[w1,rfl]
   obtain⟨b,hb2⟩:=An (S:=S8) (f:=x) (ws:=p2.2);have kk:=k7.trans k8;refine aF λK hK=>?_
   dsimp only[wS,wT,wE,wA,wV,wG];refine ae #v[] rfl (ae #v[] rfl (ae #v[] rfl ?_))
   dsimp only[t9,aO,wB];have skip:K [gV (.ref r),gV (.int a),gV (.int n),gV (cr ms ns bs []),gV (.int i),gV (.ref S2.length),gV (.int x),gV (.ref S5.length),gV (am [p0,(m1,[w1]),p2])] S8:=hK _ _ (aL (hn _ _ #[#[_,_,rfl],#[kvs,fs,e8,hd],f8,kk]));refine#[λ_=>?_,λ_=>ah (Q0:=Q2) (λz=>by cases z) λ_ Q3 hn3 _=>aL (hn3 _ _ skip)]
   refine ae #v[] rfl (ae #v[] rfl (ab hb2 ?_))
   dsimp only[wB];refine ah (Q0:=Q2) (λ_ Q3 hn3 _=>?_) λ_ Q3 hn3 _=>aL (hn3 _ _ skip)
   clear skip;refine st ?_;dsimp only[wS,wE,wA,wV,wG];refine iA (d:=d+2) G hb hnl hu hu3 λS9 k9=>?_
   exact sx (k9.get _ _ e8) hd hsz hu hu3 λo ho=>aL (hn3 _ _ (hK _ _ (aL (hn _ _ #[#[_,_,rfl],ho,(f8.ka k9).own hrt5,(kk.trans (k9.kp r)).late k5.len]))))
  ·rintro ρ S7 ⟨⟨a4,a8,rfl⟩,⟨kvs,fs,e7,hd⟩,f7,k7⟩;refine hK _ _ (st ?_);dsimp only[wS,wE,wA,wV,wG];exact sw (Q:=λp=>Q' (.rt p.1,p.2)) e7 hd hsz hml hnl hnm λw S8 hw k8=>k w S8 hw (f7.ka k8) (k7.trans (k8.kp r))
end
noncomputable def bN (u v:Hy):T:=.tup [.int u,.int v]
noncomputable def dw (u v:Hy):W:=.tup [.int u,.int v]
theorem iE {u v:Hy}:gC (dw u v)=gV (bN u v):=rfl
theorem xt {kvs:Hj (T×W)}{k:T}{v:W}{p:T×W}(h:p∈en kvs k v):p∈kvs\/p=(k,v):=by
 unfold en at h;split at h
 ·obtain⟨q,hq,rfl⟩:=HU.mp h;split
  ·rename_i e; exact .inr (by rw[e])
  ·exact .inl hq
 ·rcases Ig.mp h with h|h
  ·exact .inl h
  ·exact .inr (HE.mp h)
theorem kw {kvs:Hj (T×W)}{k:T}{v:W}(h:aN kvs k=gV v):(k,v)∈kvs:=by
 unfold aN at h;rw[Ho]at h;obtain⟨p,h1,rfl⟩:=h;have:=MF h1;rw[<- IW this];exact List.mem_of_find?_eq_some h1
theorem sA {kvs:Hj (T×W)}{p:T×W}(h:p∈kvs):∃v,aN kvs p.1=gV v:=by
 unfold aN;cases e:kvs.find? λq=>decide (q.1=p.1)with
 | some q=>exact#[q.2,rfl]
 | none=>exact absurd (J6.mp e p h) (by simp)
noncomputable def MustE (S:aa)(n b:Hs)(kvs:Hj (T×W)):Prop:=∀p∈kvs,∃(u v:Hy) (l:Hs) (ws:Hj Hy),p=(bN u v,W.ref l)/\(0<=u/\u < n)/\(0<=v/\v < n)/\b<=l/\S[l]?=gV (.lst (ac ws))/\ws.length<=3/\∀w∈ws,0<=w/\w < (n:Hy)
theorem MustE.mono {S S':aa}{n b:Hs}{kvs:Hj (T×W)}(h:MustE S n b kvs)(k:∀(l:Hs) (ws:Hj Hy),b<=l->S[l]?=gV (.lst (ac ws))->S'[l]?=gV (.lst (ac ws))):MustE S' n b kvs:=λp hp=>
 let ⟨u,v,l,ws,h1,h2,h3,h4,h5,h6⟩:=h p hp
 #[u,v,l,ws,h1,h2,h3,h4,k l ws h4 h5,h6]
theorem MustE.ka {S S':aa}{n b:Hs}{kvs:Hj (T×W)}(h:MustE S n b kvs)(k:Ka S S'):MustE S' n b kvs:=h.mono λl ws _ e=>k.get _ _ e
theorem MustE.kp {S S':aa}{n b r:Hs}{kvs:Hj (T×W)}(h:MustE S n b kvs)(hr:r < b)(k:Kp r S S'):MustE S' n b kvs:=h.mono λl ws hl e=>k.get _ _ ∅ e
theorem MustE.set {S:aa}{n b t:Hs}{kvs k:Hj (T×W)}{o:O}(h:MustE S n b kvs)(ht:S[t]?=gV (.dic k)):MustE (S.set t o) n b kvs:=h.mono λl ws hl e=>by
 rw[bh (by rintro rfl; rw[ht]at e; cases e)]; exact e
theorem MustE.put {S:aa}{n b:Hs}{kvs:Hj (T×W)}{u v:Hy}{l:Hs}{ws:Hj Hy}(h:MustE S n b kvs)(h2:0<=u/\u < n)(h3:0<=v/\v < n)(h4:b<=l)(h5:S[l]?=gV (.lst (ac ws)))(h6:ws.length<=3)(h7:∀w∈ws,0<=w/\w < (n:Hy)):MustE S n b (en kvs (bN u v) (.ref l)):=λp hp=>by
 rcases xt hp with hp|rfl
 ·exact h p hp
 ·exact#[u,v,l,ws,rfl,h2,h3,h4,h5,h6,h7]
noncomputable abbrev Ao:=Hy×Hy×Hj Hy
noncomputable def pj (ws:Hj Hy):Es:=ws.foldr (λw es=>.cons (.c (.int w)) es) .nil
noncomputable def sB:Hj Ao->Es
 | []=>.nil
 | e::L=>.cons (.tup #v[.c (.int e.1),.c (.int e.2.1)]) (.cons (.lst (pj e.2.2)) (sB L))
noncomputable def ug:Hj Ao->Hs->Hj W
 | [],_=>[]
 | e::L,s=>dw e.1 e.2.1::.ref s::ug L (s+1)
noncomputable def uh (L:Hj Ao):aa:=L.map λe=>O.lst (ac e.2.2)
noncomputable def sC (n:Hs)(e:Ao):HX:=decide ((0<=e.1/\e.1 < n)/\(0<=e.2.1/\e.2.1 < n)/\e.2.2.length<=3)&&e.2.2.all λw=>decide (0<=w/\w < (n:Hy))
section
variable{Φ:HM->FF}{ρ:Fm}
theorem qx {S:aa}:∀ {ws:Hj Hy} {Q:Hj W×aa->Prop},Q (ac ws,S)->wA Φ (pj ws) ρ S Q
 | [],Q,q=>by show wA Φ .nil ρ S Q; exact q
 | w::ws,Q,q=>by show wA Φ (.cons (.c (.int w)) (pj ws)) ρ S Q; dsimp only[wA,wE]; exact qx q
theorem xu:∀ {L:Hj Ao} {S:aa} {Q:Hj W×aa->Prop},Q (ug L S.length,S++uh L)->wA Φ (sB L) ρ S Q
 | [],S,Q,q=>by
  show wA Φ .nil ρ S Q;dsimp only[wA]
  rwa [show S++uh []=S from Jo S]at q
 | e::L,S,Q,q=>by
  show wA Φ (.cons (.tup #v[.c (.int e.1),.c (.int e.2.1)]) (.cons (.lst (pj e.2.2)) (sB L))) ρ S Q;dsimp only[wA,wE];refine qx (xu ?_);rw[Hn,KG];exact q
end
theorem lY {S:aa}{n b:Hs}:∀(L:Hj Ao) (s:Hs) (kvs:Hj (T×W)),MustE S n b kvs->b<=s->(∀e∈L,sC n e=true)->(∀i e,L[i]?=gV e->S[s+i]?=gV (.lst (ac e.2.2)))->∃kvs',dC kvs (ug L s)=gV kvs'/\MustE S n b kvs'/\kvs'.length<=kvs.length+L.length
 | [],s,kvs,hm,hb,hL,hS=>#[kvs,by simp[ug,dC],hm,by simp]
 | e::L,s,kvs,hm,hb,hL,hS=>by
  have h1:=hL e (by simp)
  unfold sC at h1;rw[Hv,HS]at h1;obtain⟨h2,h3,h4⟩:=IW h1.1;obtain⟨kvs',k1,k2,k3⟩:=lY L (s+1) (en kvs (bN e.1 e.2.1) (.ref s)) (hm.put h2 h3 hb (by have:=hS 0 e rfl; simpa using this) h4 (λw hw=>IW (h1.2 w hw))) ∅ (λx hx=>hL x (by simp[hx])) (λi x hx=>by have:=hS (i+1) x (by simpa using hx); rw[show s+1+i=s+(i+1) by omega]; exact this)
  refine#[kvs',?_,k2,?_]
  ·simp only[ug,dC,iE]; exact k1
  ·have:=cO kvs (bN e.1 e.2.1) (.ref s);rw[Iz]; omega
noncomputable def KB:Hj (Hj Hy):=[[1,0],[0,2,1],[0,1],[0,1,2]]
noncomputable def KindOk (S:aa)(b:Hs)(w:W):Prop:=∃(bs:Hj Hy) (q:Hs) (kvs:Hj (T×W)) (most:Hy),w=.tup [.tup (ac bs),.ref q,.int most]/\bs∈KB/\1<=most/\most<=3/\most*bs.length<=6/\S[q]?=gV (.dic kvs)/\b<=q/\kvs.length<=4/\MustE S bs.length b kvs
theorem KindOk.mono {S S':aa}{b:Hs}{w:W}(h:KindOk S b w)(k1:∀(l:Hs) (ws:Hj Hy),b<=l->S[l]?=gV (.lst (ac ws))->S'[l]?=gV (.lst (ac ws)))(k2:∀(l:Hs) (kvs:Hj (T×W)),b<=l->S[l]?=gV (.dic kvs)->S'[l]?=gV (.dic kvs)):KindOk S' b w:=
 let ⟨bs,q,kvs,most,h1,h2,h3,h4,h5,h6,h7,h8,h9⟩:=h
 #[bs,q,kvs,most,h1,h2,h3,h4,h5,k2 _ _ h7 h6,h7,h8,h9.mono k1]
theorem KindOk.ka {S S':aa}{b:Hs}{w:W}(h:KindOk S b w)(k:Ka S S'):KindOk S' b w:=h.mono (λl ws _ e=>k.get _ _ e) (λl ws _ e=>k.get _ _ e)
noncomputable def xv (bs:Hj Hy)(L:Hj Ao)(most:Hy):E:=.tup #v[.tup (pj bs),.disp (sB L),.c (.int most)]
section
variable{Φ:HM->FF}{ρ:Fm}{S:aa}
theorem nO (bs:Hj Hy)(L:Hj Ao)(most:Hy){b:Hs}{Q:QW}(hb:b<=S.length)(h1:bs∈KB)(h2:1<=most/\most<=3/\most*bs.length<=6)(hL:∀e∈L,sC bs.length e=true)(h4:L.length<=4)(k:∀w S',KindOk S' b w->Ka S S'->Q (w,S')) :
  wE Φ (xv bs L most) ρ S Q:=by
 unfold xv;dsimp only[wE,wA];refine qx (xu ?_);obtain⟨kvs,k1,k2,k3⟩:=lY (S:=S++[O.dic []]++uh L) (n:=bs.length) (b:=b) L (S.length+1) [] (λ_ h=>nomatch h) ∅ hL (λi e he=>by
  rw[ID (by simp),show S.length+1+i - (S++[O.dic []]).length=i by simp]
  simp[uh,he])
 have hat:(S++[O.dic []]++uh L)[S.length]?=gV (.dic []):=by
  rw[Il (by simp)]; exact aj
 refine#[hat,ab (show dC [] (ug L (S++[O.dic []]).length)=gV kvs by rw[Hn]; exact k1) (k _ _ #[bs,S.length,kvs,most,rfl,h1,h2.1,h2.2.1,h2.2.2,bG hat,hb,?_,k2.set hat] #[λj o h=>?_,by simp])]
 ·simp only[Jw]at k3; omega
 ·have:j < S.length:=b7 h;show((S++[O.dic []]++uh L).set S.length (O.dic kvs))[j]?=gV o;rw[bh ∅,Il (by simp; omega)]
  exact ar h
structure Menu (S0 S:aa)(r t m:Hs):Prop where
 at_t:∃xs:Hj W,S[t]?=gV (.lst xs)/\xs.length=m/\∀x∈xs,KindOk S S0.length x
 pos:0 < m
 ki:m<=9
 fl:Fl S r
 kp:Kp r S0 S
 lt:S0.length<=t
 rlt:r < S0.length
theorem pk {S0 S S':aa}{r t m:Hs}{w:W}(h:Menu S0 S r t m)(hw:KindOk S' S0.length w)(k:Ka S S')(hm:m < 9):∃xs,S'[t]?=gV (.lst xs)/\xs.length < sizeLine/\Menu S0 (S'.set t (.lst (xs++[w]))) r t (m+1):=by
 obtain⟨⟨xs,h1,h2,h3⟩,hp,hf,fl,kp,lt,rlt⟩:=h;have e:S'[t]?=gV (.lst xs):=k.get _ _ h1;have stay:∀x,KindOk S' S0.length x->KindOk (S'.set t (.lst (xs++[w]))) S0.length x:=λx hx=>hx.mono (λl ws hl el=>by
  by_cases hlt:t=l
  ·exfalso;subst hlt;rw[e]at el;injection el with el
   injection el with el
   match xs,h2,h3 with
   | [],h2,_=>simp at h2; omega
   | x::xs,_,h3=>
    obtain⟨bs,q,kvs,most,hx,_⟩:=h3 x (by simp)
    subst hx
    match ws with
    | []=>simp[ac]at el
    | w::ws=>simp[ac]at el
  ·rw[bh hlt]; exact el) (λl kvs hl el=>by
  rw[bh (by rintro rfl; rw[e]at el; cases el)]; exact el)
 refine#[xs,e,(by rw[IN]; omega),#[xs++[w],bG e,by simp; omega,λx hx=>?_],∅,∅,(fl.ka k).own ∅,(kp.trans (k.kp r)).late lt,lt,rlt]
 rcases Ig.mp hx with hx|hx
 ·exact stay x ((h3 x hx).ka k)
 ·rw[HE.mp hx]; exact stay w hw
theorem pq (bs:Hj Hy)(L:Hj Ao)(most:Hy){fuel:Hs}{S0:aa}{r t m:Hs}{x0:Hr W}{K:Fm->aa->Prop}{Q:QO}(h:Menu S0 S r t m)(hm:m < 9)(h1:bs∈KB)(h2:1<=most/\most<=3/\most*bs.length<=6)(hL:∀e∈L,sC bs.length e=true)(h4:L.length<=4)(k:∀S',Menu S0 S' r t (m+1)->K [x0,gV (.ref t)] S') :
  wS Φ fuel (.ex (.me .append (.v 1) #v[xv bs L most])) [x0,gV (.ref t)] S K Q:=by
 dsimp only[wS,wE,wA,wV,wG];obtain⟨xs,e1,e2,e3⟩:=h.at_t;refine#[dE e1,nO bs L most (Ih h.lt (Ld (b7 e1))) h1 h2 hL h4 λw S' k1 k2=>?_]
 obtain⟨xs',f1,f2,f3⟩:=pk h k1 k2 hm;exact ab (wI f1 f2) (k _ f3)
theorem lf {defs:Hj (HM×Df)}{fuel d:Hs}{r:Hs}{Q:QW}(G:Gen defs)(hf:Fl S r)(k:∀w S',KindOk S' S.length w->Fl S' r->Kp r S S'->Q (w,S')):wO (aC (ak defs fuel (d+2)) "_law_laying_kind" 1 [.ref r] S) Q:=by
 refine al G.laying_kind rfl rfl λQ' hR=>?_
 replace k:∀w S',KindOk S' S.length w->Fl S' r->Kp r S S'->Q' (.rt w,S'):=λz S' a b c=>hR _ _ (k z S' a b c)
 clear hR;show wZ _ _ b8 [gV (.ref r),td] S Q';have hrt:=hf.lt;unfold b8;refine aF λK hK=>?_
 refine ET ?_;change wA _ _ _ _ _; change wE _ _ _ _ _
 refine nO [1,0] [(0,0,[0])] 3 (b:=S.length) (HC _) #v[] #v[] #v[] #v[] λw1 S1 k1 a1=>?_
 change wE _ _ _ _ _;refine nO [0,2,1] [(1,1,[1])] 2 (b:=S.length) a1.len #v[] #v[] #v[] #v[] λw2 S2 k2 a2=>?_
 have a12:=a1.trans a2;change wE _ _ _ _ _;refine nO [0,1] [(1,1,[1])] 3 (b:=S.length) a12.len #v[] #v[] #v[] #v[] λw3 S3 k3 a3=>?_
 have a13:=a12.trans a3;dsimp only[wA];refine hK _ _ ?_;clear hK K;have m3:Menu S (S3++[O.lst [w1,w2,w3]]) r S3.length 3:=by
  refine#[#[[w1,w2,w3],aj,rfl,λx hx=>?_],#v[],#v[],(hf.ka a13).ka .push,(a13.trans .push).kp r,a13.len,hrt]
  rcases HZ.mp hx with rfl|hx
  ·exact(k1.ka (a2.trans a3)).ka .push
  ·rcases HZ.mp hx with rfl|hx
   ·exact(k2.ka a3).ka .push
   ·rw[HE.mp hx];exact k3.ka .push
 dsimp only[Hz];clear k1 k2 k3 a1 a2 a3 a12 a13;generalize S3.length=t at m3;generalize S3++[O.lst [w1,w2,w3]]=S3' at m3;refine aF λK hK=>pq [0,1] [(1,1,[1]),(0,0,[1])] 3 m3 #v[] #v[] #v[] #v[] #v[] λS4 m4=>hK _ _ ?_
 refine aF λK hK=>pq [0,1] [(1,1,[])] 1 m4 #v[] #v[] #v[] #v[] #v[] λS5 m5=>hK _ _ ?_
 refine aF λK hK=>pq [0,2,1] [(0,0,[0]),(0,1,[1]),(1,0,[1]),(1,1,[1])] 2 m5 #v[] #v[] #v[] #v[] #v[] λS6 m6=>hK _ _ ?_
 refine aF λK hK=>?_
 dsimp only[wS,wE,wA,wV,wG];obtain⟨xs,e1,e2,e3⟩:=m6.at_t;obtain⟨xs',f1,f2,m7⟩:=pk (S':=S6++[O.dic []]) (w:=.tup [.tup (ac [1,0]),.ref S6.length,.int 3]) m6 #[[1,0],S6.length,[],3,rfl,#v[],#v[],#v[],#v[],aj,m6.kp.len,#v[],λ_ h=>(nomatch h)] .push #v[]
 refine#[dE e1,ab (wI f1 f2) (hK _ _ ?_)];refine aF λK hK=>pq [0,1,2] [(2,2,[2]),(1,2,[1]),(2,1,[1]),(1,1,[1,2])] 2 m7 #v[] #v[] #v[] #v[] #v[] λS8 m8=>hK _ _ ?_
 refine aF λK hK=>pq [0,1,2] [(0,0,[0,1])] 2 m8 #v[] #v[] #v[] #v[] #v[] λS9 m9=>hK _ _ ?_
 refine st ?_;dsimp only[wS,wE,wA,wV,wG];refine aT (d:=d) G.pick m9.fl #v[] #v[] λv S10 v0 v9 f10 k10=>?_
 obtain⟨xs,g1,g2,g3⟩:=m9.at_t;have hlt:=m9.lt;have hv:v.toNat < xs.length:=∅
 exact kj (k10.get _ _ ∅ g1) v0 (HH hv) (k _ _ ((g3 _ (IT hv)).mono (λl ws hl e=>k10.get _ _ ∅ e) (λl ws hl e=>k10.get _ _ ∅ e)) f10 (m9.kp.trans k10))
end
noncomputable def pr (bs:Hj Hy):Hj (Hj Hy):=if bs=[0,1,2]then[[0,1,2],[0,2,1],[1,0,2],[1,2,0],[2,0,1],[2,1,0]]else if bs.length=2 then[[0,1],[1,0]]else[[0,1,2],[0,2,1],[2,0,1],[2,1,0]]
noncomputable def gN (bs nm:Hj Hy):Hs->Hj Hy
 | 0=>Ik bs.length 0
 | k+1=>(gN bs nm k).set (nm.getD k 0).toNat (nm.getD (bs.getD k 0).toNat 0)
theorem i7 (bs nm:Hj Hy):∀k,(gN bs nm k).length=bs.length
 | 0=>by simp[gN]
 | k+1=>by simp[gN,i7 bs nm k]
theorem Ap:∀bs∈KB,∀nm∈pr bs,nm.length=bs.length/\(∀x∈nm,0<=x/\x < (bs.length:Hy))/\(∀x∈bs,0<=x/\x < (bs.length:Hy))/\GoodB (gN bs nm bs.length):=by
 unfold GoodB;decide +kernel
theorem xw:∀bs∈KB,(bs.length=2\/bs.length=3)/\0 < (pr bs).length/\(pr bs).length < 10:=by decide
section
variable{Φ:HM->FF}{fuel:Hs}{ρ:Fm}{S:aa}{K:Fm->aa->Prop}{Q:QO}
theorem Aq {tg:Tg}{e:E}{b:Ss}(r:Hs)(kvs:Hj (T×W))(I:Hs->Fm->aa->Prop)(oe:dL e=true)(ok:fT b=true)(he:wE Φ e ρ S λp=>p.1=.ref r/\p.2[r]?=gV (.dic kvs)/\I 0 ρ (p.2.set r (.frd kvs)))
  (hstep:∀(i:Hs) (p:T×W) (ρ:Fm) (S:aa),kvs[i]?=gV p->I i ρ S->wO (eJ tg p.1.w ρ S) λq=>ub Φ fuel b q.1 q.2 (I (i+1)) Q) (hend:∀ρ S,I kvs.length ρ S->K ρ S):Wp (fJ Φ fuel (.loop tg (.seq e) b) ρ S) (o7 K Q):=by
 obtain⟨w,S1,e1,rfl,e2,h0⟩:=bW oe he;refine fU (mi:=.its (kvs.map λp=>p.1.w)) (S1:=S1.set r (.frd kvs)) (xs:=kvs.map λp=>p.1.w) I ok (by simp only[jv,eP,e1,nI e2,bI e2]) (λ_ _ _ _=>rfl) rfl h0 (λi w ρ S hw hI=>?_) λρ S hI=>hend ρ S (by rwa [Hk]at hI)
 rw[Ht,Ho]at hw;obtain⟨p,hp,rfl⟩:=hw;exact hstep i p ρ S hp hI
end
section
variable{defs:Hj (HM×Df)}{fuel d:Hs}{S:aa}{r:Hs}{Q:QW}
theorem Bf {i n:Hs}{x:W}(h:S[i]?=gV (.lst [x]))(hn:n<=1000)(q:Q (.ref S.length,S++[.lst (Ik n x)])):wO (hJ .mul (.ref i) (.int (n:Hy)) S) Q:=by
 refine ab ?_ q;have:n<=sizeLine:=ki hn;simp only[hJ,yT,cX h];rw[HY #[∅,∅,by simpa using this]]
 unfold kX;simp[this]
theorem lZ {q:Hs}{kvs:Hj (T×W)}{u v:Hy}{w:W}(h:jt S q=gV kvs)(hg:aN kvs (bN u v)=gV w):ju (.ref q) (.tup [.int u,.int v]) S=gV (w,S):=by
 have hk:gC (.tup [.int u,.int v])=gV (bN u v):=iE;simp only[ju,h,hk,hg,Iv]
theorem xx {q:Hs}{kvs:Hj (T×W)}{u v:Hy}{w:W}(h:S[q]?=gV (.dic kvs))(hl:kvs.length < sizeLine):ii (.ref q) (.tup [.int u,.int v]) w S=gV (S.set q (.dic (en kvs (bN u v) w))):=by
 have hk:gC (.tup [.int u,.int v])=gV (bN u v):=iE;simp only[ii,mY,h,hk];rw[HY hl]
theorem i8 {xs:Hj Hy}{x:Hy}(h0:0<=x)(h1:x.toNat < xs.length):(ac xs)[x.toNat]?=gV (.int (xs.getD x.toNat 0)):=by
 unfold ac;rw[Ht,aq (d:=0) h1]; rfl
theorem fZ {xs:Hj Hy}{i:Hs}(h:i < xs.length):xs.getD i 0∈xs:=HF (aq (d:=0) h)
theorem lg (G:Gen defs){Q:QO}{bs:Hj Hy}{x0 x2:Hr W}(hb:bs∈KB)
  (hk:∀(m s:Hs) (S':aa),Ka S S'->S'[s]?=gV (.lst ((pr bs).map λnm=>W.tup (ac nm)))->S.length<=s->wZ (ak defs fuel (d+1)) fuel (dr 5 bj) [x0,gV (.tup (ac bs)),x2,gV (.int bs.length),gV (.ref m),gV (.ref s),td,td,td,td,td,td] S' Q) :
  wZ (ak defs fuel (d+1)) fuel bj [x0,gV (.tup (ac bs)),x2,td,td,td,td,td,td,td,td,td] S Q:=by
 generalize hd5:dr 5 bj=cw at hk;unfold bj at hd5 ⊢;dsimp only[dr]at hd5;rw[hd5];clear hd5;refine aF λK hK=>?_
 dsimp only[wS,wE,wA,wV,wG,Hz];refine ay ?_;rw[show(ac bs).length=bs.length from Hk ..]
 refine hK _ _ ?_;clear hK K;refine aF λK hK=>?_
 dsimp only[wS,wE,wA,wV,wG,Hz];have hm:(((S++[O.lst [.tup [.int 0]]])++[O.lst [.tup [.int 0,.int 1],.tup [.int 1,.int 0]]])++[O.lst [.ref S.length,.ref (S++[O.lst [.tup [.int 0]]]).length]])[((S++[O.lst [.tup [.int 0]]])++[O.lst [.tup [.int 0,.int 1],.tup [.int 1,.int 0]]]).length]?=gV (.lst [.ref S.length,.ref (S++[O.lst [.tup [.int 0]]]).length]):=aj;refine hK _ _ ?_;clear hK K;generalize hS1:S++[O.lst [.tup [.int 0]]]=S1 at hm ⊢;generalize hS2:S1++[O.lst [.tup [.int 0,.int 1],.tup [.int 1,.int 0]]]=S2 at hm ⊢;generalize hS3:S2++[O.lst [.ref S.length,.ref S1.length]]=S3 at hm ⊢;have l1:S1.length=S.length+1:=by rw[<- hS1]; simp
 have l2:S2.length=S1.length+1:=by rw[<- hS2]; simp
 have l3:S3.length=S2.length+1:=by rw[<- hS3]; simp
 have kS2:Ka S S2:=by rw[<- hS2,<- hS1]; exact Ka.push.trans .push
 refine aF λK hK=>?_
 dsimp only[wS,wE,wA,wV,wG,Hz];refine#[dE hm,lV (ar hm) (by decide:2 < 1000) (hK _ _ ?_)]
 clear hK K;generalize hS5:(S3++[O.lst [.tup [.int 0,.int 1,.int 2],.tup [.int 0,.int 2,.int 1],.tup [.int 2,.int 0,.int 1],.tup [.int 2,.int 1,.int 0]]]).set S2.length (.lst ([.ref S.length,.ref S1.length]++[.ref S3.length]))=S5;have k5:Ka S S5:=by
  rw[<- hS5,<- hS3];exact Ka.late (kS2.trans (Ka.push.trans .push)) ∅
 have m5:S5[S2.length]?=gV (.lst [.ref S.length,.ref S1.length,.ref S3.length]):=by
  rw[<- hS5]; exact bG (ar hm)
 have p5:S5[S1.length]?=gV (.lst [.tup [.int 0,.int 1],.tup [.int 1,.int 0]]):=by
  rw[<- hS5,bh ∅,<- hS3,<- hS2]
  exact ar (ar aj)
 have t5:S5[S3.length]?=gV (.lst [.tup [.int 0,.int 1,.int 2],.tup [.int 0,.int 2,.int 1],.tup [.int 2,.int 0,.int 1],.tup [.int 2,.int 1,.int 0]]):=by
  rw[<- hS5,bh ∅]
  exact aj
 have h1:S.length<=S1.length:=∅
 have h3:S.length<=S3.length:=∅
 clear hS1 hS2 hS3 hS5 hm l1 l2 l3 kS2;refine aF λK hK=>?_
 dsimp only[wS,wE,wA,wV,wG,Hz,gL,aO];have hb':bs=[1,0]\/bs=[0,2,1]\/bs=[0,1]\/bs=[0,1,2]:=by simpa [KB]using hb
 rcases hb' with rfl|rfl|rfl|rfl
 ·refine d8 (i:=1) m5 rfl (hK _ _ (aF λK hK=>wL (λQ q=>q) (hK _ _ (hk _ _ _ k5 p5 h1))))
 ·refine d8 (i:=2) m5 rfl (hK _ _ (aF λK hK=>wL (λQ q=>q) (hK _ _ (hk _ _ _ k5 t5 h3))))
 ·refine d8 (i:=1) m5 rfl (hK _ _ (aF λK hK=>wL (λQ q=>q) (hK _ _ (hk _ _ _ k5 p5 h1))))
 ·refine d8 (i:=2) m5 rfl (hK _ _ (aF λK hK=>EU (λQ q=>q) λQ2 hn _=>?_))
  refine st ?_;dsimp only[wS,wE,wA,wV,wG,Hz];exact jD (d:=d) G (aL (hn _ _ (hK _ _ (hk _ _ _ (k5.trans .push) aj k5.len))))
theorem qy (G:Gen defs){S0:aa}{bs:Hj Hy}{q:Hs}{kvs:Hj (T×W)}(hb:bs∈KB)(hf:Fl S r)(hr:r < S0.length)(kp:Kp r S0 S)(hq:S[q]?=gV (.dic kvs))(hq0:S0.length<=q)(h4:kvs.length<=4)(hm:MustE S bs.length S0.length kvs)
  (k:∀(bs':Hj Hy) (q':Hs) (kvs':Hj (T×W)) S',GoodB bs'->bs'.length=bs.length->S'[q']?=gV (.dic kvs')->S0.length<=q'->MustE S' bs.length S0.length kvs'->Fl S' r->Kp r S0 S'->Q (.tup [.tup (ac bs'),.ref q'],S')) :
  wO (aC (ak defs fuel (d+2)) "_law_numbered" 3 [.ref r,.tup (ac bs),.ref q] S) Q:=by
 refine al G.numbered rfl rfl λQ' hR=>?_
 replace k:∀(bs':Hj Hy) (q':Hs) (kvs':Hj (T×W)) S',GoodB bs'->bs'.length=bs.length->S'[q']?=gV (.dic kvs')->S0.length<=q'->MustE S' bs.length S0.length kvs'->Fl S' r->Kp r S0 S'->Q' (.rt (.tup [.tup (ac bs'),.ref q']),S'):=λa b c e f g h i j l m=>hR _ _ (k a b c e f g h i j l m)
 clear hR;refine lg (d:=d) G hb ?_;intro m s S1 k1 e1 hs;dsimp only[dr,bj];have hrt:=hf.lt;obtain⟨hb1,hb2,hb3⟩:=xw bs hb;refine aF λK hK=>?_
 dsimp only[wS,wE,wA,wV,wG,Hz];refine sg e1 ?_;rw[Hk];refine aT (d:=d) G.pick (hf.ka k1) ∅ ∅ λv S2 v0 v1 f2 k2=>?_
 obtain⟨nm,hnmm,enm⟩:=nK (f:=λnm=>W.tup (ac nm)) (xs:=pr bs) (i:=v.toNat) ∅
 obtain⟨n1,n2,n3,n4⟩:=Ap bs hb nm hnmm;refine kj (k2.get _ _ ∅ e1) v0 enm (hK _ _ ?_)
 clear hK K;refine aF λK hK=>?_
 dsimp only[wS,wE,wA,wV,wG,Hz];refine Bf aj ∅ (hK _ _ ?_)
 clear hK K;generalize hS4:S2++[O.lst [.int 0]]=S4;have k24:Ka S2 S4:=hS4 ▸ .push;have f4:Fl S4 r:=f2.ka k24;have kp4:Kp r S0 S4:=(kp.trans (k1.kp r)).trans (k2.trans (k24.kp r));have q4:S4[q]?=gV (.dic kvs):=k24.get _ _ (k2.get _ _ ∅ (k1.get _ _ hq))
 have m4:MustE S4 bs.length S0.length kvs:=((hm.ka k1).kp hr k2).ka k24;clear hS4 k24 hm hq f2 k2 k1 e1 enm hf;refine aF λK hK=>?_
 refine bD (bs.length:Hy) (λk ρ S'=>(∃x8,ρ=[gV (.ref r),gV (.tup (ac bs)),gV (.ref q),gV (.int bs.length),gV (.ref m),gV (.ref s),gV (.tup (ac nm)),gV (.ref S4.length),x8,td,td,td])/\S'[S4.length]?=gV (.lst (ac (gN bs nm k)))/\Ka S4 S') rfl rfl ∅ #[rfl,#[_,rfl],?_,.push] ?_ ?_
 ·rw[aj]; simp[gN,ac]
 ·rintro i ρ S5 hi ⟨⟨x8,rfl⟩,e5,k5⟩ Q2 hn _;clear hK k;have hi':i < bs.length:=∅
  have hi1:i < nm.length:=∅
  have c:=n3 _ (fZ hi');have c2:=n2 _ (fZ hi1);refine st ?_;dsimp only[wS,wE,wA,wV,wG,Hz];refine ae (Hx i) (i8 (Hx i) hi') (ae c.1 (i8 c.1 (by rw[HI]; omega)) (ae (Hx i) (i8 (Hx i) hi1) ?_))
  rw[HI];refine ab (A7 e5 c2.1 (by rw[show(ac (gN bs nm i)).length=_ from Hk ..,i7]; omega)) (aL (hn _ _ #[#[_,rfl],?_,k5.late (HC _)]))
  rw[bG e5];unfold ac;rw[gN,Pk]
 ·rintro ρ S5 ⟨⟨x8,rfl⟩,e5,k5⟩;rw[HI]at e5;refine hK _ _ (st ?_);clear hK K;dsimp only[wS,wE,Hz];have f5:Fl S5 r:=f4.ka k5;have q5:S5[q]?=gV (.dic kvs):=k5.get _ _ q4;have m5:MustE S5 bs.length S0.length kvs:=m4.ka k5;have kp5:Kp r S0 S5:=kp4.trans (k5.kp r);have hq5:=b7 q5;have ht5:=b7 e5;have hqt:q≠S4.length:=by rintro rfl; rw[e5]at q5; cases q5
  have hn9:(bs.length:Hy)<=3:=∅
  have hr5:=f5.lt;clear k5 m4 q4 f4;refine aF λK hK=>?_
  refine Aq q kvs (λk ρ S'=>(∃x10 x11,ρ=[gV (.ref r),gV (.tup (ac bs)),gV (.ref q),gV (.int bs.length),gV (.ref m),gV (.ref s),gV (.tup (ac nm)),gV (.ref S4.length),x8,gV (.ref S5.length),x10,x11])/\S'[q]?=gV (.frd kvs)/\MustE S' bs.length S0.length kvs/\S'[S4.length]?=gV (.lst (ac (gN bs nm bs.length)))/\(∃kvs',S'[S5.length]?=gV (.dic kvs')/\kvs'.length<=k/\MustE S' bs.length S0.length kvs')/\Fl S' r/\Kp r S0 S') rfl rfl #[rfl,ar q5,#[td,td,rfl],bG (ar q5),(m5.ka .push).set (ar q5),?_,#[[],?_,HC _,λ_ h=>(nomatch h)],(f5.ka .push).own ∅,(kp5.trans .push).late hq0] ?_ ?_
  ·rw[bh hqt]; exact ar e5
  ·rw[bh ∅]; exact aj
  ·rintro i p ρ S6 hp ⟨⟨x10,x11,rfl⟩,q6,m6,t6,⟨kvs',o6,l6,mm6⟩,f6,kp6⟩;clear hK k;have hpm:=HF hp;have hil:=(HG.mp hp).1;obtain⟨u,v',l,ws,rfl,hu,hv',hl,hws,hl3,hw3⟩:=m6 p hpm;obtain⟨g,hg⟩:=sA hpm;obtain⟨u2,v2,l2,ws2,he2,_,_,hl2,hws2,hl32,hw32⟩:=m6 _ (kw hg);injection he2 with _ he2
   subst he2;have hul:u.toNat < nm.length:=∅
   have hvl:v'.toNat < nm.length:=∅
   refine ab (show eJ (.tp [10,11]) (bN u v',W.ref l).1.w [gV (.ref r),gV (.tup (ac bs)),gV (.ref q),gV (.int bs.length),gV (.ref m),gV (.ref s),gV (.tup (ac nm)),gV (.ref S4.length),x8,gV (.ref S5.length),x10,x11] S6=gV ([gV (.ref r),gV (.tup (ac bs)),gV (.ref q),gV (.int bs.length),gV (.ref m),gV (.ref s),gV (.tup (ac nm)),gV (.ref S4.length),x8,gV (.ref S5.length),gV (.int u),gV (.int v')],S6)from rfl) λQ2 hn _=>?_
   refine st ?_;dsimp only[wS,wE,wA,wV,wG,Hz];refine se l2 (ac ws2) (λi zs ρ2 S7=>(∃a1,ρ2=[td,a1,gV (.tup (ac nm))])/\zs=ac ((ws2.take i).map λw=>nm.getD w.toNat 0)/\S7=S6) rfl rfl rfl ?_ ?_ ?_ ?_
   ·dsimp only[wE,wA,wV,wG];exact ab (lZ (Ac q6) hg) #[rfl,#[_,rfl],rfl,rfl]
   ·rintro i zs ρ2 S7 ⟨_,_,rfl⟩;exact hws2
   ·rintro i w zs ρ2 S7 hw ⟨⟨a1,rfl⟩,rfl,rfl⟩;unfold ac at hw;rw[Ht,Ho]at hw;obtain⟨x,hx,rfl⟩:=hw;obtain⟨x0,x1⟩:=hw32 x (HF hx);have hxl:x.toNat < nm.length:=∅
    refine ab (show eJ (.nm 1) (.int x) [td,a1,gV (.tup (ac nm))] S7=gV ([td,gV (.int x),gV (.tup (ac nm))],S7)from rfl) ?_
    dsimp only[fW,wC,wE,wA,wV,wG];refine#[λ_=>ae x0 (i8 x0 hxl) #[#[_,rfl],?_,rfl],λz=>by cases z]
    rw[IB,hx];simp[ac]
   ·rintro zs ρ2 S7 ⟨_,rfl,rfl⟩;rw[show(ac ws2).length=ws2.length from Hk ..,IH]
    refine#[ki (by simp[ac]; omega),ae hu.1 (i8 hu.1 hul) (ae hv'.1 (i8 hv'.1 hvl) ?_)]
    refine ab (xx (ar o6) (by rw[IN]; omega)) (aL (hn _ _ #[#[_,_,rfl],?_,(m6.ka .push).set (ar o6),?_,#[_,bG (ar o6),?_,?_],(f6.ka .push).own ∅,(kp6.trans .push).late kp5.len]))
    ·rw[bh ∅]; exact ar q6
    ·rw[bh ∅]; exact ar t6
    ·exact Ih (cO ..) (Lo l6)
    ·refine((mm6.ka .push).put (n2 _ (fZ hul)) (n2 _ (fZ hvl)) kp6.len aj (by simp; omega) ?_).set (ar o6)
     intro w hw;obtain⟨x,hx,rfl⟩:=HU.mp hw;obtain⟨x0,x1⟩:=hw32 x hx;exact n2 _ (fZ ∅)
  ·rintro ρ S6 ⟨⟨x10,x11,rfl⟩,q6,m6,t6,⟨kvs',o6,l6,mm6⟩,f6,kp6⟩;refine hK _ _ (st ?_);dsimp only[wS,wE,wA,wV,wG];exact fH t6 (k _ _ kvs' _ n4 (i7 _ _ _) o6 kp5.len mm6 f6 kp6)
end
noncomputable def uj (x y z:Hy):Hj (T×W):=[(bN 1 0,.int x),(bN 2 0,.int y),(bN 2 1,.int z)]
noncomputable def Ar (x y z a b c:Hy):Hs->Hj (T×W)
 | 0=>uj x y z
 | 1=>uj x y z++[(bN 0 1,.int a)]
 | 2=>uj x y z++[(bN 0 1,.int a),(bN 0 2,.int b)]
 | _=>uj x y z++[(bN 0 1,.int a),(bN 0 2,.int b),(bN 1 2,.int c)]
theorem CV {n x y z a b c:Hy}(hx:0<=x/\x < n)(hy:0<=y/\y < n)(hz:0<=z/\z < n)(ha:0<=a/\a < n)(hb:0<=b/\b < n)(hc:0<=c/\c < n):∀i j:Hs,i < 3->j < 3->i≠j->∃p:Hy,aN (Ar x y z a b c 3) (bN i j)=gV (.int p)/\0<=p/\p < n:=by
 intro i j hi hj hij
 match i,j,hi,hj,hij with
 | 0,0,_,_,h=>exact absurd rfl h
 | 0,1,_,_,_=>exact#[a,by rfl,ha]
 | 0,2,_,_,_=>exact#[b,by rfl,hb]
 | 1,0,_,_,_=>exact#[x,by rfl,hx]
 | 1,1,_,_,h=>exact absurd rfl h
 | 1,2,_,_,_=>exact#[c,by rfl,hc]
 | 2,0,_,_,_=>exact#[y,by rfl,hy]
 | 2,1,_,_,_=>exact#[z,by rfl,hz]
 | 2,2,_,_,h=>exact absurd rfl h
theorem pv:∀t∈aw,t.length=3/\t.getD 0 0 < 3/\t.getD 1 0 < 3/\t.getD 2 0 < 3/\t.getD 0 0≠t.getD 1 0/\t.getD 1 0≠t.getD 2 0/\t.getD 0 0≠t.getD 2 0:=by decide
theorem xy {t:Hj Hs}(h:t∈aw):∃i j k:Hs,t=[i,j,k]/\i < 3/\j < 3/\k < 3/\i≠j/\j≠k/\i≠k:=by
 obtain⟨h1,h2⟩:=pv t h
 match t,h1,h2 with
 | [i,j,k],_,h2=>exact#[i,j,k,rfl,h2]
section
variable{defs:Hj (HM×Df)}{fuel d:Hs}{S:aa}{r:Hs}{Q:QW}
theorem xz {l:Hs}{f:Hy}{ws:Hj Hy}(h:S[l]?=gV (.lst (ac ws))):∃b,aK .notin (.int f) (.ref l) S=gV (.bl b,S):=by
 have hf:(bC (.int f)&&(ac ws).all bC)=true:=by
  simp only[bC,K1,HS];intro x hx;obtain⟨z,_,rfl⟩:=HU.mp hx;rfl
 refine#[!(ac ws).any λz=>mO z (.int f),?_]
 simp only[aK,nH h,dI,uH,zb,eN,aJ h,hf,Kq,Iv]
theorem CW {q:Hs}{kvs:Hj (T×W)}(h:S[q]?=gV (.dic kvs)):tyOk "dict" S (.ref q)=true:=by simp[tyOk,bI h]
theorem As {q:Hs}{kvs:Hj (T×W)}(h:S[q]?=gV (.dic kvs))(k:Q (.ref S.length,S++[.lst (kvs.map λp=>p.1.w)])):wO (Bi.list.fn [.ref q] S) Q:=by
 refine ab ?_ k;have h1:zf S q=td:=by simp[zf,h]
 have h2:lF [.ref q] S=td:=by simp[lF,h1,hX,eN,nI h]
 simp only[Bi.fn,Ef,h2,lJ,bI h]
theorem xA (G:Gen defs){bs:Hj Hy}{q b0:Hs}{kvs:Hj (T×W)}{x y z:Hy}(hb:GoodB bs)(hx:0<=x/\x < bs.length)(hy:0<=y/\y < bs.length)(hz:0<=z/\z < bs.length)(hq:S[q]?=gV (.dic kvs))(hm:MustE S bs.length b0 kvs)
  (k:∀b S',Ka S S'->Q (.bl b,S')):wO (aC (ak defs fuel (d+2)) "_law_breaks" 5 [.tup (ac bs),.ref q,.int x,.int y,.int z] S) Q:=by
 refine al G.breaks rfl rfl λQ' hR=>?_
 replace k:∀b S',Ka S S'->Q' (.rt (.bl b),S'):=λa b c=>hR _ _ (k a b c)
 clear hR;show wZ _ _ dN [gV (.tup (ac bs)),gV (.ref q),gV (.int x),gV (.int y),gV (.int z),td,td,td,td,td] S Q';obtain⟨a,ha1,ha⟩:=hb.rng x.toNat ∅
 obtain⟨b,hb1,hb2⟩:=hb.rng y.toNat ∅
 obtain⟨c,hc1,hc⟩:=hb.rng z.toNat ∅
 have hqt:=b7 hq;unfold dN;refine aF λK hK=>?_
 dsimp only[wS,wE,wA,wV,wG,Hz];refine#[aj,ab (show dC [] [.tup [.int 1,.int 0],.int x,.tup [.int 2,.int 0],.int y,.tup [.int 2,.int 1],.int z]=gV (uj x y z)from rfl) (hK _ _ ?_)]
 clear hK K;have e1:((S++[O.dic []]).set S.length (.dic (uj x y z)))[S.length]?=gV (.dic (uj x y z)):=bG aj;have k1:Ka S ((S++[O.dic []]).set S.length (.dic (uj x y z))):=Ka.push.late (HC _);have l1:((S++[O.dic []]).set S.length (.dic (uj x y z))).length=S.length+1:=by simp
 generalize(S++[O.dic []]).set S.length (.dic (uj x y z))=S1 at e1 k1 l1 ⊢;refine aF λK hK=>?_
 refine c8 rfl rfl ?_;dsimp only[wE,wA,wV,wG];refine As e1 #[S1.length,[dw 1 0,dw 2 0,dw 2 1],(λk ρ S'=>(∃x6,ρ=[gV (.tup (ac bs)),gV (.ref q),gV (.int x),gV (.int y),gV (.int z),gV (.ref S.length),x6,td,td,td])/\S'[S.length]?=gV (.dic (Ar x y z a b c k))/\S'[S1.length]?=gV (.lst [dw 1 0,dw 2 0,dw 2 1])/\Ka S S'),rfl,#[#[_,rfl],ar e1,aj,k1.trans .push],λi ρ S' h=>h.2.2.1,?_,?_]
 ·have step:∀(u v f g:Hy) (kv kv':Hj (T×W)) (S':aa) (i:Hs),aN kv (bN u v)=gV (.int f)->0<=f->bs[f.toNat]?=gV g->kv.length < 10->en kv (bN v u) (.int g)=kv'->Ar x y z a b c (i+1)=kv'->∀x6:Hr W,S'[S.length]?=gV (.dic kv)->S'[S1.length]?=gV (.lst [dw 1 0,dw 2 0,dw 2 1])->Ka S S'->
    wO (eJ (.nm 6) (dw u v) [gV (.tup (ac bs)),gV (.ref q),gV (.int x),gV (.int y),gV (.int z),gV (.ref S.length),x6,td,td,td] S') λp=>ub (ak defs fuel (d+1)) fuel #v[.put (.v 5) (.tup #v[.ix (.v 6) (.c (.int 1)),.ix (.v 6) (.c (.int 0))]) (.ix (.v 0) (.ix (.v 5) (.v 6)))] p.1 p.2 (λρ S'=>(∃x6,ρ=[gV (.tup (ac bs)),gV (.ref q),gV (.int x),gV (.int y),gV (.int z),gV (.ref S.length),x6,td,td,td])/\S'[S.length]?=gV (.dic (Ar x y z a b c (i+1)))/\S'[S1.length]?=gV (.lst [dw 1 0,dw 2 0,dw 2 1])/\Ka S S') Q':=by
   clear hK k;intro u v f g kv kv' S' i h1 h2 h3 h4 h5 h6 x6 e e' k;refine ab (show eJ (.nm 6) (dw u v) [gV (.tup (ac bs)),gV (.ref q),gV (.int x),gV (.int y),gV (.int z),gV (.ref S.length),x6,td,td,td] S'=gV ([gV (.tup (ac bs)),gV (.ref q),gV (.int x),gV (.int y),gV (.int z),gV (.ref S.length),gV (dw u v),td,td,td],S')from rfl) λQ2 hn _=>?_
   refine st ?_;dsimp only[wS,wE,wA,wV,wG];refine ab (lZ (bI e) h1) (ae h2 (w:=.int g) (by unfold ac; rw[Ht,h3]; rfl) (ae #v[] rfl (ae #v[] rfl ?_)))
   refine ab (xx e (by rw[IN]; omega)) (aL (hn _ _ #[#[_,rfl],?_,?_,k.late (HC _)]))
   ·rw[bG e,h5,h6]
   ·rw[bh ∅]; exact e'
  rintro i w ρ S2 hw ⟨⟨x6,rfl⟩,e2,l2,k2⟩
  match i,hw,e2 with
  | 0,hw,e2=>cases hw; exact step 1 0 x a _ _ S2 0 (by rfl) hx.1 ha1 (by simp[Ar,uj]) (by rfl) (by rfl) x6 e2 l2 k2
  | 1,hw,e2=>cases hw; exact step 2 0 y b _ _ S2 1 (by rfl) hy.1 hb1 (by simp[Ar,uj]) (by rfl) (by rfl) x6 e2 l2 k2
  | 2,hw,e2=>cases hw; exact step 2 1 z c _ _ S2 2 (by rfl) hz.1 hc1 (by simp[Ar,uj]) (by rfl) (by rfl) x6 e2 l2 k2
  | n+3,hw,_=>simp at hw
 ·rintro ρ S2 ⟨⟨x6,rfl⟩,e2,l2,k2⟩;have hv:=CV hx hy hz ha hb2 hc;have e2:S2[S.length]?=gV (.dic (Ar x y z a b c 3)):=e2;refine hK _ _ ?_;clear hK K;have hlt2:=b7 e2;refine aF λK hK=>?_
  refine c8 rfl rfl ?_;dsimp only[wE,wA,wV,wG];refine jD (d:=d) G #[S2.length,aw.map (λt=>W.tup (aD t)),(λk ρ S'=>(∃x7 x8 x9,ρ=[gV (.tup (ac bs)),gV (.ref q),gV (.int x),gV (.int y),gV (.int z),gV (.ref S.length),x6,x7,x8,x9])/\S'[S.length]?=gV (.dic (Ar x y z a b c 3))/\S'[S2.length]?=gV (.lst (aw.map (λt=>W.tup (aD t))))/\Ka S S'),rfl,#[#[_,_,_,rfl],ar e2,aj,k2.trans .push],λi ρ S' h=>h.2.2.1,?_,?_]
  ·rintro i w ρ S3 hw ⟨⟨x7,x8,x9,rfl⟩,e3,l3,k3⟩;clear hK;rw[Ht,Ho]at hw;obtain⟨t,ht,rfl⟩:=hw;obtain⟨i1,j1,h1,rfl,hi1,hj1,hh1,n1,n2,n3⟩:=xy (HF ht);obtain⟨p1,g1,r1⟩:=hv i1 j1 hi1 hj1 n1;obtain⟨p2,g2,r2⟩:=hv j1 h1 hj1 hh1 n2;obtain⟨p3,g3,r3⟩:=hv i1 h1 hi1 hh1 n3;have q3:=k3.get _ _ hq;refine ab (show eJ (.tp [7,8,9]) (W.tup (aD [i1,j1,h1])) [gV (.tup (ac bs)),gV (.ref q),gV (.int x),gV (.int y),gV (.int z),gV (.ref S.length),x6,x7,x8,x9] S3=gV ([gV (.tup (ac bs)),gV (.ref q),gV (.int x),gV (.int y),gV (.int z),gV (.ref S.length),x6,gV (.int i1),gV (.int j1),gV (.int h1)],S3)from rfl) λQ2 hn hr=>?_
   refine aF λK hK=>?_
   dsimp only[wS,wT,wE,wA,wV,wG];refine ab (lZ (bI e3) g3) #[CW q3,ab (lZ (bI e3) g1) (ab (lZ (bI e3) g2) (ab (lZ (bI e3) g3) ?_))];have hget:Me.get.fn (.ref q) [.tup [.int p1,.int p2],.ref S3.length] (S3++[O.lst [.int p3]])=gV ((aN kvs (bN p1 p2)).getD (.ref S3.length),S3++[O.lst [.int p3]]):=by
    have hk:gC (.tup [.int p1,.int p2])=gV (bN p1 p2):=iE;simp only[Me.fn,rF,bI (ar q3),hk]
   refine ab hget ?_;have hres:∃(l:Hs) (ws:Hj Hy),(aN kvs (bN p1 p2)).getD (.ref S3.length)=.ref l/\(S3++[O.lst [.int p3]])[l]?=gV (.lst (ac ws)):=by
    cases hg:aN kvs (bN p1 p2)with
    | none=>exact#[S3.length,[p3],rfl,aj]
    | some g=>
     obtain⟨u,v,l,ws,he,_,_,_,hl,_⟩:=(hm.ka k3) _ (kw hg);injection he with _ he
     subst he;exact#[l,ws,rfl,ar hl]
   obtain⟨l,ws,hl1,hl2⟩:=hres;dsimp only;rw[hl1];obtain⟨kb,hkb⟩:=xz (f:=p3) hl2;refine ab hkb ?_;dsimp only[wB];refine ah (Q0:=Q2) (λ_ Q3 _ hr3=>st (hr3 _ _ (hr _ _ (k _ _ (k3.trans .push))))) λ_ Q3 hn3 _=>aL (hn3 _ _ (hK _ _ (aL (hn _ _ #[#[_,_,_,rfl],ar e3,ar l3,k3.trans .push]))))
  ·rintro ρ S3 ⟨⟨x7,x8,x9,rfl⟩,e3,l3,k3⟩;exact hK _ _ (st (k _ _ k3))
end
noncomputable def Do (k:Hy):Wd:=[(0,[]),(0,[k]),(0,[k,k])]
theorem At:∀g∈[Do 0,Do 1],g∈aM 1 [0,1]:=by decide +kernel
noncomputable def xB (a k:Hy):Wd:=[(0,[]),(k,[0]),(a - 1,[0,0])]
theorem xD:∀k∈eu 2,xB 2 k∈aM 2 [0]:=by decide +kernel
theorem xE:∀k∈eu 3,xB 3 k∈aM 3 [0]:=by decide +kernel
theorem Au {a x y:Hy}(h:xB a x=xB a y):x=y:=by
 unfold xB at h;injection h with _ h
 injection h with h _
 injection h
theorem Bg {a n:Hs}{m0 m1 m2 x y z:Hy}(h0:0<=m0/\m0 < a)(h1:0<=m1/\m1 < a)(h2:0<=m2/\m2 < a)(hx:0<=x/\x < n)(hy:0<=y/\y < n)(hz:0<=z/\z < n):GoodW a n [(m0,[]),(m1,[x]),(m2,[y,z])]:=by
 refine#[λk p h=>?_,λk p h=>?_,λk p h=>?_] <;> match k,h with
 | 0,h=>cases h; first|exact h0|rfl|(intro w hw; cases hw)
 | 1,h=>cases h; first|exact h1|rfl|(intro w hw; rw[HE.mp hw]; exact hx)
 | 2,h=>cases h; first|exact h2|rfl|(intro w hw; rcases HZ.mp hw with e|hw <;> first|exact e ▸ hy|(rw[HE.mp hw]; exact hz))
 | n+3,h=>simp at h
theorem CY {Φ:HM->FF}{ρ:Fm}{S:aa}{i n:Hs}{Q:QW}(hv:∀Q:W->Prop,Q (.int n)->wV ρ i Q)(hn:n<=3)(k:∀j:Hy,0<=j->j<=27->j=(n:Hy)*n*n->Q (.int j,S)):wE Φ (.op .mul (.op .mul (.v i) (.v i)) (.v i)) ρ S Q:=by
 have b1 : -(2 ^ 64) < (n:Hy):=∅
 have b2:(n:Hy) < 2 ^ 64:=∅
 have hc:(n:Hy)*n*n<=27/\0<=(n:Hy)*n*n:=by rcases(show n=0\/n=1\/n=2\/n=3 by omega)with h|h|h|h <;> rw[h] <;> decide
 dsimp only[wE];have em:∀m:Hy,hJ .mul (.int m) (.int n) S=gV (.int (m*n),S):=λm=>sa b1 b2
 generalize hJ .mul=B at em ⊢;refine hv _ ?_;refine hv _ ?_;refine ab (em _) ?_;refine hv _ ?_;refine ab (em _) ?_;have:=k _ hc.2 hc.1 rfl;exact this
theorem xF {Φ:HM->FF}{fuel:Hs}{ρ:Fm}{S:aa}{K:Fm->aa->Prop}{Q:QO}{i0 i n:Hs}{b:Ss}(hv:∀Q:W->Prop,Q (.int n)->wV ρ i Q)(hn:n<=3)(ok:fT b=true)
  (h:∀j:Hy,0<=j->j<=27->j=(n:Hy)*n*n->∃I:Hs->Fm->aa->Prop,I 0 ρ S/\(∀(i:Hs) (ρ:Fm) (S:aa),(i:Hy) < j->I i ρ S->ub Φ fuel b (ρ.set i0 (gV (.int i))) S (I (i+1)) Q)/\∀ρ S,I j.toNat ρ S->K ρ S) :
  Wp (fJ Φ fuel (.loop (.nm i0) (.rng #v[.op .mul (.op .mul (.v i) (.v i)) (.v i)]) b) ρ S) (o7 K Q):=
 have hw:=CY (Φ:=Φ) (S:=S) (Q:=λp=>∃(j:Hy) (I:Hs->Fm->aa->Prop),p.1=.int j/\(-(2 ^ 62)<=j/\j < 2 ^ 62)/\I 0 ρ p.2/\(∀(i:Hs) (ρ:Fm) (S:aa),(i:Hy) < j->I i ρ S->ub Φ fuel b (ρ.set i0 (gV (.int i))) S (I (i+1)) Q)/\∀ρ S,I j.toNat ρ S->K ρ S) hv hn λj j0 j27 e=>let ⟨I,h0,h1,h2⟩:=h j j0 j27 e; #[j,I,rfl,∅,h0,h1,h2]
 kq rfl ok hw
section
variable{defs:Hj (HM×Df)}{fuel d:Hs}{S:aa}{r:Hs}{Q:QW}
theorem xG (hfu:20 < fuel)(G:Gen defs)(hf:Fl S r)(k:∀w S',di w->Fl S' r->Kp r S S'->Q (w,S')):wO (aC (ak defs fuel (d+7)) "_law_laying_rule" 1 [.ref r] S) Q:=by
 refine al G.laying_rule rfl rfl λQ' hR=>?_
 replace k:∀w S',di w->Fl S' r->Kp r S S'->Q' (.rt w,S'):=λz S' a b c=>hR _ _ (k z S' a b c)
 clear hR;show wZ _ _ b9 [gV (.ref r),td,td,td,td,td,td,td,td,td,td,td,td,td,td] S Q';unfold b9;refine aF λK hK=>?_
 dsimp only[wS,wE,wA,wV,wG,Hz];refine aT (d:=d+5) G.pick hf #v[] #v[] λv S1 v0 v7 f1 k1=>hK _ _ ?_
 clear hK K;refine aF λK hK=>?_
 dsimp only[wS,wT,wE,wV,wG,kg,aO,wB];refine ah (Q0:=Q') (λ_ Q2 _ hr=>?_) (λ_ Q2 hn _=>aL (hn _ _ (hK _ _ ?_)))
 ·refine st ?_;dsimp only[wS,wE,wA,wV,wG];exact pi (d:=d) hfu G f1 λw S2 a b c=>hr _ _ (k w S2 a b (k1.trans c))
 clear hK K hn;refine aF λK hK=>?_
 dsimp only[wS,wT,wE,wV,wG,kg,aO,wB];refine ah (Q0:=Q') (λ_ Q2 _ hr=>?_) (λ_ Q2 hn _=>aL (hn _ _ (hK _ _ ?_)))
 ·refine st ?_;dsimp only[wS,wE,wA,wV,wG];exact uf (d:=d) hfu G f1 λw S2 a b c=>hr _ _ (k w S2 a b (k1.trans c))
 clear hK K hn;have hr1:=f1.lt;refine aF λK hK=>?_
 dsimp only[wS,wE,wA,wV,wG];refine lf (d:=d+4) G f1 λw2 S2 hw2 f2 k2=>?_
 obtain⟨bs0,q0,kvs0,most,rfl,hbs0,m1,m3,m6,hq0,hq0l,h40,hm0⟩:=hw2;dsimp only[wU];refine ab (show cL [2,3,4] [.tup (ac bs0),.ref q0,.int most] [gV (.ref r),gV (.int v),td,td,td,td,td,td,td,td,td,td,td,td,td]=gV [gV (.ref r),gV (.int v),gV (.tup (ac bs0)),gV (.ref q0),gV (.int most),td,td,td,td,td,td,td,td,td,td]from rfl) (hK _ _ ?_)
 clear hK K;refine aF λK hK=>?_
 dsimp only[wS,wE,wA,wV,wG,Hz];refine aT (d:=d+5) G.pick f2 ∅ ∅ λv3 S3 v30 v3m f3 k3=>?_
 dsimp only[cq,aO];obtain⟨a,ea⟩ : ∃a:Hs,1+v3=a:=#[(1+v3).toNat,∅]
 rw[ea];refine hK _ _ ?_;clear hK K;refine aF λK hK=>?_
 dsimp only[wS,wE,wA,wV,wG];refine qy (d:=d+4) G (S0:=S1) hbs0 f3 hr1 (k2.trans k3) (k3.get _ _ ∅ hq0) hq0l h40 (hm0.kp hr1 k3) λbs q kvs S4 hb hbl hq hql hm f4 k4=>?_
 dsimp only[wU];refine ab (show cL [2,3] [.tup (ac bs),.ref q] [gV (.ref r),gV (.int v),gV (.tup (ac bs0)),gV (.ref q0),gV (.int most),gV (.int a),td,td,td,td,td,td,td,td,td]=gV [gV (.ref r),gV (.int v),gV (.tup (ac bs)),gV (.ref q),gV (.int most),gV (.int a),td,td,td,td,td,td,td,td,td]from rfl) (hK _ _ ?_)
 clear hK K;rw[<- hbl]at hm m6;have hn:bs.length=2\/bs.length=3:=by rw[hbl]; exact(xw bs0 hbs0).1
 have hsz:SizeOk a bs:=#[∅,hb,by
  have h1:(a:Hy)*bs.length<=most*bs.length:=Int.mul_le_mul_of_nonneg_right ∅ ∅
  exact_mod_cast Int.le_trans h1 m6,∅]
 clear m6 hm0 hq0 hq0l h40 hbl hbs0 k2 k3 f2 f3;refine aF λK hK=>?_
 dsimp only[wS,wE,wA,wV,wG,Hz];refine fm (d:=d+1) hfu G f4 ∅ ∅ λms ns S5 hml hnl hnm f5 k5=>hK _ _ ?_
 clear hK K;have kk:Kp r S S5:=k1.trans (k4.trans k5);have hrt:=f5.lt;have hq5:S5[q]?=gV (.dic kvs):=k5.get _ _ ∅ hq
 have hm5:MustE S5 bs.length S1.length kvs:=hm.kp hr1 k5;have hqn:q < S5.length:=b7 hq5;clear k1 k4 k5 f4 hm hq hql f1;refine st ?_;dsimp only[wS,wE,Hz];refine aF λK hK=>?_
 dsimp only[wS,wE,wA,wV,wG,Hz];refine ay ?_;rw[show(ac bs).length=bs.length from Hk ..]
 refine hK _ _ ?_;clear hK K;refine aF λK hK=>?_
 refine xF (n:=bs.length) (λQ q=>q) ∅ rfl λj j0 j27 hj=>?_
 refine#[(λ_ ρ S'=>(∃x9 x10 x11 x12 x13 x14,ρ=[gV (.ref r),gV (.int v),gV (.tup (ac bs)),gV (.ref q),gV (.int most),gV (.int a),gV (cr ms ns bs []),gV (.ref S5.length),gV (.int bs.length),x9,x10,x11,x12,x13,x14])/\(∃kvs fs,S'[S5.length]?=gV (.dic kvs)/\FigD (aM a bs) kvs fs)/\S'[q]?=gV (.dic kvs)/\MustE S' bs.length S1.length kvs/\Fl S' r/\Kp r S S'),#[#[_,_,_,_,_,_,rfl],#[[],[],aj,.nil],ar hq5,hm5.ka .push,f5.ka .push,kk.trans .push],?_,?_]
 ·rintro i ρ S6 hi ⟨⟨x9,x10,x11,x12,x13,x14,rfl⟩,⟨kvd,fs,e6,hd⟩,hq6,hm6,f6,k6⟩ Q2 hn2 _;clear hK k;have hnp:(0:Hy) < bs.length:=∅
  have hnb:(bs.length:Hy) < 1073741824:=∅
  have y1:0<=(i:Hy) % bs.length/\(i:Hy) % bs.length < bs.length:=#[Kd _ ∅,JI _ hnp]
  have y2:0<=(i:Hy) / bs.length % bs.length/\(i:Hy) / bs.length % bs.length < bs.length:=#[Kd _ ∅,JI _ hnp]
  have y3:0<=(i:Hy) / bs.length / bs.length/\(i:Hy) / bs.length / bs.length < bs.length:=by
   rcases hn with h|h <;> rw[h]at hj ⊢ <;> omega
  refine aF λK hK=>?_
  dsimp only[wS,wE,wA,wV,wG,Hz];refine ab (ke hnp) (ab (nF hnp hnb) (ab (ke hnp) ?_));dsimp only[w2];refine hK _ _ ?_;clear hK K;refine aF λK hK=>?_
  dsimp only[wS,wE,wA,wV,wG,Hz];refine ab (nF hnp hnb) (ab (nF hnp hnb) (hK _ _ ?_));clear hK K;dsimp only;generalize(i:Hy) % bs.length=z1 at y1 ⊢;generalize(i:Hy) / bs.length % bs.length=z2 at y2 ⊢;generalize(i:Hy) / bs.length / bs.length=z3 at y3 ⊢;refine aF λK hK=>?_
  dsimp only[wS,wT,wA,wE,wV,wG];refine xA (d:=d+4) G hb y1 y2 y3 hq6 hm6 λb S7 k7=>?_
  dsimp only[cJ,aO];refine ah (Q0:=Q2) (λ_ Q3 hn3 _=>?_) (λ_ Q3 hn3 _=>aL (hn3 _ _ (hK _ _ (aL (hn2 _ _ #[#[_,_,_,_,_,_,rfl],#[kvd,fs,k7.get _ _ e6,hd],k7.get _ _ hq6,hm6.ka k7,f6.ka k7,k6.trans (k7.kp r)])))))
  refine aF λK3 hK3=>?_
  refine c8 rfl rfl ?_;dsimp only[wE,wA,wV,wG];have h56:S5.length < S6.length:=b7 e6;have h67:=k7.len;refine ph (d:=d+5) G (a:=a) ∅ λt ts S8 e8 ht ht7 k8=>?_
  refine#[t,ts.map eR,(λ_ ρ S'=>(∃x9 x13 x14,ρ=[gV (.ref r),gV (.int v),gV (.tup (ac bs)),gV (.ref q),gV (.int most),gV (.int a),gV (cr ms ns bs []),gV (.ref S5.length),gV (.int bs.length),x9,gV (.int z1),gV (.int z2),gV (.int z3),x13,x14])/\(∃kvs fs,S'[S5.length]?=gV (.dic kvs)/\FigD (aM a bs) kvs fs)/\S'[q]?=gV (.dic kvs)/\MustE S' bs.length S1.length kvs/\S'[t]?=gV (.lst (ts.map eR))/\Fl S' r/\Kp r S S'),rfl,#[#[_,_,_,rfl],#[kvd,fs,k8.get _ _ (k7.get _ _ e6),hd],k8.get _ _ (k7.get _ _ hq6),(hm6.ka k7).ka k8,e8,(f6.ka k7).ka k8,k6.trans ((k7.trans k8).kp r)],λi ρ S' h=>h.2.2.2.2.1,?_,?_]
  ·rintro j w ρ S9 hw ⟨⟨x9,x13,x14,rfl⟩,⟨kvd,fs,e9,hd⟩,hq9,hm9,ht9,f9,k9⟩;clear hK3 hn3 hK hn2;rw[Ht,Ho]at hw;obtain⟨⟨tr1,tr2,tr3⟩,htr,rfl⟩:=hw;obtain⟨t1,t2,t3⟩:=ht _ (HF htr);refine ab (show eJ (.nm 13) (eR (tr1,tr2,tr3)) [gV (.ref r),gV (.int v),gV (.tup (ac bs)),gV (.ref q),gV (.int most),gV (.int a),gV (cr ms ns bs []),gV (.ref S5.length),gV (.int bs.length),x9,gV (.int z1),gV (.int z2),gV (.int z3),x13,x14] S9=gV ([gV (.ref r),gV (.int v),gV (.tup (ac bs)),gV (.ref q),gV (.int most),gV (.int a),gV (cr ms ns bs []),gV (.ref S5.length),gV (.int bs.length),x9,gV (.int z1),gV (.int z2),gV (.int z3),gV (eR (tr1,tr2,tr3)),x14],S9)from rfl) λQ4 hn4 _=>?_
   have hu:GoodW a bs.length [(tr1,[]),(tr2,[z1]),(tr3,[z2,z3])]:=Bg t1 t2 t3 y1 y2 y3;refine aF λK hK=>?_
   dsimp only[wS,wE,wA,wV,wG,Hz];refine ae #v[] rfl (ae #v[] rfl (hK _ _ ?_))
   clear hK K;refine st ?_;dsimp only[wS,wE,wA,wV,wG];refine ae #v[] rfl (ab (bL (fY rfl)) ?_)
   refine iA (d:=d+3) (m0:=.tup (ms.map W.str)) (b0:=.tup []) (u:=[(tr1,[]),(tr2,[z1]),(tr3,[z2,z3])]) G hb hnl hu rfl λS10 k10=>?_
   have e10:=k10.get _ _ e9;exact sx e10 hd hsz hu rfl λo ho=>aL (hn4 _ _ #[#[_,_,_,rfl],ho,by rw[bh ∅]; exact k10.get _ _ hq9,(hm9.ka k10).set e10,by rw[bh ∅]; exact k10.get _ _ ht9,(f9.ka k10).own hrt,(k9.trans (k10.kp r)).late kk.len])
  ·rintro ρ S9 ⟨⟨x9,x13,x14,rfl⟩,hdd,hq9,hm9,ht9,f9,k9⟩;exact hK3 _ _ (aL (hn3 _ _ (hK _ _ (aL (hn2 _ _ #[#[_,_,_,_,_,_,rfl],hdd,hq9,hm9,f9,k9])))))
 ·rintro ρ S6 ⟨⟨x9,x10,x11,x12,x13,x14,rfl⟩,⟨kvd,fs,e6,hd⟩,hq6,hm6,f6,k6⟩;refine hK _ _ (st ?_);dsimp only[wS,wE,wA,wV,wG];exact sw (Q:=λp=>Q' (.rt p.1,p.2)) e6 hd hsz hml hnl hnm λw S8 hw k8=>k w S8 hw (f6.ka k8) (k6.trans (k8.kp r))
end
section
variable{defs:Hj (HM×Df)}{fuel d:Hs}{S:aa}{r:Hs}{Q:QW}
theorem qz (hfu:20 < fuel)(G:Gen defs)(hun:Is defs ("_law_unlaying_rule" : HM) 1 10 bc)(hf:Fl S r)(k:∀w S',di w->Fl S' r->Kp r S S'->Q (w,S')):wO (aC (ak defs fuel (d+6)) "_law_unlaying_rule" 1 [.ref r] S) Q:=by
 refine al hun rfl rfl λQ' hR=>?_
 replace k:∀w S',di w->Fl S' r->Kp r S S'->Q' (.rt w,S'):=λz S' a b c=>hR _ _ (k z S' a b c)
 clear hR;show wZ _ _ bc [gV (.ref r),td,td,td,td,td,td,td,td,td] S Q';unfold bc;refine aF λK hK=>?_
 dsimp only[wS,wE,wA,wV,wG,Hz];refine aT (d:=d+4) G.pick hf #v[] #v[] λv S1 v0 v7 f1 k1=>hK _ _ ?_
 clear hK K;have hlt:=f1.lt;refine aF λK hK=>?_
 dsimp only[wS,wT,wE,wV,wG,kg,aO,wB];refine ah (Q0:=Q') (λ_ Q2 _ hr=>?_) (λ_ Q2 hn _=>aL (hn _ _ (hK _ _ ?_)))
 ·
  refine st ?_;dsimp only[wS,wE,wA,wV,wG];refine eA 2 (λi zs ρ2 S2=>(∃a1,ρ2=[td,a1])/\zs=([Do 0,Do 1].take i).map am/\S2=S1) rfl rfl rfl #v[] #[rfl,#[td,rfl],rfl,rfl] ?_ ?_
  ·rintro i zs ρ2 S2 hi ⟨⟨a1,rfl⟩,rfl,rfl⟩;clear k hr hK;dsimp only[fW,wC,wE,wA,wV,wG,Hz];refine#[λ_=>#[#[_,rfl],?_,rfl],λz=>by cases z]
   rcases(show i=0\/i=1 by omega)with h|h
   ·subst h; rfl
   ·subst h; rfl
  ·rintro zs ρ2 S2 ⟨_,rfl,rfl⟩;refine#[fY rfl,?_];refine gz (d:=d) (a:=1) (bs:=[0,1]) (us:=[Do 0,Do 1]) hfu G (f1.ka .push) #v[] #v[] (λS' kk=>?_) #v[] #v[] λms ns S3 hml hnl hnm f3 k3=>?_
   ·simp only[d3,aJ (kk.get _ _ ∅ aj)]; rfl
   exact hr _ _ (k _ _ #[1,[0,1],ms,ns,_,rfl,#[#[#v[],.inr (.inl rfl),#v[],#v[]],hml,hnl,hnm,#v[],At]] f3 (k1.trans (Kp.push.trans k3)))
 clear hK K hn;refine aF λK hK=>?_
 dsimp only[wS,wT,wE,wV,wG,kg,aO,wB];refine ah (Q0:=Q') (λ_ Q2 _ hr=>?_) (λ_ Q2 hn _=>aL (hn _ _ (hK _ _ ?_)))
 ·
  clear hK;refine aF λK hK=>?_
  dsimp only[wS,wE,wA,wV,wG,Hz];refine fm (d:=d) (a:=2) (bs:=[0,1]) hfu G f1 #v[] #v[] λms ns S3 hml hnl hnm f3 k3=>hK _ _ ?_
  clear hK K;have hsz:SizeOk 2 [0,1]:=#[#v[],.inr (.inl rfl),#v[],#v[]]
  have hrt:=f3.lt;have kk:Kp r S S3:=k1.trans k3;refine st ?_;dsimp only[wS,wE,Hz];refine aF λK hK=>?_
  refine c8 rfl rfl ?_;dsimp only[wE,wA,wV,wG];refine ph (d:=d+4) G (a:=2) #v[] λq ts S4 e4 ht hq k4=>?_
  have hq':S3.length < q:=by simp only[Hn,Iz,Jw]at hq; omega
  refine#[q,ts.map eR,(λ_ ρ S'=>(∃x4 x5 x6 x7 x8 x9,ρ=[gV (.ref r),gV (.int v),gV (cr ms ns [0,1] []),gV (.ref S3.length),x4,x5,x6,x7,x8,x9])/\(∃kvs fs,S'[S3.length]?=gV (.dic kvs)/\FigD (aM 2 [0,1]) kvs fs)/\S'[q]?=gV (.lst (ts.map eR))/\Fl S' r/\Kp r S S'),rfl,#[#[_,_,_,_,_,_,rfl],#[[],[],k4.get _ _ aj,.nil],e4,(f3.ka .push).ka k4,(kk.trans .push).trans (k4.kp r)],λi ρ S' h=>h.2.2.1,?_,?_]
  ·rintro i w ρ S5 hw ⟨⟨x4,x5,x6,x7,x8,x9,rfl⟩,⟨kvs,fs,e5,hd⟩,hq5,f5,k5⟩;clear hK;rw[Ht,Ho]at hw;obtain⟨⟨tr1,tr2,tr3⟩,htt,rfl⟩:=hw;obtain⟨t1,t2,t3⟩:=ht _ (HF htt);have h53:S3.length < S5.length:=b7 e5;have hq5l:q < S5.length:=b7 hq5;refine ab (show eJ (.nm 4) (eR (tr1,tr2,tr3)) [gV (.ref r),gV (.int v),gV (cr ms ns [0,1] []),gV (.ref S3.length),x4,x5,x6,x7,x8,x9] S5=gV ([gV (.ref r),gV (.int v),gV (cr ms ns [0,1] []),gV (.ref S3.length),gV (eR (tr1,tr2,tr3)),x5,x6,x7,x8,x9],S5)from rfl) λQ3 hn3 _=>?_
   refine aF λK hK=>?_
   refine c8 rfl rfl ?_;dsimp only[wE,wA,wV,wG];refine#[S5.length,[(1,1,0),(1,1,1),(1,0,1),(0,1,1)].map eR,(λ_ ρ S'=>(∃x5 x6 x7 x8 x9,ρ=[gV (.ref r),gV (.int v),gV (cr ms ns [0,1] []),gV (.ref S3.length),gV (eR (tr1,tr2,tr3)),x5,x6,x7,x8,x9])/\(∃kvs fs,S'[S3.length]?=gV (.dic kvs)/\FigD (aM 2 [0,1]) kvs fs)/\S'[q]?=gV (.lst (ts.map eR))/\S'[S5.length]?=gV (.lst ([(1,1,0),(1,1,1),(1,0,1),(0,1,1)].map eR))/\Fl S' r/\Kp r S S'),rfl,#[#[_,_,_,_,_,rfl],#[kvs,fs,ar e5,hd],ar hq5,aj,f5.ka .push,k5.trans .push],λi ρ S' h=>h.2.2.2.1,?_,?_]
   ·rintro i w ρ S6 hw ⟨⟨x5,x6,x7,x8,x9,rfl⟩,⟨kvs,fs,e6,hd⟩,hq6,hl6,f6,k6⟩;clear hK hn3;rw[Ht,Ho]at hw;obtain⟨⟨y1,y2,y3⟩,hy,rfl⟩:=hw;have hy':(0<=y1/\y1 < 2)/\(0<=y2/\y2 < 2)/\(0<=y3/\y3 < 2):=by
     have:∀p∈([(1,1,0),(1,1,1),(1,0,1),(0,1,1)]:Hj (Hy×Hy×Hy)),(0<=p.1/\p.1 < 2)/\(0<=p.2.1/\p.2.1 < 2)/\(0<=p.2.2/\p.2.2 < 2):=by decide
     exact this _ (HF hy)
    refine ab (show eJ (.tp [5,6,7]) (eR (y1,y2,y3)) [gV (.ref r),gV (.int v),gV (cr ms ns [0,1] []),gV (.ref S3.length),gV (eR (tr1,tr2,tr3)),x5,x6,x7,x8,x9] S6=gV ([gV (.ref r),gV (.int v),gV (cr ms ns [0,1] []),gV (.ref S3.length),gV (eR (tr1,tr2,tr3)),gV (.int y1),gV (.int y2),gV (.int y3),x8,x9],S6)from rfl) λQ4 hn4 _=>?_
    refine aF λK hK=>?_
    dsimp only[wS,wE,wA,wV,wG,Hz];refine ae #v[] rfl (ae #v[] rfl (hK _ _ ?_))
    clear hK K;have hu:GoodW 2 2 [(tr1,[]),(tr2,[y1]),(tr3,[y2,y3])]:=Bg t1 t2 t3 hy'.1 hy'.2.1 hy'.2.2;refine st ?_;dsimp only[wS,wE,wA,wV,wG];refine ae #v[] rfl (ab (bL (fY rfl)) ?_)
    refine iA (d:=d+2) (m0:=.tup (ms.map W.str)) (b0:=.tup []) (bs:=[0,1]) (u:=[(tr1,[]),(tr2,[y1]),(tr3,[y2,y3])]) G (.inr (.inl rfl)) hnl hu rfl λS7 k7=>?_
    have e7:=k7.get _ _ e6;exact sx e7 hd hsz hu rfl λo ho=>aL (hn4 _ _ #[#[_,_,_,_,_,rfl],ho,by rw[bh ∅]; exact k7.get _ _ hq6,by rw[bh ∅]; exact k7.get _ _ hl6,(f6.ka k7).own hrt,(k6.trans (k7.kp r)).late kk.len])
   ·rintro ρ S6 ⟨⟨x5,x6,x7,x8,x9,rfl⟩,hdd,hq6,hl6,f6,k6⟩;exact hK _ _ (aL (hn3 _ _ #[#[_,_,_,_,_,_,rfl],hdd,hq6,f6,k6]))
  ·rintro ρ S5 ⟨⟨x4,x5,x6,x7,x8,x9,rfl⟩,⟨kvs,fs,e5,hd⟩,hq5,f5,k5⟩;refine hK _ _ (st ?_);dsimp only[wS,wE,wA,wV,wG];exact sw (Q:=λp=>Q2 (.rt p.1,p.2)) e5 hd hsz hml hnl hnm λw S8 hw k8=>hr _ _ (k w S8 hw (f5.ka k8) (k5.trans (k8.kp r)))
 clear hK K hn;refine aF λK hK=>?_
 dsimp only[wS,wE,wA,wV,wG,Hz];refine aT (d:=d+4) G.pick f1 #v[] #v[] λv2 S2 v20 v22 f2 k2=>?_
 dsimp only[cq,aO];obtain⟨a,ea⟩ : ∃a:Hs,2+v2=a:=#[(2+v2).toNat,∅]
 rw[ea];have ha:a=2\/a=3:=∅
 refine hK _ _ ?_;clear hK K;refine aF λK hK=>?_
 dsimp only[wS,wE,Hz];refine eA (a:Hy) (λi zs ρ2 S3=>(∃a1,ρ2=[td,a1,gV (.int a)])/\zs=((eu i).map (xB a)).map am/\S3=S2) rfl rfl rfl ∅ #[rfl,#[td,rfl],rfl,rfl] ?_ ?_
 ·rintro i zs ρ2 S3 hi ⟨⟨a1,rfl⟩,rfl,rfl⟩;dsimp only[fW,wC,wE,wA,wV,wG,Hz,gL,aO];refine#[λ_=>#[#[_,rfl],?_,rfl],λz=>by cases z]
  simp[eu,Jz,xB,am,ap]
 ·rintro zs ρ2 S3 ⟨_,rfl,rfl⟩;rw[HI];have hul:(eu a).length=a:=by simp[eu]
  refine#[ki (by rw[Hk,Hk,hul]; omega),hK _ _ (st ?_)]
  clear hK K;dsimp only[wS,wE,wA,wP,wV,wG];refine aT (d:=d+4) G.pick (f2.ka .push) ∅ ∅ λv4 S4 v40 v4a f4 k4=>?_
  dsimp only[cq,aO,wN];obtain⟨mm,em⟩ : ∃mm:Hs,1+v4=mm:=#[(1+v4).toNat,∅]
  rw[em];have hlt2:=f2.lt;have e4:S4[S3.length]?=gV (.lst (((eu a).map (xB a)).map am)):=k4.get _ _ ∅ aj
  have hsl:js (.ref S3.length) td (gV (mm:Hy)) S4=gV (.ref S4.length,S4++[.lst ((((eu a).map (xB a)).take mm).map am)]):=by
   simp only[js,aJ e4,ee,K5]
  refine ab hsl ?_;have hlt4:=f4.lt;have hmem:∀g∈((eu a).map (xB a)).take mm,g∈aM a [0]:=λg hg=>by
   obtain⟨x,hx,rfl⟩:=HU.mp (KN hg);rcases ha with rfl|rfl
   ·exact xD x hx
   ·exact xE x hx
  refine gz (d:=d) (a:=a) (bs:=[0]) (us:=((eu a).map (xB a)).take mm) hfu G (f4.ka .push) ∅ #v[] (λS' kk=>?_) (by rw[Ic,Hk,hul]; omega) (λu hu=>pf (hmem u hu)) λms ns S5 hml hnl hnm f5 k5=>?_
  ·simp only[d3,aJ (kk.get _ _ ∅ aj)]
  refine k _ _ #[a,[0],ms,ns,_,rfl,#[#[∅,iD,by simp; omega,∅],hml,hnl,hnm,?_,hmem]] f5 (k1.trans (k2.trans (Kp.push.trans (k4.trans (Kp.push.trans k5)))))
  refine PY (NG _ _) ?_;unfold PX eu;rw[L4,L4];exact(List.nodup_range (n:=a)).imp λh e=>h (by have:=Au e; omega)
end
theorem l4:∀n:Hs,gS (Ik n (.bl true))=gV (Ik n true)
 | 0=>rfl
 | n+1=>by rw[Jq,gS,l4 n]; rfl
theorem Av (n:Hs):(Ik n true).all id=true:=by
 rw[HS];intro x hx;rw[(List.mem_replicate.mp hx).2]; rfl
noncomputable def sD:Ss:=
 #v[.ite (.cmp .gt (.v 2) (.v 3)) #v[.ret (.ix (.ix (.ix (.v 1) (.v 2)) (.c (.int 1))) (.v 3))] .nil,.ret (.ix (.ix (.ix (.v 0) (.c (.int 1))) (.ix (.ix (.ix (.v 1) (.v 3)) (.c (.int 1))) (.v 2))) (.c (.int 1)))]
noncomputable def gY:Ss:=
 #v[.ret (.bi .tuple #v[.comp (.own "point_over" 4 #v[.v 4,.v 5,.sl (.v 3) .no (.yes (.v 1)),.v 2]) (.tp [1,2]) (.enu #v[.v 2]) .nil [td,td,td,gV 2,gV 0,gV 1]])]
noncomputable def dP:Ss:=
 #v[.ret (.tup #v[.ix (.ix (.v 1) (.v 3)) (.c (.int 0)),.bi .tuple #v[.comp (.own "way" 4 #v[.v 3,.v 4,.v 2,.v 1]) (.nm 1) (.seq (.v 2)) .nil [td,td,gV 3,gV 0,gV 1]]])]
section
variable{defs:Hj (HM×Df)}{fuel d:Hs}{S:aa}{r:Hs}{Q:QW}
theorem xH {Φ:HM->FF}{m0 b0:W}{ns:Hj HM}{bs:Hj Hy}{a:Hs}{u:Wd}{i j:Hs}{Q:QO}(hb:GoodB bs)(hl:ns.length=bs.length)(hu:GoodW a bs.length u)(hi:i < u.length)(hj:j < u.length)(hij:i≠j)(k:Q (.rt (.int (bM bs u i j)),S)) :
  wZ Φ fuel sD [gV (.tup [m0,.tup (HA aB ns bs),b0]),gV (am u),gV (.int i),gV (.int j)] S Q:=by
 have hpi:=aq (d:=(0,[])) hi;have hpj:=aq (d:=(0,[])) hj;unfold bM at k;dsimp only[sD];refine aF λK hK=>?_
 dsimp only[wS,wT,wE,wV,wG,CP,wO,wB,am];refine ah (Q0:=Q) (λh Q2 _ hr=>?_) (λh Q2 hn _=>?_)
 ·have hji:j < i:=by have:=IW h; omega
  rw[HY hji]at k;have hw:j < (u.getD i (0,[])).2.length:=by rw[hu.len i _ hpi]; exact hji
  refine st ?_;dsimp only[wS,wE,wV,wG];refine ae (Hx i) (cZ hi) (ae #v[] rfl (ae (Hx j) ?_ (hr _ _ k)))
  rw[HI,Ht,aq (d:=0) hw]; rfl
 ·have hji:¬ j < i:=by have:=K9 h; omega
  rw[Iy hji]at k;refine aL (hn _ _ (hK _ _ ?_));clear hn hK;have hw:i < (u.getD j (0,[])).2.length:=by rw[hu.len j _ hpj]; omega
  have hg:=aq (d:=0) hw;obtain⟨g1,g2⟩:=hu.way j _ hpj _ (HF hg);obtain⟨b,hb1,hb2,hb3⟩:=hb.rng ((u.getD j (0,[])).2.getD i 0).toNat ∅
  have hn:((u.getD j (0,[])).2.getD i 0).toNat < ns.length:=∅
  rw[getD_some hb1]at k;refine st ?_;dsimp only[wS,wE,wV,wG];refine ae #v[] rfl (ae (Hx j) (cZ hj) (ae #v[] rfl (ae (Hx i) ?_ (ae g1 (i5 (HH hn) hb1) (ae #v[] rfl k)))))
  rw[HI,Ht,hg]; rfl
structure Parts (defs:Hj (HM×Df)):Prop where
 way:Is defs ("way" : HM) 4 4 sD
 over:Is defs ("point_over" : HM) 4 4 dP
theorem EX (P:Parts defs){m0 b0:W}{ns:Hj HM}{bs:Hj Hy}{a:Hs}{u:Wd}{i j:Hs}(hb:GoodB bs)(hl:ns.length=bs.length)(hu:GoodW a bs.length u)(hi:i < u.length)(hj:j < u.length)(hij:i≠j)(k:Q (.int (bM bs u i j),S)) :
  wO (aC (ak defs fuel (d+1)) "way" 4 [.tup [m0,.tup (HA aB ns bs),b0],am u,.int i,.int j] S) Q:=
 al P.way rfl rfl λQ' hR=>xH hb hl hu hi hj hij (hR _ _ k)
theorem CZ (P:Parts defs){m0 b0:W}{ns:Hj HM}{bs:Hj Hy}{a:Hs}{u:Wd}{ps:Hj Hs}{i:Hs}(hb:GoodB bs)(hl:ns.length=bs.length)(hu:GoodW a bs.length u)(hps:∀p∈ps,p < u.length/\i≠p)(hi:i < u.length)(hsz:ps.length<=1000)(k:∀S',Ka S S'->Q (ap ((u.getD i (0,[])).1,ps.map λq=>bM bs u i q),S')) :
  wO (aC (ak defs fuel (d+2)) "point_over" 4 [.tup [m0,.tup (HA aB ns bs),b0],am u,.tup (aD ps),.int i] S) Q:=by
 refine al P.over rfl rfl λQ' hR=>?_
 replace k:∀S',Ka S S'->Q' (.rt (ap ((u.getD i (0,[])).1,ps.map λq=>bM bs u i q)),S'):=λS' a=>hR _ _ (k S' a)
 clear hR;show wZ _ _ dP [gV (.tup [m0,.tup (HA aB ns bs),b0]),gV (am u),gV (.tup (aD ps)),gV (.int i)] S Q';generalize hR0:W.tup [m0,.tup (HA aB ns bs),b0]=R;dsimp only[dP];refine st ?_;dsimp only[wS,wE,wA,wV,wG];refine ae (Hx i) (cZ hi) (ae #v[] rfl ?_)
 refine sd (aD ps) (λj ys ρ2 S2=>(∃a1,ρ2=[td,a1,gV (.int i),gV R,gV (am u)])/\ys=(ps.take j).map (λq=>W.int (bM bs u i q))/\Ka S S2) rfl rfl rfl #[rfl,#[td,rfl],rfl,.refl] ?_ ?_
 ·rintro j w ys ρ2 S2 hw ⟨⟨a1,rfl⟩,rfl,k2⟩;unfold aD at hw;rw[Ht,Ho]at hw;obtain⟨q,hq,rfl⟩:=hw;obtain⟨hqu,hqi⟩:=hps q (HF hq);refine ab (show eJ (.nm 1) (.int (q:Hy)) [td,a1,gV (.int i),gV R,gV (am u)] S2=gV ([td,gV (.int (q:Hy)),gV (.int i),gV R,gV (am u)],S2)from rfl) ?_
  dsimp only[fW,wC,wE,wA,wV,wG];subst hR0;refine#[λ_=>EX (d:=d) P hb hl hu hi hqu hqi #[#[_,rfl],?_,k2],λz=>by cases z]
  rw[IB,hq];simp
 ·rintro ys ρ2 S2 ⟨_,rfl,k2⟩;rw[show(aD ps).length=ps.length from Hk ..,IH]
  refine#[ki (by rw[Hk]; exact hsz),fH aj ?_]
  have:=k _ (k2.trans (Ka.push (o:=O.lst (ps.map λq=>W.int (bM bs u i q)))))
  unfold ap at this;rw[J0]at this;exact this
theorem EY (P:Parts defs)(hp:Is defs ("part" : HM) 3 3 gY){m0 b0:W}{ns:Hj HM}{bs:Hj Hy}{a:Hs}{u:Wd}{ps:Hj Hs}(hb:GoodB bs)(hl:ns.length=bs.length)(hu:GoodW a bs.length u)(hps:∀p∈ps,p < u.length)(hnd:ps.Nodup)(hsz:ps.length<=1000)(k:∀S',Ka S S'->Q (am (au bs u ps),S')) :
  wO (aC (ak defs fuel (d+3)) "part" 3 [.tup [m0,.tup (HA aB ns bs),b0],am u,.tup (aD ps)] S) Q:=by
 refine al hp rfl rfl λQ' hR=>?_
 replace k:∀S',Ka S S'->Q' (.rt (am (au bs u ps)),S'):=λS' a=>hR _ _ (k S' a)
 clear hR;show wZ _ _ gY [gV (.tup [m0,.tup (HA aB ns bs),b0]),gV (am u),gV (.tup (aD ps))] S Q';generalize hR0:W.tup [m0,.tup (HA aB ns bs),b0]=R;dsimp only[gY];refine st ?_;dsimp only[wS,wE,wA];refine sf (aD ps) (λj ys ρ2 S2=>(∃a1 a2,ρ2=[td,a1,a2,gV (.tup (aD ps)),gV R,gV (am u)])/\ys=((au bs u ps).take j).map ap/\Ka S S2) rfl rfl rfl #[rfl,#[td,td,rfl],rfl,.refl] ?_ ?_
 ·rintro j w ys ρ2 S2 hw ⟨⟨a1,a2,rfl⟩,rfl,k2⟩;unfold aD at hw;rw[Ht,Ho]at hw;obtain⟨q,hq,rfl⟩:=hw;have hj:j < ps.length:=(HG.mp hq).1;have eq:q=ps[j]:=(HG.mp hq).2.symm;refine ab (show eJ (.tp [1,2]) (.tup [.int (j:Hy),.int (q:Hy)]) [td,a1,a2,gV (.tup (aD ps)),gV R,gV (am u)] S2=gV ([td,gV (.int (j:Hy)),gV (.int (q:Hy)),gV (.tup (aD ps)),gV R,gV (am u)],S2)from rfl) ?_
  dsimp only[fW,wC,wE,wA,wP,wV,wG,wN];refine#[λ_=>ab (a:=(.tup (aD (ps.take j)),S2)) ?_ ?_,λz=>by cases z]
  ·simp only[js,ee];unfold aD;rw[K5]
  ·subst hR0;refine CZ (d:=d) P hb hl hu (λp hp=>#[hps p (KN hp),?_]) (hps q (HF hq)) (by rw[Ic]; omega) λS3 k3=>#[#[_,_,rfl],?_,k2.trans k3]
   ·obtain⟨m,hm,e⟩:=Lw.mp hp;rw[Ic]at hm;rw[Li]at e;rw[eq,<- e];intro z;have:=(J1 hnd).mp z;omega
   ·have ep:(au bs u ps)[j]?=gV ((u.getD q (0,[])).1,(ps.take j).map λq'=>bM bs u q q'):=by
     unfold au;rw[Ht,JU hj,Iv,getD_some hq]
    rw[IB,ep];simp
 ·rintro ys ρ2 S2 ⟨_,rfl,k2⟩;rw[show(aD ps).length=ps.length from Hk ..,<- bx bs u ps,IH]
  exact#[ki (by rw[Hk,bx]; exact hsz),fH aj (k _ (k2.trans .push))]
end
noncomputable def kz (n:Hs):Hs->Hj (Hj Hy)
 | 0=>[[]]
 | k+1=>(HJ ((kz n k).length*n)).map λi=>(kz n k).getD (i / n) []++[((i % n:Hs):Hy)]
section
variable{defs:Hj (HM×Df)}{fuel d:Hs}{S:aa}{r:Hs}{Q:QW}
theorem EZ {t l:Hs}{xs ys:Hj W}(h:S[t]?=gV (.lst xs))(h2:S[l]?=gV (.lst ys))(hl:xs.length+ys.length<=1000)(q:Q (.non,S.set t (.lst (xs++ys)))):wO (Me.extend.fn (.ref t) [.ref l] S) Q:=by
 refine ab ?_ q;simp only[Me.fn,ib,cX h,cX h2];rw[HY (ki hl)]
end
noncomputable def sE (bs:Hj Hy)(v:Wd)(ps:Hj Hs)(i:Hs):Pt:=((v.getD i (0,[])).1,ps.map λq=>bM bs v i q)
noncomputable def ga (n:Hs)(os:Hj (Hj Hs)):Hj (Hj Hs):=os.flatMap λo=>((HJ n).filter λp=>decide (p∉o)).map λp=>o++[p]
theorem l5 (bs:Hj Hy)(v:Wd)(o:Hj Hs)(p:Hs):au bs v (o++[p])=au bs v o++[sE bs v o p]:=by
 unfold au sE;rw[Hn,Im,Jz,HV];congr 1
 ·refine IP λk hk=>?_
  have hk:=HL.mp hk;rw[show(o++[p]).getD k 0=o.getD k 0 by simp[Il hk],List.take_append_of_le_length ∅]
 ·simp
theorem kA {α β:Type}{f g:α->Hj β}:∀ {xs:Hj α},(∀x∈xs,f x=g x)->xs.flatMap f=xs.flatMap g
 | [],_=>rfl
 | x::xs,h=>by rw[Je,Je,h x (.head _),kA λy hy=>h y (.tail _ hy)]
theorem pz {n:Hs}:∀os:Hj (Hj Hs),(ga n os).length<=os.length*n
 | []=>by simp[ga]
 | o::os=>by
  have ih:=pz (n:=n) os;unfold ga at ih ⊢;rw[Je,Hn,Hk,Iz,LD];have:=Jt (λp=>decide (p∉o)) (HJ n)
  rw[Ii]at this;omega
theorem uk {n:Hs}{os:Hj (Hj Hs)}{i:Hs}:(ga n (os.take i)).length<=os.length*n:=by
 refine Ih (pz _) (MT _ ?_);rw[Ic]; omega
theorem i9 {S:aa}{d:Hs}:∀xs ys:Hj Hy,fL (gQ S d) (xs.map W.int) (ys.map W.int)=gV (decide (xs=ys))
 | [],[]=>rfl
 | [],_::_=>rfl
 | _::_,[]=>rfl
 | x::xs,y::ys=>by
  have e:gQ S d (.int x) (.int y)=gV (x==y):=by cases d <;> rfl
  simp only[Jd,fL,e,i9 xs ys]
  by_cases h:x=y
  ·subst h; by_cases h2:xs=ys <;> simp[h2]
  ·have h':(x==y)=false:=by simpa using h
   simp[h,h']
theorem qA {S:aa}{d:Hs}(p q:Pt):gQ S (d+2) (ap p) (ap q)=gV (decide (p=q)):=by
 obtain⟨m,ws⟩:=p;obtain⟨m',ws'⟩:=q;show fL (gQ S (d+1)) [.int m,.tup (ws.map W.int)] [.int m',.tup (ws'.map W.int)]=_;have e:gQ S (d+1) (.int m) (.int m')=gV (m==m'):=rfl;have e2:gQ S (d+1) (.tup (ws.map W.int)) (.tup (ws'.map W.int))=gV (decide (ws=ws')):=i9 ws ws';simp only[fL,e,e2]
 by_cases h:m=m'
 ·subst h; by_cases h2:ws=ws' <;> simp[h2]
 ·have h':(m==m')=false:=by simpa using h
  simp[h,h']
theorem pA {S:aa}{d:Hs}:∀u v:Wd,fL (gQ S (d+2)) (u.map ap) (v.map ap)=gV (decide (u=v))
 | [],[]=>rfl
 | [],_::_=>rfl
 | _::_,[]=>rfl
 | x::xs,y::ys=>by
  simp only[Jd,fL,qA,pA xs ys]
  by_cases h:x=y
  ·subst h; by_cases h2:xs=ys <;> simp[h2]
  ·simp[h]
theorem E1 {S:aa}{p q:Pt}:aK .eq (ap p) (ap q) S=gV (.bl (decide (p=q)),S):=by
 show(gQ S (18+2) (ap p) (ap q)).map _=_;rw[qA]; rfl
theorem pB {p:Hs}:∀ps:Hj Hs,((aD ps).any λz=>mO z (.int p))=decide (p∈ps)
 | []=>rfl
 | q::ps=>by
  show((q:Hy)==(p:Hy)||(aD ps).any _)=_
  rw[pB ps]
  by_cases h:q=p
  ·subst h; simp
  ·have h1:((q:Hy)==(p:Hy))=false:=by simp; omega
   have h2:¬ p=q:=λe=>h e.symm
   rw[h1]; simp[h2]
theorem um (ps:Hj Hs):(aD ps).all bC=true:=by
 rw[HS];intro x hx;obtain⟨p,_,rfl⟩:=HU.mp hx;rfl
theorem xI {S:aa}{p:Hs}{ps:Hj Hs}:aK .notin (.int p) (.tup (aD ps)) S=gV (.bl (decide (p∉ps)),S):=by
 show dI .notin (.int p) (.tup (aD ps)) S=_;have hf:(bC (.int p)&&(aD ps).all bC)=true:=by rw[um]; rfl
 simp only[dI,uH,zb,eN,hf,Kq,Iv,pB];congr 3
 by_cases h:p∈ps <;> simp[h]
theorem pE {xs:Hj W}:jr xs td (gV (-1))=xs.dropLast:=by
 unfold jr;rw[HT.jH,OQ,NP,List.dropLast_eq_take];congr 1;show(if (-1:Hy) < 0 then((-1:Hy)+(xs.length:Hy)).toNat else min (-1:Hy).toNat xs.length)=_
 rw[HY #v[]]; omega
noncomputable def aW:Ss:=
 #v[.set 2 (.lst .nil),.loop (.nm 3) (.seq (.v 0)) #v[.ex (.me .extend (.v 2) #v[.comp (.op .add (.v 2) (.tup #v[.v 1])) (.nm 1) (.rng #v[.v 1]) #v[.cmp .notin (.v 1) (.v 2)] [td,td,gV 3]])],.ret (.v 2)]
noncomputable def cu (os:Hj (Hj Hs)):Hj W:=os.map λo=>.tup (aD o)
section
variable{defs:Hj (HM×Df)}{fuel d:Hs}{S:aa}{Q:QW}
theorem qB {t l:Hs}{xs ys:Hj W}(h:S[t]?=gV (.lst xs))(h2:S[l]?=gV (.lst ys))(hl:xs.length+ys.length<=1000000)(q:Q (.non,S.set t (.lst (xs++ys)))):wO (Me.extend.fn (.ref t) [.ref l] S) Q:=by
 refine ab ?_ q;simp only[Me.fn,ib,cX h,cX h2];rw[HY (by rw[IN]; omega)]
theorem ef {n:Hs}(h:n<=1000000):n<=sizeLine:=by rw[IN]; omega
theorem xJ (hg:Is defs ("longer_orders" : HM) 2 4 aW){n l:Hs}{os:Hj (Hj Hs)}(e:S[l]?=gV (.lst (cu os)))(hn:n<=100)(hol:∀o∈os,o.length<=100)(hos:os.length*n<=100000)
  (k:∀(q:Hs) (S':aa),S'[q]?=gV (.lst (cu (ga n os)))->S.length<=q->Ka S S'->Q (.ref q,S')) :
  wO (aC (ak defs fuel (d+1)) "longer_orders" 2 [.ref l,.int n] S) Q:=by
 refine al hg rfl rfl λQ' hR=>?_
 replace k:∀(q:Hs) (S':aa),S'[q]?=gV (.lst (cu (ga n os)))->S.length<=q->Ka S S'->Q' (.rt (.ref q),S'):=λa b c e f=>hR _ _ (k a b c e f)
 clear hR;show wZ _ _ aW [gV (.ref l),gV (.int n),td,td] S Q';have hlS:=b7 e;dsimp only[aW];refine st ?_;dsimp only[wS,wE,wA,Hz];refine aF λK hK=>?_
 refine jC l (cu os) (λi ρ S'=>(∃a3,ρ=[gV (.ref l),gV (.int n),gV (.ref S.length),a3])/\S'[l]?=gV (.lst (cu os))/\S'[S.length]?=gV (.lst (cu (ga n (os.take i))))/\Ka S S') rfl rfl #[rfl,#[td,rfl],ar e,aj,.push] (λi ρ S' h=>h.2.1) ?_ ?_
 ·rintro i w ρ S1 hw ⟨⟨a3,rfl⟩,e0,e1,k1⟩;clear hK k;unfold cu at hw;rw[Ht,Ho]at hw;obtain⟨o,ho,rfl⟩:=hw;have hol:=hol o (HF ho);refine ab (show eJ (.nm 3) (.tup (aD o)) [gV (.ref l),gV (.int n),gV (.ref S.length),a3] S1=gV ([gV (.ref l),gV (.int n),gV (.ref S.length),gV (.tup (aD o))],S1)from rfl) ?_
  intro Q2 hn _;refine st ?_;dsimp only[wS,wE,wA,wV,wG];refine#[dE e1,?_];refine eA (n:Hy) (λj ys ρ2 S2=>(∃a1,ρ2=[td,a1,gV (.tup (aD o))])/\ys=cu (((HJ j).filter λp=>decide (p∉o)).map λp=>o++[p])/\S2=S1) rfl rfl rfl ∅ #[rfl,#[td,rfl],rfl,rfl] ?_ ?_
  ·rintro j ys ρ2 S2 hj ⟨⟨a1,rfl⟩,rfl,rfl⟩;dsimp only[fW,wC,wE,wA,wV,wG,Hz];refine ab xI ?_;dsimp only[wB];have er:(HJ (j+1)).filter (λp=>decide (p∉o))=(HJ j).filter (λp=>decide (p∉o))++(if j∉o then[j]else[]):=by
    rw[Jz,JJ];congr 1
    by_cases h:j∈o <;> simp[h]
   refine#[λh=>?_,λh=>#[#[_,rfl],?_,rfl]]
   ·have h:j∉o:=IW h;refine ab (bL (ef (by rw[Hn,show(aD o).length=o.length from Hk ..]; show _+1<=_; omega))) #[#[_,rfl],?_,rfl]
    rw[er,HY h,HV];unfold cu;rw[HV];simp[aD]
   ·have h:¬ j∉o:=K9 h;rw[er,Iy h,Jo]
  ·rintro ys ρ2 S2 ⟨_,rfl,rfl⟩;rw[HI];have hlen:(cu (((HJ n).filter λp=>decide (p∉o)).map λp=>o++[p])).length<=n:=by
    unfold cu;rw[Hk,Hk];exact Ih (Jt _ _) (by rw[Ii]; exact HC _)
   have e1':=ar (u:=O.lst (cu (((HJ n).filter λp=>decide (p∉o)).map λp=>o++[p]))) e1
   have hlt:=uk (n:=n) (os:=os) (i:=i);have hlw:(cu (ga n (os.take i))).length=(ga n (os.take i)).length:=Hk ..;refine#[ef ∅,qB e1' aj ∅ (aL (hn _ _ #[#[_,rfl],?_,?_,(k1.trans .push).late (HC _)]))]
   ·rw[bh ∅]; exact ar e0
   ·rw[bG e1'];unfold ga cu;rw[IB,ho];simp
 ·rintro ρ S1 ⟨⟨a3,rfl⟩,e0,e1,k1⟩;rw[show(cu os).length=os.length from Hk ..,IH]at e1
  exact hK _ _ (st (k _ _ e1 (HC _) k1))
end
theorem xK {S:aa}{i j:Hs}{xs ys:Hj Hy}(h1:S[i]?=gV (.lst (xs.map W.int)))(h2:S[j]?=gV (.lst (ys.map W.int))):aK .eq (.ref i) (.ref j) S=gV (.bl (decide (xs=ys)),S):=by
 show(gQ S (19+1) (.ref i) (.ref j)).map _=_;simp only[gQ,cX h1,cX h2,i9];split
 ·rfl
 ·rename_i h;have:xs≠ys:=λe=>h (by rw[e])
  simp[this]
theorem C0 {n k:Hs}{ds:Hj Hy}:ds∈kz n k->ds.length=k/\∀w∈ds,0<=w/\w < (n:Hy):=by
 induction k generalizing ds with
 | zero=>intro h; cases HE.mp h; exact#[rfl,λw hw=>nomatch hw]
 | succ k ih=>
  intro h;obtain⟨i,hi,rfl⟩:=HU.mp h;have hi:=HL.mp hi;have hn:0 < n:=by
   rcases Nat.eq_zero_or_pos n with h|h
   ·rw[h,Nat.mul_zero]at hi; omega
   ·exact h
  have hlt:i / n < (kz n k).length:=Nat.div_lt_of_lt_mul (by rw[Ph]; exact hi)
  obtain⟨h1,h2⟩:=ih (HF (aq (d:=[]) hlt));refine#[by rw[Hn,h1]; rfl,λw hw=>?_]
  rcases Ig.mp hw with h|h
  ·exact h2 w h
  ·rw[HE.mp h];have:=Nat.mod_lt i hn;omega
noncomputable def aX:Ss:=
 #v[.set 4 (.tup #v[.ix (.ix (.v 0) (.v 1)) (.c (.int 0)),.tup .nil]),.set 5 (.tup #v[.ix (.ix (.v 0) (.v 2)) (.c (.int 0)),.tup #v[.ix (.ix (.ix (.v 0) (.v 2)) (.c (.int 1))) (.v 1)]]),.ret (.tup #v[.v 4,.v 5,.tup #v[.ix (.ix (.v 0) (.v 3)) (.c (.int 0)),.tup #v[.ix (.ix (.ix (.v 0) (.v 3)) (.c (.int 1))) (.v 1),.ix (.ix (.ix (.v 0) (.v 3)) (.c (.int 1))) (.v 2)]]])]
noncomputable def bX (u:Wd)(i j k:Hs):Wd:=[((u.getD i (0,[])).1,[]),((u.getD j (0,[])).1,[(u.getD j (0,[])).2.getD i 0]),((u.getD k (0,[])).1,[(u.getD k (0,[])).2.getD i 0,(u.getD k (0,[])).2.getD j 0])]
section
variable{defs:Hj (HM×Df)}{fuel d:Hs}{S:aa}{Q:QW}
theorem nP (hg:Is defs ("three_at" : HM) 4 6 aX){a n:Hs}{u:Wd}{i j k:Hs}(hu:GoodW a n u)(h1:i < j)(h2:j < k)(h3:k < u.length)(q:Q (am (bX u i j k),S)) :
  wO (aC (ak defs fuel (d+1)) "three_at" 4 [am u,.int i,.int j,.int k] S) Q:=by
 refine al hg rfl rfl λQ' hR=>?_
 replace q:=hR _ _ q;clear hR;show wZ _ _ aX [gV (am u),gV (.int i),gV (.int j),gV (.int k),td,td] S Q';have hi:i < u.length:=∅
 have hj:j < u.length:=∅
 have lj:i < (u.getD j (0,[])).2.length:=by rw[hu.len j _ (aq (d:=(0,[])) hj)]; exact h1
 have lk:j < (u.getD k (0,[])).2.length:=by rw[hu.len k _ (aq (d:=(0,[])) h3)]; exact h2
 have lki:i < (u.getD k (0,[])).2.length:=∅
 have w:∀ {p m:Hs},m < (u.getD p (0,[])).2.length->((u.getD p (0,[])).2.map W.int)[((m:Hs):Hy).toNat]?=gV (.int ((u.getD p (0,[])).2.getD m 0)):=λ{p m} h=>by
  rw[HI,Ht,aq (d:=0) h]; rfl
 dsimp only[aX];refine st ?_;dsimp only[wS,wE,wA,wV,wG,Hz];refine ae (Hx i) (cZ hi) (ae #v[] rfl ?_)
 refine st ?_;dsimp only[wS,wE,wA,wV,wG,Hz];refine ae (Hx j) (cZ hj) (ae #v[] rfl (ae (Hx j) (cZ hj) (ae #v[] rfl (ae (Hx i) (w lj) ?_))))
 refine st ?_;dsimp only[wS,wE,wA,wV,wG,Hz];exact ae (Hx k) (cZ h3) (ae #v[] rfl (ae (Hx k) (cZ h3) (ae #v[] rfl (ae (Hx i) (w lki) (ae (Hx k) (cZ h3) (ae #v[] rfl (ae (Hx j) (w lk) q)))))))
end
noncomputable def bf (i j k i' j' k':Hs):Prop:=i' < i\/(i'=i/\(j' < j\/(j'=j/\k' < k)))
noncomputable def C3 (P:Hs->Hs->Hs->HX)(n i j k:Hs):Prop:=i < j/\j < k/\k < n/\P i j k=true/\∀i' j' k',i' < j'->j' < k'->k' < n->bf i j k i' j' k'->P i' j' k'=false
noncomputable def Ans (P:Hs->Hs->Hs->HX)(n:Hs)(w:W):Prop:=(w=.non/\∀i j k,i < j->j < k->k < n->P i j k=false)\/∃i j k:Hs,w=.tup [.int i,.int j,.int k]/\C3 P n i j k
theorem Ans.congr {P P':Hs->Hs->Hs->HX}{n:Hs}{w:W}(e:∀i j k,i < j->j < k->k < n->P i j k=P' i j k)(h:Ans P n w):Ans P' n w:=by
 rcases h with⟨rfl,h⟩|⟨i,j,k,rfl,a1,a2,a3,a4,a5⟩
 ·exact .inl #[rfl,λi j k b1 b2 b3=>by rw[<- e i j k b1 b2 b3]; exact h i j k b1 b2 b3]
 ·exact .inr #[i,j,k,rfl,a1,a2,a3,by rw[<- e i j k a1 a2 a3]; exact a4,λi' j' k' b1 b2 b3 b4=>by rw[<- e i' j' k' b1 b2 b3]; exact a5 i' j' k' b1 b2 b3 b4]
noncomputable def bU:Ss:=
 #v[.loop (.nm 2) (.rng #v[.bi .len #v[.v 1]]) #v[.loop (.nm 3) (.rng2 #v[.op .add (.v 2) (.c (.int 1)),.bi .len #v[.v 1]]) #v[.loop (.nm 4) (.rng2 #v[.op .add (.v 3) (.c (.int 1)),.bi .len #v[.v 1]]) #v[.ite (.cmp .isin (.own "three_at" 4 #v[.v 1,.v 2,.v 3,.v 4]) (.v 0)) #v[.ret (.tup #v[.v 2,.v 3,.v 4])] .nil]]],.ret (.c .non)]
noncomputable def bv (kvs:Hj (T×W))(u:Wd)(i j k:Hs):HX:=(aN kvs (du (bX u i j k))).isSome
section
variable{defs:Hj (HM×Df)}{fuel d:Hs}{S:aa}{Q:QW}
theorem lh (h3:Is defs ("three_at" : HM) 4 6 aX)(hg:Is defs ("first_three" : HM) 2 5 bU){a n q:Hs}{u:Wd}{kvs:Hj (T×W)}(hu:GoodW a n u)(hl:u.length<=1000)(e:S[q]?=gV (.dic kvs))(kk:∀w,Ans (bv kvs u) u.length w->Q (w,S)) :
  wO (aC (ak defs fuel (d+2)) "first_three" 2 [.ref q,am u] S) Q:=by
 refine al hg rfl rfl λQ' hR=>?_
 replace kk:∀w,Ans (bv kvs u) u.length w->Q' (.rt w,S):=λw h=>hR _ _ (kk w h)
 clear hR;show wZ _ _ bU [gV (.ref q),gV (am u),td,td,td] S Q';have ul:(u.map ap).length=u.length:=Hk ..;dsimp only[bU];refine aF λK hK=>?_
 refine bD (u.length:Hy) (λi ρ S'=>(∃a2 a3 a4,ρ=[gV (.ref q),gV (am u),a2,a3,a4])/\S'=S/\∀i' j' k',i' < i->i' < j'->j' < k'->k' < u.length->bv kvs u i' j' k'=false) rfl rfl ∅ ?_ ?_ ?_
 ·dsimp only[wE,wA,wV,wG];refine ay ?_;rw[ul];exact#[rfl,#[_,_,_,rfl],rfl,λi' _ _ z=>∅]
 ·rintro i ρ S1 hi ⟨⟨a2,a3,a4,rfl⟩,rfl,no⟩ Q2 hn hr;clear hK;dsimp only[Hz];refine aF λK hK=>?_
  refine cx ((i:Hy)+1) (u.length:Hy) (λm ρ S'=>(∃a3 a4,ρ=[gV (.ref q),gV (am u),gV (.int i),a3,a4])/\S'=S1/\∀j' k',j' < i+1+m->i < j'->j' < k'->k' < u.length->bv kvs u i j' k'=false) rfl rfl rfl ∅ ?_ ?_ ?_
  ·dsimp only[wE,wA,wV,wG];refine ab cq #[rfl,ay ?_];rw[ul];exact#[rfl,#[_,_,rfl],rfl,λj' k' z1 z2=>∅]
  ·rintro m ρ S2 hm ⟨⟨a3,a4,rfl⟩,rfl,no2⟩ Q3 hn3 hr3;clear hK;have ej:(i:Hy)+1+m=((i+1+m:Hs):Hy):=∅
   rw[ej];generalize hj:i+1+m=j at no2 hn3 ej;have hij:i < j:=∅
   have hju:j < u.length:=∅
   dsimp only[Hz];refine aF λK hK=>?_
   refine cx ((j:Hy)+1) (u.length:Hy) (λl ρ S'=>(∃a4,ρ=[gV (.ref q),gV (am u),gV (.int i),gV (.int j),a4])/\S'=S2/\∀k',k' < j+1+l->j < k'->k' < u.length->bv kvs u i j k'=false) rfl rfl rfl ∅ ?_ ?_ ?_
   ·dsimp only[wE,wA,wV,wG];refine ab cq #[rfl,ay ?_];rw[ul];exact#[rfl,#[_,rfl],rfl,λk' z1 z2=>∅]
   ·rintro l ρ S3 hl3 ⟨⟨a4,rfl⟩,rfl,no3⟩ Q4 hn4 hr4;clear hK;have ek:(j:Hy)+1+l=((j+1+l:Hs):Hy):=∅
    rw[ek];generalize hk:j+1+l=k at no3 hn4 ek;have hjk:j < k:=∅
    have hku:k < u.length:=∅
    dsimp only[Hz];refine aF λK hK=>?_
    dsimp only[wS,wT,wE,wA,wV,wG];refine nP (d:=d) h3 hu hij hjk hku ?_;refine ab (show aK .isin (am (bX u i j k)) (.ref q) S3=gV (.bl (bv kvs u i j k),S3) by simp only[aK,bI e,gX]; rfl) ?_
    dsimp only[wB];refine ah (Q0:=Q4) (λh Q5 _ hr5=>?_) (λh Q5 hn5 _=>aL (hn5 _ _ (hK _ _ (aL (hn4 _ _ #[#[_,rfl],rfl,λk' z1 z2 z3=>?_])))))
    ·refine st ?_;dsimp only[wS,wE,wA,wV,wG];refine hr5 _ _ (hr4 _ _ (hr3 _ _ (hr _ _ (kk _ (.inr #[i,j,k,rfl,hij,hjk,hku,h,λi' j' k' b1 b2 b3 b4=>?_])))))
     rcases b4 with b|⟨rfl,b|⟨rfl,b⟩⟩
     ·exact no i' j' k' b b1 b2 b3
     ·exact no2 j' k' b b1 b2 b3
     ·exact no3 k' b b2 b3
    ·by_cases ek2:k'=k
     ·rw[ek2]; exact h
     ·exact no3 k' ∅ z2 z3
   ·rintro ρ S3 ⟨⟨a4,rfl⟩,rfl,no3⟩;refine hK _ _ (aL (hn3 _ _ #[#[_,_,rfl],rfl,λj' k' z1 z2 z3 z4=>?_]))
    by_cases ej2:j'=j
    ·rw[ej2]; exact no3 k' ∅ ∅ z4
    ·exact no2 j' k' ∅ z2 z3 z4
  ·rintro ρ S2 ⟨⟨a3,a4,rfl⟩,rfl,no2⟩;refine hK _ _ (aL (hn _ _ #[#[_,_,_,rfl],rfl,λi' j' k' z1 z2 z3 z4=>?_]))
   by_cases ei:i'=i
   ·rw[ei]; exact no2 j' k' ∅ ∅ z3 z4
   ·exact no i' j' k' ∅ z2 z3 z4
 ·rintro ρ S1 ⟨⟨a2,a3,a4,rfl⟩,rfl,no⟩;refine hK _ _ (st ?_);dsimp only[wS,wE];exact kk _ (.inl #[rfl,λi j k b1 b2 b3=>no i j k ∅ b1 b2 b3])
end
structure HasD (kvs:Hj (T×W))(L:Hj Wd):Prop where
 iff:∀t,t∈kvs.map (·.1)↔t∈L.map du
 len:kvs.length<=L.length
theorem xL {kvs:Hj (T×W)}{t:T}:(aN kvs t).isSome=true↔t∈kvs.map (·.1):=by
 constructor
 ·intro h;obtain⟨v,hv⟩:=IR.mp h;exact HU.mpr #[_,kw hv,rfl]
 ·intro h;obtain⟨p,hp,rfl⟩:=HU.mp h;obtain⟨v,hv⟩:=sA hp;rw[hv]; rfl
theorem HasD.get {kvs:Hj (T×W)}{L:Hj Wd}(h:HasD kvs L)(t:T):(aN kvs t).isSome=decide (t∈L.map du):=by
 rw[Ke,xL,h.iff,Ir]
theorem HasD.nil:HasD [] []:=#[λt=>by simp,HC _]
theorem HasD.put {kvs:Hj (T×W)}{L:Hj Wd}{f:Wd}{v:W}(h:HasD kvs L):HasD (en kvs (du f) v) (L++[f]):=by
 refine#[λt=>?_,?_]
 ·rw[i6,HV,Ig,<- h.iff t]
  by_cases hk:du f∈kvs.map (·.1)
  ·rw[HY hk];constructor
   ·exact .inl
   ·rintro(z|z)
    ·exact z
    ·rw[HE.mp z]; exact hk
  ·rw[Iy hk,Ig]; rfl
 ·have:=cO kvs (du f) v;have:=h.len;rw[Hn,Im]; omega
noncomputable def eS:Ss:=
 #v[.set 1 .dnew,.loop (.nm 2) (.seq (.ix (.v 0) (.c (.int 2)))) #v[.loop (.nm 3) (.seq (.own "_law_turns" 0 .nil)) #v[.put (.v 1) (.own "_law_part" 3 #v[.v 0,.v 2,.v 3]) (.c (.bl true))]],.ret (.v 1)]
noncomputable def br (bs:Hj Hy)(gs:Hj Wd):Hj Wd:=gs.flatMap λg=>aw.map (au bs g)
theorem kB (bs:Hj Hy):∀gs:Hj Wd,(br bs gs).length=6*gs.length
 | []=>rfl
 | g::gs=>by
  have:=kB bs gs;unfold br at this ⊢;rw[Je,Hn,this,Iz,Hk,show aw.length=6 from rfl]; omega
section
variable{defs:Hj (HM×Df)}{fuel d:Hs}{S:aa}{Q:QW}
theorem E2 (G:Gen defs)(hg:Is defs ("_law_bad" : HM) 1 4 eS){m0:W}{ns:Hj HM}{bs:Hj Hy}{a:Hs}{gs:Hj Wd}(hb:GoodB bs)(hnl:ns.length=bs.length)(hgs:∀g∈gs,GoodW a bs.length g/\g.length=3)(h64:gs.length<=100)
  (k:∀(q:Hs) (kvs:Hj (T×W)) (S':aa),S'[q]?=gV (.dic kvs)->HasD kvs (br bs gs)->S.length<=q->Ka S S'->Q (.ref q,S')) :
  wO (aC (ak defs fuel (d+3)) "_law_bad" 1 [.tup [m0,.tup (HA aB ns bs),.tup (gs.map am)]] S) Q:=by
 refine al hg rfl rfl λQ' hR=>?_
 replace k:∀(q:Hs) (kvs:Hj (T×W)) (S':aa),S'[q]?=gV (.dic kvs)->HasD kvs (br bs gs)->S.length<=q->Ka S S'->Q' (.rt (.ref q),S'):=λa b c e f g h=>hR _ _ (k a b c e f g h)
 clear hR;show wZ _ _ eS [gV (.tup [m0,.tup (HA aB ns bs),.tup (gs.map am)]),td,td,td] S Q';generalize hR0:W.tup [m0,.tup (HA aB ns bs),.tup (gs.map am)]=R;dsimp only[eS];refine st ?_;dsimp only[wS,wE,Hz];refine aF λK hK=>?_
 refine for_tup (gs.map am) (λi ρ S'=>(∃a2 a3,ρ=[gV R,gV (.ref S.length),a2,a3])/\(∃kvs,S'[S.length]?=gV (.dic kvs)/\HasD kvs (br bs (gs.take i)))/\Ka S S') rfl rfl ?_ ?_ ?_
 ·dsimp only[wE,wV,wG];subst hR0;exact ae #v[] rfl #[rfl,#[_,_,rfl],#[[],aj,.nil],.push]
 ·rintro i w ρ S1 hw ⟨⟨a2,a3,rfl⟩,⟨kvs,e1,h1⟩,k1⟩;clear hK k;rw[Ht,Ho]at hw;obtain⟨g,hg1,rfl⟩:=hw;obtain⟨gg,g3⟩:=hgs g (HF hg1);have hi:i < gs.length:=(HG.mp hg1).1;refine ab (show eJ (.nm 2) (am g) [gV R,gV (.ref S.length),a2,a3] S1=gV ([gV R,gV (.ref S.length),gV (am g),a3],S1)from rfl) ?_
  intro Q2 hn _;refine aF λK hK=>?_
  refine c8 rfl rfl ?_;dsimp only[wE,wA];refine jD (d:=d+1) G ?_;refine#[S1.length,aw.map (λt=>W.tup (aD t)),(λj ρ S'=>(∃a3,ρ=[gV R,gV (.ref S.length),gV (am g),a3])/\(∃kvs,S'[S.length]?=gV (.dic kvs)/\HasD kvs (br bs (gs.take i)++(aw.take j).map (au bs g)))/\S'[S1.length]?=gV (.lst (aw.map λt=>W.tup (aD t)))/\Ka S S'),rfl,#[#[_,rfl],#[kvs,ar e1,by rw[MU,NN,Jo]; exact h1],aj,k1.trans .push],λj ρ S' h=>h.2.2.1,?_,?_]
  ·rintro j w ρ S2 hw ⟨⟨a3,rfl⟩,⟨kvs2,e2,h2⟩,el,k2⟩;clear hK hn;rw[Ht,Ho]at hw;obtain⟨t,ht,rfl⟩:=hw;have htm:=HF ht;have tk:t.length<=3/\t.Nodup/\∀p∈t,p < 3:=by
    have:∀t∈aw,t.length<=3/\t.Nodup/\∀p∈t,p < 3:=by decide
    exact this t htm
   refine ab (show eJ (.nm 3) (.tup (aD t)) [gV R,gV (.ref S.length),gV (am g),a3] S2=gV ([gV R,gV (.ref S.length),gV (am g),gV (.tup (aD t))],S2)from rfl) ?_
   intro Q3 hn3 _;refine st ?_;dsimp only[wS,wE,wA,wV,wG];subst hR0;refine xg (d:=d) G hb hnl gg (λp hp=>by have:=tk.2.2 p hp; omega) tk.2.1 ∅ λS3 k3=>?_
   have e3:=k3.get _ _ e2;have hlt:kvs2.length < sizeLine:=by
    have b1:=h2.len;have b2:=kB bs (gs.take i);rw[Hn,b2,Hk,Ic,Ic,show aw.length=6 from rfl]at b1
    rw[IN]; omega
   refine ab (xp e3 hlt) (aL (hn3 _ _ #[#[_,rfl],#[_,bG e3,?_],?_,(k2.trans k3).late (HC _)]))
   ·rw[IB,ht,HV,<- KG];exact h2.put
   ·rw[bh (by have:=k1.len; have:=b7 e1; omega)]; exact k3.get _ _ el
  ·rintro ρ S2 ⟨⟨a3,rfl⟩,⟨kvs2,e2,h2⟩,el,k2⟩;rw[Hk,IH]at h2;refine hK _ _ (aL (hn _ _ #[#[_,_,rfl],#[kvs2,e2,?_],k2]));unfold br at h2 ⊢;rw[IB,hg1,JV]
   simpa using h2
 ·rintro ρ S1 ⟨⟨a2,a3,rfl⟩,⟨kvs,e1,h1⟩,k1⟩;rw[Hk,IH]at h1;exact hK _ _ (st (k _ kvs S1 e1 h1 (HC _) k1))
end
noncomputable def bz:Ss:=
 #v[.set 1 (.lst #v[.tup .nil]),.whl (.cmp .lt (.bi .len #v[.ix (.v 1) (.c (.int 0))]) (.c (.int 3))) #v[.set 1 (.own "longer_orders" 2 #v[.v 1,.c (.int 3)])],.set 2 .dnew,.loop (.nm 3) (.seq (.ix (.v 0) (.c (.int 2)))) #v[.loop (.nm 4) (.seq (.v 1)) #v[.put (.v 2) (.own "part" 3 #v[.v 0,.v 3,.v 4]) (.c (.bl true))]],.ret (.v 2)]
noncomputable def uq:Hs->Hj (Hj Hs)
 | 0=>[[]]
 | i+1=>ga 3 (uq i)
theorem ur:uq 3=aw:=by decide
theorem C4:∀i,i<=3->(∃o,(uq i)[0]?=gV o/\o.length=i)/\(uq i).length<=6/\∀o∈uq i,o.length<=3:=λi hi=>by
 rcases(show i=0\/i=1\/i=2\/i=3 by omega)with rfl|rfl|rfl|rfl
 ·exact#[#[[],rfl,rfl],#v[],#v[]]
 ·exact#[#[[0],rfl,rfl],#v[],#v[]]
 ·exact#[#[[0,1],rfl,rfl],#v[],#v[]]
 ·exact#[#[[0,1,2],rfl,rfl],#v[],#v[]]
section
variable{defs:Hj (HM×Df)}{fuel d:Hs}{S:aa}{Q:QW}
theorem kC (hfu:20 < fuel)(P:Parts defs)(hp:Is defs ("part" : HM) 3 3 gY)(hl:Is defs ("longer_orders" : HM) 2 4 aW)(hg:Is defs ("barred_threes" : HM) 1 5 bz){m0:W}{ns:Hj HM}{bs:Hj Hy}{a:Hs}{gs:Hj Wd}(hb:GoodB bs)(hnl:ns.length=bs.length)(hgs:∀g∈gs,GoodW a bs.length g/\g.length=3)(h64:gs.length<=100)
  (k:∀(q:Hs) (kvs:Hj (T×W)) (S':aa),S'[q]?=gV (.dic kvs)->HasD kvs (br bs gs)->S.length<=q->Ka S S'->Q (.ref q,S')) :
  wO (aC (ak defs fuel (d+4)) "barred_threes" 1 [.tup [m0,.tup (HA aB ns bs),.tup (gs.map am)]] S) Q:=by
 refine al hg rfl rfl λQ' hR=>?_
 replace k:∀(q:Hs) (kvs:Hj (T×W)) (S':aa),S'[q]?=gV (.dic kvs)->HasD kvs (br bs gs)->S.length<=q->Ka S S'->Q' (.rt (.ref q),S'):=λa b c e f g h=>hR _ _ (k a b c e f g h)
 clear hR;show wZ _ _ bz [gV (.tup [m0,.tup (HA aB ns bs),.tup (gs.map am)]),td,td,td,td] S Q';generalize hR0:W.tup [m0,.tup (HA aB ns bs),.tup (gs.map am)]=R;dsimp only[bz];refine st ?_;dsimp only[wS,wE,wA,Hz];refine aF λK hK=>?_
 refine ES (λm ρ S'=>∃(i q:Hs),i+m=3/\ρ=[gV R,gV (.ref q),td,td,td]/\S'[q]?=gV (.lst (cu (uq i)))/\S.length<=q/\Ka S S') 3 rfl rfl ∅ #[0,S.length,rfl,rfl,aj,HC _,.push] ?_
 rintro m ρ S1 ⟨i,q,him,rfl,e1,hq,k1⟩;obtain⟨⟨o,ho,hol⟩,l6,l3⟩:=C4 i ∅
 dsimp only[wT,wE,wA,wV,wG];refine kj (w:=.tup (aD o)) e1 #v[] (by unfold cu; rw[Ht,show((0:Hy).toNat)=0 from rfl,ho]; rfl) (ay ?_)
 rw[show(aD o).length=o.length from Hk ..,hol]
 dsimp only[wF,aO,wB];refine#[λh=>?_,λh=>?_]
 ·have h:(i:Hy) < 3:=IW h;refine#[m - 1,∅,λQ2 hn _=>?_]
  clear hK k;refine st ?_;dsimp only[wS,wE,wA,wV,wG,Hz];refine xJ (n:=3) (d:=d+2) hl e1 #v[] (λo ho=>by have:=l3 o ho; omega) ∅ λq2 S2 e2 hq2 k2=>aL (hn _ _ #[i+1,q2,∅,rfl,e2,?_,k1.trans k2])
  exact Ih k1.len hq2
 ·have h:¬ (i:Hy) < 3:=K9 h;obtain rfl:i=3:=∅
  rw[ur]at e1;refine hK _ _ ?_;clear hK K l6 l3 ho hol h him;refine st ?_;dsimp only[wS,wE,Hz];refine aF λK hK=>?_
  have hq1:=b7 e1;refine for_tup (gs.map am) (λi ρ S'=>(∃a3 a4,ρ=[gV R,gV (.ref q),gV (.ref S1.length),a3,a4])/\(∃kvs,S'[S1.length]?=gV (.dic kvs)/\HasD kvs (br bs (gs.take i)))/\S'[q]?=gV (.lst (cu aw))/\Ka S S') rfl rfl ?_ ?_ ?_
  ·dsimp only[wE,wV,wG];subst hR0;exact ae #v[] rfl #[rfl,#[_,_,rfl],#[[],aj,.nil],ar e1,k1.trans .push]
  ·rintro i w ρ S2 hw ⟨⟨a3,a4,rfl⟩,⟨kvs,e2,h2⟩,el2,k2⟩;clear hK k;rw[Ht,Ho]at hw;obtain⟨g,hg1,rfl⟩:=hw;obtain⟨gg,g3⟩:=hgs g (HF hg1);have hi:i < gs.length:=(HG.mp hg1).1;refine ab (show eJ (.nm 3) (am g) [gV R,gV (.ref q),gV (.ref S1.length),a3,a4] S2=gV ([gV R,gV (.ref q),gV (.ref S1.length),gV (am g),a4],S2)from rfl) ?_
   intro Q2 hn _;refine aF λK hK=>?_
   refine jC q (cu aw) (λj ρ S'=>(∃a4,ρ=[gV R,gV (.ref q),gV (.ref S1.length),gV (am g),a4])/\(∃kvs,S'[S1.length]?=gV (.dic kvs)/\HasD kvs (br bs (gs.take i)++(aw.take j).map (au bs g)))/\S'[q]?=gV (.lst (cu aw))/\Ka S S') rfl rfl #[rfl,#[_,rfl],#[kvs,e2,by rw[MU,NN,Jo]; exact h2],el2,k2] (λj ρ S' h=>h.2.2.1) ?_ ?_
   ·rintro j w ρ S3 hw ⟨⟨a4,rfl⟩,⟨kvs3,e3,h3⟩,el3,k3⟩;clear hK hn;unfold cu at hw;rw[Ht,Ho]at hw;obtain⟨t,ht,rfl⟩:=hw;have tk:t.length<=3/\t.Nodup/\∀p∈t,p < 3:=by
     have:∀t∈aw,t.length<=3/\t.Nodup/\∀p∈t,p < 3:=by decide
     exact this t (HF ht)
    refine ab (show eJ (.nm 4) (.tup (aD t)) [gV R,gV (.ref q),gV (.ref S1.length),gV (am g),a4] S3=gV ([gV R,gV (.ref q),gV (.ref S1.length),gV (am g),gV (.tup (aD t))],S3)from rfl) ?_
    intro Q3 hn3 _;refine st ?_;dsimp only[wS,wE,wA,wV,wG];subst hR0;refine EY (d:=d) P hp hb hnl gg (λp hp=>by have:=tk.2.2 p hp; omega) tk.2.1 ∅ λS4 k4=>?_
    have e4:=k4.get _ _ e3;have hlt:kvs3.length < sizeLine:=by
     have b1:=h3.len;have b2:=kB bs (gs.take i);rw[Hn,b2,Hk,Ic,Ic,show aw.length=6 from rfl]at b1
     rw[IN]; omega
    refine ab (xp e4 hlt) (aL (hn3 _ _ #[#[_,rfl],#[_,bG e4,?_],?_,(k3.trans k4).late k1.len]))
    ·rw[IB,ht,HV,<- KG];exact h3.put
    ·rw[bh ∅]; exact k4.get _ _ el3
   ·rintro ρ S3 ⟨⟨a4,rfl⟩,⟨kvs3,e3,h3⟩,el3,k3⟩;rw[show(cu aw).length=aw.length from Hk ..,IH]at h3
    refine hK _ _ (aL (hn _ _ #[#[_,_,rfl],#[kvs3,e3,?_],el3,k3]));unfold br at h3 ⊢;rw[IB,hg1,JV]
    simpa using h3
  ·rintro ρ S2 ⟨⟨a3,a4,rfl⟩,⟨kvs,e2,h2⟩,el2,k2⟩;rw[Hk,IH]at h2;exact hK _ _ (st (k _ kvs S2 e2 h2 k1.len k2))
end
noncomputable def aP:Ss:=
 #v[.loop (.nm 6) (.rng2 #v[.bi .len #v[.v 5],.bi .len #v[.v 3]]) #v[.set 7 (.lst .nil),.loop (.nm 8) (.rng #v[.bi .len #v[.ix (.v 1) (.c (.int 1))]]) #v[.set 9 (.lst .nil),.loop (.nm 10) (.rng #v[.v 6]) #v[.ex (.me .append (.v 9) #v[.cmp .isin (.tup #v[.tup #v[.ix (.ix (.v 3) (.v 10)) (.c (.int 0)),.tup .nil],.tup #v[.ix (.ix (.v 3) (.v 6)) (.c (.int 0)),.tup #v[.ix (.ix (.ix (.v 3) (.v 6)) (.c (.int 1))) (.v 10)]],.tup #v[.v 4,.tup #v[.ix (.v 5) (.v 10),.v 8]]]) (.v 2)])],.ite (.cmp .notin (.c (.bl true)) (.v 9)) #v[.ex (.me .append (.v 7) #v[.v 8])] .nil],.ite (.cmp .eq (.v 7) (.lst .nil)) #v[.ret (.c .non)] .nil,.set 5 (.op .add (.v 5) (.tup #v[.ix (.v 7) (.own "_law_pick" 2 #v[.v 0,.bi .len #v[.v 7]])]))],.ret (.v 5)]
noncomputable def bp (kvs:Hj (T×W))(u:Wd)(mk:Hy)(i m:Hs)(x y:Hy):HX:=(aN kvs (du [((u.getD i (0,[])).1,[]),((u.getD m (0,[])).1,[(u.getD m (0,[])).2.getD i 0]),(mk,[x,y])])).isSome
theorem xM {S:aa}{l:Hs}{bl:Hj HX}(h:S[l]?=gV (.lst (bl.map W.bl))):∃b,aK .notin (.bl true) (.ref l) S=gV (.bl b,S)/\(b=true->∀x∈bl,x=false):=by
 have hf:(bC (.bl true)&&(bl.map W.bl).all bC)=true:=by
  simp only[bC,K1,HS];intro x hx;obtain⟨z,_,rfl⟩:=HU.mp hx;rfl
 refine#[!(bl.map W.bl).any λz=>mO z (.bl true),?_,λhb x hx=>?_]
 ·simp only[aK,nH h,dI,uH,zb,eN,aJ h,hf,Kq,Iv]
 ·rw[Ki,NW]at hb;cases x with
  | false=>rfl
  | true=>exact absurd rfl (hb (.bl true) (HU.mpr #[true,hx,rfl]))
section
variable{defs:Hj (HM×Df)}{fuel d:Hs}{S:aa}{r:Hs}{Q:QW}
theorem kD (G:Gen defs)(hg:Is defs ("_law_new_ways" : HM) 6 11 aP){m0 b0:W}{N:Hj W}{a n q:Hs}{u:Wd}{mk:Hy}{kvs:Hj (T×W)}(hN:N.length=n)(hn3:n<=3)(hu:GoodW a n u)(hl:u.length<=900)(e:S[q]?=gV (.dic kvs))(hqr:q≠r)(hf:Fl S r)
  (k:∀w S',(w=.non\/∃to:Hj Hy,w=.tup (ac to)/\to.length=u.length/\(∀x∈to,0<=x/\x < (n:Hy))/\∀j < u.length,∀i < j,bp kvs u mk i j (to.getD i 0) (to.getD j 0)=false)->Fl S' r->Kp r S S'->Q (w,S')) :
  wO (aC (ak defs fuel (d+2)) "_law_new_ways" 6 [.ref r,.tup [m0,.tup N,b0],.ref q,am u,.int mk,.tup []] S) Q:=by
 refine al hg rfl rfl λQ' hR=>?_
 replace k:∀w S',(w=.non\/∃to:Hj Hy,w=.tup (ac to)/\to.length=u.length/\(∀x∈to,0<=x/\x < (n:Hy))/\∀j < u.length,∀i < j,bp kvs u mk i j (to.getD i 0) (to.getD j 0)=false)->Fl S' r->Kp r S S'->Q' (.rt w,S'):=λw S' h1 h2 h3=>hR _ _ (k w S' h1 h2 h3)
 clear hR;show wZ _ _ aP [gV (.ref r),gV (.tup [m0,.tup N,b0]),gV (.ref q),gV (am u),gV (.int mk),gV (.tup (ac [])),td,td,td,td,td] S Q';generalize hR0:W.tup [m0,.tup N,b0]=R;have ul:(u.map ap).length=u.length:=Hk ..;have hqS:=b7 e;have hrS:=hf.lt;dsimp only[aP];refine aF λK hK=>?_
 refine cx 0 (u.length:Hy) (λm ρ S'=>∃(to:Hj Hy) (a6 a7 a8 a9 a10:Hr W),ρ=[gV (.ref r),gV R,gV (.ref q),gV (am u),gV (.int mk),gV (.tup (ac to)),a6,a7,a8,a9,a10]/\to.length=m/\(∀x∈to,0<=x/\x < (n:Hy))/\(∀j < m,∀i < j,bp kvs u mk i j (to.getD i 0) (to.getD j 0)=false)/\Fl S' r/\Kp r S S') rfl rfl rfl ∅ ?_ ?_ ?_
 ·dsimp only[wE,wA,wV,wG];refine ay #[rfl,ay ?_];rw[ul];exact#[rfl,[],_,_,_,_,_,rfl,rfl,(λx hx=>nomatch hx),(λj hj=>∅),hf,.refl]
 ·rintro m ρ S1 hm ⟨to,a6,a7,a8,a9,a10,rfl,htl,hto,hbp,f1,k1⟩ Q2 hn2 hr2;clear hK;rw[LG];have hmu:m < u.length:=∅
  have e1:S1[q]?=gV (.dic kvs):=k1.get _ _ hqr e;have s1:S.length<=S1.length:=k1.len;have lm:=hu.len m _ (aq (d:=(0,[])) hmu);dsimp only[Hz];refine st ?_;dsimp only[wS,wE,wA,Hz];refine aF λK hK=>?_
  refine bD (n:Hy) (λx ρ S'=>(∃a8 a9 a10,ρ=[gV (.ref r),gV R,gV (.ref q),gV (am u),gV (.int mk),gV (.tup (ac to)),gV (.int m),gV (.ref S1.length),a8,a9,a10])/\(∃ls:Hj Hy,S'[S1.length]?=gV (.lst (ac ls))/\ls.length<=x/\(∀y∈ls,0<=y/\y < (n:Hy))/\∀y∈ls,∀i < m,bp kvs u mk i m (to.getD i 0) y=false)/\S'[q]?=gV (.dic kvs)/\Fl S' r/\Kp r S S') rfl rfl ∅ ?_ ?_ ?_
  ·dsimp only[wE,wA,wV,wG];subst hR0;refine ae #v[] rfl (ay ?_)
   rw[hN];exact#[rfl,#[_,_,_,rfl],#[[],aj,HC _,(λy hy=>nomatch hy),λy hy=>nomatch hy],ar e1,f1.ka .push,k1.trans .push]
  ·rintro x ρ S2 hx ⟨⟨a8,a9,a10,rfl⟩,⟨ls,e2,hll,hls,hlb⟩,q2,f2,k2⟩ Q3 hn3' hr3;clear hK;have l2:=b7 e2;dsimp only[Hz];refine st ?_;dsimp only[wS,wE,wA,Hz];refine aF λK hK=>?_
   refine bD (m:Hy) (λi ρ S'=>(∃a10,ρ=[gV (.ref r),gV R,gV (.ref q),gV (am u),gV (.int mk),gV (.tup (ac to)),gV (.int m),gV (.ref S1.length),gV (.int x),gV (.ref S2.length),a10])/\S'[S2.length]?=gV (.lst (((HJ i).map λj=>bp kvs u mk j m (to.getD j 0) (x:Hy)).map W.bl))/\S'[S1.length]?=gV (.lst (ac ls))/\S'[q]?=gV (.dic kvs)/\Fl S' r/\Kp r S S') rfl rfl ∅ #[rfl,#[_,rfl],aj,ar e2,ar q2,f2.ka .push,k2.trans .push] ?_ ?_
   ·rintro i ρ S3 hi ⟨⟨a10,rfl⟩,e3,el3,q3,f3,k3⟩ Q4 hn4 _;clear hK;have hiu:i < u.length:=∅
    have him:i < (u.getD m (0,[])).2.length:=∅
    have hit:i < to.length:=∅
    dsimp only[Hz];refine st ?_;dsimp only[wS,wE,wA,wV,wG];refine#[dE e3,?_];refine ae (Hx i) (cZ hiu) (ae #v[] rfl (ae (Hx m) (cZ hmu) (ae #v[] rfl (ae (Hx m) (cZ hmu) (ae #v[] rfl (ae (w:=.int ((u.getD m (0,[])).2.getD i 0)) (Hx i) (by rw[HI,Ht,aq (d:=0) him]; rfl) (ae (w:=.int (to.getD i 0)) (Hx i) (by rw[HI]; unfold ac; rw[Ht,aq (d:=0) hit]; rfl) ?_)))))))
    refine ab (a:=(.bl (bp kvs u mk i m (to.getD i 0) (x:Hy)),S3)) ?_ ?_
    ·show aK .isin (am [((u.getD i (0,[])).1,[]),((u.getD m (0,[])).1,[(u.getD m (0,[])).2.getD i 0]),(mk,[to.getD i 0,(x:Hy)])]) (.ref q) S3=_;simp only[aK,bI q3,gX]; rfl
    refine lV e3 (by rw[Hk,Hk,Ii]; omega) (aL (hn4 _ _ #[#[_,rfl],?_,?_,?_,f3.own ∅,k3.late ∅]))
    ·rw[bG e3,Jz,HV,HV]; rfl
    ·rw[bh ∅]; exact el3
    ·rw[bh ∅]; exact q3
   ·rintro ρ S3 ⟨⟨a10,rfl⟩,e3,el3,q3,f3,k3⟩;refine hK _ _ ?_;clear hK K;refine aF λK hK=>?_
    dsimp only[wS,wT,wE,wA,wV,wG];obtain⟨b,eb,hb⟩:=xM e3;refine ab eb ?_;dsimp only[wB];refine ah (Q0:=Q3) (λhbt Q5 hn5 _=>?_) (λ_ Q5 hn5 _=>aL (hn5 _ _ (hK _ _ (aL (hn3' _ _ #[#[_,_,_,rfl],#[ls,el3,∅,hls,hlb],q3,f3,k3])))))
    refine st ?_;dsimp only[wS,wE,wA,wV,wG];refine#[dE el3,lV el3 (by unfold ac; rw[Hk]; omega) (aL (hn5 _ _ (hK _ _ (aL (hn3' _ _ #[#[_,_,_,rfl],#[ls++[(x:Hy)],?_,by rw[Hn,Im]; omega,λy hy=>?_,λy hy i hi=>?_],?_,f3.own ∅,k3.late ∅])))))]
    ·rw[bG el3]; unfold ac; rw[HV]; rfl
    ·rcases Ig.mp hy with h|h
     ·exact hls y h
     ·rw[HE.mp h]; omega
    ·rcases Ig.mp hy with h|h
     ·exact hlb y h i hi
     ·rw[HE.mp h];exact hb hbt _ (HU.mpr #[i,HL.mpr ∅,rfl])
    ·rw[bh ∅]; exact q3
  ·rintro ρ S2 ⟨⟨a8,a9,a10,rfl⟩,⟨ls,e2,hll,hls,hlb⟩,q2,f2,k2⟩;refine hK _ _ ?_;clear hK K;rw[HI]at hll;refine aF λK hK=>?_
   dsimp only[wS,wT,wE,wA,wV,wG];refine ab (sy (ar e2) aj) ?_;dsimp only[wB];refine ah (Q0:=Q2) (λ_ Q5 _ hr5=>?_) (λhne Q5 hn5 _=>aL (hn5 _ _ (hK _ _ ?_)))
   ·refine st ?_;dsimp only[wS,wE];exact hr5 _ _ (hr2 _ _ (k _ _ (.inl rfl) (f2.ka .push) (k2.trans .push)))
   clear hn5 hK;have hpos:0 < ls.length:=by
    cases ls with
    | nil=>cases hne
    | cons _ _=>simp
   refine st ?_;dsimp only[wS,wE,wA,wV,wG,Hz];have e2':=ar (u:=O.lst []) e2;refine sg e2' ?_;rw[show(ac ls).length=ls.length from Hk ..]
   refine aT (d:=d) G.pick (f2.ka .push) ∅ ∅ λv S4 v0 v1 f4 k4=>?_
   have hv:v.toNat < ls.length:=∅
   have e4:=k4.get _ _ (by have:=b7 e2; omega) e2'
   refine kj (w:=.int ls[v.toNat]) e4 v0 (by unfold ac; rw[Ht,HH hv]; rfl) ?_
   refine ab (bL (ef (by rw[Hn,show(ac to).length=to.length from Hk ..]; show _+1<=_; omega))) (aL (hn2 _ _ #[to++[ls[v.toNat]],gV (.int m),gV (.ref S1.length),a8,a9,a10,?_,by rw[Hn,htl]; rfl,λy hy=>?_,λj hj i hi=>?_,f4,(k2.trans .push).trans k4]))
   ·rw[show ac to++[W.int ls[v.toNat]]=ac (to++[ls[v.toNat]]) by unfold ac; rw[HV]; rfl]
   ·rcases Ig.mp hy with h|h
    ·exact hto y h
    ·rw[HE.mp h]; exact hls _ (IT hv)
   ·have gl:∀j:Hs,j < to.length->(to++[ls[v.toNat]]).getD j 0=to.getD j 0:=λj hj=>by rw[HP,HP,Il hj]
    rw[gl i ∅]
    by_cases ej:j=m
    ·subst ej;rw[show(to++[ls[v.toNat]]).getD j 0=ls[v.toNat] by rw[<- htl,HP,ID (HC _),KO]; rfl]
     exact hlb _ (IT hv) i hi
    ·rw[gl j ∅]
     exact hbp j ∅ i hi
 ·rintro ρ S1 ⟨to,a6,a7,a8,a9,a10,rfl,htl,hto,hbp,f1,k1⟩;refine hK _ _ (st ?_);dsimp only[wS,wE,wV,wG];exact k _ _ (.inr #[to,rfl,∅,hto,λj hj=>hbp j ∅]) f1 k1
end
noncomputable def dy:Ss:=
 #v[.set 4 (.tup .nil),.loop (.nm 5) (.rng #v[.v 3]) #v[.set 6 (.own "_law_pick" 2 #v[.v 0,.bi .len #v[.ix (.v 1) (.c (.int 0))]]),.set 7 (.own "_law_new_ways" 6 #v[.v 0,.v 1,.v 2,.v 4,.v 6,.tup .nil]),.ite (.cmp .isnot (.v 7) (.c .non)) #v[.set 4 (.op .add (.v 4) (.tup #v[.tup #v[.v 6,.v 7]]))] .nil],.ret (.v 4)]
noncomputable def cb:Ss:=
 #v[.ret (.own "first_three" 2 #v[.own "barred_threes" 1 #v[.v 0],.v 1])]
theorem aE {u:Wd}{h:Pt}{p:Hs}(hp:p < u.length):(u++[h]).getD p (0,[])=u.getD p (0,[]):=by
 rw[HP,HP,Il hp]
theorem bQ {u:Wd}{h:Pt}:(u++[h]).getD u.length (0,[])=h:=by
 rw[HP,ID (HC _),KO]; rfl
noncomputable def Std (kvs:Hj (T×W))(u:Wd):Prop:=∀k < u.length,∀j < k,∀i < j,bv kvs u i j k=false
theorem Std.snoc {kvs:Hj (T×W)}{u:Wd}{m:Hy}{to:Hj Hy}(h:Std kvs u)(hb:∀j < u.length,∀i < j,bp kvs u m i j (to.getD i 0) (to.getD j 0)=false):Std kvs (u++[(m,to)]):=by
 intro k hk j hj i hi;rw[Hn,Im]at hk
 by_cases e:k=u.length
 ·subst e;have:=hb j hj i hi;unfold bp at this;unfold bv bX;rw[aE (JY hi hj),aE hj,bQ];exact this
 ·have hk':k < u.length:=∅
  have:=h k hk' j hj i hi;unfold bv bX at this ⊢;rw[aE (JY hi (JY hj hk')),aE (JY hj hk'),aE hk'];exact this
section
variable{defs:Hj (HM×Df)}{fuel d:Hs}{S:aa}{r:Hs}{Q:QW}
theorem Aw (G:Gen defs)(hw:Is defs ("_law_new_ways" : HM) 6 11 aP)(hg:Is defs ("_law_world" : HM) 4 8 dy){M N:Hj W}{b0:W}{a n q many:Hs}{kvs:Hj (T×W)}(hM:M.length=a)(ha1:0 < a)(ha3:a<=3)(hN:N.length=n)(hn3:n<=3)(hm:many<=900)(e:S[q]?=gV (.dic kvs))(hqr:q≠r)(hf:Fl S r)
  (k:∀(u:Wd) S',u.length<=many->GoodW a n u->Std kvs u->Fl S' r->Kp r S S'->Q (am u,S')) :
  wO (aC (ak defs fuel (d+3)) "_law_world" 4 [.ref r,.tup [.tup M,.tup N,b0],.ref q,.int many] S) Q:=by
 refine al hg rfl rfl λQ' hR=>?_
 replace k:∀(u:Wd) S',u.length<=many->GoodW a n u->Std kvs u->Fl S' r->Kp r S S'->Q' (.rt (am u),S'):=λu S' h1 h2 h3 h4 h5=>hR _ _ (k u S' h1 h2 h3 h4 h5)
 clear hR;show wZ _ _ dy [gV (.ref r),gV (.tup [.tup M,.tup N,b0]),gV (.ref q),gV (.int many),td,td,td,td] S Q';generalize hR0:W.tup [.tup M,.tup N,b0]=R;dsimp only[dy];refine st ?_;dsimp only[wS,wE,wA,Hz];refine aF λK hK=>?_
 refine bD (many:Hy) (λi ρ S'=>∃(u:Wd) (a5 a6 a7:Hr W),ρ=[gV (.ref r),gV R,gV (.ref q),gV (.int many),gV (am u),a5,a6,a7]/\u.length<=i/\GoodW a n u/\Std kvs u/\Fl S' r/\Kp r S S') rfl rfl ∅ #[rfl,[],_,_,_,rfl,HC _,.nil,(λk hk=>by cases hk),hf,.refl] ?_ ?_
 ·rintro i ρ S1 hi ⟨u,a5,a6,a7,rfl,hul,hu,hst,f1,k1⟩ Q2 hn _;clear hK;have e1:=k1.get _ _ hqr e;dsimp only[Hz];refine st ?_;dsimp only[wS,wE,wA,wV,wG,Hz];subst hR0;refine ae #v[] rfl (ay ?_)
  rw[hM];refine aT (d:=d+1) G.pick f1 ∅ ∅ λv S2 v0 v1 f2 k2=>?_
  have e2:=k2.get _ _ hqr e1;refine st ?_;dsimp only[wS,wE,wA,wV,wG,Hz];refine kD (d:=d) G hw hN hn3 hu ∅ e2 hqr f2 λw S3 hw3 f3 k3=>?_
  refine aF λK hK=>?_
  dsimp only[wS,wT,wE,wA,wV,wG];rcases hw3 with rfl|⟨to,rfl,htl,hto,hbp⟩
  ·refine ab (show aK .isnot .non .non S3=gV (.bl false,S3)from rfl) ?_
   dsimp only[wB];exact ah (Q0:=Q2) (λz=>by cases z) (λ_ Q5 hn5 _=>aL (hn5 _ _ (hK _ _ (aL (hn _ _ #[u,_,_,_,rfl,∅,hu,hst,f3,(k1.trans k2).trans k3])))))
  ·refine ab (show aK .isnot (.tup (ac to)) .non S3=gV (.bl true,S3)from rfl) ?_
   dsimp only[wB];refine ah (Q0:=Q2) (λ_ Q5 hn5 _=>?_) (λz=>by cases z)
   refine st ?_;dsimp only[wS,wE,wA,wV,wG,Hz,am];refine ab (bL (ef (by rw[Hn,Hk]; show _+1<=_; omega))) (aL (hn5 _ _ (hK _ _ (aL (hn _ _ #[u++[(v,to)],gV (.int i),gV (.int v),gV (.tup (ac to)),?_,?_,hu.snoc #[v0,v1] htl hto,hst.snoc hbp,f3,(k1.trans k2).trans k3])))))
   ·unfold am;rw[HV]; rfl
   ·rw[Hn,Im]; omega
 ·rintro ρ S1 ⟨u,a5,a6,a7,rfl,hul,hu,hst,f1,k1⟩;rw[HI]at hul;refine hK _ _ (st ?_);dsimp only[wS,wE,wV,wG];exact k u S1 hul hu hst f1 k1
theorem kE (hfu:20 < fuel)(P:Parts defs)(hp:Is defs ("part" : HM) 3 3 gY)(hl:Is defs ("longer_orders" : HM) 2 4 aW)(hbt:Is defs ("barred_threes" : HM) 1 5 bz)(h3:Is defs ("three_at" : HM) 4 6 aX)(hft:Is defs ("first_three" : HM) 2 5 bU)(hg:Is defs ("first_barred" : HM) 2 2 cb)
  {m0:W} {ns:Hj HM} {bs:Hj Hy} {a:Hs} {gs:Hj Wd} {u:Wd} (hb:GoodB bs) (hnl:ns.length=bs.length) (hgs:∀g∈gs,GoodW a bs.length g/\g.length=3) (h64:gs.length<=100) (hu:GoodW a bs.length u) (hul:u.length<=1000)
  (k:∀w S',Ans (λi j k=>decide (du (bX u i j k)∈(br bs gs).map du)) u.length w->Ka S S'->Q (w,S')) :
  wO (aC (ak defs fuel (d+5)) "first_barred" 2 [.tup [m0,.tup (HA aB ns bs),.tup (gs.map am)],am u] S) Q:=by
 refine al hg rfl rfl λQ' hR=>?_
 show wZ _ _ cb [gV (.tup [m0,.tup (HA aB ns bs),.tup (gs.map am)]),gV (am u)] S Q';dsimp only[cb];refine st ?_;dsimp only[wS,wE,wA,wV,wG];refine kC (d:=d) hfu P hp hl hbt hb hnl hgs h64 λq kvs S1 e1 h1 _ k1=>?_
 refine lh (d:=d+2) h3 hft hu hul e1 λw hw=>hR _ _ (k w S1 ?_ k1)
 exact hw.congr λi j k _ _ _=>h1.get _
end
section
variable{Φ:HM->FF}{ρ:Fm}{S:aa}
theorem qC {α:Type}{elt:E}{it:Ie}{cs:Es}{cap:Hj (Hr Hs)}{mi:MI}{S1:aa}{Q:QW}(L:Hj α)(f:α->W)(p:α->HX)(g:α->W)(R:Fm)(oe:dL elt=true)(oc:n0 cs=true)(hc:eZ cap ρ=td::td::R)(hl:L.length<=1000000)(hi:jv Φ it ρ S=gV (mi,S1))(k1:Ka S S1)(hat:∀i S',Ka S1 S'->mi.at S' i=gV (L.map f)[i]?)(hn:mi.len S1=gV (L.map f).length)
  (hstep:∀x∈L,∀S',Ka S S'->fW Φ elt cs (td::gV (f x)::R) S' (λy _ S2=>p x=true/\y=g x/\Ka S' S2) (λ_ S2=>p x=false/\Ka S' S2))
  (k:∀S',Ka S S'->Q (.ref S'.length,S'++[.lst ((L.filter p).map g)])):Wp (az Φ (.comp elt (.nm 1) it cs cap) ρ S) Q:=by
 rw[wD];refine#[_,hi,_,hn,?_];refine(dJ (xs:=L.map f) (Q:=λq=>q.1.length<=sizeLine/\Q (.ref q.2.length,q.2++[.lst q.1])) (λi ys ρ' S'=>(∃a1,ρ'=td::a1::R)/\ys=((L.take i).filter p).map g/\Ka S1 S') (λi ys ρ' S' h=>hat i S' h.2.2) (λi w ys ρ' S' hw h=>?_) (λys ρ' S' h=>?_) (L.map f).length 0 [] _ S1 ∅ #[#[td,hc],rfl,.refl]).mono λq hq=>by simpa using hq
 ·obtain⟨⟨a1,rfl⟩,rfl,k2⟩:=h;rw[Ht,Ho]at hw;obtain⟨x,hx,rfl⟩:=hw;refine Gp.mpr ?_;refine(Bd oc (hstep x (HF hx) S' (k1.trans k2))).mono λc hc=>#[λz=>(aQ elt oe (hc.1 z)).mono λy hy=>#[#[_,rfl],?_,k2.trans hy.2.2],λz=>#[#[_,rfl],?_,k2.trans (hc.2 z).2]]
  ·rw[IB,hx,JJ,show(O7 (gV x)).filter p=[x]from Mj hy.1,HV,hy.2.1]; rfl
  ·rw[IB,hx,JJ,show(O7 (gV x)).filter p=[]from Mk (by rw[(hc.2 z).1]; exact HN),Jo]
 ·obtain⟨_,rfl,k2⟩:=h;dsimp only;rw[show(L.map f).length=L.length from Hk ..,IH]
  refine#[ef ?_,k S' (k1.trans k2)];rw[Hk];exact Ih (Jt _ _) hl
theorem qD {α:Type}{elt e:E}{cs:Es}{cap:Hj (Hr Hs)}{Q:QW}(L:Hj α)(f:α->W)(p:α->HX)(g:α->W)(R:Fm)(oi:dL e=true)(oe:dL elt=true)(oc:n0 cs=true)(hc:eZ cap ρ=td::td::R)(hl:L.length<=1000000)
  (he:wE Φ e ρ S λq=>∃t,q.1=.ref t/\q.2[t]?=gV (.lst (L.map f))/\Ka S q.2)
  (hstep:∀x∈L,∀S',Ka S S'->fW Φ elt cs (td::gV (f x)::R) S' (λy _ S2=>p x=true/\y=g x/\Ka S' S2) (λ_ S2=>p x=false/\Ka S' S2))
  (k:∀S',Ka S S'->Q (.ref S'.length,S'++[.lst ((L.filter p).map g)])):Wp (az Φ (.comp elt (.nm 1) (.seq e) cs cap) ρ S) Q:=by
 obtain⟨w,S1,e1,t,rfl,ht,k1⟩:=bW oi he;exact qC (mi:=.live t) L f p g R oe oc hc hl (by simp only[jv,eP,e1,aJ ht]) k1 (λi S' h=>by simp only[MI.at,aJ (h.get _ _ ht)]) (by simp only[MI.len,aJ ht,Iv]) hstep k
theorem kF {α:Type}{elt e:E}{cs:Es}{cap:Hj (Hr Hs)}{Q:QW}(L:Hj α)(f:α->W)(p:α->HX)(g:α->W)(R:Fm)(oi:dL e=true)(oe:dL elt=true)(oc:n0 cs=true)(hc:eZ cap ρ=td::td::R)(hl:L.length<=1000000)
  (he:wE Φ e ρ S λq=>q.1=.tup (L.map f)/\Ka S q.2)
  (hstep:∀x∈L,∀S',Ka S S'->fW Φ elt cs (td::gV (f x)::R) S' (λy _ S2=>p x=true/\y=g x/\Ka S' S2) (λ_ S2=>p x=false/\Ka S' S2))
  (k:∀S',Ka S S'->Q (.ref S'.length,S'++[.lst ((L.filter p).map g)])):Wp (az Φ (.comp elt (.nm 1) (.seq e) cs cap) ρ S) Q:=by
 obtain⟨w,S1,e1,rfl,k1⟩:=bW oi he;exact qC (mi:=.its (L.map f)) L f p g R oe oc hc hl (by simp only[jv,eP,e1]) k1 (λ_ _ _=>rfl) rfl hstep k
theorem pG (n:Hs):dc 0 n=(HJ n).map λi=>W.int (i:Hs):=by
 unfold dc;refine IP λi _=>?_
 rw[LG]
theorem nQ {elt e:E}{cs:Es}{cap:Hj (Hr Hs)}{Q:QW}(n:Hs)(p:Hs->HX)(g:Hs->W)(R:Fm)(oi:dL e=true)(oe:dL elt=true)(oc:n0 cs=true)(hc:eZ cap ρ=td::td::R)(hl:n<=1000000)
  (he:wE Φ e ρ S λq=>q.1=.int n/\Ka S q.2)
  (hstep:∀x < n,∀S',Ka S S'->fW Φ elt cs (td::gV (.int (x:Hs))::R) S' (λy _ S2=>p x=true/\y=g x/\Ka S' S2) (λ_ S2=>p x=false/\Ka S' S2))
  (k:∀S',Ka S S'->Q (.ref S'.length,S'++[.lst (((HJ n).filter p).map g)])):Wp (az Φ (.comp elt (.nm 1) (.rng #v[e]) cs cap) ρ S) Q:=by
 obtain⟨w,S1,e1,rfl,k1⟩:=bW oi he;refine qC (mi:=.its (dc 0 n)) (HJ n) (λi=>W.int (i:Hs)) p g R oe oc hc (by rw[Ii]; exact hl) ?_ k1 (λi S' _=>by rw[<- pG]; rfl) (by rw[<- pG]; rfl) (λx hx=>hstep x (HL.mp hx)) k
 simp only[jv,de,dG,io,qj,e1];rw[HY #[∅,∅]]; rfl
theorem c9 {α:Type}(L:Hj α):L.filter (λ_=>true)=L:=List.filter_eq_self.mpr λ_ _=>rfl
end
noncomputable def bT (kvs:Hj (T×W))(u:Wd)(h:Pt)(p q:Hs):HX:=(aN kvs (du [((u.getD p (0,[])).1,[]),((u.getD q (0,[])).1,[(u.getD q (0,[])).2.getD p 0]),(h.1,[h.2.getD p 0,h.2.getD q 0])])).isSome
theorem kG {kvs:Hj (T×W)}{u:Wd}{h:Pt}{p q:Hs}(h1:p < q)(h2:q < u.length):bv kvs (u++[h]) p q u.length=bT kvs u h p q:=by
 unfold bv bT bX;rw[aE (JY h1 h2),aE h2,bQ]
theorem kH {u:Wd}{p s:Hs}(h:p < s):(u.take s).getD p (0,[])=u.getD p (0,[]):=by
 rw[HP,HP,KW h]
noncomputable def gF (kvs:Hj (T×W))(v:Wd):HX:=(HJ (v.length - 2)).all λp=>!bv kvs v p (v.length - 2) (v.length - 1)
theorem l7 {kvs:Hj (T×W)}{u:Wd}{h:Pt}{s:Hs}(hs:s < u.length):gF kvs (u.take (s+1)++[h])=(HJ s).all λp=>!bT kvs u h p s:=by
 have hl:(u.take (s+1)).length=s+1:=by rw[Ic]; omega
 unfold gF;rw[Hn,hl,Im,show s+1+1 - 2=s by omega,show s+1+1 - 1=s+1 by omega,Ke,HS,HS]
 refine Ng λp=>Ng λhp=>?_
 have hp:=HL.mp hp;have e:=kG (kvs:=kvs) (u:=u.take (s+1)) (h:=h) (p:=p) (q:=s) hp ∅
 rw[hl]at e;rw[e];unfold bT;rw[kH ∅,kH ∅]
noncomputable def cN (n:Hs)(hs:Hj Pt):Hj Pt:=hs.flatMap λh=>(HJ n).map λ(w:Hs)=>(h.1,h.2++[(w:Hy)])
noncomputable def ce (kvs:Hj (T×W))(u:Wd)(n:Hs)(m:Hy):Hs->Hj Pt
 | 0=>[(m,[])]
 | s+1=>(cN n (ce kvs u n m s)).filter λh=>gF kvs (u.take (s+1)++[h])
noncomputable def gO (kvs:Hj (T×W))(u:Wd)(a n:Hs):Hj Pt:=(HJ a).flatMap λ(m:Hs)=>ce kvs u n (m:Hy) u.length
theorem aY {ws:Hj Hy}{x:Hy}{p:Hs}(hp:p < ws.length):(ws++[x]).getD p 0=ws.getD p 0:=by
 rw[HP,HP,Il hp]
theorem fq {kvs:Hj (T×W)}{u:Wd}{m x:Hy}{ws:Hj Hy}{p q:Hs}(h1:p < q)(h2:q < ws.length):bT kvs u (m,ws++[x]) p q=bT kvs u (m,ws) p q:=by
 unfold bT;dsimp only;rw[aY (JY h1 h2),aY h2]
theorem dU {kvs:Hj (T×W)}{u:Wd}{n:Hs}{m:Hy}:∀ {s:Hs} {h:Pt},s<=u.length->(h∈ce kvs u n m s↔h.1=m/\h.2.length=s/\(∀w∈h.2,0<=w/\w < (n:Hy))/\∀p q,p < q->q < s->bT kvs u h p q=false)
 | 0,h,_=>by
  rw[ce,HE];constructor
  ·rintro rfl;exact#[rfl,rfl,(λw hw=>nomatch hw),λp q _ h=>absurd h (Os _)]
  ·rintro⟨h1,h2,_⟩;rw[<- h1,<- Lx h2]
 | s+1,h,hs=>by
  rw[ce,JE,l7 ∅,HS]
  unfold cN;rw[Jc];constructor
  ·rintro⟨⟨h0,hm,hw⟩,hb⟩;obtain⟨w,hwr,rfl⟩:=HU.mp hw;obtain⟨h1,h2,h3,h4⟩:=(dU ∅).mp hm
   have hwr:=HL.mp hwr;refine#[h1,by rw[Hn,h2]; rfl,λx hx=>?_,λp q hpq hq=>?_]
   ·rcases Ig.mp hx with z|z
    ·exact h3 x z
    ·rw[HE.mp z]; omega
   ·by_cases e:q=s
    ·subst e;have:=hb p (HL.mpr hpq)
     simpa using this
    ·rw[fq hpq ∅]; exact h4 p q hpq ∅
  ·rintro⟨h1,h2,h3,h4⟩;obtain⟨m',ws⟩:=h;dsimp only at h1 h2 h3 h4;have hne:ws≠[]:=λz=>by rw[z]at h2; cases h2
   have hd:=List.dropLast_concat_getLast hne;have hx:=h3 _ (List.getLast_mem hne);generalize ws.getLast hne=x at hd hx;have hdl:ws.dropLast.length=s:=by rw[JQ]; omega
   generalize ws.dropLast=vs at hd hdl;subst hd;refine#[#[(m',vs),(dU ∅).mpr #[h1,hdl,λw hw=>h3 w (JM _ hw),λp q hpq hq=>?_],?_],λp hp=>?_]
   ·rw[<- fq (x:=x) hpq ∅]; exact h4 p q hpq ∅
   ·exact HU.mpr #[x.toNat,HL.mpr ∅,by dsimp only; rw[show((x.toNat:Hs):Hy)=x by omega]]
   ·rw[h4 p s (HL.mp hp) ∅]; rfl
theorem eT {kvs:Hj (T×W)}{u:Wd}{n:Hs}{m:Hy}:∀s:Hs,(ce kvs u n m s).length<=n ^ s
 | 0=>HC _
 | s+1=>by
  rw[ce];refine Ih (Jt _ _) ?_;have:=eT (kvs:=kvs) (u:=u) (n:=n) (m:=m) s;have e:∀hs:Hj Pt,(cN n hs).length=hs.length*n:=λhs=>by
   unfold cN
   induction hs with
   | nil=>simp
   | cons h hs ih=>rw[Je,Hn,ih,Hk,Ii,Iz,LD]; omega
  rw[e,Nat.pow_succ];exact MT _ this
theorem ma {n:Hs}(hs:Hj Pt):(cN n hs).length=hs.length*n:=by
 unfold cN
 induction hs with
 | nil=>simp
 | cons h hs ih=>rw[Je,Hn,ih,Hk,Ii,Iz,LD]; omega
theorem kI {kvs:Hj (T×W)}{u:Wd}{a n:Hs}{h:Pt}:h∈gO kvs u a n↔(0<=h.1/\h.1 < a)/\h.2.length=u.length/\(∀w∈h.2,0<=w/\w < (n:Hy))/\∀p q,p < q->q < u.length->bT kvs u h p q=false:=by
 unfold gO;rw[Jc];constructor
 ·rintro⟨m,hm,hh⟩;obtain⟨h1,h2⟩:=(dU (HC _)).mp hh;have:=HL.mp hm;exact#[∅,h2]
 ·rintro⟨h1,h2⟩;exact#[h.1.toNat,HL.mpr ∅,(dU (HC _)).mpr #[∅,h2]]
noncomputable def aU:Ss:=
 #v[.set 2 (.op .sub (.bi .len #v[.v 1]) (.c (.int 1))),.loop (.nm 3) (.rng #v[.op .sub (.v 2) (.c (.int 1))]) #v[.ite (.cmp .isin (.own "three_at" 4 #v[.v 1,.v 3,.op .sub (.v 2) (.c (.int 1)),.v 2]) (.v 0)) #v[.ret (.v 3)] .nil],.ret (.c .non)]
noncomputable def cy:Ss:=
 #v[.set 3 (.lst .nil),.loop (.nm 4) (.rng #v[.bi .len #v[.ix (.v 0) (.c (.int 0))]]) #v[.set 5 (.lst #v[.tup #v[.v 4,.tup .nil]]),.loop (.nm 6) (.rng2 #v[.c (.int 1),.op .add (.bi .len #v[.v 2]) (.c (.int 1))]) #v[.set 5 (.comp (.v 1) (.nm 1) (.seq (.own "longer_wishes" 2 #v[.v 0,.v 5])) #v[.cmp .is (.own "first_bar" 2 #v[.v 2,.op .add (.sl (.v 4) .no (.yes (.v 3))) (.tup #v[.v 1])]) (.c .non)] [td,td,gV 1,gV 6,gV 2])],.ex (.me .extend (.v 3) #v[.v 5])],.ret (.v 3)]
noncomputable def bA:Ss:=
 #v[.set 2 (.lst .nil),.loop (.tp [3,4]) (.seq (.v 1)) #v[.ex (.me .extend (.v 2) #v[.comp (.tup #v[.v 2,.op .add (.v 3) (.tup #v[.v 1])]) (.nm 1) (.rng #v[.bi .len #v[.ix (.v 0) (.c (.int 1))]]) .nil [td,td,gV 3,gV 4]])],.ret (.v 2)]
theorem kJ {kvs:Hj (T×W)}{v:Wd}{s:Hs}(hs:v.length=s+2):gF kvs v=true↔∀i < s,bv kvs v i s (s+1)=false:=by
 unfold gF;rw[hs,show s+2 - 2=s from rfl,show s+2 - 1=s+1 from rfl,HS]
 refine Ng λi=>?_
 rw[HL,Ki]
theorem ut {a n s:Hs}{u:Wd}(hu:GoodW a n u):GoodW a n (u.take s):=by
 have key:∀(k:Hs) (x:Pt),(u.take s)[k]?=gV x->u[k]?=gV x:=λk x e=>by
  rw[Ny]at e;split at e
  ·exact e
  ·cases e
 exact#[λk x e=>hu.mark k x (key k x e),λk x e=>hu.len k x (key k x e),λk x e=>hu.way k x (key k x e)]
section
variable{defs:Hj (HM×Df)}{fuel d:Hs}{S:aa}{Q:QW}
theorem jm (h3:Is defs ("three_at" : HM) 4 6 aX)(hg:Is defs ("first_bar" : HM) 2 4 aU){a n q:Hs}{v:Wd}{kvs:Hj (T×W)}(hv:GoodW a n v)(h2:2<=v.length)(hl:v.length<=1000)(e:S[q]?=gV (.dic kvs))(k:∀w,((w=.non/\gF kvs v=true)\/∃i:Hy,w=.int i/\gF kvs v=false)->Q (w,S)) :
  wO (aC (ak defs fuel (d+2)) "first_bar" 2 [.ref q,am v] S) Q:=by
 refine al hg rfl rfl λQ' hR=>?_
 replace k:∀w,((w=.non/\gF kvs v=true)\/∃i:Hy,w=.int i/\gF kvs v=false)->Q' (.rt w,S):=λw h=>hR _ _ (k w h)
 clear hR;show wZ _ _ aU [gV (.ref q),gV (am v),td,td] S Q';have ul:(v.map ap).length=v.length:=Hk ..;obtain⟨s,hs⟩ : ∃s,v.length=s+2:=#[v.length - 2,∅]
 dsimp only[aU];refine st ?_;dsimp only[wS,wE,wA,wV,wG,Hz];refine ay (ab gL ?_);rw[ul,show((v.length:Hs):Hy) - 1=((s+1:Hs):Hy) by omega]
 refine aF λK hK=>?_
 refine bD (s:Hy) (λi ρ S'=>(∃a3,ρ=[gV (.ref q),gV (am v),gV (.int ((s+1:Hs):Hy)),a3])/\S'=S/\∀i' < i,bv kvs v i' s (s+1)=false) rfl rfl ∅ ?_ ?_ ?_
 ·dsimp only[wE,wV,wG];refine ab gL #[?_,#[_,rfl],rfl,λi' z=>∅]
  dsimp only;rw[show((s+1:Hs):Hy) - 1=(s:Hy) by omega]
 ·rintro i ρ S1 hi ⟨⟨a3,rfl⟩,rfl,no⟩ Q2 hn hr;clear hK;dsimp only[Hz];refine aF λK hK=>?_
  dsimp only[wS,wT,wE,wA,wV,wG];refine ab gL ?_;dsimp only;rw[show((s+1:Hs):Hy) - 1=(s:Hy) by omega]
  refine nP (d:=d) h3 hv ∅ (JH s) ∅ ?_
  refine ab (show aK .isin (am (bX v i s (s+1))) (.ref q) S1=gV (.bl (bv kvs v i s (s+1)),S1) by simp only[aK,bI e,gX]; rfl) ?_
  dsimp only[wB];refine ah (Q0:=Q2) (λh Q5 _ hr5=>?_) (λh Q5 hn5 _=>aL (hn5 _ _ (hK _ _ (aL (hn _ _ #[#[_,rfl],rfl,λi' z=>?_])))))
  ·refine st ?_;dsimp only[wS,wE,wV,wG];refine hr5 _ _ (hr _ _ (k _ (.inr #[i,rfl,?_])));rw[Kj];intro z;rw[(kJ hs).mp z i ∅]at h
   cases h
  ·by_cases ei:i'=i
   ·rw[ei]; exact h
   ·exact no i' ∅
 ·rintro ρ S1 ⟨⟨a3,rfl⟩,rfl,no⟩;refine hK _ _ (st ?_);dsimp only[wS,wE];exact k _ (.inl #[rfl,(kJ hs).mpr no])
theorem jx (hg:Is defs ("longer_wishes" : HM) 2 5 bA){m0 b0:W}{N:Hj W}{n l:Hs}{hs:Hj Pt}(hN:N.length=n)(hn:n<=3)(e:S[l]?=gV (.lst (hs.map ap)))(hol:∀h∈hs,h.2.length<=100)(hos:hs.length<=10000)
  (k:∀(q:Hs) (S':aa),S'[q]?=gV (.lst ((cN n hs).map ap))->S.length<=q->Ka S S'->Q (.ref q,S')) :
  wO (aC (ak defs fuel (d+1)) "longer_wishes" 2 [.tup [m0,.tup N,b0],.ref l] S) Q:=by
 refine al hg rfl rfl λQ' hR=>?_
 replace k:∀(q:Hs) (S':aa),S'[q]?=gV (.lst ((cN n hs).map ap))->S.length<=q->Ka S S'->Q' (.rt (.ref q),S'):=λa b c e f=>hR _ _ (k a b c e f)
 clear hR;show wZ _ _ bA [gV (.tup [m0,.tup N,b0]),gV (.ref l),td,td,td] S Q';generalize hR0:W.tup [m0,.tup N,b0]=R;have hlS:=b7 e;dsimp only[bA];refine st ?_;dsimp only[wS,wE,wA,Hz];refine aF λK hK=>?_
 refine jC l (hs.map ap) (λi ρ S'=>(∃a3 a4,ρ=[gV R,gV (.ref l),gV (.ref S.length),a3,a4])/\S'[l]?=gV (.lst (hs.map ap))/\S'[S.length]?=gV (.lst ((cN n (hs.take i)).map ap))/\Ka S S') rfl rfl #[rfl,#[td,td,rfl],ar e,aj,.push] (λi ρ S' h=>h.2.1) ?_ ?_
 ·rintro i w ρ S1 hw ⟨⟨a3,a4,rfl⟩,e0,e1,k1⟩;clear hK k;rw[Ht,Ho]at hw;obtain⟨h,ho,rfl⟩:=hw;have hol:=hol h (HF ho);refine ab (show eJ (.tp [3,4]) (ap h) [gV R,gV (.ref l),gV (.ref S.length),a3,a4] S1=gV ([gV R,gV (.ref l),gV (.ref S.length),gV (.int h.1),gV (.tup (ac h.2))],S1)from rfl) ?_
  intro Q2 hn2 _;refine st ?_;dsimp only[wS,wE,wA,wV,wG];refine#[dE e1,?_];refine nQ n (λ_=>true) (λ(w:Hs)=>ap (h.1,h.2++[(w:Hy)])) [gV (.int h.1),gV (.tup (ac h.2))] rfl rfl rfl rfl ∅ ?_ (λx hx S2 k2=>?_) λS2 k2=>?_
  ·dsimp only[wE,wA,wV,wG];subst hR0;refine ae #v[] rfl (ay ?_)
   rw[hN];exact#[rfl,.refl]
  ·dsimp only[fW,wC,wE,wA,wV,wG];refine#[λ_=>ab (bL (ef ?_)) #[rfl,?_,.refl],λz=>by cases z]
   ·rw[Hn,show(ac h.2).length=h.2.length from Hk ..]; show _+1<=_; omega
   ·simp[ap,ac]
  ·rw[c9];have e1':=ar (u:=O.lst ((HJ n).map λ(w:Hs)=>ap (h.1,h.2++[(w:Hy)]))) (k2.get _ _ e1)
   have hle:(cN n (hs.take i)).length<=30000:=by
    rw[ma,Ic];exact Ih (OR (show min i hs.length<=10000 by omega) hn) #v[]
   refine qB e1' aj (by rw[Hk,Hk,Ii]; omega) (aL (hn2 _ _ #[#[_,_,rfl],?_,?_,((k1.trans k2).trans .push).late (HC _)]))
   ·rw[bh ∅]; exact ar (k2.get _ _ e0)
   ·rw[bG e1'];unfold cN;rw[IB,ho];simp
 ·rintro ρ S1 ⟨⟨a3,a4,rfl⟩,e0,e1,k1⟩;rw[Hk,IH]at e1;exact hK _ _ (st (k _ _ e1 (HC _) k1))
theorem nR {n s:Hs}(hn:n<=3)(hs:s<=5):n ^ s<=243:=Ih (M7 hn s) (MV (n:=3) #v[] hs)
theorem qE {kvs:Hj (T×W)}{u:Wd}{n i:Hs}(hn:n<=3)(hu:u.length<=5):((HJ i).flatMap λ(m:Hs)=>ce kvs u n (m:Hy) u.length).length<=i*243:=by
 induction i with
 | zero=>simp
 | succ i ih=>
  rw[Jz,JV,Hn,Je,Oe,Jo];have:=Ih (eT (kvs:=kvs) (u:=u) (n:=n) (m:=(i:Hs)) u.length) (nR hn hu);omega
theorem ll (h3:Is defs ("three_at" : HM) 4 6 aX)(hfb:Is defs ("first_bar" : HM) 2 4 aU)(hlw:Is defs ("longer_wishes" : HM) 2 5 bA)(hg:Is defs ("wishes_over" : HM) 3 7 cy){M N:Hj W}{b0:W}{a n q:Hs}{u:Wd}{kvs:Hj (T×W)}(hM:M.length=a)(hN:N.length=n)(ha3:a<=3)(hn3:n<=3)(hu:GoodW a n u)(hul:u.length<=5)(e:S[q]?=gV (.dic kvs))
  (k:∀(l:Hs) (S':aa),S'[l]?=gV (.lst ((gO kvs u a n).map ap))->S.length<=l->Ka S S'->Q (.ref l,S')) :
  wO (aC (ak defs fuel (d+3)) "wishes_over" 3 [.tup [.tup M,.tup N,b0],.ref q,am u] S) Q:=by
 refine al hg rfl rfl λQ' hR=>?_
 replace k:∀(l:Hs) (S':aa),S'[l]?=gV (.lst ((gO kvs u a n).map ap))->S.length<=l->Ka S S'->Q' (.rt (.ref l),S'):=λa b c e f=>hR _ _ (k a b c e f)
 clear hR;show wZ _ _ cy [gV (.tup [.tup M,.tup N,b0]),gV (.ref q),gV (am u),td,td,td,td] S Q';generalize hR0:W.tup [.tup M,.tup N,b0]=R;have hqS:=b7 e;have ul:(u.map ap).length=u.length:=Hk ..;dsimp only[cy];refine st ?_;dsimp only[wS,wE,wA,Hz];refine aF λK hK=>?_
 refine bD (a:Hy) (λi ρ S'=>(∃a4 a5 a6,ρ=[gV R,gV (.ref q),gV (am u),gV (.ref S.length),a4,a5,a6])/\S'[S.length]?=gV (.lst (((HJ i).flatMap λ(m:Hs)=>ce kvs u n (m:Hy) u.length).map ap))/\Ka S S') rfl rfl ∅ ?_ ?_ ?_
 ·dsimp only[wE,wA,wV,wG];subst hR0;refine ae #v[] rfl (ay ?_)
  rw[hM];exact#[rfl,#[_,_,_,rfl],aj,.push]
 ·rintro i ρ S1 hi ⟨⟨a4,a5,a6,rfl⟩,e1,k1⟩ Q2 hn2 _;clear hK k;have hl1:=b7 e1;dsimp only[Hz];refine st ?_;dsimp only[wS,wE,wA,wV,wG,Hz];refine aF λK hK=>?_
  refine cx 1 ((u.length:Hy)+1) (λm ρ S'=>∃(t:Hs) (a6:Hr W),ρ=[gV R,gV (.ref q),gV (am u),gV (.ref S.length),gV (.int i),gV (.ref t),a6]/\S'[t]?=gV (.lst ((ce kvs u n i m).map ap))/\Ka S1 S') rfl rfl rfl ∅ ?_ ?_ ?_
  ·dsimp only[wE,wA,wV,wG];refine#[rfl,ay (ab cq ?_)];rw[ul];exact#[rfl,S1.length,a6,rfl,aj,.push]
  ·rintro m ρ S2 hm ⟨t,a6,rfl,e2,k2⟩ Q3 hn3 _;clear hK hn2;have hmu:m < u.length:=∅
   rw[show(1:Hy)+m=((m+1:Hs):Hy) by omega]
   have hhl:(ce kvs u n i m).length<=243:=Ih (eT m) (nR ‹n<=3› ∅)
   have hll:(cN n (ce kvs u n i m)).length<=729:=by rw[ma]; exact OR hhl ‹n<=3›
   dsimp only[Hz];refine st ?_;dsimp only[wS,wE,Hz];refine qD (cN n (ce kvs u n i m)) ap (λh=>gF kvs (u.take (m+1)++[h])) ap [gV (.ref q),gV (.int ((m+1:Hs):Hy)),gV (am u)] rfl rfl rfl rfl ∅ ?_ (λh hh S4 k4=>?_) λS4 k4=>?_
   ·dsimp only[wE,wA,wV,wG];subst hR0;exact jx (d:=d+1) hlw hN ‹n<=3› e2 (λh hh=>by have:=((dU ∅).mp hh).2.1; omega) ∅ λl S3 e3 _ k3=>#[l,rfl,e3,k3]
   ·have hgd:GoodW a n (u.take (m+1)++[h]):=by
     unfold cN at hh;obtain⟨h0,hm0,hw⟩:=Jc.mp hh;obtain⟨w,hwr,rfl⟩:=HU.mp hw;obtain⟨g1,g2,g3,_⟩:=(dU ∅).mp hm0
     have hwr:=HL.mp hwr;refine(ut hu).snoc (by rw[g1]; omega) (by rw[Hn,g2,Ic,Im]; omega) λx hx=>?_
     rcases Ig.mp hx with z|z
     ·exact g3 x z
     ·rw[HE.mp z]; omega
    have hvl:(u.take (m+1)++[h]).length=m+2:=by rw[Hn,Ic,Im]; omega
    dsimp only[fW,wC,wT,wE,wA,wP,wV,wG,wN];refine ab (show js (am u) td (gV ((m+1:Hs):Hy)) S4=gV (.tup ((u.map ap).take (m+1)),S4) by simp only[am,js,ee]) ?_
    dsimp only;have ev:(u.map ap).take (m+1)++[ap h]=(u.take (m+1)++[h]).map ap:=by rw[HV,K5]; rfl
    refine ab (bL (ef (by rw[ev,Hk]; omega))) ?_
    dsimp only;rw[ev];refine jm (d:=d) (v:=u.take (m+1)++[h]) h3 hfb hgd ∅ ∅ (k4.get _ _ (k2.get _ _ (k1.get _ _ e))) λw hw=>?_
    refine ab (show aK .is w .non S4=gV (.bl (gF kvs (u.take (m+1)++[h])),S4) by rcases hw with⟨rfl,hb⟩|⟨i,rfl,hb⟩ <;> rw[hb] <;> rfl) ?_
    dsimp only[wB];exact#[λz=>#[z,rfl,.refl],λz=>#[z,.refl]]
   ·exact aL (hn3 _ _ #[_,_,rfl,aj,(k2.trans k4).trans .push])
  ·rintro ρ S2 ⟨t,a6,rfl,e2,k2⟩;rw[show((u.length:Hy)+1 - 1).toNat=u.length by omega]at e2
   refine hK _ _ ?_;clear hK K;have e1':=k2.get _ _ e1;have hhl:(ce kvs u n i u.length).length<=243:=Ih (eT _) (nR hn3 hul);have hfl:=qE (kvs:=kvs) (i:=i) hn3 hul;refine st ?_;dsimp only[wS,wE,wA,wV,wG];refine#[dE e1',qB e1' e2 (by rw[Hk,Hk]; omega) (aL (hn2 _ _ #[#[_,_,_,rfl],?_,(k1.trans k2).late (HC _)]))]
   rw[bG e1',Jz,JV,HV];simp
 ·rintro ρ S1 ⟨⟨a4,a5,a6,rfl⟩,e1,k1⟩;rw[HI]at e1;exact hK _ _ (st (k _ _ e1 (HC _) k1))
end
noncomputable def aG:Ss:=
 #v[.asg [4,5] (.ix (.v 2) (.v 3)),.loop (.nm 6) (.rng2 #v[.c (.int 1),.v 3]) #v[.loop (.nm 7) (.rng #v[.v 6]) #v[.ite (.cmp .isin (.tup #v[.tup #v[.ix (.ix (.v 2) (.v 7)) (.c (.int 0)),.tup .nil],.tup #v[.ix (.ix (.v 2) (.v 6)) (.c (.int 0)),.tup #v[.ix (.ix (.ix (.v 2) (.v 6)) (.c (.int 1))) (.v 7)]],.tup #v[.v 4,.tup #v[.ix (.v 5) (.v 7),.ix (.v 5) (.v 6)]]]) (.v 1)) #v[.ret (.c (.bl false))] .nil]],.ret (.c (.bl true))]
noncomputable def bH (kvs:Hj (T×W))(u:Wd)(s:Hs)(h:Pt):HX:=(HJ s).all λq=>(HJ q).all λp=>!bT kvs u h p q
theorem bq {kvs:Hj (T×W)}{u:Wd}{s:Hs}{h:Pt}:bH kvs u s h=true↔∀q < s,∀p < q,bT kvs u h p q=false:=by
 unfold bH;simp only[HS,HL,Ki]
theorem kK {α β:Type}{d:α}(n:Hs)(f:α->Hs->β)(h:0 < n):∀xs:Hj α,(HJ (xs.length*n)).map (λi=>f (xs.getD (i / n) d) (i % n))=xs.flatMap λx=>(HJ n).map (f x)
 | []=>by simp
 | x::xs=>by
  rw[Je,<- kK n f h xs,Iz,LD,Pg,List.range_add,HV,J0];congr 1
  ·refine IP λi hi=>?_
   have hi:=HL.mp hi;rw[Nat.div_eq_of_lt hi,Nat.mod_eq_of_lt hi]; rfl
  ·refine IP λi hi=>?_
   dsimp only[O8];rw[Nat.add_div_left _ h,Nat.add_mod_left]; rfl
theorem xN {n k:Hs}(h:0 < n):kz n (k+1)=(kz n k).flatMap λds=>(HJ n).map λ(w:Hs)=>ds++[(w:Hy)]:=by
 rw[kz];exact kK (d:=[]) n (λds (w:Hs)=>ds++[(w:Hy)]) h (kz n k)
theorem jb {kvs:Hj (T×W)}{u:Wd}{n:Hs}{m:Hy}(h:0 < n):∀s:Hs,s<=u.length->ce kvs u n m s=((kz n s).map λds=>(m,ds)).filter (bH kvs u s)
 | 0,_=>rfl
 | s+1,hs=>by
  rw[ce,jb h s ∅,xN h]
  unfold cN;have len:∀ds∈kz n s,ds.length=s:=λds hd=>(C0 hd).1
  generalize kz n s=D at len
  induction D with
  | nil=>rfl
  | cons ds D ih=>
   have ih:=ih λx hx=>len x (IL _ hx)
   have hl:=len ds (Jk ..);have st:∀w:Hs,bH kvs u (s+1) (m,ds++[(w:Hy)])=(bH kvs u s (m,ds)&&gF kvs (u.take (s+1)++[(m,ds++[(w:Hy)])])):=λw=>by
    rw[l7 ∅,Ke,Hv,bq,bq,HS]
    constructor
    ·intro z;refine#[λq hq p hp=>?_,λp hp=>?_]
     ·rw[<- fq (x:=(w:Hy)) hp ∅]; exact z q ∅ p hp
     ·rw[z s (JH s) p (HL.mp hp)]; rfl
    ·rintro⟨z1,z2⟩ q hq p hp
     by_cases e:q=s
     ·subst e
      simpa using z2 p (HL.mpr hp)
     ·rw[fq hp ∅]; exact z1 q ∅ p hp
   rw[Je,HV,JJ,<- ih,Jd,J0]
   by_cases hm:bH kvs u s (m,ds)=true
   ·rw[Mj hm,Je,JJ];congr 1;rw[show((λds=>(m,ds))∘λ(w:Hs)=>ds++[(w:Hy)])=λ(w:Hs)=>(m,ds++[(w:Hy)])from rfl]
    refine L5 λx hx=>?_
    obtain⟨w,_,rfl⟩:=HU.mp hx;dsimp only;rw[st w,hm]; rfl
   ·rw[Mk hm];have:((HJ n).map ((λds=>(m,ds))∘λ(w:Hs)=>ds++[(w:Hy)])).filter (bH kvs u (s+1))=[]:=by
     rw[Mw];intro x hx;obtain⟨w,_,rfl⟩:=HU.mp hx;dsimp only[O8];rw[st w,Kj.mpr hm];exact HN
    rw[this,Oq]
theorem qF {kvs kvs':Hj (T×W)}{u:Wd}{a n:Hs}(hn:0 < n)(h:∀t,(aN kvs t).isSome=(aN kvs' t).isSome):gO kvs u a n=gO kvs' u a n:=by
 unfold gO;refine kA λm _=>?_
 rw[jb hn _ (HC _),jb hn _ (HC _)];refine L5 λx _=>?_
 have:∀p q,bT kvs u x p q=bT kvs' u x p q:=λp q=>h _
 unfold bH;simp only[this]
section
variable{defs:Hj (HM×Df)}{fuel d:Hs}{S:aa}{Q:QW}
theorem kL (hg:Is defs ("_law_last_may" : HM) 4 8 aG){R:W}{a n q:Hs}{u:Wd}{h:Pt}{kvs:Hj (T×W)}(hu:GoodW a n u)(hh:h.2.length=u.length)(hl:u.length<=1000)(e:S[q]?=gV (.dic kvs))(k:Q (.bl (bH kvs u u.length h),S)) :
  wO (aC (ak defs fuel (d+1)) "_law_last_may" 4 [R,.ref q,am (u++[h]),.int (u.length:Hy)] S) Q:=by
 refine al hg rfl rfl λQ' hR=>?_
 replace k:=hR _ _ k;clear hR;show wZ _ _ aG [gV R,gV (.ref q),gV (am (u++[h])),gV (.int (u.length:Hy)),td,td,td,td] S Q';have hvl:u.length < (u++[h]).length:=by rw[Hn,Im]; omega
 have at':∀p < u.length,(((u++[h]).map ap)[((p:Hs):Hy).toNat]?=gV (ap (u.getD p (0,[])))):=λp hp=>by
  rw[cZ ∅,aE hp]
 have hw:∀p < u.length,(ac h.2)[((p:Hs):Hy).toNat]?=gV (.int (h.2.getD p 0)):=λp hp=>by
  rw[HI]; unfold ac; rw[Ht,aq (d:=0) ∅]; rfl
 dsimp only[aG];refine st ?_;dsimp only[wS,wE,wV,wG];refine ae (Hx _) (cZ hvl) ?_;rw[bQ];dsimp only[wU,ap];refine ab (show cL [4,5] [.int h.1,.tup (h.2.map W.int)] [gV R,gV (.ref q),gV (am (u++[h])),gV (.int (u.length:Hy)),td,td,td,td]=gV [gV R,gV (.ref q),gV (am (u++[h])),gV (.int (u.length:Hy)),gV (.int h.1),gV (.tup (ac h.2)),td,td]from rfl) ?_
 refine aF λK hK=>?_
 refine cx 1 (u.length:Hy) (λm ρ S'=>(∃a6 a7,ρ=[gV R,gV (.ref q),gV (am (u++[h])),gV (.int (u.length:Hy)),gV (.int h.1),gV (.tup (ac h.2)),a6,a7])/\S'=S/\∀j < m+1,∀p < j,bT kvs u h p j=false) rfl rfl rfl ∅ #[rfl,rfl,#[_,_,rfl],rfl,λj hj p hp=>∅] ?_ ?_
 ·rintro m ρ S1 hm ⟨⟨a6,a7,rfl⟩,rfl,no⟩ Q2 hn2 hr2;clear hK;rw[show(1:Hy)+m=((m+1:Hs):Hy) by omega]
  have hmu:m+1 < u.length:=∅
  generalize hj:m+1=j at hmu hn2 no;dsimp only[Hz];refine aF λK hK=>?_
  refine bD (j:Hy) (λi ρ S'=>(∃a7,ρ=[gV R,gV (.ref q),gV (am (u++[h])),gV (.int (u.length:Hy)),gV (.int h.1),gV (.tup (ac h.2)),gV (.int (j:Hy)),a7])/\S'=S1/\∀p < i,bT kvs u h p j=false) rfl rfl ∅ #[rfl,#[_,rfl],rfl,λp hp=>∅] ?_ ?_
  ·rintro i ρ S2 hi ⟨⟨a7,rfl⟩,rfl,no2⟩ Q3 hn3 hr3;clear hK;have hij:i < j:=∅
   have hiu:i < u.length:=∅
   have lj:i < (u.getD j (0,[])).2.length:=by rw[hu.len j _ (aq (d:=(0,[])) hmu)]; exact hij
   dsimp only[Hz];refine aF λK hK=>?_
   dsimp only[wS,wT,wE,wA,wV,wG];refine ae (Hx i) (at' i hiu) (ae #v[] rfl (ae (Hx j) (at' j hmu) (ae #v[] rfl (ae (Hx j) (at' j hmu) (ae #v[] rfl (ae (w:=.int ((u.getD j (0,[])).2.getD i 0)) (Hx i) (by rw[HI,Ht,aq (d:=0) lj]; rfl) (ae (Hx i) (hw i hiu) (ae (Hx j) (hw j hmu) ?_))))))))
   refine ab (show aK .isin (am [((u.getD i (0,[])).1,[]),((u.getD j (0,[])).1,[(u.getD j (0,[])).2.getD i 0]),(h.1,[h.2.getD i 0,h.2.getD j 0])]) (.ref q) S2=gV (.bl (bT kvs u h i j),S2) by simp only[aK,bI e,gX]; rfl) ?_
   dsimp only[wB];refine ah (Q0:=Q3) (λhb Q5 _ hr5=>?_) (λhb Q5 hn5 _=>aL (hn5 _ _ (hK _ _ (aL (hn3 _ _ #[#[_,rfl],rfl,λp hp=>?_])))))
   ·refine st ?_;dsimp only[wS,wE];have:bH kvs u u.length h=false:=by
     rw[Kj];intro z;rw[bq.mp z j hmu i hij]at hb;cases hb
    rw[this]at k;exact hr5 _ _ (hr3 _ _ (hr2 _ _ k))
   ·by_cases ep:p=i
    ·rw[ep]; exact hb
    ·exact no2 p ∅
  ·rintro ρ S2 ⟨⟨a7,rfl⟩,rfl,no2⟩;rw[HI]at no2;refine hK _ _ (aL (hn2 _ _ #[#[_,_,rfl],rfl,λj' hj' p hp=>?_]))
   by_cases ej:j'=j
   ·subst ej; exact no2 p hp
   ·exact no j' ∅ p hp
 ·rintro ρ S1 ⟨⟨a6,a7,rfl⟩,rfl,no⟩;refine hK _ _ (st ?_);dsimp only[wS,wE];rw[bq.mpr λq hq p hp=>no q ∅ p hp]at k
  exact k
end
theorem C5 {bs:Hj Hy}{a:Hs}{v:Wd}{i j:Hs}(hb:GoodB bs)(hv:GoodW a bs.length v)(hi:i < v.length)(hj:j < v.length)(hij:i≠j):0<=bM bs v i j/\bM bs v i j < (bs.length:Hy):=by
 unfold bM
 by_cases h:j < i
 ·rw[HY h];have hp:=aq (d:=(0,[])) hi;have hw:j < (v.getD i (0,[])).2.length:=by rw[hv.len i _ hp]; exact h
  exact hv.way i _ hp _ (HF (aq (d:=0) hw))
 ·rw[Iy h];have hp:=aq (d:=(0,[])) hj;have hw:i < (v.getD j (0,[])).2.length:=by rw[hv.len j _ hp]; omega
  obtain⟨g1,g2⟩:=hv.way j _ hp _ (HF (aq (d:=0) hw));exact(hb.at g1 g2).2
theorem md {bs:Hj Hy}{a:Hs}{v:Wd}{ps:Hj Hs}(hb:GoodB bs)(hv:GoodW a bs.length v)(hps:∀p∈ps,p < v.length)(hnd:ps.Nodup):GoodW a bs.length (au bs v ps):=by
 have at':∀(k:Hs) (q:Pt),(au bs v ps)[k]?=gV q->∃hk:k < ps.length,q=((v.getD ps[k] (0,[])).1,(ps.take k).map λj=>bM bs v ps[k] j):=λk q e=>by
  have hk:k < ps.length:=by
   have:=(HG.mp e).1;rw[bx]at this; exact this
  refine#[hk,?_];unfold au at e;rw[Ht,JU hk,Iv,show ps.getD k 0=ps[k] by simp[hk]]at e
  exact(IV e).symm
 refine#[λk q e=>?_,λk q e=>?_,λk q e=>?_]
 ·obtain⟨hk,rfl⟩:=at' k q e;have:=hv.mark _ _ (aq (d:=(0,[])) (hps _ (IT hk)));exact this
 ·obtain⟨hk,rfl⟩:=at' k q e;dsimp only;rw[Hk,Ic]; omega
 ·obtain⟨hk,rfl⟩:=at' k q e;intro w hw;obtain⟨j,hj,rfl⟩:=HU.mp hw;have hjm:=KN hj;refine C5 hb hv (hps _ (IT hk)) (hps _ hjm) λe=>?_
  obtain⟨m,hm,e2⟩:=Lw.mp hj;rw[Ic]at hm;rw[Li]at e2;have:=(J1 hnd).mp (e.trans e2.symm);omega
section
variable{defs:Hj (HM×Df)}{fuel d:Hs}{S:aa}{Q:QW}
theorem C6 (hd:Is defs ("_law_flow" : HM) 1 1 d7){ns:Hj Hy}{u:Hs}(hu:S[u]?=gV (.fro (ns.map W.int)))(k:∀r S',Ka S S'->Fl S' r->Q (.ref r,S')) :
  wO (aC (ak defs fuel (d+1)) "_law_flow" 1 [.ref u] S) Q:=by
 refine al hd rfl rfl λQ' hR=>?_
 show wZ _ _ d7 [gV (.ref u)] S Q';dsimp only[d7];refine st ?_;dsimp only[wS,wE,wA,wV,wG];have e:Bi.list.fn [.ref u] S=gV (.ref S.length,S++[.lst (ns.map W.int)]):=by
  have h1:zf S u=td:=by simp[zf,hu]
  simp only[Bi.fn,Ef,lF,h1,hX,eN,Ab hu]
 refine ab e (hR _ _ (k _ _ (Ka.push.trans .push) #[S.length,ns,0,0,1,0,?_,?_,?_,#v[],#v[],#v[],#v[]]))
 ·exact aj
 ·exact ar aj
 ·simp
end
structure Ord (n:Hs)(o:Hj Hs):Prop where
 nd:o.Nodup
 lt:∀p∈o,p < n
noncomputable def xO:Hs->Hj (Hj Hs)
 | 0=>[[]]
 | k+1=>(xO k).flatMap λo=>(HJ (k+1)).map λi=>o.take i++[k]++o.drop i
theorem nS:∀ {n:Hs} {o:Hj Hs},o∈xO n↔Ord n o/\o.length=n
 | 0,o=>by
  rw[xO,HE];exact#[λh=>by subst h; exact#[#[.nil,λp hp=>nomatch hp],rfl],λh=>Lx h.2]
 | n+1,o=>by
  rw[xO,Jc];constructor
  ·rintro⟨o',h1,h2⟩;obtain⟨i,hi,rfl⟩:=HU.mp h2;obtain⟨⟨nd,lt⟩,hl⟩:=nS.mp h1;have hi:=HL.mp hi;have hp:(o'.take i++[n]++o'.drop i).Perm (n::o'):=by
    have e:o'.take i++[n]++o'.drop i=o'.take i++n::o'.drop i:=by simp
    rw[e];refine Of.trans ?_;rw[KD]
   refine#[#[hp.nodup_iff.mpr (Jv.mpr #[λz=>absurd (lt _ z) (Ja _),nd]),λp hpm=>?_],by rw[hp.length_eq,Iz,hl]]
   rcases HZ.mp (hp.mem_iff.mp hpm)with z|z
   ·omega
   ·have:=lt p z; omega
  ·rintro⟨⟨nd,lt⟩,hl⟩;have hm:n∈o:=by
    by_cases z:n∈o
    ·exact z
    ·have h1:=nL o (HJ n) nd λp hp=>HL.mpr (by
      have:=lt p hp;have:p≠n:=λe=>z (e ▸ hp)
      omega)
     rw[Ii]at h1;omega
   obtain⟨a,b,rfl⟩:=List.append_of_mem hm;have hp:(a++n::b).Perm (n::(a++b)):=Of;have nd2:=hp.nodup_iff.mp nd;obtain⟨nn,nd3⟩:=Jv.mp nd2;refine#[a++b,nS.mpr #[#[nd3,λp hpm=>?_],?_],HU.mpr #[a.length,HL.mpr ?_,?_]]
   ·have h1:=lt p (hp.mem_iff.mpr (IL _ hpm));have:p≠n:=λe=>nn (e ▸ hpm)
    omega
   ·have:=hp.length_eq;rw[hl,Iz]at this;omega
   ·rw[Hn,Iz]at hl;omega
   ·rw[List.take_left',List.drop_left'] <;> simp
theorem eU {bs:Hj Hy}{u:Wd}{o:Hj Hs}{i:Hs}(hi:i < o.length):(au bs u o).getD i (0,[])=((u.getD (o.getD i 0) (0,[])).1,(o.take i).map λj=>bM bs u (o.getD i 0) j):=by
 unfold au;rw[HP,Ht,JU hi]; rfl
theorem pH {bs:Hj Hy}{u:Wd}{o:Hj Hs}{i j:Hs}(hi:i < o.length)(hj:j < i):((au bs u o).getD i (0,[])).2.getD j 0=bM bs u (o.getD i 0) (o.getD j 0):=by
 rw[eU hi];dsimp only;rw[HP,Ht,KW hj,aq (d:=0) (show j < o.length by omega)]; rfl
theorem xP {bs:Hj Hy}{a:Hs}{u:Wd}{o:Hj Hs}{i j:Hs}(hb:GoodB bs)(hu:GoodW a bs.length u)(hO:Ord u.length o)(hi:i < o.length)(hj:j < o.length)(hij:i≠j):bM bs (au bs u o) i j=bM bs u (o.getD i 0) (o.getD j 0):=by
 have gi:=aq (d:=0) hi;have gj:=aq (d:=0) hj;have li:=hO.lt _ (HF gi);have lj:=hO.lt _ (HF gj);have ne:o.getD i 0≠o.getD j 0:=λe=>by
  have h1:o[i]=o.getD i 0:=by simp[hi]
  have h2:o[j]=o.getD j 0:=by simp[hj]
  exact hij ((J1 hO.nd).mp (by rw[h1,h2,e]))
 by_cases h:j < i
 ·have:bM bs (au bs u o) i j=((au bs u o).getD i (0,[])).2.getD j 0:=by unfold bM; rw[HY h]
  rw[this,pH hi h]
 ·have:bM bs (au bs u o) i j=bs.getD (((au bs u o).getD j (0,[])).2.getD i 0).toNat 0:=by unfold bM; rw[Iy h]
  rw[this,pH hj ∅]
  generalize o.getD i 0=x at *
  generalize o.getD j 0=y at *
  unfold bM
  by_cases h2:x < y
  ·rw[HY h2,Iy ∅]
  ·rw[Iy h2,HY ∅]
   have hp:=aq (d:=(0,[])) li;have hw:y < (u.getD x (0,[])).2.length:=by rw[hu.len x _ hp]; omega
   obtain⟨w0,w1⟩:=hu.way x _ hp _ (HF (aq (d:=0) hw));have:=hb.inv ((u.getD x (0,[])).2.getD y 0).toNat ∅
   rw[this]; omega
theorem jc {bs:Hj Hy}{a:Hs}{u:Wd}{o p:Hj Hs}(hb:GoodB bs)(hu:GoodW a bs.length u)(hO:Ord u.length o)(hP:Ord o.length p):au bs (au bs u o) p=au bs u (p.map λi=>o.getD i 0):=by
 refine Lq (by rw[bx,bx,Hk]) λk h1 h2=>?_
 rw[bx]at h1;have e1:=eU (bs:=bs) (u:=au bs u o) (o:=p) h1;have e2:=eU (bs:=bs) (u:=u) (o:=p.map λi=>o.getD i 0) (i:=k) (by rw[Hk]; exact h1)
 have hk:p.getD k 0 < o.length:=hP.lt _ (HF (aq (d:=0) h1));have ek:(p.map λi=>o.getD i 0).getD k 0=o.getD (p.getD k 0) 0:=by
  rw[HP,Ht,aq (d:=0) h1]; rfl
 rw[ek]at e2;rw[eU hk]at e1;have f:∀(v:Wd) (hv:k < v.length),v[k]=v.getD k (0,[]):=λv hv=>by simp[hv]
 rw[f _ (by rw[bx]; exact h1),f _ h2,e1,e2]
 congr 1;rw[<- K5,J0];refine IP λj hj=>?_
 obtain⟨m,hm,rfl⟩:=Lw.mp hj;rw[Ic]at hm;rw[Li];have hpm:p[m]=p.getD m 0:=by simp[show m < p.length by omega]
 rw[hpm];refine xP hb hu hO hk (hP.lt _ (HF (aq (d:=0) (show m < p.length by omega)))) λe=>?_
 have h3:p[k]=p.getD k 0:=by simp[h1]
 have:=(J1 hP.nd).mp (h3.trans (e.trans hpm.symm));omega
theorem eV {n:Hs}{x:Hy}(h:x∈eu n):0<=x/\x < n:=by
 obtain⟨k,hk,rfl⟩:=HU.mp h;have:=HL.mp hk;omega
theorem qG {a n:Hs}{u:Wd}(h:u∈pd a n):GoodW a n u/\u.length=3:=by
 unfold pd at h;simp only[Jc,HU]at h;obtain⟨m0,h0,m1,h1,m2,h2,w1,g1,w2,g2,w3,g3,rfl⟩:=h;refine#[?_,rfl];have s1:GoodW a n ([]++[(m0,[])]):=GoodW.nil.snoc (eV h0) rfl (λw hw=>nomatch hw)
 have s2:GoodW a n ([(m0,[])]++[(m1,[w1])]):=s1.snoc (eV h1) rfl (λw hw=>by rw[HE.mp hw]; exact eV g1)
 exact s2.snoc (eV h2) rfl (λw hw=>by
  simp only[HZ,IU,Ku]at hw;rcases hw with rfl|rfl
  ·exact eV g2
  ·exact eV g3)
theorem uu {a:Hs}{bs:Hj Hy}{g:Wd}(hb:GoodB bs)(h:g∈aM a bs):GoodW a bs.length g/\g.length=3:=by
 unfold aM at h;rw[LO]at h;obtain⟨u,hu,rfl⟩:=HU.mp h;obtain⟨gu,u3⟩:=qG hu;unfold kn;have hm:nr ((aw.map (au bs u)).map du) < (aw.map (au bs u)).length:=by
  unfold nr;refine Nx (fj _ _) ?_;rw[Hk,Hk]; decide
 have:=HF (aq (d:=[]) hm);obtain⟨t,ht,e⟩:=HU.mp this;rw[<- e];have tk:∀t∈aw,t.length=3/\t.Nodup/\∀p∈t,p < 3:=by decide
 obtain⟨t1,t2,t3⟩:=tk t ht;exact#[md hb gu (λp hp=>by have:=t3 p hp; omega) t2,by rw[bx]; exact t1]
theorem uw {a n:Hs}{u:Wd}(hu:GoodW a n u):GoodW a n u.dropLast:=by
 have key:∀(k:Hs) (x:Pt),(u.dropLast)[k]?=gV x->u[k]?=gV x:=λk x e=>by
  rw[Lj]at e;split at e
  ·exact e
  ·cases e
 exact#[λk x e=>hu.mark k x (key k x e),λk x e=>hu.len k x (key k x e),λk x e=>hu.way k x (key k x e)]
theorem jd {t:Hj Hs}:t∈aw↔Ord 3 t/\t.length=3:=by
 constructor
 ·intro h;have:∀t∈aw,t.Nodup/\(∀p∈t,p < 3)/\t.length=3:=by decide
  obtain⟨h1,h2,h3⟩:=this t h;exact#[#[h1,h2],h3]
 ·intro h;have h1:=nS.mpr h;have:∀t∈xO 3,t∈aw:=by decide
  exact this t h1
noncomputable def je:Ss:=
 #v[.ret (.ix (.ix (.ix (.v 0) (.c (.int 1))) (.v 1)) (.c (.int 1)))]
noncomputable def dz:Ss:=
 #v[.ret (.own "all_bars" 5 #v[.v 0,.own "barred_threes" 1 #v[.v 0],.v 1,.v 2,.v 3])]
noncomputable def fu:Ss:=
 #v[.set 5 (.comp (.own "first_bar" 2 #v[.v 2,.own "with_both" 5 #v[.v 6,.v 3,.v 4,.v 5,.v 1]]) (.nm 1) (.rng #v[.bi .len #v[.ix (.v 0) (.c (.int 1))]]) .nil [td,td,gV 1,gV 2,gV 3,gV 4,gV 0]),.ret (.bi .tuple #v[.op .add (.v 5) (.lst #v[.own "same_bar" 2 #v[.v 3,.v 4]])])]
noncomputable def dA:Ss:=
 #v[.ret (.op .add (.v 1) (.tup #v[.v 2,.tup #v[.ix (.v 3) (.c (.int 0)),.op .add (.ix (.v 3) (.c (.int 1))) (.tup #v[.own "back" 2 #v[.v 0,.v 4]])]]))]
noncomputable def eh:Ss:=
 #v[.ite (.cmp .ne (.ix (.v 0) (.c (.int 0))) (.ix (.v 1) (.c (.int 0)))) #v[.ret (.neg (.c (.int 1)))] .nil,.set 2 (.comp (.v 1) (.nm 1) (.rng #v[.bi .len #v[.ix (.v 0) (.c (.int 1))]]) #v[.cmp .ne (.ix (.ix (.v 2) (.c (.int 1))) (.v 1)) (.ix (.ix (.v 3) (.c (.int 1))) (.v 1))] [td,td,gV 0,gV 1]),.ret (.ite (.v 2) (.ix (.v 2) (.c (.int 0))) (.c .non))]
noncomputable def bY (P:Hs->HX)(s:Hs):W:=match (HJ s).find? P with
 | some i=>.int (i:Hy)
 | none=>.non
theorem qH {P:Hs->HX}{s:Hs}(h:∀i < s,P i=false):bY P s=.non:=by
 unfold bY;have:(HJ s).find? P=td:=J6.mpr λi hi=>by rw[h i (HL.mp hi)]; exact HN
 rw[this]
theorem gZ {P:Hs->HX}:∀ {s i:Hs},i < s->P i=true->(∀j < i,P j=false)->(HJ s).find? P=gV i
 | s+1,i,hi,hp,hn=>by
  rw[Jz,List.find?_append]
  by_cases e:i=s
  ·subst e;have:(HJ i).find? P=td:=J6.mpr λj hj=>by rw[hn j (HL.mp hj)]; exact HN
   rw[this];simp[hp]
  ·rw[gZ ∅ hp hn]; rfl
theorem qI {P:Hs->HX}{s i:Hs}(hi:i < s)(hp:P i=true)(hn:∀j < i,P j=false):bY P s=.int (i:Hy):=by
 unfold bY;rw[gZ hi hp hn]
theorem qJ {P:Hs->HX}{s:Hs}:(((HJ s).filter P).map (λ(i:Hs)=>W.int (i:Hy))++[.non])[0]?=gV (bY P s):=by
 unfold bY;rw[<- List.head?_filter];cases(HJ s).filter P <;> rfl
theorem jn (P:Hs->HX)(s:Hs):bY P s=.non\/∃i:Hy,bY P s=.int i:=by
 unfold bY;cases(HJ s).find? P with
 | none=>exact .inl rfl
 | some i=>exact .inr #[_,rfl]
noncomputable def cR (bs:Hj Hy)(u:Wd)(one other:Pt)(n:Hs):Wd:=u++[one]++[(other.1,other.2++[bs.getD n 0])]
noncomputable def iF (one other:Pt):W:=if one.1=other.1 then bY (λp=>!(one.2.getD p 0==other.2.getD p 0)) one.2.length else .int (-1)
noncomputable def da (P:Wd->Hs->HX)(bs:Hj Hy)(u:Wd)(one other:Pt):Hj W:=(HJ bs.length).map (λn=>bY (P (cR bs u one other n)) u.length)++[iF one other]
theorem qK (one other:Pt):iF one other=.non\/∃i:Hy,iF one other=.int i:=by
 unfold iF;split
 ·exact jn _ _
 ·exact .inr #[_,rfl]
structure GoodP (a n k:Hs)(p:Pt):Prop where
 mark:0<=p.1/\p.1 < a
 len:p.2.length=k
 way:∀w∈p.2,0<=w/\w < (n:Hy)
theorem uy {bs:Hj Hy}{a:Hs}{u:Wd}{one other:Pt}{n:Hs}(hb:GoodB bs)(hu:GoodW a bs.length u)(h1:GoodP a bs.length u.length one)(h2:GoodP a bs.length u.length other)(hn:n < bs.length):GoodW a bs.length (cR bs u one other n)/\(cR bs u one other n).length=u.length+2:=by
 refine#[(hu.snoc (m:=one.1) (ws:=one.2) h1.mark h1.len h1.way).snoc h2.mark ?_ λw hw=>?_,?_]
 ·rw[Hn,Hn,h2.len]; rfl
 ·rcases Ig.mp hw with z|z
  ·exact h2.way w z
  ·rw[HE.mp z];obtain⟨b,hb1,hb2,hb3⟩:=hb.rng n hn;rw[getD_some hb1]; exact#[hb2,hb3]
 ·unfold cR;rw[Hn,Hn]; rfl
section
variable{defs:Hj (HM×Df)}{fuel d:Hs}{S:aa}{Q:QW}
theorem pI (h3:Is defs ("three_at" : HM) 4 6 aX)(hg:Is defs ("first_bar" : HM) 2 4 aU){a n q s:Hs}{v:Wd}{kvs:Hj (T×W)}(hv:GoodW a n v)(hs:v.length=s+2)(hl:v.length<=1000)(e:S[q]?=gV (.dic kvs))(k:Q (bY (λp=>bv kvs v p s (s+1)) s,S)) :
  wO (aC (ak defs fuel (d+2)) "first_bar" 2 [.ref q,am v] S) Q:=by
 refine al hg rfl rfl λQ' hR=>?_
 replace k:=hR _ _ k;clear hR;show wZ _ _ aU [gV (.ref q),gV (am v),td,td] S Q';have ul:(v.map ap).length=v.length:=Hk ..;dsimp only[aU];refine st ?_;dsimp only[wS,wE,wA,wV,wG,Hz];refine ay (ab gL ?_);rw[ul,show((v.length:Hs):Hy) - 1=((s+1:Hs):Hy) by omega]
 refine aF λK hK=>?_
 refine bD (s:Hy) (λi ρ S'=>(∃a3,ρ=[gV (.ref q),gV (am v),gV (.int ((s+1:Hs):Hy)),a3])/\S'=S/\∀i' < i,bv kvs v i' s (s+1)=false) rfl rfl ∅ ?_ ?_ ?_
 ·dsimp only[wE,wV,wG];refine ab gL #[?_,#[_,rfl],rfl,λi' z=>∅]
  dsimp only;rw[show((s+1:Hs):Hy) - 1=(s:Hy) by omega]
 ·rintro i ρ S1 hi ⟨⟨a3,rfl⟩,rfl,no⟩ Q2 hn hr;clear hK;dsimp only[Hz];refine aF λK hK=>?_
  dsimp only[wS,wT,wE,wA,wV,wG];refine ab gL ?_;dsimp only;rw[show((s+1:Hs):Hy) - 1=(s:Hy) by omega]
  refine nP (d:=d) h3 hv ∅ (JH s) ∅ ?_
  refine ab (show aK .isin (am (bX v i s (s+1))) (.ref q) S1=gV (.bl (bv kvs v i s (s+1)),S1) by simp only[aK,bI e,gX]; rfl) ?_
  dsimp only[wB];refine ah (Q0:=Q2) (λh Q5 _ hr5=>?_) (λh Q5 hn5 _=>aL (hn5 _ _ (hK _ _ (aL (hn _ _ #[#[_,rfl],rfl,λi' z=>?_])))))
  ·refine st ?_;dsimp only[wS,wE,wV,wG];rw[qI (P:=λp=>bv kvs v p s (s+1)) ∅ h no]at k
   exact hr5 _ _ (hr _ _ k)
  ·by_cases ei:i'=i
   ·rw[ei]; exact h
   ·exact no i' ∅
 ·rintro ρ S1 ⟨⟨a3,rfl⟩,rfl,no⟩;refine hK _ _ (st ?_);dsimp only[wS,wE];rw[qH (P:=λp=>bv kvs v p s (s+1)) λi hi=>no i ∅]at k
  exact k
theorem C7 (hg:Is defs ("back" : HM) 2 2 je){m0 b0:W}{ns:Hj HM}{bs:Hj Hy}{n:Hs}(hnl:ns.length=bs.length)(hn:n < bs.length)(k:Q (.int (bs.getD n 0),S)) :
  wO (aC (ak defs fuel (d+1)) "back" 2 [.tup [m0,.tup (HA aB ns bs),b0],.int n] S) Q:=by
 refine al hg rfl rfl λQ' hR=>?_
 replace k:=hR _ _ k;show wZ _ _ je [gV (.tup [m0,.tup (HA aB ns bs),b0]),gV (.int n)] S Q';have hb:=aq (d:=0) hn;dsimp only[je];refine st ?_;dsimp only[wS,wE,wV,wG];exact ae #v[] rfl (ae (Hx n) (by rw[HI]; exact i5 (HH ∅) hb) (ae #v[] rfl k))
theorem pJ (hbk:Is defs ("back" : HM) 2 2 je)(hg:Is defs ("with_both" : HM) 5 5 dA){m0 b0:W}{ns:Hj HM}{bs:Hj Hy}{u:Wd}{one other:Pt}{n:Hs}(hnl:ns.length=bs.length)(hn:n < bs.length)(hu:u.length<=900)(ho:other.2.length<=900)(k:Q (am (cR bs u one other n),S)) :
  wO (aC (ak defs fuel (d+2)) "with_both" 5 [.tup [m0,.tup (HA aB ns bs),b0],am u,ap one,ap other,.int n] S) Q:=by
 refine al hg rfl rfl λQ' hR=>?_
 replace k:=hR _ _ k;show wZ _ _ dA [gV (.tup [m0,.tup (HA aB ns bs),b0]),gV (am u),gV (ap one),gV (ap other),gV (.int n)] S Q';dsimp only[dA];refine st ?_;dsimp only[wS,wE,wA,wV,wG];refine ae #v[] rfl (ae #v[] rfl ?_)
 refine C7 (d:=d) hbk hnl hn ?_;refine ab (bL (ef ?_)) ?_
 ·rw[Hn,Hk]; show _+1<=_; omega
 dsimp only;have ev:u.map ap++[ap one,.tup [.int other.1,.tup (other.2.map W.int++[.int (bs.getD n 0)])]]=(cR bs u one other n).map ap:=by
  unfold cR;simp[ap]
 unfold am at k ⊢;refine ab (bL (ef ?_)) ?_
 ·rw[Hn,Hk]; show _+2<=_; omega
 dsimp only;rw[ev];exact k
theorem qL (hg:Is defs ("same_bar" : HM) 2 3 eh){one other:Pt}(h:other.2.length=one.2.length)(hl:one.2.length<=900)(k:∀S',Ka S S'->Q (iF one other,S')) :
  wO (aC (ak defs fuel (d+1)) "same_bar" 2 [ap one,ap other] S) Q:=by
 refine al hg rfl rfl λQ' hR=>?_
 replace k:∀S',Ka S S'->Q' (.rt (iF one other),S'):=λS' a=>hR _ _ (k S' a)
 clear hR;show wZ _ _ eh [gV (ap one),gV (ap other),td] S Q';have wl:∀(p:Pt) (i:Hs),i < p.2.length->(p.2.map W.int)[((i:Hs):Hy).toNat]?=gV (.int (p.2.getD i 0)):=λp i hi=>by
  rw[HI,Ht,aq (d:=0) hi]; rfl
 dsimp only[eh];refine aF λK hK=>?_
 dsimp only[wS,wT,wE,wV,wG];refine ae #v[] rfl (ae #v[] rfl (ab t9 ?_))
 dsimp only[wB];unfold iF at k;refine ah (Q0:=Q') (λhm Q2 _ hr=>?_) (λhm Q2 hn _=>aL (hn _ _ (hK _ _ ?_)))
 ·have hm:one.1≠other.1:=λz=>by rw[z]at hm; simp at hm
  refine st ?_;dsimp only[wS,wE,wN];rw[Iy hm]at k;exact hr _ _ (k S .refl)
 clear hK K hn;have hm:one.1=other.1:=by
  by_cases z:one.1=other.1
  ·exact z
  ·have:(!(one.1==other.1))=true:=by simp[z]
   rw[this]at hm; cases hm
 rw[HY hm]at k;refine st ?_;dsimp only[wS,wE,Hz];refine nQ one.2.length (λp=>!(one.2.getD p 0==other.2.getD p 0)) (λ(i:Hs)=>W.int (i:Hy)) [gV (ap one),gV (ap other)] rfl rfl rfl rfl ∅ ?_ (λi hi S2 k2=>?_) λS2 k2=>?_
 ·dsimp only[wE,wA,wV,wG];refine ae #v[] rfl (ay ?_)
  rw[Hk];exact#[rfl,.refl]
 ·dsimp only[fW,wC,wT,wE,wV,wG];refine ae #v[] rfl (ae (Hx i) (wl one i hi) (ae #v[] rfl (ae (Hx i) (wl other i ∅) (ab t9 ?_))))
  dsimp only[wB];exact#[λz=>#[z,rfl,.refl],λz=>#[z,.refl]]
 ·have hh:=qJ (P:=λp=>!(one.2.getD p 0==other.2.getD p 0)) (s:=one.2.length)
  refine st ?_;dsimp only[wS,wE,wT,wV,wG];cases hL:((HJ one.2.length).filter λp=>!(one.2.getD p 0==other.2.getD p 0))with
  | nil=>
   rw[hL]at hh;refine ab (show cJ (S2++[O.lst []]) (.ref S2.length)=gV false by simp only[cJ,aJ aj]; rfl) #[λz=>(by cases z),λ_=>?_]
   have e:bY (λp=>!(one.2.getD p 0==other.2.getD p 0)) one.2.length=.non:=(IV hh).symm
   rw[e]at k;exact k _ (k2.trans .push)
  | cons x L=>
   rw[hL]at hh;refine ab (show cJ (S2++[O.lst ((x::L).map λ(i:Hs)=>W.int (i:Hy))]) (.ref S2.length)=gV true by simp only[cJ,aJ aj]; rfl) #[λ_=>?_,λz=>by cases z]
   have e:bY (λp=>!(one.2.getD p 0==other.2.getD p 0)) one.2.length=.int (x:Hy):=(IV hh).symm
   rw[e]at k;exact d8 (i:=0) aj rfl (k _ (k2.trans .push))
end
noncomputable def E3:W->HX
 | .non=>true
 | _=>false
noncomputable def NI (w:W):Prop:=w=.non\/∃i:Hy,w=.int i
noncomputable def PB (X:Hj T)(s:Hs)(v:Wd)(p:Hs):HX:=decide (du (bX v p s (s+1))∈X)
theorem mf {P:Wd->Hs->HX}{bs:Hj Hy}{u:Wd}{one other:Pt}:(da P bs u one other).length=bs.length+1:=by
 unfold da;rw[Hn,Hk,Ii]; rfl
theorem xQ {S:aa}{xs:Hj W}(h:xs≠[]):ju (.tup xs) (.int (-1)) S=gV (xs.getLastD (.int 0),S):=by
 have hp:0 < xs.length:=LB.mpr h;have hs:rh xs.length (-1)=gV (xs.length - 1):=by
  unfold rh;rw[Iy #v[]]
  exact(HY ∅).trans (by congr 1; omega)
 have hg:xs[xs.length - 1]?=gV (xs.getLastD (.int 0)):=by
  rw[LV,LW];have:xs.length - 1 < xs.length:=∅
  simp[this]
 simp only[ju,tm,om,hs,hg,Option.bind_some,Iv]
section
variable{defs:Hj (HM×Df)}{fuel d:Hs}{S:aa}{Q:QW}
structure Fil (defs:Hj (HM×Df)):Prop where
 parts:Parts defs
 part:Is defs ("part" : HM) 3 3 gY
 longer:Is defs ("longer_orders" : HM) 2 4 aW
 barred:Is defs ("barred_threes" : HM) 1 5 bz
 three:Is defs ("three_at" : HM) 4 6 aX
 fbar:Is defs ("first_bar" : HM) 2 4 aU
 back:Is defs ("back" : HM) 2 2 je
 both:Is defs ("with_both" : HM) 5 5 dA
 same:Is defs ("same_bar" : HM) 2 3 eh
 all:Is defs ("all_bars" : HM) 5 6 fu
theorem g5 (F:Fil defs){m0 b0:W}{ns:Hj HM}{bs:Hj Hy}{a q:Hs}{u:Wd}{one other:Pt}{kvs:Hj (T×W)}(hb:GoodB bs)(hnl:ns.length=bs.length)(hu:GoodW a bs.length u)(h1:GoodP a bs.length u.length one)(h2:GoodP a bs.length u.length other)(hul:u.length<=800)(e:S[q]?=gV (.dic kvs))
  (k:∀S',Ka S S'->Q (.tup (da (λv p=>bv kvs v p u.length (u.length+1)) bs u one other),S')) :
  wO (aC (ak defs fuel (d+3)) "all_bars" 5 [.tup [m0,.tup (HA aB ns bs),b0],.ref q,am u,ap one,ap other] S) Q:=by
 refine al F.all rfl rfl λQ' hR=>?_
 replace k:∀S',Ka S S'->Q' (.rt (.tup (da (λv p=>bv kvs v p u.length (u.length+1)) bs u one other)),S'):=λS' a=>hR _ _ (k S' a)
 clear hR;show wZ _ _ fu [gV (.tup [m0,.tup (HA aB ns bs),b0]),gV (.ref q),gV (am u),gV (ap one),gV (ap other),td] S Q';generalize hR0:W.tup [m0,.tup (HA aB ns bs),b0]=R;have hb3:bs.length<=3:=by rcases hb with rfl|rfl|rfl|rfl|rfl|rfl <;> decide
 dsimp only[fu];refine st ?_;dsimp only[wS,wE,Hz];refine nQ bs.length (λ_=>true) (λn=>bY (λp=>bv kvs (cR bs u one other n) p u.length (u.length+1)) u.length) [gV (.ref q),gV (am u),gV (ap one),gV (ap other),gV R] rfl rfl rfl rfl ∅ ?_ (λn hn S2 k2=>?_) λS2 k2=>?_
 ·dsimp only[wE,wA,wV,wG];subst hR0;refine ae #v[] rfl (ay ?_)
  rw[Jb,hnl,JL];exact#[rfl,.refl]
 ·obtain⟨g1,g2⟩:=uy hb hu h1 h2 hn;dsimp only[fW,wC,wE,wA,wV,wG];subst hR0;refine#[λ_=>?_,λz=>by cases z]
  refine pJ (d:=d) F.back F.both hnl hn ∅ (by rw[h2.len]; omega) ?_
  exact pI (d:=d) F.three F.fbar g1 g2 ∅ (k2.get _ _ e) #[rfl,rfl,.refl]
 ·rw[c9];refine st ?_;dsimp only[wS,wE,wA,wV,wG];refine qL (d:=d+1) F.same (by rw[h1.len,h2.len]) (by rw[h1.len]; omega) λS3 k3=>?_
  dsimp only;refine ab (nG (ar (k3.get _ _ aj)) aj (ef ?_)) (fH aj (k _ (((k2.trans .push).trans k3).trans (Ka.push.trans .push))));rw[Hn,Hk,Ii]; show _+1<=_; omega
theorem pK (hfu:20 < fuel)(F:Fil defs)(hby:Is defs ("barred_by" : HM) 4 4 dz){m0:W}{ns:Hj HM}{bs:Hj Hy}{a:Hs}{gs:Hj Wd}{u:Wd}{one other:Pt}(hb:GoodB bs)(hnl:ns.length=bs.length)(hgs:∀g∈gs,GoodW a bs.length g/\g.length=3)(h64:gs.length<=100)(hu:GoodW a bs.length u)(h1:GoodP a bs.length u.length one)(h2:GoodP a bs.length u.length other)(hul:u.length<=800)
  (k:∀S',Ka S S'->Q (.tup (da (PB ((br bs gs).map du) u.length) bs u one other),S')) :
  wO (aC (ak defs fuel (d+5)) "barred_by" 4 [.tup [m0,.tup (HA aB ns bs),.tup (gs.map am)],am u,ap one,ap other] S) Q:=by
 refine al hby rfl rfl λQ' hR=>?_
 show wZ _ _ dz [gV (.tup [m0,.tup (HA aB ns bs),.tup (gs.map am)]),gV (am u),gV (ap one),gV (ap other)] S Q';dsimp only[dz];refine st ?_;dsimp only[wS,wE,wA,wV,wG];refine kC (d:=d) hfu F.parts F.part F.longer F.barred hb hnl hgs h64 λq kvs S1 e1 hk _ k1=>?_
 have ep:(λ(v:Wd) p=>bv kvs v p u.length (u.length+1))=PB ((br bs gs).map du) u.length:=funext λv=>funext λp=>hk.get _
 refine g5 (d:=d+1) F hb hnl hu h1 h2 hul e1 λS2 k2=>hR _ _ ?_
 rw[ep];exact k S2 (k1.trans k2)
end
noncomputable def cF:Ss:=
 #v[.set 1 (.own "_law_pick" 2 #v[.v 0,.c (.int 8)]),.ite (.cmp .lt (.v 1) (.c (.int 4))) #v[.ret (.own "_law_any_rule" 1 #v[.v 0])] .nil,.ite (.cmp .lt (.v 1) (.c (.int 7))) #v[.ret (.own "_law_laying_rule" 1 #v[.v 0])] .nil,.ret (.own "_law_unlaying_rule" 1 #v[.v 0])]
noncomputable def cG:Ss:=
 #v[.set 4 (.own "_law_pick" 2 #v[.v 0,.bi .len #v[.ix (.v 1) (.c (.int 0))]]),.loop (.nm 5) (.rng #v[.bi .len #v[.ix (.v 1) (.c (.int 0))]]) #v[.set 6 (.op .mod (.op .add (.v 4) (.v 5)) (.bi .len #v[.ix (.v 1) (.c (.int 0))])),.set 7 (.own "_law_new_ways" 6 #v[.v 0,.v 1,.v 2,.v 3,.v 6,.tup .nil]),.ite (.cmp .isnot (.v 7) (.c .non)) #v[.ret (.tup #v[.v 6,.v 7])] .nil],.ret (.c .non)]
noncomputable def fA:Ss:=
 #v[.asg [5,6] (.v 4),.set 7 (.own "_law_pick" 2 #v[.v 0,.c (.int 4)]),.ite (.cmp .eq (.v 7) (.c (.int 1))) #v[.set 5 (.own "_law_pick" 2 #v[.v 0,.bi .len #v[.ix (.v 1) (.c (.int 0))]])] #v[.ite (.and (.cmp .gt (.v 7) (.c (.int 1))) (.cmp .ne (.v 6) (.tup .nil))) #v[.set 8 (.own "_law_pick" 2 #v[.v 0,.bi .len #v[.v 6]]),.set 6 (.op .add (.op .add (.sl (.v 6) .no (.yes (.v 8))) (.tup #v[.own "_law_pick" 2 #v[.v 0,.bi .len #v[.ix (.v 1) (.c (.int 1))]]])) (.sl (.v 6) (.yes (.op .add (.v 8) (.c (.int 1)))) .no))] .nil],.ite (.own "_law_last_may" 4 #v[.v 1,.v 2,.op .add (.v 3) (.tup #v[.tup #v[.v 5,.v 6]]),.bi .len #v[.v 3]]) #v[.ret (.tup #v[.v 5,.v 6])] .nil,.ret (.v 4)]
noncomputable def fB:Ss:=
 #v[.set 4 (.own "_law_world" 4 #v[.v 0,.v 1,.v 2,.v 3]),.set 5 (.own "_law_new_point" 4 #v[.v 0,.v 1,.v 2,.v 4]),.ite (.cmp .is (.v 5) (.c .non)) #v[.set 5 (.ix (.v 4) (.neg (.c (.int 1)))),.set 4 (.sl (.v 4) .no (.yes (.neg (.c (.int 1)))))] .nil,.set 6 (.c .non),.ite (.cmp .eq (.own "_law_pick" 2 #v[.v 0,.c (.int 2)]) (.c (.int 0))) #v[.set 6 (.own "_law_new_point" 4 #v[.v 0,.v 1,.v 2,.v 4])] .nil,.ite (.cmp .is (.v 6) (.c .non)) #v[.set 6 (.own "_law_near" 5 #v[.v 0,.v 1,.v 2,.v 4,.v 5])] .nil,.ret (.tup #v[.v 4,.v 5,.v 6])]
theorem E4 {S:aa}{xs:Hj Hy}:aK .ne (.tup (ac xs)) (.tup []) S=gV (.bl (!decide (xs=[])),S):=by
 cases xs <;> rfl
theorem Std.last {kvs:Hj (T×W)}{u:Wd}(h:Std kvs u):Std kvs u.dropLast/\bH kvs u.dropLast u.dropLast.length (u.getD (u.length - 1) (0,[]))=true:=by
 have e:∀p,p < u.length - 1->u.dropLast.getD p (0,[])=u.getD p (0,[]):=λp hp=>by
  rw[HP,HP,Lj,HY hp]
 refine#[λk hk j hj i hi=>?_,bq.mpr λj hj i hi=>?_]
 ·rw[JQ]at hk;have:=h k ∅ j hj i hi
  unfold bv bX at this ⊢;rw[e i ∅,e j ∅,e k hk]
  exact this
 ·rw[JQ]at hj;have:=h (u.length - 1) ∅ j hj i hi
  unfold bv bX at this;unfold bT;rw[e i ∅,e j ∅]
  exact this
section
variable{defs:Hj (HM×Df)}{fuel d:Hs}{S:aa}{r:Hs}{Q:QW}
structure Pai (defs:Hj (HM×Df)):Prop where
 un:Is defs ("_law_unlaying_rule" : HM) 1 10 bc
 some':Is defs ("_law_some_rule" : HM) 1 2 cF
 ways:Is defs ("_law_new_ways" : HM) 6 11 aP
 world:Is defs ("_law_world" : HM) 4 8 dy
 lmay:Is defs ("_law_last_may" : HM) 4 8 aG
 point:Is defs ("_law_new_point" : HM) 4 8 cG
 near:Is defs ("_law_near" : HM) 5 9 fA
 pair:Is defs ("_law_pair" : HM) 4 7 fB
theorem pL (hfu:20 < fuel)(G:Gen defs)(P:Pai defs)(hf:Fl S r)(k:∀w S',di w->Fl S' r->Kp r S S'->Q (w,S')):wO (aC (ak defs fuel (d+8)) "_law_some_rule" 1 [.ref r] S) Q:=by
 refine al P.some' rfl rfl λQ' hR=>?_
 replace k:∀w S',di w->Fl S' r->Kp r S S'->Q' (.rt w,S'):=λz S' a b c=>hR _ _ (k z S' a b c)
 clear hR;show wZ _ _ cF [gV (.ref r),td] S Q';dsimp only[cF];refine aF λK hK=>?_
 dsimp only[wS,wE,wA,wV,wG,Hz];refine aT (d:=d+6) G.pick hf #v[] #v[] λv S1 v0 v7 f1 k1=>hK _ _ ?_
 clear hK K;refine aF λK hK=>?_
 dsimp only[wS,wT,wE,wV,wG,wF,aO,wB];refine ah (Q0:=Q') (λ_ Q2 _ hr=>?_) (λ_ Q2 hn _=>aL (hn _ _ (hK _ _ ?_)))
 ·refine st ?_;dsimp only[wS,wE,wA,wV,wG];exact qw (d:=d+1) hfu G f1 λw S2 a b c=>hr _ _ (k w S2 a b (k1.trans c))
 clear hK K hn;refine aF λK hK=>?_
 dsimp only[wS,wT,wE,wV,wG,wF,aO,wB];refine ah (Q0:=Q') (λ_ Q2 _ hr=>?_) (λ_ Q2 hn _=>aL (hn _ _ (hK _ _ ?_)))
 ·refine st ?_;dsimp only[wS,wE,wA,wV,wG];exact xG (d:=d) hfu G f1 λw S2 a b c=>hr _ _ (k w S2 a b (k1.trans c))
 refine st ?_;dsimp only[wS,wE,wA,wV,wG];exact qz (d:=d+1) hfu G P.un f1 λw S2 a b c=>k w S2 a b (k1.trans c)
theorem qM (G:Gen defs)(hg:Is defs ("_law_new_ways" : HM) 6 11 aP){m0 b0:W}{N:Hj W}{a n q:Hs}{u:Wd}{mk:Hy}{kvs:Hj (T×W)}(hN:N.length=n)(hn3:n<=3)(hu:GoodW a n u)(hl:u.length<=900)(e:S[q]?=gV (.dic kvs))(hqr:q≠r)(hf:Fl S r)
  (k:∀w S',((w=.non/\u≠[])\/∃to:Hj Hy,w=.tup (ac to)/\to.length=u.length/\(∀x∈to,0<=x/\x < (n:Hy))/\∀j < u.length,∀i < j,bp kvs u mk i j (to.getD i 0) (to.getD j 0)=false)->Fl S' r->Kp r S S'->Q (w,S')) :
  wO (aC (ak defs fuel (d+2)) "_law_new_ways" 6 [.ref r,.tup [m0,.tup N,b0],.ref q,am u,.int mk,.tup []] S) Q:=by
 by_cases z:u=[]
 ·subst z;refine al hg rfl rfl λQ' hR=>?_
  show wZ _ _ aP [gV (.ref r),gV (.tup [m0,.tup N,b0]),gV (.ref q),gV (am []),gV (.int mk),gV (.tup (ac [])),td,td,td,td,td] S Q';dsimp only[aP];refine aF λK hK=>?_
  refine cx 0 0 (λm ρ S'=>ρ=[gV (.ref r),gV (.tup [m0,.tup N,b0]),gV (.ref q),gV (am []),gV (.int mk),gV (.tup (ac [])),td,td,td,td,td]/\S'=S) rfl rfl rfl #v[] ?_ (λm ρ S1 hm=>∅) ?_
  ·dsimp only[wE,wA,wV,wG];exact ay #[rfl,ay #[rfl,rfl,rfl]]
  ·rintro ρ S1 ⟨rfl,rfl⟩;refine hK _ _ (st ?_);dsimp only[wS,wE,wV,wG];exact hR _ _ (k _ _ (.inr #[[],rfl,rfl,(λx hx=>nomatch hx),λj hj=>by cases hj]) hf .refl)
 ·refine kD G hg hN hn3 hu hl e hqr hf λw S' hw f' k'=>k w S' ?_ f' k'
  rcases hw with h|h
  ·exact .inl #[h,z]
  ·exact .inr h
theorem jo (G:Gen defs)(P:Pai defs){M N:Hj W}{b0:W}{a n q:Hs}{u:Wd}{kvs:Hj (T×W)}(hM:M.length=a)(ha1:0 < a)(ha3:a<=3)(hN:N.length=n)(hn3:n<=3)(hu:GoodW a n u)(hl:u.length<=900)(e:S[q]?=gV (.dic kvs))(hqr:q≠r)(hf:Fl S r)
  (k:∀w S',((w=.non/\u≠[])\/∃p,w=ap p/\GoodP a n u.length p/\bH kvs u u.length p=true)->Fl S' r->Kp r S S'->Q (w,S')) :
  wO (aC (ak defs fuel (d+3)) "_law_new_point" 4 [.ref r,.tup [.tup M,.tup N,b0],.ref q,am u] S) Q:=by
 refine al P.point rfl rfl λQ' hR=>?_
 replace k:∀w S',((w=.non/\u≠[])\/∃p,w=ap p/\GoodP a n u.length p/\bH kvs u u.length p=true)->Fl S' r->Kp r S S'->Q' (.rt w,S'):=λw S' h1 h2 h3=>hR _ _ (k w S' h1 h2 h3)
 clear hR;show wZ _ _ cG [gV (.ref r),gV (.tup [.tup M,.tup N,b0]),gV (.ref q),gV (am u),td,td,td,td] S Q';generalize hR0:W.tup [.tup M,.tup N,b0]=R;dsimp only[cG];refine aF λK hK=>?_
 dsimp only[wS,wE,wA,wV,wG,Hz];have lm:∀(S:aa) (Q:QW),Q (.int (a:Hy),S)->wO (ju R (.int 0) S) λp=>wO (Bi.len.fn [p.1] p.2) Q:=λS Q q=>by
  subst hR0;refine ae #v[] rfl (ay ?_)
  rw[hM]; exact q
 refine lm _ _ ?_;refine aT (d:=d+1) G.pick hf ∅ ∅ λv S1 v0 v1 f1 k1=>hK _ _ ?_
 clear hK K;refine aF λK hK=>?_
 refine bD (a:Hy) (λi ρ S'=>(∃a5 a6 a7,ρ=[gV (.ref r),gV R,gV (.ref q),gV (am u),gV (.int v),a5,a6,a7])/\(u=[]->i=0)/\Fl S' r/\Kp r S S') rfl rfl ∅ ?_ ?_ ?_
 ·dsimp only[wE,wA,wV,wG];exact lm _ _ #[rfl,#[_,_,_,rfl],λ_=>rfl,f1,k1]
 ·rintro i ρ S2 hi ⟨⟨a5,a6,a7,rfl⟩,_,f2,k2⟩ Q2 hn2 hr2;clear hK;dsimp only[Hz];refine st ?_;dsimp only[wS,wE,wA,wV,wG,Hz];refine ab cq (lm _ _ (ab (ke ∅) ?_))
  have m0:0<=(v+(i:Hy)) % (a:Hy):=Kd _ ∅
  have m1:(v+(i:Hy)) % (a:Hy) < a:=JI _ ∅
  generalize(v+(i:Hy)) % (a:Hy)=m at m0 m1;refine st ?_;dsimp only[wS,wE,wA,wV,wG,Hz];subst hR0;refine qM (d:=d) G P.ways hN hn3 hu hl (k2.get _ _ hqr e) hqr f2 λw S3 hw f3 k3=>?_
  refine aF λK hK=>?_
  dsimp only[wS,wT,wE,wA,wV,wG];rcases hw with⟨rfl,hne⟩|⟨to,rfl,htl,hto,hbp⟩
  ·refine ab (show aK .isnot .non .non S3=gV (.bl false,S3)from rfl) ?_
   dsimp only[wB];exact ah (Q0:=Q2) (λz=>by cases z) (λ_ Q5 hn5 _=>aL (hn5 _ _ (hK _ _ (aL (hn2 _ _ #[#[_,_,_,rfl],λz=>absurd z hne,f3,k2.trans k3])))))
  ·refine ab (show aK .isnot (.tup (ac to)) .non S3=gV (.bl true,S3)from rfl) ?_
   dsimp only[wB];refine ah (Q0:=Q2) (λ_ Q5 _ hr5=>?_) (λz=>by cases z)
   refine st ?_;dsimp only[wS,wE,wA,wV,wG];exact hr5 _ _ (hr2 _ _ (k _ _ (.inr #[(m,to),rfl,#[#[m0,m1],htl,hto],bq.mpr hbp]) f3 (k2.trans k3)))
 ·rintro ρ S2 ⟨⟨a5,a6,a7,rfl⟩,hz,f2,k2⟩;rw[HI]at hz;refine hK _ _ (st ?_);dsimp only[wS,wE];exact k _ _ (.inl #[rfl,λz=>by have:=hz z; omega]) f2 k2
theorem C8 (G:Gen defs)(P:Pai defs){M N:Hj W}{b0:W}{a n q:Hs}{u:Wd}{p:Pt}{kvs:Hj (T×W)}(hM:M.length=a)(ha1:0 < a)(ha3:a<=3)(hN:N.length=n)(hn1:0 < n)(hn3:n<=3)(hu:GoodW a n u)(hp:GoodP a n u.length p)(hpm:bH kvs u u.length p=true)(hl:u.length<=900)(e:S[q]?=gV (.dic kvs))(hqr:q≠r)(hf:Fl S r)
  (k:∀p' S',GoodP a n u.length p'->bH kvs u u.length p'=true->Fl S' r->Kp r S S'->Q (ap p',S')) :
  wO (aC (ak defs fuel (d+2)) "_law_near" 5 [.ref r,.tup [.tup M,.tup N,b0],.ref q,am u,ap p] S) Q:=by
 refine al P.near rfl rfl λQ' hR=>?_
 replace k:∀p' S',GoodP a n u.length p'->bH kvs u u.length p'=true->Fl S' r->Kp r S S'->Q' (.rt (ap p'),S'):=λw S' h1 h2 h3 h4=>hR _ _ (k w S' h1 h2 h3 h4)
 clear hR;show wZ _ _ fA [gV (.ref r),gV (.tup [.tup M,.tup N,b0]),gV (.ref q),gV (am u),gV (ap p),td,td,td,td] S Q';generalize hR0:W.tup [.tup M,.tup N,b0]=R;have lm:∀(S:aa) (Q:QW),Q (.int (a:Hy),S)->wO (ju R (.int 0) S) λp=>wO (Bi.len.fn [p.1] p.2) Q:=λS Q q=>by
  subst hR0;refine ae #v[] rfl (ay ?_)
  rw[hM]; exact q
 have lw:∀(S:aa) (Q:QW),Q (.int (n:Hy),S)->wO (ju R (.int 1) S) λp=>wO (Bi.len.fn [p.1] p.2) Q:=λS Q q=>by
  subst hR0;refine ae #v[] rfl (ay ?_)
  rw[hN]; exact q
 have ul:(u.map ap).length=u.length:=Hk ..;dsimp only[fA];refine st ?_;dsimp only[wS,wE,wV,wG,wU,ap];refine ab (show cL [5,6] [.int p.1,.tup (p.2.map W.int)] [gV (.ref r),gV R,gV (.ref q),gV (am u),gV (.tup [.int p.1,.tup (p.2.map W.int)]),td,td,td,td]=gV [gV (.ref r),gV R,gV (.ref q),gV (am u),gV (ap p),gV (.int p.1),gV (.tup (ac p.2)),td,td]from rfl) ?_
 refine aF λK hK=>?_
 dsimp only[wS,wE,wA,wV,wG,Hz];refine aT (d:=d) G.pick hf #v[] #v[] λv S1 _ _ f1 k1=>hK _ _ ?_
 clear hK K;refine aF λK hK=>?_
 have tl:∀(m:Hy) (to:Hj Hy) (a8:Hr W) (S2:aa),GoodP a n u.length (m,to)->Fl S2 r->Kp r S S2->K [gV (.ref r),gV R,gV (.ref q),gV (am u),gV (ap p),gV (.int m),gV (.tup (ac to)),gV (.int v),a8] S2:=by
  intro m to a8 S2 hg f2 k2;refine hK _ _ ?_;clear hK K;refine aF λK hK=>?_
  dsimp only[wS,wT,wE,wA,wV,wG,am];have ev:u.map ap++[.tup [.int m,.tup (ac to)]]=(u++[(m,to)]).map ap:=by rw[HV]; rfl
  refine ab (bL (ef (by rw[ev,Hk,Hn,Im]; omega))) (ay ?_)
  dsimp only;rw[ev,ul];have lmay:=λ(Q:QW)=>kL (fuel:=fuel) (d:=d) (Q:=Q) (R:=R) (h:=(m,to)) P.lmay hu hg.len ∅ (k2.get _ _ hqr e)
  unfold am at lmay;refine lmay _ ?_;refine ab (show cJ S2 (.bl (bH kvs u u.length (m,to)))=gV (bH kvs u u.length (m,to))from rfl) ?_
  refine ah (Q0:=Q') (λhmt Q2 _ hr=>?_) (λ_ Q2 hn _=>aL (hn _ _ (hK _ _ (st ?_))))
  ·refine st ?_;dsimp only[wS,wE,wA,wV,wG];exact hr _ _ (k (m,to) S2 hg hmt f2 k2)
  ·dsimp only[wS,wE,wV,wG];exact k p S2 hp hpm f2 k2
 dsimp only[wS,wT,wE,wV,wG,kg,aO,wB];refine ah (Q0:=Q') (λ_ Q2 hn _=>?_) (λ_ Q2 hn _=>?_)
 ·refine st ?_;dsimp only[wS,wE,wA,wV,wG,Hz];refine lm _ _ (aT (d:=d) G.pick f1 ∅ ∅ λm S2 m0 m1 f2 k2=>aL (hn _ _ (tl m p.2 td S2 #[#[m0,m1],hp.len,hp.way] f2 (k1.trans k2))))
 ·refine aF λK2 hK2=>?_
  dsimp only[wS,wT,wE,wA,wV,wG];have stay:K2 [gV (.ref r),gV R,gV (.ref q),gV (am u),gV (ap p),gV (.int p.1),gV (.tup (ac p.2)),gV (.int v),td] S1:=hK2 _ _ (aL (hn _ _ (tl p.1 p.2 td S1 hp f1 k1)));refine ab CP ?_;dsimp only[wB];refine#[λ_=>ab E4 ?_,λ_=>ah (Q0:=Q2) (λz=>by cases z) λ_ Q3 hn3 _=>aL (hn3 _ _ stay)]
  dsimp only[wB];refine ah (Q0:=Q2) (λhne Q3 hn3 _=>?_) (λ_ Q3 hn3 _=>aL (hn3 _ _ stay))
  have hne:p.2≠[]:=by simpa using hne
  have hpl:0 < p.2.length:=LB.mpr hne;have il:(ac p.2).length=p.2.length:=Hk ..;have hpe:=hp.len;refine st ?_;dsimp only[wS,wE,wA,wV,wG,Hz];refine ay ?_;rw[il];refine aT (d:=d) G.pick f1 ∅ ∅ λv2 S2 v0 v1 f2 k2=>?_
  obtain⟨at',rfl⟩ : ∃k:Hs,v2=k:=#[v2.toNat,∅]
  refine st ?_;dsimp only[wS,wE,wA,wP,wV,wG,wN,Hz];refine ab (show js (.tup (ac p.2)) td (gV ((at':Hs):Hy)) S2=gV (.tup ((ac p.2).take at'),S2) by simp only[js,ee]) ?_
  dsimp only;refine lw _ _ (aT (d:=d) G.pick f2 ∅ ∅ λw S3 w0 w1 f3 k3=>?_)
  refine ab (bL (ef (by rw[Hn,Ic,il]; show _+1<=_; omega))) ?_
  dsimp only;refine ab cq ?_;dsimp only;refine ab (show js (.tup (ac p.2)) (gV ((at':Hy)+1)) td S3=gV (.tup ((ac p.2).drop (at'+1)),S3) by rw[show(at':Hy)+1=((at'+1:Hs):Hy) by omega]; simp only[js,wM]) ?_
  dsimp only;refine ab (bL (ef (by rw[Hn,Hn,Ic,Kt,il]; show _+1+_<=_; omega))) ?_
  have es:(ac p.2).take at'++[.int w]++(ac p.2).drop (at'+1)=ac (p.2.set at' w):=by
   unfold ac;rw[Pk,List.set_eq_take_append_cons_drop,HY (by rw[Hk]; omega)]
   simp
  dsimp only;rw[es];refine aL (hn3 _ _ (hK2 _ _ (aL (hn _ _ (tl p.1 (p.2.set at' w) _ S3 #[hp.mark,?_,λx hx=>?_] f3 ((k1.trans k2).trans k3))))))
  ·show(p.2.set at' w).length=_;rw[Oo]; exact hpe
  ·rcases List.mem_or_eq_of_mem_set hx with z|z
   ·exact hp.way x z
   ·rw[z]; exact#[w0,w1]
theorem C9 (G:Gen defs)(P:Pai defs){M N:Hj W}{b0:W}{a n q many:Hs}{kvs:Hj (T×W)}(hM:M.length=a)(ha1:0 < a)(ha3:a<=3)(hN:N.length=n)(hn1:0 < n)(hn3:n<=3)(hm:many<=800)(e:S[q]?=gV (.dic kvs))(hqr:q≠r)(hf:Fl S r)
  (k:∀(u:Wd) (one other:Pt) S',u.length<=many->GoodW a n u->Std kvs u->GoodP a n u.length one->bH kvs u u.length one=true->GoodP a n u.length other->bH kvs u u.length other=true->Fl S' r->Kp r S S'->Q (.tup [am u,ap one,ap other],S')) :
  wO (aC (ak defs fuel (d+4)) "_law_pair" 4 [.ref r,.tup [.tup M,.tup N,b0],.ref q,.int many] S) Q:=by
 refine al P.pair rfl rfl λQ' hR=>?_
 replace k:∀(u:Wd) (one other:Pt) S',u.length<=many->GoodW a n u->Std kvs u->GoodP a n u.length one->bH kvs u u.length one=true->GoodP a n u.length other->bH kvs u u.length other=true->Fl S' r->Kp r S S'->Q' (.rt (.tup [am u,ap one,ap other]),S'):=λu x y S' h1 h2 h3 h4 h5 h6 h7 h8 h9=>hR _ _ (k u x y S' h1 h2 h3 h4 h5 h6 h7 h8 h9)
 clear hR;show wZ _ _ fB [gV (.ref r),gV (.tup [.tup M,.tup N,b0]),gV (.ref q),gV (.int many),td,td,td] S Q';generalize hR0:W.tup [.tup M,.tup N,b0]=R;dsimp only[fB];refine aF λK hK=>?_
 dsimp only[wS,wE,wA,wV,wG,Hz];subst hR0;refine Aw (d:=d) G P.ways P.world hM ha1 ha3 hN hn3 ∅ e hqr hf λu S1 hul hu hst f1 k1=>hK _ _ ?_
 clear hK K;refine aF λK hK=>?_
 dsimp only[wS,wE,wA,wV,wG,Hz];refine jo (d:=d) G P hM ha1 ha3 hN hn3 hu ∅ (k1.get _ _ hqr e) hqr f1 λw S2 hw f2 k2=>hK _ _ ?_
 clear hK K;have k12:=k1.trans k2;clear f1 k1 k2;refine aF λK hK=>?_
 have tl:∀(u:Wd) (one:Pt),u.length<=many->GoodW a n u->Std kvs u->GoodP a n u.length one->bH kvs u u.length one=true->K [gV (.ref r),gV (.tup [.tup M,.tup N,b0]),gV (.ref q),gV (.int many),gV (am u),gV (ap one),td] S2:=by
  intro u one hul hu hst h1 h1m;refine hK _ _ ?_;clear hK K;refine st ?_;dsimp only[wS,wE,Hz];refine aF λK hK=>?_
  have tl2:∀(w:W) (S3:aa),(w=.non\/∃p,w=ap p/\GoodP a n u.length p/\bH kvs u u.length p=true)->Fl S3 r->Kp r S S3->K [gV (.ref r),gV (.tup [.tup M,.tup N,b0]),gV (.ref q),gV (.int many),gV (am u),gV (ap one),gV w] S3:=by
   intro w S3 hw f3 k3;refine hK _ _ ?_;clear hK K;refine aF λK hK=>?_
   dsimp only[wS,wT,wE,wV,wG];have ret:∀(p:Pt) (S4:aa),GoodP a n u.length p->bH kvs u u.length p=true->Fl S4 r->Kp r S S4->K [gV (.ref r),gV (.tup [.tup M,.tup N,b0]),gV (.ref q),gV (.int many),gV (am u),gV (ap one),gV (ap p)] S4:=λp S4 hp hpm f4 k4=>hK _ _ (st (by
    dsimp only[wS,wE,wA,wV,wG];exact k u one p S4 hul hu hst h1 h1m hp hpm f4 k4))
   rcases hw with rfl|⟨p,rfl,hp,hpm⟩
   ·refine ab (show aK .is .non .non S3=gV (.bl true,S3)from rfl) ?_
    dsimp only[wB];refine ah (Q0:=Q') (λ_ Q2 hn _=>?_) (λz=>by cases z)
    refine st ?_;dsimp only[wS,wE,wA,wV,wG,Hz];exact C8 (d:=d+1) G P hM ha1 ha3 hN hn1 hn3 hu h1 h1m ∅ (k3.get _ _ hqr e) hqr f3 λp S4 hp hpm f4 k4=>aL (hn _ _ (ret p S4 hp hpm f4 (k3.trans k4)))
   ·refine ab (show aK .is (ap p) .non S3=gV (.bl false,S3)from rfl) ?_
    dsimp only[wB];exact ah (Q0:=Q') (λz=>by cases z) (λ_ Q2 hn _=>aL (hn _ _ (ret p S3 hp hpm f3 k3)))
  dsimp only[wS,wT,wE,wA,wV,wG];refine aT (d:=d+2) G.pick f2 #v[] #v[] λv S3 _ _ f3 k3=>?_
  dsimp only[kg,aO,wB];refine ah (Q0:=Q') (λ_ Q2 hn _=>?_) (λ_ Q2 hn _=>aL (hn _ _ (tl2 .non S3 (.inl rfl) f3 (k12.trans k3))))
  refine st ?_;dsimp only[wS,wE,wA,wV,wG,Hz];refine jo (d:=d) G P hM ha1 ha3 hN hn3 hu ∅ (k3.get _ _ hqr (k12.get _ _ hqr e)) hqr f3 λw S4 hw f4 k4=>aL (hn _ _ (tl2 w S4 ?_ f4 ((k12.trans k3).trans k4)))
  rcases hw with⟨h,_⟩|h
  ·exact .inl h
  ·exact .inr h
 dsimp only[wS,wT,wE,wV,wG];rcases hw with⟨rfl,hne⟩|⟨p,rfl,hp,hpm⟩
 ·refine ab (show aK .is .non .non S2=gV (.bl true,S2)from rfl) ?_
  dsimp only[wB];refine ah (Q0:=Q') (λ_ Q2 hn _=>?_) (λz=>by cases z)
  have hup:0 < u.length:=LB.mpr hne;have hlt:u.length - 1 < u.length:=∅
  have gl:=aq (d:=(0,[])) hlt;refine st ?_;dsimp only[wS,wE,wV,wG,wN,Hz];have el:(u.map ap).getLastD (.int 0)=ap (u.getD (u.length - 1) (0,[])):=by
   rw[LV,LW,Hk,Ht,gl]; rfl
  refine ab (xQ (xs:=u.map ap) (by simpa using hne)) ?_
  rw[el];refine st ?_;dsimp only[wS,wE,wP,wV,wG,wN,Hz];refine ab (show js (am u) td (gV (-1)) S2=gV (am u.dropLast,S2) by simp only[am,js,pE,List.map_dropLast]) ?_
  refine aL (hn _ _ (tl u.dropLast (u.getD (u.length - 1) (0,[])) (by rw[JQ]; omega) (uw hu) hst.last.1 #[hu.mark _ _ gl,?_,hu.way _ _ gl] hst.last.2))
  rw[hu.len _ _ gl,JQ]
 ·refine ab (show aK .is (ap p) .non S2=gV (.bl false,S2)from rfl) ?_
  dsimp only[wB];exact ah (Q0:=Q') (λz=>by cases z) (λ_ Q2 hn _=>aL (hn _ _ (tl u p hul hu hst hp hpm)))
end
noncomputable def dj:Ss:=
 #v[.ret (.op .add (.v 1) (.tup #v[.v 2,.tup #v[.ix (.v 3) (.c (.int 0)),.op .add (.ix (.v 3) (.c (.int 1))) (.tup #v[.ix (.ix (.ix (.v 0) (.c (.int 1))) (.v 4)) (.c (.int 1))])]]))]
section
variable{defs:Hj (HM×Df)}{fuel d:Hs}{S:aa}{Q:QW}
theorem qN (hg:Is defs ("_law_both" : HM) 5 5 dj){m0 b0:W}{ns:Hj HM}{bs:Hj Hy}{u:Wd}{one other:Pt}{n:Hs}(hnl:ns.length=bs.length)(hn:n < bs.length)(hu:u.length<=900)(ho:other.2.length<=900)(k:Q (am (cR bs u one other n),S)) :
  wO (aC (ak defs fuel (d+1)) "_law_both" 5 [.tup [m0,.tup (HA aB ns bs),b0],am u,ap one,ap other,.int n] S) Q:=by
 refine al hg rfl rfl λQ' hR=>?_
 replace k:=hR _ _ k;show wZ _ _ dj [gV (.tup [m0,.tup (HA aB ns bs),b0]),gV (am u),gV (ap one),gV (ap other),gV (.int n)] S Q';have hb:=aq (d:=0) hn;dsimp only[dj];refine st ?_;dsimp only[wS,wE,wA,wV,wG];refine ae #v[] rfl (ae #v[] rfl ?_)
 refine ae #v[] rfl (ae (Hx n) (by rw[HI]; exact i5 (HH ∅) hb) (ae #v[] rfl ?_))
 refine ab (bL (ef ?_)) ?_
 ·rw[Hn,Hk]; show _+1<=_; omega
 dsimp only;have ev:u.map ap++[ap one,.tup [.int other.1,.tup (other.2.map W.int++[.int (bs.getD n 0)])]]=(cR bs u one other n).map ap:=by
  unfold cR;simp[ap]
 unfold am at k ⊢;refine ab (bL (ef ?_)) ?_
 ·rw[Hn,Hk]; show _+2<=_; omega
 dsimp only;rw[ev];exact k
end
noncomputable def iG (u:Wd)(one other:Pt)(b:Hy)(p:Hs):Wd:=[((u.getD p (0,[])).1,[]),(one.1,[one.2.getD p 0]),(other.1,[other.2.getD p 0,b])]
theorem qO {bs:Hj Hy}{a k:Hs}{u:Wd}{one other:Pt}{n p:Hs}(h1:GoodP a k u.length one)(h2:GoodP a k u.length other)(hp:p < u.length):bX (cR bs u one other n) p u.length (u.length+1)=iG u one other (bs.getD n 0) p:=by
 have l1:(u++[one]).length=u.length+1:=by rw[Hn]; rfl
 have g0:(cR bs u one other n).getD p (0,[])=u.getD p (0,[]):=by
  unfold cR;rw[aE ∅,aE hp]
 have g1:(cR bs u one other n).getD u.length (0,[])=one:=by
  unfold cR;rw[aE ∅,bQ]
 have g2:(cR bs u one other n).getD (u.length+1) (0,[])=(other.1,other.2++[bs.getD n 0]):=by
  unfold cR;rw[<- l1,bQ]
 unfold bX iG;rw[g0,g1,g2];dsimp only;rw[aY (by rw[h2.len]; exact hp)]
 have:(other.2++[bs.getD n 0]).getD u.length 0=bs.getD n 0:=by
  rw[<- h2.len,HP,ID (HC _),KO]; rfl
 rw[this]
noncomputable def iH (X:Hj T)(bs:Hj Hy)(u:Wd)(one other:Pt)(i p:Hs):HX:=decide (du (iG u one other (bs.getD i 0) p)∈X)
noncomputable def nT (one other:Pt)(s:Hs):HX:=(one.1==other.1)&&(HJ s).all λp=>one.2.getD p 0==other.2.getD p 0
noncomputable def fI (B:Hs->Hs->HX)(sm:HX)(n s:Hs):Hj Hy:=((HJ n).filter λi=>(HJ s).all λp=>!B i p).map (λ(i:Hs)=>(i:Hy))++(if sm then[-1]else[])
theorem mj {P:Hs->HX}{s:Hs}:E3 (bY P s)=(HJ s).all λp=>!P p:=by
 rw[Ke,HS];unfold bY;constructor
 ·intro h p hp;cases hf:(HJ s).find? P with
  | none=>
   have:=J6.mp hf p hp
   simpa using this
  | some i=>rw[hf]at h; cases h
 ·intro h;have:(HJ s).find? P=td:=J6.mpr λp hp=>by simpa using h p hp
  rw[this]; rfl
theorem mn {B:Hs->Hs->HX}{sm:HX}{n s:Hs}{z:Hy}:z∈fI B sm n s↔(∃i:Hs,z=i/\i < n/\∀p < s,B i p=false)\/(z = -1/\sm=true):=by
 unfold fI;rw[Ig,HU];constructor
 ·rintro(⟨i,hi,rfl⟩|h)
  ·obtain⟨h1,h2⟩:=JE.mp hi;exact .inl #[i,rfl,HL.mp h1,λp hp=>by simpa using HS.mp h2 p (HL.mpr hp)]
  ·cases sm with
   | true=>exact .inr #[HE.mp h,rfl]
   | false=>cases h
 ·rintro(⟨i,rfl,h1,h2⟩|⟨rfl,rfl⟩)
  ·exact .inl #[i,JE.mpr #[HL.mpr h1,HS.mpr λp hp=>by simpa using h2 p (HL.mp hp)],rfl]
  ·exact .inr (HE.mpr rfl)
noncomputable def bm (p:Pt)(ps:Hj Hs):Pt:=(p.1,ps.map λk=>p.2.getD k 0)
theorem mo {a n s:Hs}{p:Pt}{ps:Hj Hs}(h:GoodP a n s p)(hps:∀k∈ps,k < s):GoodP a n ps.length (bm p ps):=by
 refine#[h.mark,by unfold bm; rw[Hk],λw hw=>?_]
 unfold bm at hw;obtain⟨k,hk,rfl⟩:=HU.mp hw;exact h.way _ (HF (aq (d:=0) (by rw[h.len]; exact hps k hk)))
theorem dW {p:Pt}{ps:Hj Hs}{i:Hs}(h:i < ps.length):(bm p ps).2.getD i 0=p.2.getD (ps.getD i 0) 0:=by
 unfold bm;rw[HP,Ht,aq (d:=0) h]; rfl
theorem pM {bs:Hj Hy}{u:Wd}{one other:Pt}{b:Hy}{ps:Hj Hs}{i:Hs}(h:i < ps.length):iG (au bs u ps) (bm one ps) (bm other ps) b i=iG u one other b (ps.getD i 0):=by
 unfold iG;rw[eU h,dW h,dW h]; rfl
theorem Ax {Φ:HM->FF}{fuel:Hs}{ρ:Fm}{S:aa}{K:Fm->aa->Prop}{Q:QO}{tg:Tg}{a:E}{b:Ss}(xs:Hj W)(I:Hs->Fm->aa->Prop)(oa:dL a=true)(ok:fT b=true)(he:wE Φ a ρ S λp=>Fn p.1=gV xs/\I 0 ρ p.2)
  (hstep:∀(i:Hs) (x:W) (ρ:Fm) (S:aa),xs[i]?=gV x->I i ρ S->wO (eJ tg (.tup [.int i,x]) ρ S) λq=>ub Φ fuel b q.1 q.2 (I (i+1)) Q) (hend:∀ρ S,I xs.length ρ S->K ρ S):Wp (fJ Φ fuel (.loop tg (.enu #v[a]) b) ρ S) (o7 K Q):=by
 obtain⟨x,S1,e1,h1,h0⟩:=bW oa he;have hl:(iV xs).length=xs.length:=by simp[iV]
 refine fU (mi:=.its (iV xs)) (S1:=S1) (xs:=iV xs) I ok (by simp only[jv,de,dG,io,wb,e1,h1]) (λ_ _ _ _=>rfl) rfl h0 (λi w ρ S hw hI=>?_) λρ S hI=>hend ρ S (hl ▸ hI)
 obtain⟨y,hy,rfl⟩:=jZ hw;exact hstep i y ρ S hy hI
noncomputable def dB:Ss:=
 #v[.set 5 (.lst .nil),.loop (.nm 6) (.rng #v[.bi .len #v[.ix (.v 0) (.c (.int 1))]]) #v[.ite (.own "_law_last_may" 4 #v[.v 0,.v 1,.own "_law_both" 5 #v[.v 0,.v 2,.v 3,.v 4,.v 6],.op .add (.bi .len #v[.v 2]) (.c (.int 1))]) #v[.ex (.me .append (.v 5) #v[.v 6])] .nil],.ret (.op .add (.v 5) (.op .mul (.lst #v[.neg (.c (.int 1))]) (.bi .int #v[.cmp .eq (.v 3) (.v 4)])))]
theorem qP {xs:Hj Hy}{b:Hy}:(xs++[b]).getD xs.length 0=b:=by
 rw[HP,ID (HC _),KO]; rfl
theorem xR {X:Hj T}{kvs:Hj (T×W)}{bs:Hj Hy}{a:Hs}{u:Wd}{one other:Pt}{n:Hs}(hk:∀t,(aN kvs t).isSome=decide (t∈X))(h2:GoodP a bs.length u.length other)(hm:bH kvs u u.length other=true) :
  bH kvs (u++[one]) (u++[one]).length (other.1,other.2++[bs.getD n 0])=(HJ u.length).all λp=>!iH X bs u one other n p:=by
 have hl:(u++[one]).length=u.length+1:=by rw[Hn]; rfl
 have key:∀p < u.length,bT kvs (u++[one]) (other.1,other.2++[bs.getD n 0]) p u.length=iH X bs u one other n p:=λp hp=>by
  unfold bT iH iG;dsimp only;rw[aE hp,bQ,aY (by rw[h2.len]; exact hp),hk]
  have:(other.2++[bs.getD n 0]).getD u.length 0=bs.getD n 0:=by rw[<- h2.len]; exact qP
  rw[this]
 rw[Ke,bq,HS,hl];constructor
 ·intro h p hp;have hp:=HL.mp hp;rw[<- key p hp,h u.length ∅ p hp]; rfl
 ·intro h q hq p hp
  by_cases e:q=u.length
  ·subst e;have:=h p (HL.mpr hp);rw[key p hp]
   simpa using this
  ·have hq':q < u.length:=∅
   have:=bq.mp hm q hq' p hp;unfold bT at this ⊢;dsimp only;rw[aE (JY hp hq'),aE hq',aY (by rw[h2.len]; omega),aY (by rw[h2.len]; omega)]
   exact this
theorem E5 {one other:Pt}{s:Hs}(h1:one.2.length=s)(h2:other.2.length=s):decide (one=other)=nT one other s:=by
 unfold nT;rw[Ke,Ir,Hv,beq_iff_eq,HS];constructor
 ·rintro rfl;exact#[rfl,λp _=>by rw[IS]]
 ·rintro⟨e,h⟩;refine Pq e (L1 λi=>?_)
  by_cases hi:i < s
  ·have:=eq_of_beq (h i (HL.mpr hi));rw[aq (d:=0) ∅,aq (d:=0) ∅,this]
  ·rw[KA ∅,KA ∅]
theorem pN {P:Hs->HX}{n:Hs}:(((HJ n).filter P).map λ(i:Hs)=>(i:Hy)).length<=n:=by
 rw[Hk];exact Ih (Jt _ _) (by rw[Ii]; exact HC _)
section
variable{defs:Hj (HM×Df)}{fuel d:Hs}{S:aa}{Q:QW}
theorem sF (hm:Is defs ("_law_last_may" : HM) 4 8 aG)(hbo:Is defs ("_law_both" : HM) 5 5 dj)(hg:Is defs ("_law_fills" : HM) 5 7 dB){m0 b0:W}{ns:Hj HM}{bs:Hj Hy}{a q:Hs}{X:Hj T}{u:Wd}{one other:Pt}{kvs:Hj (T×W)}(hb:GoodB bs)(hnl:ns.length=bs.length)(hu:GoodW a bs.length u)(h1:GoodP a bs.length u.length one)(h2:GoodP a bs.length u.length other)(hul:u.length<=800)(e:S[q]?=gV (.dic kvs))
  (hk:∀t,(aN kvs t).isSome=decide (t∈X)) (hmay:bH kvs u u.length other=true)
  (k:∀(l:Hs) S',S'[l]?=gV (.lst (ac (fI (iH X bs u one other) (nT one other u.length) bs.length u.length)))->S.length<=l->Ka S S'->Q (.ref l,S')) :
  wO (aC (ak defs fuel (d+2)) "_law_fills" 5 [.tup [m0,.tup (HA aB ns bs),b0],.ref q,am u,ap one,ap other] S) Q:=by
 refine al hg rfl rfl λQ' hR=>?_
 replace k:∀(l:Hs) S',S'[l]?=gV (.lst (ac (fI (iH X bs u one other) (nT one other u.length) bs.length u.length)))->S.length<=l->Ka S S'->Q' (.rt (.ref l),S'):=λl S' a b c=>hR _ _ (k l S' a b c)
 clear hR;show wZ _ _ dB [gV (.tup [m0,.tup (HA aB ns bs),b0]),gV (.ref q),gV (am u),gV (ap one),gV (ap other),td,td] S Q';have hb3:bs.length<=3:=by rcases hb with rfl|rfl|rfl|rfl|rfl|rfl <;> decide
 have ul:(u.map ap).length=u.length:=Hk ..;have sl:((u++[one]).length:Hy)=(u.length:Hy)+1:=by rw[Hn,Im]; rfl
 have hul2:(u++[one]).length<=1000:=by rw[Hn,Im]; omega
 have gu:GoodW a bs.length (u++[one]):=hu.snoc (m:=one.1) (ws:=one.2) h1.mark h1.len h1.way;generalize hR0:W.tup [m0,.tup (HA aB ns bs),b0]=R;have lw:∀(S:aa) (Q:QW),Q (.int (bs.length:Hy),S)->wO (ju R (.int 1) S) λp=>wO (Bi.len.fn [p.1] p.2) Q:=λS Q q=>by
  subst hR0;refine ae #v[] rfl (ay ?_)
  rw[Jb,hnl,JL]; exact q
 have lb:∀(n:Hs) (S:aa) (Q:QW),n < bs.length->Q (am (u++[one]++[(other.1,other.2++[bs.getD n 0])]),S)->wO (aC (ak defs fuel (d+1)) "_law_both" 5 [R,am u,ap one,ap other,.int n] S) Q:=λn S Q hn q=>by
  subst hR0;exact qN (d:=d) hbo hnl hn ∅ (by rw[h2.len]; omega) q
 clear hR0;have hP:=λn=>xR (n:=n) (one:=one) hk h2 hmay
 unfold fI at k;generalize hPd:(λi=>(HJ u.length).all λp=>!iH X bs u one other i p)=P at k
 have hP:∀n,bH kvs (u++[one]) (u++[one]).length (other.1,other.2++[bs.getD n 0])=P n:=λn=>by rw[hP n,<- hPd]
 clear hPd;dsimp only[dB];refine st ?_;dsimp only[wS,wE,wA,Hz];refine aF λK hK=>?_
 refine bD (bs.length:Hy) (λi ρ S'=>(∃a6,ρ=[gV R,gV (.ref q),gV (am u),gV (ap one),gV (ap other),gV (.ref S.length),a6])/\S'[S.length]?=gV (.lst (ac (((HJ i).filter P).map λ(i:Hs)=>(i:Hy))))/\Ka S S') rfl rfl ∅ ?_ ?_ ?_
 ·dsimp only[wE,wA,wV,wG];exact lw _ _ #[rfl,#[_,rfl],aj,.push]
 ·rintro i ρ S2 hi ⟨⟨a6,rfl⟩,e2,k2⟩ Q2 hn _;clear hK;have hib:i < bs.length:=∅
  dsimp only[Hz];refine aF λK hK=>?_
  dsimp only[wS,wT,wE,wA,wV,wG];refine lb i _ _ hib (ay ?_);rw[ul];refine ab cq ?_;dsimp only;rw[<- sl];refine kL (d:=d) hm gu (by show(other.2++[_]).length=_; rw[Hn,h2.len,Hn]; rfl) hul2 (k2.get _ _ e) ?_
  rw[hP];refine ab (show cJ S2 (.bl (P i))=gV (P i)from rfl) ?_
  refine ah (Q0:=Q2) (λhp Q3 hn3 _=>?_) (λhp Q3 hn3 _=>aL (hn3 _ _ (hK _ _ (aL (hn _ _ #[#[_,rfl],?_,k2])))))
  ·refine st ?_;dsimp only[wS,wE,wA,wV,wG];refine#[dE e2,lV e2 ?_ (aL (hn3 _ _ (hK _ _ (aL (hn _ _ #[#[_,rfl],?_,k2.late (HC _)])))))]
   ·have:=pN (P:=P) (n:=i);unfold ac;rw[Hk];omega
   ·rw[bG e2,Jz,JJ,HV,Og,hp];unfold ac;rw[HV]; rfl
  ·rw[Jz,JJ,Og,hp]
   simpa using e2
 ·rintro ρ S2 ⟨⟨a6,rfl⟩,e2,k2⟩;rw[HI]at e2;refine hK _ _ ?_;clear hK K;refine st ?_;dsimp only[wS,wE,wA,wV,wG,wN];refine ab E1 ?_;rw[E5 h1.len h2.len];generalize nT one other u.length=c at k;obtain⟨g,hg,eg,er⟩ : ∃g:Hs,g<=1/\(∀S,Bi.int.fn [.bl c] S=gV (.int (g:Hy),S))/\ac (if c then[-1]else[])=Ik g (W.int (-1)):=by
   cases c
   ·exact#[0,#v[],λ_=>rfl,rfl]
   ·exact#[1,#v[],λ_=>rfl,rfl]
  refine ab (eg _) ?_;dsimp only;refine Bf aj ∅ ?_
  have hl:=pN (P:=P) (n:=bs.length);refine ab (nG (ar (ar e2)) aj (ef (by unfold ac; rw[Hn,Lk,Hk]; omega))) (k _ _ ?_ ?_ (((k2.trans .push).trans .push).trans .push))
  ·unfold ac at er ⊢;rw[HV,er];exact aj
  ·have:=k2.len;simp; omega
end
noncomputable def bd (kvs:Hj (T×W))(w:Wd):HX:=(aN kvs (du w)).isSome
noncomputable def Cl (bs:Hj Hy)(kvs:Hj (T×W)):Prop:=∀(w:Wd) (t:Hj Hs),t∈aw->bd kvs w=true->bd kvs (au bs w t)=true
theorem E6 {bs:Hj Hy}{a:Hs}{gs:Hj Wd}{kvs:Hj (T×W)}(hb:GoodB bs)(hgs:∀g∈gs,GoodW a bs.length g/\g.length=3)(h:HasD kvs (br bs gs)):Cl bs kvs:=by
 intro w t ht hw;unfold bd at hw ⊢;rw[h.get,Ir]at hw ⊢;obtain⟨w',hw',e⟩:=HU.mp hw;have e:=nN e;subst e;refine HU.mpr #[_,?_,rfl];unfold br at hw' ⊢;obtain⟨g,hg,h⟩:=Jc.mp hw';obtain⟨s,hs,rfl⟩:=HU.mp h;obtain⟨gg,g3⟩:=hgs g hg;obtain⟨s1,s2⟩:=jd.mp hs;refine Jc.mpr #[g,hg,?_];rw[jc hb gg (by rw[g3]; exact s1) (by rw[s2]; exact(jd.mp ht).1)]
 have:∀s∈aw,∀t∈aw,(t.map λi=>s.getD i 0)∈aw:=by decide
 exact HU.mpr #[_,this s hs t ht,rfl]
theorem mv {bs:Hj Hy}{u:Wd}{i j k:Hs}(h1:i < j)(h2:j < k):bX u i j k=au bs u [i,j,k]:=by
 have e1:bM bs u j i=(u.getD j (0,[])).2.getD i 0:=by unfold bM; rw[HY h1]
 have e2:bM bs u k i=(u.getD k (0,[])).2.getD i 0:=by unfold bM; rw[HY (JY h1 h2)]
 have e3:bM bs u k j=(u.getD k (0,[])).2.getD j 0:=by unfold bM; rw[HY h2]
 show _=[((u.getD i (0,[])).1,[]),((u.getD j (0,[])).1,[bM bs u j i]),((u.getD k (0,[])).1,[bM bs u k i,bM bs u k j])];rw[e1,e2,e3];rfl
theorem Ay {bs:Hj Hy}{a:Hs}{kvs:Hj (T×W)}{u:Wd}{x y z:Hs}(hb:GoodB bs)(cl:Cl bs kvs)(hu:GoodW a bs.length u)(hs:Std kvs u)(hO:Ord u.length [x,y,z]):bd kvs (au bs u [x,y,z])=false:=by
 rw[Kj];intro h;have go:∀(i j k:Hs) (t:Hj Hs),t∈aw->(t.map λi=>[x,y,z].getD i 0)=[i,j,k]->i < j->j < k->k < u.length->IY:=λi j k t ht e h1 h2 h3=>by
  have:=cl _ t ht h;rw[jc hb hu hO (jd.mp ht).1,e,<- mv h1 h2]at this;have h4:=hs k h3 j h2 i h1;unfold bv at h4;unfold bd at this;rw[this]at h4; cases h4
 have lx:=hO.lt x (by simp)
 have ly:=hO.lt y (by simp)
 have lz:=hO.lt z (by simp)
 have nd:=hO.nd;simp only[Jv,HZ,IU,Ku,Pj]at nd;obtain⟨⟨n1,n2⟩,n3,_⟩:=nd;rcases Kx n1 with h1|h1
 ·rcases Kx n3 with h2|h2
  ·exact go x y z [0,1,2] #v[] rfl h1 h2 lz
  ·rcases Kx n2 with h3|h3
   ·exact go x z y [0,2,1] #v[] rfl h3 h2 ly
   ·exact go z x y [2,0,1] #v[] rfl h3 h1 ly
 ·rcases Kx n2 with h2|h2
  ·exact go y x z [1,0,2] #v[] rfl h1 h2 lz
  ·rcases Kx n3 with h3|h3
   ·exact go y z x [1,2,0] #v[] rfl h3 h2 lx
   ·exact go z y x [2,1,0] #v[] rfl h3 h1 lx
theorem qQ {ps:Hj Hs}(h:ps.Nodup){i j:Hs}(hi:i < ps.length)(hj:j < ps.length)(e:ps.getD i 0=ps.getD j 0):i=j:=by
 rw[HP,HP,HH hi,HH hj]at e;exact(J1 h).mp e
theorem Std.part {bs:Hj Hy}{a:Hs}{kvs:Hj (T×W)}{u:Wd}{ps:Hj Hs}(hb:GoodB bs)(cl:Cl bs kvs)(hu:GoodW a bs.length u)(hs:Std kvs u)(hO:Ord u.length ps):Std kvs (au bs u ps):=by
 intro k hk j hj i hi;rw[bx]at hk;have hO3:Ord ps.length [i,j,k]:=#[by simp only[Jv,HZ,IU,Ku,Pj]; exact#[#[∅,∅],∅,by simp],λp hp=>by
  simp only[HZ,IU,Ku]at hp;rcases hp with rfl|rfl|rfl <;> omega]
 show bd kvs (bX (au bs u ps) i j k)=false;rw[mv (bs:=bs) hi hj,jc hb hu hO hO3];have gm:∀m,m < ps.length->ps.getD m 0∈ps:=λm hm=>HF (aq (d:=0) hm)
 refine Ay hb cl hu hs #[?_,λp hp=>?_]
 ·simp only[Jv,HZ,IU,Ku,Pj];exact#[#[λe=>by have:=qQ hO.nd ∅ ∅ e; omega,λe=>by have:=qQ hO.nd ∅ ∅ e; omega],λe=>by have:=qQ hO.nd ∅ ∅ e; omega,by simp]
 ·simp only[HZ,IU,Ku]at hp;rcases hp with rfl|rfl|rfl <;> exact hO.lt _ (gm _ ∅)
theorem Std.both {kvs:Hj (T×W)}{u:Wd}{p:Pt}:Std kvs (u++[p])↔Std kvs u/\bH kvs u u.length p=true:=by
 constructor
 ·intro h;have:=h.last;rw[List.dropLast_concat,Hn,Im,Nr,bQ]at this;exact this
 ·rintro⟨h1,h2⟩;exact h1.snoc (m:=p.1) (to:=p.2) (bq.mp h2)
theorem xS {bs:Hj Hy}{u:Wd}{p:Pt}{ps:Hj Hs}(h:∀k∈ps,k < u.length):au bs (u++[p]) ps=au bs u ps:=by
 unfold au;refine IP λk hk=>?_
 have hk:=HL.mp hk;have g1:=h _ (HF (aq (d:=0) hk));rw[aE g1];congr 1;refine IP λj hj=>?_
 have g2:=h j (KN hj);unfold bM;rw[aE g1,aE g2]
theorem uz {bs:Hj Hy}{u:Wd}{p:Pt}{ps:Hj Hs}(h:∀k∈ps,k < u.length):au bs (u++[p]) (ps++[u.length])=au bs u ps++[bm p ps]:=by
 rw[l5,xS h];congr 2;unfold sE bm;rw[bQ];congr 1;refine IP λj hj=>?_
 unfold bM;rw[HY (h j hj),bQ]
structure Cf (a n:Hs)(kvs:Hj (T×W))(u:Wd)(p q:Pt):Prop where
 gu:GoodW a n u
 su:Std kvs u
 gp:GoodP a n u.length p
 mp:bH kvs u u.length p=true
 gq:GoodP a n u.length q
 mq:bH kvs u u.length q=true
theorem GoodP.snoc {a n:Hs}{u:Wd}{p:Pt}(hu:GoodW a n u)(h:GoodP a n u.length p):GoodW a n (u++[p]):=hu.snoc (m:=p.1) (ws:=p.2) h.mark h.len h.way
theorem Az {n:Hs}{ps:Hj Hs}(h:Ord n ps):Ord (n+1) (ps++[n]):=#[by
 rw[L3];exact#[h.nd,by simp,λx hx y hy e=>by
  rw[HE.mp hy]at e;have:=h.lt x hx; omega],λp hp=>by
 rcases Ig.mp hp with h1|h1
 ·have:=h.lt p h1; omega
 ·rw[HE.mp h1]; omega]
theorem Cf.part {bs:Hj Hy}{a:Hs}{kvs:Hj (T×W)}{u:Wd}{p q:Pt}{ps:Hj Hs}(hb:GoodB bs)(cl:Cl bs kvs)(h:Cf a bs.length kvs u p q)(hO:Ord u.length ps):Cf a bs.length kvs (au bs u ps) (bm p ps) (bm q ps):=by
 have pl:(au bs u ps).length=ps.length:=bx ..;have one:∀p:Pt,GoodP a bs.length u.length p->bH kvs u u.length p=true->bH kvs (au bs u ps) (au bs u ps).length (bm p ps)=true:=λp gp mp=>by
  have s1:Std kvs (u++[p]):=Std.both.mpr #[h.su,mp];have l1:(u++[p]).length=u.length+1:=by rw[Hn]; rfl
  have s2:=s1.part hb cl (gp.snoc h.gu) (ps:=ps++[u.length]) (by rw[l1]; exact Az hO)
  rw[uz hO.lt]at s2;exact(Std.both.mp s2).2
 exact#[md hb h.gu hO.lt hO.nd,h.su.part hb cl h.gu hO,by rw[pl]; exact mo h.gp hO.lt,one p h.gp h.mp,by rw[pl]; exact mo h.gq hO.lt,one q h.gq h.mq]
noncomputable def aV (kvs:Hj (T×W))(bs:Hj Hy)(u:Wd)(p q:Pt)(i:Hs):HX:=if i < bs.length then(HJ u.length).any λk=>bd kvs (iG u p q (bs.getD i 0) k)else !nT p q u.length
noncomputable def Full (kvs:Hj (T×W))(bs:Hj Hy)(c:Hs)(u:Wd)(p q:Pt):Prop:=∀i < c,aV kvs bs u p q i=true
theorem eF {kvs:Hj (T×W)}{bs:Hj Hy}{u:Wd}{p q:Pt}{i:Hs}(hi:i < bs.length):aV kvs bs u p q i=true↔∃k < u.length,bd kvs (iG u p q (bs.getD i 0) k)=true:=by
 unfold aV;rw[HY hi,Oh];exact#[λ#[k,h1,h2]=>#[k,HL.mp h1,h2],λ#[k,h1,h2]=>#[k,HL.mpr h1,h2]]
theorem xT {p q:Pt}{s:Hs}:nT p q s=false↔p.1≠q.1\/∃k < s,p.2.getD k 0≠q.2.getD k 0:=by
 unfold nT;rw[Ll,NR];constructor
 ·rintro(h|⟨k,h1,h2⟩)
  ·exact .inl (by simpa using h)
  ·exact .inr #[k,HL.mp h1,by simpa using h2]
 ·rintro(h|⟨k,h1,h2⟩)
  ·exact .inl (by simpa using h)
  ·exact .inr #[k,HL.mpr h1,by simpa using h2]
theorem gb {kvs:Hj (T×W)}{bs:Hj Hy}{u:Wd}{p q:Pt}{i:Hs}(hi:¬ i < bs.length):aV kvs bs u p q i=true↔p.1≠q.1\/∃k < u.length,p.2.getD k 0≠q.2.getD k 0:=by
 unfold aV;rw[Iy hi,Ki,xT]
theorem sG {ps:Hj Hs}{k:Hs}:(ps++[k]).getD ps.length 0=k:=by
 rw[HP,ID (HC _),KO]; rfl
theorem sH {ps:Hj Hs}{k:Hs}(h:k∈ps):∃j < ps.length,ps.getD j 0=k:=by
 obtain⟨j,hj,e⟩:=M8 h;exact#[j,hj,by rw[HP,HH hj]; exact e]
theorem xU {kvs:Hj (T×W)}{bs:Hj Hy}{u:Wd}{p q:Pt}{ps:Hj Hs}{i:Hs}(h:aV kvs bs u p q i=true)(hn:aV kvs bs (au bs u ps) (bm p ps) (bm q ps) i=false):∃k < u.length,k∉ps/\aV kvs bs (au bs u (ps++[k])) (bm p (ps++[k])) (bm q (ps++[k])) i=true:=by
 have pl:∀ps,(au bs u ps).length=ps.length:=λps=>bx ..
 have no:¬ aV kvs bs (au bs u ps) (bm p ps) (bm q ps) i=true:=by rw[hn]; exact HN
 have el:∀k,ps.length < (ps++[k]).length:=λk=>by rw[Hn,Im]; omega
 by_cases hi:i < bs.length
 ·rw[eF hi]at h no;obtain⟨k,hk,hb⟩:=h;refine#[k,hk,λz=>?_,?_]
  ·obtain⟨j,hj,e⟩:=sH z;exact no #[j,by rw[pl]; exact hj,by rw[pM hj,e]; exact hb]
  ·rw[eF hi];exact#[ps.length,by rw[pl]; exact el k,by rw[pM (el k),sG]; exact hb]
 ·rw[gb hi]at h no;rcases h with h|⟨k,hk,hb⟩
  ·exact absurd (.inl h) no
  refine#[k,hk,λz=>?_,?_]
  ·obtain⟨j,hj,e⟩:=sH z;exact no (.inr #[j,by rw[pl]; exact hj,by rw[dW hj,dW hj,e]; exact hb])
  ·rw[gb hi];exact .inr #[ps.length,by rw[pl]; exact el k,by rw[dW (el k),dW (el k),sG]; exact hb]
theorem xV {kvs:Hj (T×W)}{bs:Hj Hy}{u:Wd}{p q x:Pt}{v w:Hy}{i:Hs}(hp:p.2.length=u.length)(hq:q.2.length=u.length)(h:aV kvs bs u p q i=true):aV kvs bs (u++[x]) (p.1,p.2++[v]) (q.1,q.2++[w]) i=true:=by
 have l1:(u++[x]).length=u.length+1:=by rw[Hn]; rfl
 by_cases hi:i < bs.length
 ·rw[eF hi]at h ⊢;obtain⟨k,hk,hb⟩:=h;refine#[k,∅,?_]
  unfold iG at hb ⊢;dsimp only;rw[aE hk,aY ∅,aY ∅]
  exact hb
 ·rw[gb hi]at h ⊢;rcases h with h|⟨k,hk,hb⟩
  ·exact .inl h
  ·refine .inr #[k,∅,?_]
   dsimp only;rw[aY ∅,aY ∅]
   exact hb
noncomputable def sI (kvs:Hj (T×W))(bs:Hj Hy)(c:Hs)(u:Wd)(p q:Pt):Hs:=((HJ c).filter λi=>!aV kvs bs u p q i).length
theorem AA {c i:Hs}{f g:Hs->HX}(hi:i < c)(h:∀j,f j=true->g j=true)(h1:f i=false)(h2:g i=true):((HJ c).filter λj=>!g j).length < ((HJ c).filter λj=>!f j).length:=by
 have e:(HJ c).filter (λj=>!g j)=((HJ c).filter λj=>!f j).filter λj=>!g j:=by
  rw[List.filter_filter];refine L5 λj _=>?_
  cases hf:f j with
  | true=>rw[h j hf]; rfl
  | false=>simp
 rw[e];exact List.length_filter_lt_length_iff_exists.mpr #[i,JE.mpr #[HL.mpr hi,by rw[h1]; rfl],by rw[h2]; exact HN]
noncomputable def g6 (kvs:Hj (T×W))(v:Wd)(n:Hs)(p:Pt):Hj Pt:=((HJ n).map λ(w:Hs)=>(p.1,p.2++[(w:Hy)])).filter λh=>gF kvs (v++[h])
noncomputable def gG (kvs:Hj (T×W))(a n:Hs)(u:Wd)(p q:Pt):Hj (Wd×Pt×Pt):=(gO kvs u a n).flatMap λx=>(g6 kvs (u++[x]) n p).flatMap λh=>(g6 kvs (u++[x]) n q).map λh'=>(u++[x],h,h')
theorem nU {kvs:Hj (T×W)}{u:Wd}{x p h:Pt}{n:Hs}:h∈g6 kvs (u++[x]) n p↔∃w:Hs,w < n/\h=(p.1,p.2++[(w:Hy)])/\∀i < u.length,bT kvs (u++[x]) h i u.length=false:=by
 have l1:(u++[x]).length=u.length+1:=by rw[Hn]; rfl
 have key:∀h:Pt,gF kvs (u++[x]++[h])=true↔∀i < u.length,bT kvs (u++[x]) h i u.length=false:=λh=>by
  rw[kJ (s:=u.length) (by rw[Hn,l1]; rfl)]
  constructor <;> intro z i hi
  ·have:=z i hi;rw[<- l1,kG hi ∅]at this; exact this
  ·rw[<- l1,kG hi ∅]; exact z i hi
 unfold g6;rw[JE,key,HU];exact#[λ#[#[w,hw,e],z]=>#[w,HL.mp hw,e.symm,z],λ#[w,hw,e,z]=>#[#[w,HL.mpr hw,e.symm],z]]
theorem Bh {kvs:Hj (T×W)}{u:Wd}{x p h:Pt}{a n:Hs}(gp:GoodP a n u.length p)(mp:bH kvs u u.length p=true)(hh:h∈g6 kvs (u++[x]) n p):GoodP a n (u++[x]).length h/\bH kvs (u++[x]) (u++[x]).length h=true:=by
 have l1:(u++[x]).length=u.length+1:=by rw[Hn]; rfl
 obtain⟨w,hw,rfl,hb⟩:=nU.mp hh;have gl:=gp.len;refine#[#[gp.mark,?_,λz hz=>?_],bq.mpr λq hq i hi=>?_]
 ·rw[l1,Hn,gl]; rfl
 ·rcases Ig.mp hz with z1|z1
  ·exact gp.way z z1
  ·rw[HE.mp z1]; omega
 ·by_cases e:q=u.length
  ·subst e; exact hb i hi
  ·have hq':q < u.length:=∅
   have:=bq.mp mp q hq' i hi;unfold bT at this ⊢;dsimp only;rw[aE (JY hi hq'),aE hq',aY ∅,aY ∅]
   exact this
theorem AB {bs:Hj Hy}{kvs:Hj (T×W)}{u:Wd}{p q:Pt}{a n:Hs}{c:Wd×Pt×Pt}(h:Cf a n kvs u p q)(hc:c∈gG kvs a n u p q):Cf a n kvs c.1 c.2.1 c.2.2/\c.1.length=u.length+1/\∀i,aV kvs bs u p q i=true->aV kvs bs c.1 c.2.1 c.2.2 i=true:=by
 unfold gG at hc;obtain⟨x,hx,hc⟩:=Jc.mp hc;obtain⟨h1,hh1,hc⟩:=Jc.mp hc;obtain⟨h2,hh2,rfl⟩:=HU.mp hc;obtain⟨g1,g2,g3,g4⟩:=kI.mp hx;obtain⟨p1,p2⟩:=Bh h.gp h.mp hh1;obtain⟨q1,q2⟩:=Bh h.gq h.mq hh2;refine#[#[h.gu.snoc (m:=x.1) (ws:=x.2) g1 g2 g3,Std.both.mpr #[h.su,bq.mpr λj hj i hi=>g4 i j hi hj],p1,p2,q1,q2],by rw[Hn]; rfl,λi hi=>?_]
 obtain⟨w1,_,rfl,_⟩:=nU.mp hh1;obtain⟨w2,_,rfl,_⟩:=nU.mp hh2;exact xV h.gp.len h.gq.len hi
theorem uA {p:Pt}{ps:Hj Hs}{k:Hs}:bm p (ps++[k])=((bm p ps).1,(bm p ps).2++[p.2.getD k 0]):=by
 unfold bm;rw[HV]; rfl
theorem xW {bs:Hj Hy}{kvs:Hj (T×W)}{u:Wd}{p q:Pt}{a:Hs}{ps:Hj Hs}{k:Hs}(hb:GoodB bs)(cl:Cl bs kvs)(h:Cf a bs.length kvs u p q)(hO:Ord u.length (ps++[k])):(au bs u (ps++[k]),bm p (ps++[k]),bm q (ps++[k]))∈gG kvs a bs.length (au bs u ps) (bm p ps) (bm q ps):=by
 have C:=h.part hb cl hO;have hk:k < u.length:=hO.lt k (by simp)
 rw[l5]at C ⊢;generalize sE bs u ps k=x at C;generalize au bs u ps=v at C;have l1:(v++[x]).length=v.length+1:=by rw[Hn]; rfl
 have hx:(v++[x])[v.length]?=gV x:=by rw[ID (HC _),KO]; rfl
 obtain⟨_,mx⟩:=Std.both.mp C.su;have one:∀r:Pt,GoodP a bs.length u.length r->bH kvs (v++[x]) (v++[x]).length (bm r (ps++[k]))=true->bm r (ps++[k])∈g6 kvs (v++[x]) bs.length (bm r ps):=λr gr mr=>by
  obtain⟨w0,w1⟩:=gr.way _ (HF (aq (d:=0) (by rw[gr.len]; exact hk)))
  refine nU.mpr #[(r.2.getD k 0).toNat,∅,?_,λi hi=>bq.mp mr v.length ∅ i hi]
  rw[uA,Kr w0]
 unfold gG;refine Jc.mpr #[x,kI.mpr #[C.gu.mark _ _ hx,C.gu.len _ _ hx,C.gu.way _ _ hx,λi j hi hj=>bq.mp mx j hj i hi],Jc.mpr #[_,one p h.gp C.mp,HU.mpr #[_,one q h.gq C.mq,rfl]]]
noncomputable def Sub (bs:Hj Hy)(U:Wd)(P Q:Pt)(u:Wd)(p q:Pt):Prop:=∃ps,Ord U.length ps/\u=au bs U ps/\p=bm P ps/\q=bm Q ps
noncomputable def gd (a:Hs)(bs:Hj Hy)(kvs:Hj (T×W))(c:Hs)(u:Wd)(p q:Pt):Prop:=∀U P Q,Cf a bs.length kvs U P Q->Full kvs bs c U P Q->¬ Sub bs U P Q u p q
theorem Da {bs:Hj Hy}{kvs:Hj (T×W)}{u:Wd}{p q:Pt}{a c i:Hs}(hb:GoodB bs)(cl:Cl bs kvs)(hi:i < c)(hn:aV kvs bs u p q i=false)(h:∀x∈gG kvs a bs.length u p q,aV kvs bs x.1 x.2.1 x.2.2 i=true->gd a bs kvs c x.1 x.2.1 x.2.2):gd a bs kvs c u p q:=by
 rintro U P Q hC hF ⟨ps,hO,rfl,rfl,rfl⟩;obtain⟨k,hk,hkp,hh⟩:=xU (hF i hi) hn;have hO':Ord U.length (ps++[k]):=#[by
  rw[L3];exact#[hO.nd,by simp,λx hx y hy e=>by rw[HE.mp hy]at e; exact hkp (e ▸ hx)],λx hx=>by
  rcases Ig.mp hx with h1|h1
  ·exact hO.lt x h1
  ·rw[HE.mp h1]; exact hk]
 exact h _ (xW hb cl hC hO') hh U P Q hC hF #[_,hO',rfl,rfl,rfl]
theorem uB {bs:Hj Hy}{u:Wd}{one other:Pt}{b:Hy}{p:Hs}:au bs (iG u one other b p) [0,2,1]=iG u other one (bs.getD b.toNat 0) p:=rfl
theorem Full.turn {bs:Hj Hy}{kvs:Hj (T×W)}{u:Wd}{p q:Pt}{c:Hs}(hb:GoodB bs)(cl:Cl bs kvs)(hc:bs.length<=c)(h:Full kvs bs c u p q):Full kvs bs c u q p:=by
 intro i hi
 by_cases hn:i < bs.length
 ·obtain⟨b,hb1,hb2,hb3⟩:=hb.rng i hn;have hj:(bs.getD i 0).toNat < bs.length:=by rw[getD_some hb1]; omega
  obtain⟨k,hk,hh⟩:=(eF hj).mp (h _ (Ij hj hc));rw[hb.inv i hn]at hh;refine(eF hn).mpr #[k,hk,?_];have:=cl _ [0,2,1] #v[] hh
  rw[uB,HI]at this;exact this
 ·refine(gb hn).mpr ?_;rcases(gb hn).mp (h i hi)with z|⟨k,hk,z⟩
  ·exact .inl λe=>z e.symm
  ·exact .inr #[k,hk,λe=>z e.symm]
theorem Cf.turn {a n:Hs}{kvs:Hj (T×W)}{u:Wd}{p q:Pt}(h:Cf a n kvs u p q):Cf a n kvs u q p:=#[h.gu,h.su,h.gq,h.mq,h.gp,h.mp]
theorem AC {bs:Hj Hy}{U:Wd}{P Q:Pt}:Sub bs U P Q [] (P.1,[]) (Q.1,[]):=#[[],#[.nil,λ_ h=>nomatch h],rfl,rfl,rfl]
noncomputable def GF (a:Hs)(bs:Hj Hy)(kvs:Hj (T×W))(c:Hs):Prop:=∃U P Q,Cf a bs.length kvs U P Q/\Full kvs bs c U P Q
theorem E7 {bs:Hj Hy}{kvs:Hj (T×W)}{a c:Hs}(hb:GoodB bs)(cl:Cl bs kvs)(hc:bs.length<=c)(h:∀i j:Hs,i < a->i<=j->j < a->gd a bs kvs c [] ((i:Hy),[]) ((j:Hy),[])):¬ GF a bs kvs c:=by
 rintro⟨U,P,Q,hC,hF⟩;have go:∀P Q:Pt,Cf a bs.length kvs U P Q->Full kvs bs c U P Q->P.1<=Q.1->IY:=λP Q hC hF hle=>by
  obtain⟨p0,p1⟩:=hC.gp.mark;obtain⟨q0,q1⟩:=hC.gq.mark;have:=h P.1.toNat Q.1.toNat ∅ ∅ ∅ U P Q hC hF
  rw[Kr p0,Kr q0]at this;exact this AC
 rcases Int.le_total P.1 Q.1 with hle|hle
 ·exact go P Q hC hF hle
 ·exact go Q P hC.turn (hF.turn hb cl hc) hle
noncomputable def bE:Ss:=
 #v[.set 4 (.comp (.tup #v[.ix (.v 2) (.c (.int 0)),.op .add (.ix (.v 2) (.c (.int 1))) (.tup #v[.v 1])]) (.nm 1) (.rng #v[.bi .len #v[.ix (.v 0) (.c (.int 1))]]) .nil [td,td,gV 3]),.ret (.comp (.v 1) (.nm 1) (.seq (.v 4)) #v[.cmp .is (.own "first_bar" 2 #v[.v 2,.op .add (.v 3) (.tup #v[.v 1])]) (.c .non)] [td,td,gV 1,gV 2])]
noncomputable def bJ:Ss:=
 #v[.set 3 (.lst .nil),.loop (.nm 4) (.seq (.own "wishes_over" 3 #v[.v 0,.v 1,.ix (.v 2) (.c (.int 0))])) #v[.set 5 (.op .add (.ix (.v 2) (.c (.int 0))) (.tup #v[.v 4])),.set 6 (.own "longer_by_a_way" 4 #v[.v 0,.v 1,.v 5,.ix (.v 2) (.c (.int 2))]),.loop (.nm 7) (.seq (.own "longer_by_a_way" 4 #v[.v 0,.v 1,.v 5,.ix (.v 2) (.c (.int 1))])) #v[.ex (.me .extend (.v 3) #v[.comp (.tup #v[.v 2,.v 3,.v 1]) (.nm 1) (.seq (.v 6)) .nil [td,td,gV 5,gV 7]])]],.ret (.v 3)]
noncomputable def cW (c:Wd×Pt×Pt):W:=.tup [am c.1,ap c.2.1,ap c.2.2]
theorem nV {kvs:Hj (T×W)}{v:Wd}{n:Hs}{p:Pt}:(g6 kvs v n p).length<=n:=by
 unfold g6;exact Ih (Jt _ _) (by rw[Hk,Ii]; exact HC _)
theorem iI {α β:Type}{m:Hs}{F:α->Hj β}(h:∀x,(F x).length<=m):∀xs:Hj α,(xs.flatMap F).length<=xs.length*m
 | []=>by simp
 | x::xs=>by
  rw[Je,Hn,Iz,Nat.add_mul,Nat.one_mul];have:=iI h xs;have:=h x;omega
theorem xX {kvs:Hj (T×W)}{u:Wd}{a n:Hs}(ha:a<=3)(hn:n<=3)(hu:u.length<=3):(gO kvs u a n).length<=81:=by
 have h1:n ^ u.length<=27:=Ih (M7 hn _) (MV (n:=3) #v[] hu)
 have:=iI (F:=λ(m:Hs)=>ce kvs u n (m:Hy) u.length) (λm=>Ih (eT u.length) h1) (HJ a)
 rw[Ii]at this;exact Ih this ∅
section
variable{defs:Hj (HM×Df)}{fuel d:Hs}{S:aa}{Q:QW}
theorem xY (h3:Is defs ("three_at" : HM) 4 6 aX)(hfb:Is defs ("first_bar" : HM) 2 4 aU)(hg:Is defs ("longer_by_a_way" : HM) 4 5 bE){m0 b0:W}{N:Hj W}{a n q:Hs}{v:Wd}{p:Pt}{kvs:Hj (T×W)}(hN:N.length=n)(hn3:n<=3)(hv:GoodW a n v)(hv1:1<=v.length)(hvl:v.length<=10)(hp0:0<=p.1/\p.1 < a)(hpl:p.2.length+1=v.length)(hpw:∀w∈p.2,0<=w/\w < (n:Hy))(e:S[q]?=gV (.dic kvs))
  (k:∀(l:Hs) S',S'[l]?=gV (.lst ((g6 kvs v n p).map ap))->S.length<=l->Ka S S'->Q (.ref l,S')) :
  wO (aC (ak defs fuel (d+3)) "longer_by_a_way" 4 [.tup [m0,.tup N,b0],.ref q,am v,ap p] S) Q:=by
 refine al hg rfl rfl λQ' hR=>?_
 replace k:∀(l:Hs) S',S'[l]?=gV (.lst ((g6 kvs v n p).map ap))->S.length<=l->Ka S S'->Q' (.rt (.ref l),S'):=λl S' a b c=>hR _ _ (k l S' a b c)
 clear hR;show wZ _ _ bE [gV (.tup [m0,.tup N,b0]),gV (.ref q),gV (am v),gV (ap p),td] S Q';dsimp only[bE];refine st ?_;dsimp only[wS,wE,Hz];refine nQ n (λ_=>true) (λ(w:Hs)=>ap (p.1,p.2++[(w:Hy)])) [gV (ap p)] rfl rfl rfl rfl ∅ ?_ (λw hw S2 k2=>?_) λS2 k2=>?_
 ·dsimp only[wE,wA,wV,wG];refine ae #v[] rfl (ay ?_)
  rw[hN];exact#[rfl,.refl]
 ·dsimp only[fW,wC,wE,wA,wV,wG];refine#[λ_=>?_,λz=>by cases z]
  refine ae #v[] rfl (ae #v[] rfl ?_)
  refine ab (bL (ef (by rw[Hn,Hk]; show _+1<=_; omega))) ?_
  refine#[rfl,?_,.refl];unfold ap;dsimp only;rw[HV]; rfl
 ·rw[c9];refine st ?_;dsimp only[wS,wE];have em:((HJ n).map λ(w:Hs)=>ap (p.1,p.2++[(w:Hy)]))=(((HJ n).map λ(w:Hs)=>((p.1,p.2++[(w:Hy)]):Pt)).map ap):=by rw[J0]; rfl
  rw[em];refine qD ((HJ n).map λ(w:Hs)=>((p.1,p.2++[(w:Hy)]):Pt)) ap (λh=>gF kvs (v++[h])) ap [gV (.ref q),gV (am v)] rfl rfl rfl rfl (by rw[Hk,Ii]; omega) #[_,rfl,aj,.refl] (λh hh S3 k3=>?_) λS3 k3=>?_
  ·obtain⟨w,hw,rfl⟩:=HU.mp hh;have hw:=HL.mp hw;have gv:GoodW a n (v++[(p.1,p.2++[(w:Hy)])]):=hv.snoc hp0 (by rw[Hn]; exact hpl) λx hx=>by
    rcases Ig.mp hx with z|z
    ·exact hpw x z
    ·rw[HE.mp z]; omega
   generalize((p.1,p.2++[(w:Hy)]):Pt)=h at gv;have vl:(v++[h]).length=v.length+1:=by rw[Hn]; rfl
   dsimp only[fW,wC,wT,wE,wA,wV,wG,am];have ev:v.map ap++[ap h]=(v++[h]).map ap:=by rw[HV]; rfl
   refine ab (bL (ef (by rw[ev,Hk]; omega))) ?_
   dsimp only;rw[ev];have fb:=λ(Q:QW)=>jm (fuel:=fuel) (d:=d) (Q:=Q) h3 hfb gv ∅ ∅ ((k2.trans (Ka.push.trans k3)).get _ _ e)
   unfold am at fb;refine fb _ λz hz=>?_
   rcases hz with⟨rfl,hz⟩|⟨i,rfl,hz⟩
   ·refine ab (show aK .is .non .non S3=gV (.bl true,S3)from rfl) ?_
    dsimp only[wB];exact#[λ_=>#[hz,rfl,.refl],λz=>by cases z]
   ·refine ab (show aK .is (.int i) .non S3=gV (.bl false,S3)from rfl) ?_
    dsimp only[wB];exact#[λz=>(by cases z),λ_=>#[hz,.refl]]
  ·refine k _ _ aj ?_ ((k2.trans (Ka.push.trans k3)).trans .push);have:=(k2.trans (Ka.push.trans k3)).len;exact this
structure Sea (defs:Hj (HM×Df)):Prop where
 three:Is defs ("three_at" : HM) 4 6 aX
 fbar:Is defs ("first_bar" : HM) 2 4 aU
 lwish:Is defs ("longer_wishes" : HM) 2 5 bA
 wover:Is defs ("wishes_over" : HM) 3 7 cy
 byway:Is defs ("longer_by_a_way" : HM) 4 5 bE
 bypt:Is defs ("longer_by_a_point" : HM) 3 8 bJ
theorem qR (X:Sea defs){M N:Hj W}{b0:W}{a n q:Hs}{u:Wd}{p r:Pt}{kvs:Hj (T×W)}(hM:M.length=a)(hN:N.length=n)(ha3:a<=3)(hn3:n<=3)(hC:Cf a n kvs u p r)(hul:u.length<=3)(e:S[q]?=gV (.dic kvs))
  (k:∀(l:Hs) S',S'[l]?=gV (.lst ((gG kvs a n u p r).map cW))->S.length<=l->Ka S S'->Q (.ref l,S')) :
  wO (aC (ak defs fuel (d+4)) "longer_by_a_point" 3 [.tup [.tup M,.tup N,b0],.ref q,.tup [am u,ap p,ap r]] S) Q:=by
 refine al X.bypt rfl rfl λQ' hR=>?_
 replace k:∀(l:Hs) S',S'[l]?=gV (.lst ((gG kvs a n u p r).map cW))->S.length<=l->Ka S S'->Q' (.rt (.ref l),S'):=λl S' a b c=>hR _ _ (k l S' a b c)
 clear hR;show wZ _ _ bJ [gV (.tup [.tup M,.tup N,b0]),gV (.ref q),gV (.tup [am u,ap p,ap r]),td,td,td,td,td] S Q';have wl:=xX (kvs:=kvs) (u:=u) ha3 hn3 hul;have ww:=λ(S:aa) (Q:QW) e=>ll (defs:=defs) (fuel:=fuel) (d:=d) (S:=S) (Q:=Q) (M:=M) (N:=N) (b0:=b0) (q:=q) X.three X.fbar X.lwish X.wover hM hN ha3 hn3 hC.gu (Ih hul #v[]) (kvs:=kvs) e
 have bw:=λ(v:Wd) (p:Pt) (S:aa) (Q:QW) hv hv1 hvl hp0 hpl hpw e=>xY (defs:=defs) (fuel:=fuel) (d:=d) (S:=S) (Q:=Q) (m0:=.tup M) (N:=N) (b0:=b0) (q:=q) (a:=a) (n:=n) (kvs:=kvs) (v:=v) (p:=p) X.three X.fbar X.byway hN hn3 hv hv1 hvl hp0 hpl hpw e
 generalize W.tup [.tup M,.tup N,b0]=R at ww bw;have hF:∀x:Pt,((g6 kvs (u++[x]) n p).flatMap λh=>(g6 kvs (u++[x]) n r).map λh'=>(u++[x],h,h')).length<=9:=λx=>by
  have h1:=iI (F:=λh=>(g6 kvs (u++[x]) n r).map λh'=>(u++[x],h,h')) (m:=3) (λh=>by rw[Hk]; exact Ih nV hn3) (g6 kvs (u++[x]) n p)
  have h2:=nV (kvs:=kvs) (v:=u++[x]) (n:=n) (p:=p);omega
 unfold gG at k;generalize hwF:gO kvs u a n=ws at k wl ww;dsimp only[bJ];refine st ?_;dsimp only[wS,wE,wA,Hz];refine aF λK hK=>?_
 refine c8 rfl rfl ?_;dsimp only[wE,wA,wV,wG];refine ae #v[] rfl (ww _ _ (ar e) λt S2 e2 ht k2=>?_)
 have hSt:S.length < t:=by
  have h1:(S++[O.lst []]).length=S.length+1:=by simp
  have h2:(S++[O.lst []]).length<=t:=ht;omega
 refine#[t,ws.map ap,λi ρ S'=>(∃a4 a5 a6 a7,ρ=[gV R,gV (.ref q),gV (.tup [am u,ap p,ap r]),gV (.ref S.length),a4,a5,a6,a7])/\S'[S.length]?=gV (.lst (((ws.take i).flatMap λx=>(g6 kvs (u++[x]) n p).flatMap λh=>(g6 kvs (u++[x]) n r).map λh'=>(u++[x],h,h')).map cW))/\S'[t]?=gV (.lst (ws.map ap))/\Ka S S',rfl,#[#[_,_,_,_,rfl],k2.get _ _ aj,e2,Ka.push.trans k2],λ_ _ _ h=>h.2.2.1,?_,?_]
 ·rintro i w ρ S3 hw ⟨⟨a4,a5,a6,a7,rfl⟩,e3,t3,k3⟩;clear hK;rw[Ht,Ho]at hw;obtain⟨x,hx,rfl⟩:=hw;have hxm:=HF hx;rw[<- hwF]at hxm;obtain⟨g1,g2,g3,_⟩:=kI.mp hxm;have gv:GoodW a n (u++[x]):=hC.gu.snoc (m:=x.1) (ws:=x.2) g1 g2 g3;have vl:(u++[x]).length=u.length+1:=by rw[Hn]; rfl
  have hil:i < ws.length:=(HG.mp hx).1;refine ab (show eJ (.nm 4) (ap x) [gV R,gV (.ref q),gV (.tup [am u,ap p,ap r]),gV (.ref S.length),a4,a5,a6,a7] S3=gV ([gV R,gV (.ref q),gV (.tup [am u,ap p,ap r]),gV (.ref S.length),gV (ap x),a5,a6,a7],S3)from rfl) ?_
  intro Q3 hn _;refine st ?_;dsimp only[wS,wE,wA,wV,wG,Hz];refine ae #v[] rfl ?_
  dsimp only[am];have ev:u.map ap++[ap x]=(u++[x]).map ap:=by rw[HV]; rfl
  refine ab (bL (ef (by rw[ev,Hk]; omega))) ?_
  dsimp only;rw[ev];have hs:∀xs:Wd,W.tup (xs.map ap)=am xs:=λ_=>rfl
  rw[hs,hs];refine st ?_;dsimp only[wS,wE,wA,wV,wG,Hz];refine ae #v[] rfl (bw (u++[x]) r _ _ gv ∅ ∅ hC.gq.mark (by rw[hC.gq.len,vl]) hC.gq.way (k3.get _ _ e) λt6 S4 e6 ht6 k4=>?_)
  have t4:=k4.get _ _ t3;have e4:=k4.get _ _ e3;have hS3:=b7 t3;refine aF λK hK=>?_
  refine c8 rfl rfl ?_;dsimp only[wE,wA,wV,wG];refine ae #v[] rfl (bw (u++[x]) p _ _ gv ∅ ∅ hC.gp.mark (by rw[hC.gp.len,vl]) hC.gp.way ((k3.trans k4).get _ _ e) λt7 S5 e7 ht7 k5=>?_)
  have lp:=nV (kvs:=kvs) (v:=u++[x]) (n:=n) (p:=p);have lr:=nV (kvs:=kvs) (v:=u++[x]) (n:=n) (p:=r);have hF':=hF x;have eD:ws.take (i+1)=ws.take i++[x]:=by rw[IB,hx]; rfl
  have fl:=iI (F:=λx=>(g6 kvs (u++[x]) n p).flatMap λh=>(g6 kvs (u++[x]) n r).map λh'=>(u++[x],h,h')) hF (ws.take i)
  rw[Ic]at fl;have h46:=b7 e6;have h4:S.length < t6:=by have:S3.length<=t6:=ht6; omega
  have h7:S.length < t7:=by have:S4.length<=t7:=ht7; have:=k4.len; omega
  refine#[t7,(g6 kvs (u++[x]) n p).map ap,λj ρ S'=>(∃a7,ρ=[gV R,gV (.ref q),gV (.tup [am u,ap p,ap r]),gV (.ref S.length),gV (ap x),gV (am (u++[x])),gV (.ref t6),a7])/\S'[S.length]?=gV (.lst (((ws.take i).flatMap (λx=>(g6 kvs (u++[x]) n p).flatMap λh=>(g6 kvs (u++[x]) n r).map λh'=>(u++[x],h,h'))++((g6 kvs (u++[x]) n p).take j).flatMap λh=>(g6 kvs (u++[x]) n r).map λh'=>(u++[x],h,h')).map cW))/\S'[t7]?=gV (.lst ((g6 kvs (u++[x]) n p).map ap))/\S'[t6]?=gV (.lst ((g6 kvs (u++[x]) n r).map ap))/\S'[t]?=gV (.lst (ws.map ap))/\Ka S S',rfl,#[#[_,rfl],by rw[MU,Oe,Jo]; exact k5.get _ _ e4,e7,k5.get _ _ e6,k5.get _ _ t4,(k3.trans k4).trans k5],λ_ _ _ h=>h.2.2.1,?_,?_]
  ·rintro j w ρ S6 hw ⟨⟨a7,rfl⟩,e8,f7,f6,ft,k8⟩;clear hK hn;rw[Ht,Ho]at hw;obtain⟨h,hh,rfl⟩:=hw;have hjl:j < (g6 kvs (u++[x]) n p).length:=(HG.mp hh).1;refine ab (show eJ (.nm 7) (ap h) [gV R,gV (.ref q),gV (.tup [am u,ap p,ap r]),gV (.ref S.length),gV (ap x),gV (am (u++[x])),gV (.ref t6),a7] S6=gV ([gV R,gV (.ref q),gV (.tup [am u,ap p,ap r]),gV (.ref S.length),gV (ap x),gV (am (u++[x])),gV (.ref t6),gV (ap h)],S6)from rfl) ?_
   intro Q4 hn4 _;refine st ?_;dsimp only[wS,wE,wA,wV,wG];refine#[dE e8,?_];refine qD (g6 kvs (u++[x]) n r) ap (λ_=>true) (λh'=>cW (u++[x],h,h')) [gV (am (u++[x])),gV (ap h)] rfl rfl rfl rfl ∅ #[t6,rfl,f6,.refl] (λh' _ S7 k7=>?_) λS7 k7=>?_
   ·dsimp only[fW,wC,wE,wA,wV,wG];exact#[λ_=>#[rfl,rfl,.refl],λz=>by cases z]
   ·rw[c9];have kk:=k7.trans (Ka.push (o:=O.lst ((g6 kvs (u++[x]) n r).map λh'=>cW (u++[x],h,h'))))
    have gl:=iI (F:=λh=>(g6 kvs (u++[x]) n r).map λh'=>(u++[x],h,h')) (m:=3) (λh=>by rw[Hk]; omega) ((g6 kvs (u++[x]) n p).take j)
    rw[Ic]at gl;refine EZ (kk.get _ _ e8) aj ?_ (aL (hn4 _ _ #[#[_,rfl],?_,?_,?_,?_,(k8.trans kk).late (HC _)]))
    ·rw[Hk,Hn,Hk];omega
    ·rw[bG (kk.get _ _ e8),IB,hh];simp[JV,HV,cW,L0]
    ·rw[bh ∅]; exact kk.get _ _ f7
    ·rw[bh ∅]; exact kk.get _ _ f6
    ·rw[bh ∅]; exact kk.get _ _ ft
  ·rintro ρ S6 ⟨⟨a7,rfl⟩,e8,f7,f6,ft,k8⟩;rw[Hk,IH]at e8;refine hK _ _ (aL (hn _ _ #[#[_,_,_,_,rfl],?_,ft,k8]));rw[eD,JV,List.flatMap_singleton];exact e8
 ·rintro ρ S3 ⟨⟨a4,a5,a6,a7,rfl⟩,e3,t3,k3⟩;rw[Hk,IH]at e3;refine hK _ _ (st ?_);dsimp only[wS,wE,wV,wG];exact k _ _ e3 (HC _) k3
end
noncomputable def bF:Ss:=
 #v[.set 4 (.sl (.own "all_bars" 5 #v[.v 0,.v 1,.ix (.v 2) (.c (.int 0)),.ix (.v 2) (.c (.int 1)),.ix (.v 2) (.c (.int 2))]) .no (.yes (.v 3))),.ite (.cmp .notin (.c .non) (.v 4)) #v[.ret (.v 2)] .nil,.set 5 (.me .index (.v 4) #v[.c .non]),.loop (.nm 6) (.seq (.own "longer_by_a_point" 3 #v[.v 0,.v 1,.v 2])) #v[.ite (.cmp .isnot (.ix (.own "all_bars" 5 #v[.v 0,.v 1,.ix (.v 6) (.c (.int 0)),.ix (.v 6) (.c (.int 1)),.ix (.v 6) (.c (.int 2))]) (.v 5)) (.c .non)) #v[.set 7 (.own "unfilled_behind" 4 #v[.v 0,.v 1,.v 6,.v 3]),.ite (.cmp .isnot (.v 7) (.c .non)) #v[.ret (.v 7)] .nil] .nil],.ret (.c .non)]
noncomputable def cj:Ss:=
 #v[.set 2 (.own "barred_threes" 1 #v[.v 0]),.loop (.nm 3) (.rng #v[.bi .len #v[.ix (.v 0) (.c (.int 0))]]) #v[.loop (.nm 4) (.rng2 #v[.v 3,.bi .len #v[.ix (.v 0) (.c (.int 0))]]) #v[.set 5 (.own "unfilled_behind" 4 #v[.v 0,.v 2,.tup #v[.tup .nil,.tup #v[.v 3,.tup .nil],.tup #v[.v 4,.tup .nil]],.v 1]),.ite (.cmp .isnot (.v 5) (.c .non)) #v[.ret (.v 5)] .nil]],.ret (.c .non)]
noncomputable def iJ:Ss:=
 #v[.ret (.own "first_unfilled" 2 #v[.v 0,.op .add (.bi .len #v[.ix (.v 0) (.c (.int 1))]) (.c (.int 1))])]
noncomputable def gf:Ss:=
 #v[.ret (.own "first_unfilled" 2 #v[.v 0,.bi .len #v[.ix (.v 0) (.c (.int 1))]])]
theorem kM {kvs:Hj (T×W)}{bs:Hj Hy}{a k:Hs}{u:Wd}{p q:Pt}{i:Hs}(h1:GoodP a k u.length p)(h2:GoodP a k u.length q)(hi:i<=bs.length):∃w,(da (λv p=>bv kvs v p u.length (u.length+1)) bs u p q)[i]?=gV w/\NI w/\E3 w = !aV kvs bs u p q i:=by
 by_cases hn:i < bs.length
 ·refine#[bY (λk=>bv kvs (cR bs u p q i) k u.length (u.length+1)) u.length,?_,jn _ _,?_]
  ·unfold da;rw[Il (by rw[Hk,Ii]; exact hn),Ht,JU hn]; rfl
  ·unfold aV;rw[HY hn,mj,List.not_any_eq_all_not];rw[Ke,HS,HS];have key:∀k∈HJ u.length,bv kvs (cR bs u p q i) k u.length (u.length+1)=bd kvs (iG u p q (bs.getD i 0) k):=λk hk=>by
    unfold bv bd;rw[qO h1 h2 (HL.mp hk)]
   exact#[λh k hk=>by rw[<- key k hk]; exact h k hk,λh k hk=>by rw[key k hk]; exact h k hk]
 ·obtain rfl:i=bs.length:=∅
  refine#[iF p q,?_,qK _ _,?_]
  ·unfold da;rw[ID (by rw[Hk,Ii]; exact HC _),Hk,Ii,KO]; rfl
  ·unfold aV;rw[Iy hn,NX];unfold iF nT
   by_cases e:p.1=q.1
   ·rw[HY e,mj,h1.len,e,IS,K1];congr 1
    funext p
    rw[NX]
   ·rw[Iy e,show(p.1==q.1)=false by simpa using e]; rfl
theorem nW {w:W}(h:NI w):mO w .non=E3 w:=by
 rcases h with rfl|⟨i,rfl⟩ <;> rfl
theorem mw {Y:Hj W}{c:Hs}{f:Hs->HX}(hl:Y.length=c)(h:∀i < c,∃w,Y[i]?=gV w/\NI w/\E3 w = !f i):(∀w∈Y,NI w)/\(((Y.any λz=>mO z .non)=false/\∀i < c,f i=true)\/∃i < c,(Y.any λz=>mO z .non)=true/\(Y.findIdx? λz=>mO z .non)=gV i/\f i=false/\∀j < i,f j=true):=by
 have ni:∀w∈Y,NI w:=λw hw=>by
  obtain⟨i,hi,e⟩:=M8 hw;obtain⟨w',h1,h2,_⟩:=h i ∅
  rw[HH hi,e]at h1;cases h1; exact h2
 refine#[ni,?_];cases hf:Y.findIdx? λz=>mO z .non with
 | none=>
  rw[List.findIdx?_eq_none_iff]at hf;refine .inl #[NW.mpr λx hx=>by rw[hf x hx]; exact HN,λi hi=>?_]
  obtain⟨w,h1,h2,h3⟩:=h i hi;have:=hf w (HF h1);rw[nW h2,h3]at this
  simpa using this
 | some i=>
  obtain⟨hi,h1,h0⟩:=J8.mp hf;obtain⟨w,h2,h3,h4⟩:=h i ∅
  rw[HH hi]at h2;cases h2;rw[nW h3,h4]at h1;refine .inr #[i,∅,Oh.mpr #[_,IT hi,by rw[nW h3,h4]; exact h1],rfl,by simpa using h1,λj hj=>?_]
  obtain⟨w,w2,w3,w4⟩:=h j ∅
  have:=h0 j hj;rw[HH ∅]at w2
  cases w2;rw[nW w3,w4]at this
  simpa using this
theorem sJ {Y:Hj W}(h:∀w∈Y,NI w):Y.all bC=true:=HS.mpr λw hw=>by
 rcases h w hw with rfl|⟨i,rfl⟩ <;> rfl
theorem pO {S:aa}{Y:Hj W}(h:∀w∈Y,NI w):aK .notin .non (.tup Y) S=gV (.bl (!(Y.any λz=>mO z .non)),S):=by
 have hf:(bC .non&&Y.all bC)=true:=by rw[sJ h]; rfl
 simp only[aK,dI,uH,zb,eN,hf,Kq,Iv]
theorem xZ {S:aa}{w:W}(h:NI w):aK .isnot w .non S=gV (.bl (!E3 w),S):=by
 rcases h with rfl|⟨i,rfl⟩ <;> rfl
theorem AD {S:aa}{Y:Hj W}{i:Hs}{Q:QW}(h:∀w∈Y,NI w)(hi:(Y.findIdx? λz=>mO z .non)=gV i)(q:Q (.int (i:Hy),S)):wO (Me.index.fn (.tup Y) [.non] S) Q:=by
 refine ab ?_ q;show ic (.tup Y) [.non] S=_;simp only[ic,sJ h,Kq,hi,Iv]
noncomputable def dk (kvs:Hj (T×W))(bs:Hj Hy)(a c:Hs):Hs->Wd×Pt×Pt->Hr (Wd×Pt×Pt)
 | 0,x=>match (HJ c).find? λi=>!aV kvs bs x.1 x.2.1 x.2.2 i with
  | none=>gV x
  | some _=>td
 | m+1,x=>match (HJ c).find? λi=>!aV kvs bs x.1 x.2.1 x.2.2 i with
  | none=>gV x
  | some i=>(gG kvs a bs.length x.1 x.2.1 x.2.2).findSome? λy=>if aV kvs bs y.1 y.2.1 y.2.2 i then dk kvs bs a c m y else td
noncomputable def E8:Hr (Wd×Pt×Pt)->W
 | none=>.non
 | some x=>cW x
theorem pP {kvs:Hj (T×W)}{bs:Hj Hy}{a c m:Hs}{u:Wd}{p r:Pt}(h:∀i < c,aV kvs bs u p r i=true):dk kvs bs a c m (u,p,r)=gV (u,p,r):=by
 have e:((HJ c).find? λi=>!aV kvs bs u p r i)=td:=J6.mpr λi hi=>by rw[h i (HL.mp hi)]; exact HN
 cases m <;> (unfold dk; dsimp only; rw[e])
theorem ya {kvs:Hj (T×W)}{bs:Hj Hy}{a c m i:Hs}{u:Wd}{p r:Pt}(hi:i < c)(h:aV kvs bs u p r i=false)(h0:∀j < i,aV kvs bs u p r j=true):dk kvs bs a c (m+1) (u,p,r)=(gG kvs a bs.length u p r).findSome? λy=>if aV kvs bs y.1 y.2.1 y.2.2 i then dk kvs bs a c m y else td:=by
 have e:((HJ c).find? λi=>!aV kvs bs u p r i)=gV i:=gZ (P:=λi=>!aV kvs bs u p r i) hi (by rw[h]; rfl) λj hj=>by rw[h0 j hj]; rfl
 rw[dk];dsimp only;rw[e]
theorem AE {α β:Type}{L:Hj α}{G:α->Hr β}{j:Hs}{x:α}{z:β}(hx:L[j]?=gV x)(h0:∀y∈L.take j,G y=td)(h1:G x=gV z):L.findSome? G=gV z:=by
 obtain⟨hj,e⟩:=HG.mp hx;have:L=L.take j++x::L.drop (j+1):=by
  conv=>lhs; rw[<- KD j L]
  rw[List.drop_eq_getElem_cons hj,e]
 rw[this,List.findSome?_append,LP.mpr h0,List.findSome?_cons,h1]; rfl
noncomputable def GX (a:Hs)(bs:Hj Hy)(kvs:Hj (T×W))(c:Hs)(u:Wd)(p q:Pt)(w:W):Prop:=(w=.non/\gd a bs kvs c u p q)\/∃x:Wd×Pt×Pt,w=cW x/\Cf a bs.length kvs x.1 x.2.1 x.2.2/\Full kvs bs c x.1 x.2.1 x.2.2/\x.1.length<=c
section
variable{defs:Hj (HM×Df)}{fuel:Hs}
theorem qS (F:Fil defs)(X:Sea defs)(hg:Is defs ("unfilled_behind" : HM) 4 8 bF){ms:Hj W}{b0:W}{ns:Hj HM}{bs:Hj Hy}{a q c:Hs}{kvs:Hj (T×W)}(hb:GoodB bs)(hnl:ns.length=bs.length)(hml:ms.length=a)(ha3:a<=3)(cl:Cl bs kvs)(hc1:c<=bs.length+1) :
  ∀(m d:Hs) (S:aa) (Q:QW) (u:Wd) (p r:Pt),Cf a bs.length kvs u p r->sI kvs bs c u p r<=m->u.length+m<=c->S[q]?=gV (.dic kvs)->(∀w S',GX a bs kvs c u p r w->w=E8 (dk kvs bs a c m (u,p,r))->Ka S S'->Q (w,S'))->
  wO (aC (ak defs fuel (d+m+5)) "unfilled_behind" 4 [.tup [.tup ms,.tup (HA aB ns bs),b0],.ref q,.tup [am u,ap p,ap r],.int (c:Hy)] S) Q:=by
 have hb3:bs.length<=3:=by rcases hb with rfl|rfl|rfl|rfl|rfl|rfl <;> decide
 have zl:(HA aB ns bs).length=bs.length:=by rw[Jb,hnl]; omega
 intro m
 induction m with
 | zero=>?_
 | succ m ih=>?_
 all_goals
  intro d S Q u p r hC hleft hlen e k;refine al hg rfl rfl λQ' hR=>?_
  replace k:=λw S' x z y=>hR _ _ (k w S' x z y)
  clear hR;show wZ _ _ bF [gV (.tup [.tup ms,.tup (HA aB ns bs),b0]),gV (.ref q),gV (.tup [am u,ap p,ap r]),gV (.int (c:Hy)),td,td,td,td] S Q';dsimp only[bF];refine aF λK hK=>?_
  dsimp only[wS,wE,wA,wP,wV,wG,Hz];refine ae #v[] rfl (ae #v[] rfl (ae #v[] rfl ?_))
  have bl:(da (λv p=>bv kvs v p u.length (u.length+1)) bs u p r).length=bs.length+1:=mf
  have lk:=mw (c:=c) (Y:=(da (λv p=>bv kvs v p u.length (u.length+1)) bs u p r).take c) (f:=aV kvs bs u p r) (by rw[Ic]; omega) (λi hi=>by rw[Ny,HY hi]; exact kM hC.gp hC.gq ∅)
  refine g5 F hb hnl hC.gu hC.gp hC.gq ∅ e λS1 k1=>?_
  dsimp only[wN];refine ab (show js (.tup (da (λv p=>bv kvs v p u.length (u.length+1)) bs u p r)) td (gV (c:Hy)) S1=gV (.tup ((da (λv p=>bv kvs v p u.length (u.length+1)) bs u p r).take c),S1) by simp only[js,ee]) ?_
  refine hK _ _ ?_;clear hK K;generalize(da (λv p=>bv kvs v p u.length (u.length+1)) bs u p r).take c=Y at lk
  clear bl;obtain⟨ni,lk⟩:=lk;refine aF λK hK=>?_
  dsimp only[wS,wT,wE,wV,wG];refine ab (pO ni) ?_;dsimp only[wB]
 ·rcases lk with⟨h1,h2⟩|⟨i,hi,_,_,h4,_⟩
  ·rw[h1];refine ah (Q0:=Q') (λ_ Q2 _ hr=>?_) (λz=>by cases z)
   refine st ?_;dsimp only[wS,wE,wV,wG];exact hr _ _ (k _ _ (.inr #[(u,p,r),rfl,hC,h2,by show u.length<=c; omega]) (by rw[pP h2]; rfl) k1)
  ·have:0 < sI kvs bs c u p r:=Mu (JE.mpr #[HL.mpr hi,by rw[h4]; rfl])
   omega
 ·rcases lk with⟨h1,h2⟩|⟨i,hi,h1,h3,h4,h5⟩
  ·rw[h1];refine ah (Q0:=Q') (λ_ Q2 _ hr=>?_) (λz=>by cases z)
   refine st ?_;dsimp only[wS,wE,wV,wG];exact hr _ _ (k _ _ (.inr #[(u,p,r),rfl,hC,h2,by show u.length<=c; omega]) (by rw[pP h2]; rfl) k1)
  ·rw[h1];refine ah (Q0:=Q') (λz=>by cases z) (λ_ Q2 hn _=>aL (hn _ _ (hK _ _ ?_)))
   clear hn hK K;refine aF λK hK=>?_
   dsimp only[wS,wE,wA,wV,wG,Hz];refine#[rfl,AD ni h3 (hK _ _ ?_)];clear hK K;refine aF λK hK=>?_
   refine c8 rfl rfl ?_;dsimp only[wE,wA,wV,wG];refine qR (d:=d+m+1) X hml zl ha3 hb3 hC ∅ (k1.get _ _ e) λl S2 e2 hl2 k2=>?_
   have ho:=λ(x:Wd×Pt×Pt) (hx:x∈gG kvs a bs.length u p r)=>AB (bs:=bs) hC hx
   have hns:(∀x∈gG kvs a bs.length u p r,aV kvs bs x.1 x.2.1 x.2.2 i=true->gd a bs kvs c x.1 x.2.1 x.2.2)->gd a bs kvs c u p r:=Da hb cl hi h4;rw[ya hi h4 h5]at k;generalize gG kvs a bs.length u p r=L at e2 ho hns k;refine#[l,L.map cW,λj ρ S'=>(∃a6 a7,ρ=[gV (.tup [.tup ms,.tup (HA aB ns bs),b0]),gV (.ref q),gV (.tup [am u,ap p,ap r]),gV (.int (c:Hy)),gV (.tup Y),gV (.int (i:Hy)),a6,a7])/\(∀x∈L.take j,aV kvs bs x.1 x.2.1 x.2.2 i=true->gd a bs kvs c x.1 x.2.1 x.2.2/\dk kvs bs a c m x=td)/\S'[l]?=gV (.lst (L.map cW))/\Ka S S',rfl,#[#[_,_,rfl],(λx hx=>by cases hx),e2,k1.trans k2],λ_ _ _ h=>h.2.2.1,?_,?_]
   ·rintro j w ρ S3 hw ⟨⟨a6,a7,rfl⟩,hno,e3,k3⟩;clear hK;rw[Ht,Ho]at hw;obtain⟨x,hx,rfl⟩:=hw;obtain⟨xC,xl,xh⟩:=ho x (HF hx);have more:(aV kvs bs x.1 x.2.1 x.2.2 i=true->gd a bs kvs c x.1 x.2.1 x.2.2/\dk kvs bs a c m x=td)->∀y∈L.take (j+1),aV kvs bs y.1 y.2.1 y.2.2 i=true->gd a bs kvs c y.1 y.2.1 y.2.2/\dk kvs bs a c m y=td:=λh y hy=>by
     rw[IB,hx]at hy;rcases Ig.mp hy with z|z
     ·exact hno y z
     ·obtain rfl:y=x:=by simpa using z
      exact h
    refine ab (show eJ (.nm 6) (cW x) [gV (.tup [.tup ms,.tup (HA aB ns bs),b0]),gV (.ref q),gV (.tup [am u,ap p,ap r]),gV (.int (c:Hy)),gV (.tup Y),gV (.int (i:Hy)),a6,a7] S3=gV ([gV (.tup [.tup ms,.tup (HA aB ns bs),b0]),gV (.ref q),gV (.tup [am u,ap p,ap r]),gV (.int (c:Hy)),gV (.tup Y),gV (.int (i:Hy)),gV (.tup [am x.1,ap x.2.1,ap x.2.2]),a7],S3)from rfl) ?_
    intro Q3 hn3 hr3;refine aF λK hK=>?_
    dsimp only[wS,wT,wE,wA,wV,wG];refine ae #v[] rfl (ae #v[] rfl (ae #v[] rfl ?_))
    refine g5 (d:=d+m+2) F hb hnl xC.gu xC.gp xC.gq ∅ (k3.get _ _ e) λS4 k4=>?_
    obtain⟨w,w1,w2,w3⟩:=kM (bs:=bs) (i:=i) (kvs:=kvs) xC.gp xC.gq ∅
    refine ae (Hx i) (by rw[HI]; exact w1) (ab (xZ w2) ?_)
    dsimp only[wB];rw[w3,NX];refine ah (Q0:=Q3) (λhh Q5 hn5 hr5=>?_) (λhh Q5 hn5 _=>aL (hn5 _ _ (hK _ _ (aL (hn3 _ _ #[#[_,_,rfl],more (λz=>by rw[z]at hh; cases hh),k4.get _ _ e3,k3.trans k4])))))
    refine st ?_;dsimp only[wS,wE,wA,wV,wG,Hz];refine ih d _ _ x.1 x.2.1 x.2.2 xC ?_ ∅ ((k3.trans k4).get _ _ e) λw S5 hw hwe k5=>?_
    ·have:=AA (c:=c) hi xh h4 hh;unfold sI at hleft ⊢;omega
    refine aF λK2 hK2=>?_
    dsimp only[wS,wT,wE,wV,wG];have hun:∀z,dk kvs bs a c m x=gV z->w=cW z:=λz hz=>by rw[hwe,hz]; rfl
    rcases hw with⟨rfl,hw⟩|⟨y,rfl,y1⟩
    ·refine ab (show aK .isnot .non .non S5=gV (.bl false,S5)from rfl) ?_
     dsimp only[wB];exact ah (Q0:=Q5) (λz=>by cases z) (λ_ Q6 hn6 _=>aL (hn6 _ _ (hK2 _ _ (aL (hn5 _ _ (hK _ _ (aL (hn3 _ _ #[#[_,_,rfl],more λ_=>#[hw,by cases hz:dk kvs bs a c m x with|none=>rfl|some z=>exact nomatch hun z hz],(k4.trans k5).get _ _ e3,(k3.trans k4).trans k5]))))))))
    ·refine ab (show aK .isnot (cW y) .non S5=gV (.bl true,S5)from rfl) ?_
     dsimp only[wB];refine ah (Q0:=Q5) (λ_ Q6 _ hr6=>?_) (λz=>by cases z)
     refine st ?_;dsimp only[wS,wE,wV,wG];exact hr6 _ _ (hr5 _ _ (hr3 _ _ (k _ _ (.inr #[y,rfl,y1]) (by
      rw[hwe];cases hz:dk kvs bs a c m x with
      | none=>rw[hz]at hwe; cases hwe
      | some z=>rw[AE hx (λy' hy'=>by cases hq:aV kvs bs y'.1 y'.2.1 y'.2.2 i with|true=>rw[HY rfl]; exact(hno y' hy' hq).2|false=>rfl) (by rw[hh,HY rfl]; exact hz)]) ((k3.trans k4).trans k5))))
   ·rintro ρ S3 ⟨⟨a6,a7,rfl⟩,hno,e3,k3⟩;rw[Hk,IH]at hno;refine hK _ _ (st ?_);dsimp only[wS,wE];exact k _ _ (.inl #[rfl,hns λx hx hq=>(hno x hx hq).1]) (by rw[LP.mpr λy' hy'=>by cases hq:aV kvs bs y'.1 y'.2.1 y'.2.2 i with|true=>rw[HY rfl]; exact(hno y' hy' hq).2|false=>rfl]; rfl) k3
end
noncomputable def yo (a:Hs)(bs:Hj Hy)(kvs:Hj (T×W))(c:Hs)(w:W):Prop:=(w=.non/\¬ GF a bs kvs c)\/∃x:Wd×Pt×Pt,w=cW x/\Cf a bs.length kvs x.1 x.2.1 x.2.2/\Full kvs bs c x.1 x.2.1 x.2.2/\x.1.length<=c
noncomputable def Bj (a:Hs)(bs:Hj Hy)(kvs:Hj (T×W))(c:Hs)(w:W):Prop:=(w=.non/\∀i j:Hs,i<=j->j < a->dk kvs bs a c c ([],((i:Hy),[]),((j:Hy),[]))=td)\/∃i j:Hs,i<=j/\j < a/\(∃y,w=cW y/\dk kvs bs a c c ([],((i:Hy),[]),((j:Hy),[]))=gV y)/\∀i' j':Hs,i'<=j'->j' < a->(i' < i\/(i'=i/\j' < j))->dk kvs bs a c c ([],((i':Hy),[]),((j':Hy),[]))=td
theorem uC {kvs kvs':Hj (T×W)}{a n:Hs}{u:Wd}{p q:Pt}(hn:0 < n)(h:∀t,(aN kvs t).isSome=(aN kvs' t).isSome):gG kvs a n u p q=gG kvs' a n u p q:=by
 unfold gG g6 gF bv;rw[qF hn h];simp only[h]
theorem gA {kvs kvs':Hj (T×W)}{bs:Hj Hy}{u:Wd}{p q:Pt}{i:Hs}(h:∀t,(aN kvs t).isSome=(aN kvs' t).isSome):aV kvs bs u p q i=aV kvs' bs u p q i:=by
 unfold aV bd;simp only[h]
theorem my {kvs kvs':Hj (T×W)}{a c:Hs}{bs:Hj Hy}(hn:0 < bs.length)(h:∀t,(aN kvs t).isSome=(aN kvs' t).isSome):∀(m:Hs) (x:Wd×Pt×Pt),dk kvs bs a c m x=dk kvs' bs a c m x
 | 0,x=>by
  have e:(λi=>!aV kvs bs x.1 x.2.1 x.2.2 i)=λi=>!aV kvs' bs x.1 x.2.1 x.2.2 i:=funext λi=>by rw[gA h]
  rw[dk,dk,e]
 | m+1,x=>by
  have e:(λi=>!aV kvs bs x.1 x.2.1 x.2.2 i)=λi=>!aV kvs' bs x.1 x.2.1 x.2.2 i:=funext λi=>by rw[gA h]
  rw[dk,dk,e];cases(HJ c).find? λi=>!aV kvs' bs x.1 x.2.1 x.2.2 i with
  | none=>rfl
  | some i=>
   dsimp only;rw[uC hn h];congr 1
   funext y
   rw[gA h,my hn h m y]
theorem yb {kvs kvs':Hj (T×W)}{a c:Hs}{bs:Hj Hy}{w w':W}(hn:0 < bs.length)(h:∀t,(aN kvs t).isSome=(aN kvs' t).isSome)(h1:Bj a bs kvs c w)(h2:Bj a bs kvs' c w'):w=w':=by
 have e:=my (a:=a) (c:=c) hn h c;rcases h1 with⟨rfl,h1⟩|⟨i,j,ij,ja,⟨y,rfl,hy⟩,h1⟩
 ·rcases h2 with⟨rfl,_⟩|⟨i,j,ij,ja,⟨y,rfl,hy⟩,_⟩
  ·rfl
  ·rw[<- e,h1 i j ij ja]at hy; cases hy
 ·rcases h2 with⟨rfl,h2⟩|⟨i',j',ij',ja',⟨y',rfl,hy'⟩,h2⟩
  ·rw[e,h2 i j ij ja]at hy; cases hy
  ·by_cases lt:i < i'\/(i=i'/\j < j')
   ·rw[e,h2 i j ij ja lt]at hy; cases hy
   ·by_cases gt:i' < i\/(i'=i/\j' < j)
    ·rw[<- e,h1 i' j' ij' ja' gt]at hy'; cases hy'
    ·obtain rfl:i=i':=∅
     obtain rfl:j=j':=∅
     rw[e,hy']at hy;rw[IV hy]
theorem sK {u v:Wd}(h:am u=am v):u=v:=by
 have:=congrArg W.t h;rw[wX,wX]at this;exact nN (IV this)
theorem sL {p q:Pt}(h:ap p=ap q):p=q:=by
 have:am [p]=am [q]:=by
  show W.tup [ap p]=W.tup [ap q];rw[h]
 exact Qf (sK this) |>.1
theorem Db {x y:Wd×Pt×Pt}(h:cW x=cW y):x=y:=by
 obtain⟨u,p,q⟩:=x;obtain⟨u',p',q'⟩:=y;unfold cW at h;simp only[W.tup.injEq,P9,and_true]at h;obtain⟨h1,h2,h3⟩:=h;rw[sK h1,sL h2,sL h3]
theorem Dc {a n i j:Hs}{kvs:Hj (T×W)}(hi:i < a)(hj:j < a):Cf a n kvs [] ((i:Hy),[]) ((j:Hy),[]):=
 #[.nil,λk hk=>(by cases hk),#[#[Hx _,by show(i:Hy) < a; omega],rfl,λw hw=>nomatch hw],rfl,#[#[Hx _,by show(j:Hy) < a; omega],rfl,λw hw=>nomatch hw],rfl]
section
variable{defs:Hj (HM×Df)}{fuel d:Hs}{S:aa}{Q:QW}
structure Unl (defs:Hj (HM×Df)):Prop where
 fil:Fil defs
 sea:Sea defs
 behind:Is defs ("unfilled_behind" : HM) 4 8 bF
 first:Is defs ("first_unfilled" : HM) 2 6 cj
 unlaid:Is defs ("unlaid" : HM) 1 1 iJ
theorem eW (hfu:20 < fuel)(L:Unl defs){ms:Hj W}{ns:Hj HM}{bs:Hj Hy}{a c:Hs}{gs:Hj Wd}(hb:GoodB bs)(hnl:ns.length=bs.length)(hml:ms.length=a)(ha3:a<=3)(hgs:∀g∈gs,GoodW a bs.length g/\g.length=3)(h64:gs.length<=100)(hc:bs.length<=c)(hc1:c<=bs.length+1)
  (k:∀w kvs S',HasD kvs (br bs gs)->yo a bs kvs c w->Bj a bs kvs c w->Ka S S'->Q (w,S')) :
  wO (aC (ak defs fuel (d+c+6)) "first_unfilled" 2 [.tup [.tup ms,.tup (HA aB ns bs),.tup (gs.map am)],.int (c:Hy)] S) Q:=by
 refine al L.first rfl rfl λQ' hR=>?_
 replace k:∀w kvs S',HasD kvs (br bs gs)->yo a bs kvs c w->Bj a bs kvs c w->Ka S S'->Q' (.rt w,S'):=λw x S' h1 h2 h3 h4=>hR _ _ (k w x S' h1 h2 h3 h4)
 clear hR;show wZ _ _ cj [gV (.tup [.tup ms,.tup (HA aB ns bs),.tup (gs.map am)]),gV (.int (c:Hy)),td,td,td,td] S Q';dsimp only[cj];refine aF λK hK=>?_
 dsimp only[wS,wE,wA,wV,wG,Hz];refine kC (d:=d+c+1) hfu L.fil.parts L.fil.part L.fil.longer L.fil.barred hb hnl hgs h64 λq kvs S1 e1 h1 _ k1=>hK _ _ ?_
 clear hK K;have cl:=E6 hb hgs h1;have hk:∀w S',yo a bs kvs c w->Bj a bs kvs c w->Ka S S'->Q' (.rt w,S'):=λw S'=>k w kvs S' h1
 have un:∀(i j:Hs) (S:aa) (Q:QW),i < a->j < a->S[q]?=gV (.dic kvs)->(∀w S',GX a bs kvs c [] ((i:Hy),[]) ((j:Hy),[]) w->w=E8 (dk kvs bs a c c ([],((i:Hy),[]),((j:Hy),[])))->Ka S S'->Q (w,S'))->wO (aC (ak defs fuel (d+c+5)) "unfilled_behind" 4 [.tup [.tup ms,.tup (HA aB ns bs),.tup (gs.map am)],.ref q,.tup [.tup [],.tup [.int i,.tup []],.tup [.int j,.tup []]],.int (c:Hy)] S) Q:=λi j S Q hi hj e h=>qS L.fil L.sea L.behind hb hnl hml ha3 cl hc1 c d S Q [] ((i:Hy),[]) ((j:Hy),[]) (Dc hi hj) (by
  unfold sI;exact Ih (Jt _ _) (by rw[Ii]; exact HC _)) (by simp) e h
 have la:∀(S:aa) (Q:QW),Q (.int (a:Hy),S)->wO (ju (.tup [.tup ms,.tup (HA aB ns bs),.tup (gs.map am)]) (.int 0) S) λp=>wO (Bi.len.fn [p.1] p.2) Q:=λS Q q=>by
  refine ae #v[] rfl (ay ?_)
  rw[hml]; exact q
 clear k;generalize W.tup [.tup ms,.tup (HA aB ns bs),.tup (gs.map am)]=R at un la;refine aF λK hK=>?_
 refine bD (a:Hy) (λi ρ S'=>(∃a3 a4 a5,ρ=[gV R,gV (.int (c:Hy)),gV (.ref q),a3,a4,a5])/\(∀i' j',i' < i->i'<=j'->j' < a->gd a bs kvs c [] ((i':Hy),[]) ((j':Hy),[])/\dk kvs bs a c c ([],((i':Hy),[]),((j':Hy),[]))=td)/\S'[q]?=gV (.dic kvs)/\Ka S S') rfl rfl ∅ ?_ ?_ ?_
 ·dsimp only[wE,wA,wV,wG];exact la _ _ #[rfl,#[_,_,_,rfl],(λi' j' h=>∅),e1,k1]
 ·rintro i ρ S2 hi ⟨⟨a3,a4,a5,rfl⟩,hno,e2,k2⟩ Q2 hn2 hr2;clear hK;have hia:i < a:=∅
  dsimp only[Hz];refine aF λK hK=>?_
  refine cx (i:Hy) (a:Hy) (λm ρ S'=>(∃a4 a5,ρ=[gV R,gV (.int (c:Hy)),gV (.ref q),gV (.int i),a4,a5])/\(∀j',i<=j'->j' < i+m->gd a bs kvs c [] ((i:Hy),[]) ((j':Hy),[])/\dk kvs bs a c c ([],((i:Hy),[]),((j':Hy),[]))=td)/\S'[q]?=gV (.dic kvs)/\Ka S S') rfl rfl rfl ∅ ?_ ?_ ?_
  ·dsimp only[wE,wA,wV,wG];exact#[rfl,la _ _ #[rfl,#[_,_,rfl],(λj' h1 h2=>∅),e2,k2]]
  ·rintro m ρ S3 hm ⟨⟨a4,a5,rfl⟩,hno3,e3,k3⟩ Q3 hn3 hr3;clear hK;rw[show(i:Hy)+m=((i+m:Hs):Hy) by omega]
   have hja:i+m < a:=∅
   generalize hj:i+m=j at hja;dsimp only[Hz];refine st ?_;dsimp only[wS,wE,wA,wV,wG,Hz];refine un i j _ _ hia hja e3 λw S4 hw hwe k4=>?_
   refine aF λK hK=>?_
   dsimp only[wS,wT,wE,wV,wG];rcases hw with⟨rfl,hw⟩|⟨y,rfl,y1⟩
   ·refine ab (show aK .isnot .non .non S4=gV (.bl false,S4)from rfl) ?_
    dsimp only[wB];refine ah (Q0:=Q3) (λz=>by cases z) (λ_ Q6 hn6 _=>aL (hn6 _ _ (hK _ _ (aL (hn3 _ _ #[#[_,_,rfl],λj' h1 h2=>?_,k4.get _ _ e3,k3.trans k4])))))
    by_cases ej:j'=j
    ·rw[ej];refine#[hw,?_];cases hz:dk kvs bs a c c ([],((i:Hy),[]),((j:Hy),[]))with
     | none=>rfl
     | some z=>rw[hz]at hwe; cases hwe
    ·exact hno3 j' h1 ∅
   ·refine ab (show aK .isnot (cW y) .non S4=gV (.bl true,S4)from rfl) ?_
    dsimp only[wB];refine ah (Q0:=Q3) (λ_ Q6 _ hr6=>?_) (λz=>by cases z)
    refine st ?_;dsimp only[wS,wE,wV,wG];exact hr6 _ _ (hr3 _ _ (hr2 _ _ (hk _ _ (.inr #[y,rfl,y1]) (.inr #[i,j,∅,hja,#[y,rfl,by
     cases hz:dk kvs bs a c c ([],((i:Hy),[]),((j:Hy),[]))with
     | none=>rw[hz]at hwe; cases hwe
     | some z=>rw[hz]at hwe; rw[Db hwe]],λi' j' h1 h2 h3=>by
     rcases h3 with h3|⟨rfl,h3⟩
     ·exact(hno i' j' h3 h1 h2).2
     ·exact(hno3 j' h1 ∅).2]) (k3.trans k4))))
  ·rintro ρ S3 ⟨⟨a4,a5,rfl⟩,hno3,e3,k3⟩;refine hK _ _ (aL (hn2 _ _ #[#[_,_,_,rfl],λi' j' h1 h2 h3=>?_,e3,k3]))
   by_cases ei:i'=i
   ·subst ei;exact hno3 j' h2 ∅
   ·exact hno i' j' ∅ h2 h3
 ·rintro ρ S2 ⟨⟨a3,a4,a5,rfl⟩,hno,e2,k2⟩;refine hK _ _ (st ?_);dsimp only[wS,wE];refine hk _ _ (.inl #[rfl,E7 hb cl hc λi j h1 h2 h3=>(hno i j ∅ h2 h3).1]) (.inl #[rfl,λi j h1 h2=>(hno i j ∅ h1 h2).2]) k2
theorem yc (hfu:20 < fuel)(L:Unl defs){ms:Hj W}{ns:Hj HM}{bs:Hj Hy}{a:Hs}{gs:Hj Wd}(hb:GoodB bs)(hnl:ns.length=bs.length)(hml:ms.length=a)(ha3:a<=3)(hgs:∀g∈gs,GoodW a bs.length g/\g.length=3)(h64:gs.length<=100)
  (k:∀w kvs S',HasD kvs (br bs gs)->yo a bs kvs (bs.length+1) w->Bj a bs kvs (bs.length+1) w->Ka S S'->Q (w,S')) :
  wO (aC (ak defs fuel (d+11)) "unlaid" 1 [.tup [.tup ms,.tup (HA aB ns bs),.tup (gs.map am)]] S) Q:=by
 refine al L.unlaid rfl rfl λQ' hR=>?_
 show wZ _ _ iJ [gV (.tup [.tup ms,.tup (HA aB ns bs),.tup (gs.map am)])] S Q';have hb3:bs.length<=3:=by rcases hb with rfl|rfl|rfl|rfl|rfl|rfl <;> decide
 dsimp only[iJ];refine st ?_;dsimp only[wS,wE,wA,wV,wG];refine ae #v[] rfl (ay ?_)
 rw[Jb,hnl,JL];refine ab cq ?_;dsimp only;rw[show(bs.length:Hy)+1=((bs.length+1:Hs):Hy) by omega,show d+10=(d+3 - bs.length)+(bs.length+1)+6 by omega]
 exact eW hfu L hb hnl hml ha3 hgs h64 ∅ ∅ λw kvs S' h1 h2 h3 h4=>hR _ _ (k w kvs S' h1 h2 h3 h4)
theorem yd (hfu:20 < fuel)(L:Unl defs)(hpo:Is defs ("put_on" : HM) 1 1 gf){ms:Hj W}{ns:Hj HM}{bs:Hj Hy}{a:Hs}{gs:Hj Wd}(hb:GoodB bs)(hnl:ns.length=bs.length)(hml:ms.length=a)(ha3:a<=3)(hgs:∀g∈gs,GoodW a bs.length g/\g.length=3)(h64:gs.length<=100)
  (k:∀w kvs S',HasD kvs (br bs gs)->yo a bs kvs bs.length w->Bj a bs kvs bs.length w->Ka S S'->Q (w,S')) :
  wO (aC (ak defs fuel (d+11)) "put_on" 1 [.tup [.tup ms,.tup (HA aB ns bs),.tup (gs.map am)]] S) Q:=by
 refine al hpo rfl rfl λQ' hR=>?_
 show wZ _ _ gf [gV (.tup [.tup ms,.tup (HA aB ns bs),.tup (gs.map am)])] S Q';have hb3:bs.length<=3:=by rcases hb with rfl|rfl|rfl|rfl|rfl|rfl <;> decide
 dsimp only[gf];refine st ?_;dsimp only[wS,wE,wA,wV,wG];refine ae #v[] rfl (ay ?_)
 rw[Jb,hnl,JL,show d+10=(d+4 - bs.length)+bs.length+6 by omega]
 exact eW hfu L hb hnl hml ha3 hgs h64 ∅ ∅ λw kvs S' h1 h2 h3 h4=>hR _ _ (k w kvs S' h1 h2 h3 h4)
end
noncomputable def fD:Ss:=
 #v[.ret (.and (.isi "int" (.v 0)) (.not (.isi "bool" (.v 0))))]
noncomputable def bV:Ss:=
 #v[.ret (.and (.isi "tuple" (.v 0)) (.cmp .eq (.bi .len #v[.v 0]) (.v 1)))]
noncomputable def dQ:Ss:=
 #v[.ret (.and (.own "is_tuple_of" 2 #v[.v 0,.v 1]) (.bi .all #v[.comp (.own "is_whole" 1 #v[.v 1]) (.nm 1) (.seq (.v 0)) .nil [td,td]]))]
noncomputable def fE:Ss:=
 #v[.ret (.and (.isi "tuple" (.v 1)) (.bi .all #v[.comp (.own "is_point" 3 #v[.v 3,.v 2,.v 1]) (.tp [1,2]) (.enu #v[.v 1]) .nil [td,td,td,gV 0]]))]
noncomputable def fF:Ss:=
 #v[.ite (.not (.own "has_point_form" 2 #v[.v 1,.v 2])) #v[.ret (.c (.bl false))] .nil,.set 3 (.chn .le .lt (.c (.int 0)) (.ix (.v 1) (.c (.int 0))) (.bi .len #v[.ix (.v 0) (.c (.int 0))])),.ret (.and (.v 3) (.bi .all #v[.comp (.chn .le .lt (.c (.int 0)) (.v 1) (.bi .len #v[.ix (.v 2) (.c (.int 1))])) (.nm 1) (.seq (.ix (.v 1) (.c (.int 1)))) .nil [td,td,gV 0]]))]
noncomputable def cm:Ss:=
 #v[.ret (.and (.own "is_tuple_of" 2 #v[.v 0,.c (.int 2)]) (.and (.own "is_whole" 1 #v[.ix (.v 0) (.c (.int 0))]) (.own "is_numbers" 2 #v[.ix (.v 0) (.c (.int 1)),.v 1])))]
noncomputable def aR:Ss:=
 #v[.ite (.or (.not (.own "is_tuple_of" 2 #v[.v 1,.c (.int 3)])) (.not (.own "is_world" 2 #v[.v 0,.ix (.v 1) (.c (.int 0))]))) #v[.ret (.c (.bl false))] .nil,.ite (.not (.bi .all #v[.comp (.own "is_point" 3 #v[.v 2,.v 1,.bi .len #v[.ix (.v 3) (.c (.int 0))]]) (.nm 1) (.seq (.sl (.v 1) (.yes (.c (.int 1))) .no)) .nil [td,td,gV 0,gV 1]])) #v[.ret (.c (.bl false))] .nil,.ret (.bi .all #v[.comp (.cmp .is (.own "first_barred" 2 #v[.v 2,.op .add (.ix (.v 3) (.c (.int 0))) (.tup #v[.v 1])]) (.c .non)) (.nm 1) (.seq (.sl (.v 1) (.yes (.c (.int 1))) .no)) .nil [td,td,gV 0,gV 1]])]
theorem iK {α:Type}(L:Hj α):(L.map λ_=>W.bl true)=Ik L.length (.bl true):=List.map_const' ..
theorem kN {S:aa}{l n:Hs}{Q:QW}(h:S[l]?=gV (.lst (Ik n (.bl true))))(q:Q (.bl true,S)):wO (Bi.all.fn [.ref l] S) Q:=by
 refine ab ?_ q;simp only[Bi.fn,B8,aJ h,l4,Iv,Av]
theorem mz {S:aa}{x y:Hy}(h0:0<=x)(h1:x < y):uH .le (.int 0) (.int x) S=gV true/\dI .lt (.int x) (.int y) S=gV (.bl true,S):=by
 refine#[?_,?_]
 ·show gV (decide (0<=x))=_;rw[IZ h0]
 ·show gV (W.bl (decide (x < y)),S)=_;rw[IZ h1]
section
variable{defs:Hj (HM×Df)}{fuel d:Hs}{S:aa}{Q:QW}
structure Knd (defs:Hj (HM×Df)):Prop where
 whole:Is defs ("is_whole" : HM) 1 1 fD
 tup:Is defs ("is_tuple_of" : HM) 2 2 bV
 nums:Is defs ("is_numbers" : HM) 2 2 dQ
 world:Is defs ("is_world" : HM) 2 2 fE
 point:Is defs ("is_point" : HM) 3 4 fF
 form:Is defs ("has_point_form" : HM) 2 2 cm
theorem kO (X:Knd defs){i:Hy}(k:Q (.bl true,S)):wO (aC (ak defs fuel (d+1)) "is_whole" 1 [.int i] S) Q:=by
 refine al X.whole rfl rfl λQ' hR=>?_
 show wZ _ _ fD [gV (.int i)] S Q';dsimp only[fD];refine st ?_;dsimp only[wS,wE,wV,wG];refine ab (show nZ S (.int i) "int" = gV true from rfl) #[λ_=>?_,λz=>by cases z]
 exact ab (show nZ S (.int i) "bool" = gV false from rfl) (hR _ _ k)
theorem g7 (X:Knd defs){xs:Hj W}{n:Hs}(h:xs.length=n)(k:Q (.bl true,S)):wO (aC (ak defs fuel (d+1)) "is_tuple_of" 2 [.tup xs,.int (n:Hy)] S) Q:=by
 refine al X.tup rfl rfl λQ' hR=>?_
 show wZ _ _ bV [gV (.tup xs),gV (.int (n:Hy))] S Q';dsimp only[bV];refine st ?_;dsimp only[wS,wE,wA,wV,wG];refine ab (show nZ S (.tup xs) "tuple" = gV true from rfl) #[λ_=>?_,λz=>by cases z]
 refine ay (ab kg ?_);rw[h,IS];exact hR _ _ k
theorem qT (X:Knd defs){n:Hs}(k:Q (.bl false,S)):wO (aC (ak defs fuel (d+1)) "is_tuple_of" 2 [.non,.int (n:Hy)] S) Q:=by
 refine al X.tup rfl rfl λQ' hR=>?_
 show wZ _ _ bV [gV .non,gV (.int (n:Hy))] S Q';dsimp only[bV];refine st ?_;dsimp only[wS,wE,wA,wV,wG];exact ab (show nZ S .non "tuple" = gV false from rfl) #[λz=>(by cases z),λ_=>hR _ _ k]
theorem nX (X:Knd defs){xs:Hj Hy}{n:Hs}(h:xs.length=n)(hn:n<=1000)(k:∀S',Ka S S'->Q (.bl true,S')):wO (aC (ak defs fuel (d+2)) "is_numbers" 2 [.tup (ac xs),.int (n:Hy)] S) Q:=by
 refine al X.nums rfl rfl λQ' hR=>?_
 show wZ _ _ dQ [gV (.tup (ac xs)),gV (.int (n:Hy))] S Q';dsimp only[dQ];refine st ?_;dsimp only[wS,wE,wA,wV,wG];refine g7 (d:=d) X (by unfold ac; rw[Hk]; exact h) #[λ_=>?_,λz=>by cases z]
 refine kF xs W.int (λ_=>true) (λ_=>.bl true) [] rfl rfl rfl rfl ∅ #[rfl,.refl] (λx _ S2 k2=>?_) λS2 k2=>?_
 ·dsimp only[fW,wC,wE,wA,wV,wG];exact#[λ_=>kO (d:=d) X #[rfl,rfl,.refl],λz=>by cases z]
 ·rw[c9,iK];exact kN aj (hR _ _ (k _ (k2.trans .push)))
theorem qU (X:Knd defs){p:Pt}{n:Hs}(h:p.2.length=n)(hn:n<=1000)(k:∀S',Ka S S'->Q (.bl true,S')):wO (aC (ak defs fuel (d+3)) "has_point_form" 2 [ap p,.int (n:Hy)] S) Q:=by
 refine al X.form rfl rfl λQ' hR=>?_
 show wZ _ _ cm [gV (.tup [.int p.1,.tup (ac p.2)]),gV (.int (n:Hy))] S Q';dsimp only[cm];refine st ?_;dsimp only[wS,wE,wA,wV,wG];refine g7 (d:=d+1) (n:=2) X rfl #[λ_=>?_,λz=>by cases z]
 refine ae #v[] rfl (kO (d:=d+1) X #[λ_=>?_,λz=>by cases z])
 exact ae #v[] rfl (nX (d:=d) X h hn λS' a=>hR _ _ (k S' a))
theorem kP (X:Knd defs){M N:Hj W}{b0:W}{a n s:Hs}{p:Pt}(hM:M.length=a)(hN:N.length=n)(h:GoodP a n s p)(hs:s<=1000)(k:∀S',Ka S S'->Q (.bl true,S')):wO (aC (ak defs fuel (d+4)) "is_point" 3 [.tup [.tup M,.tup N,b0],ap p,.int (s:Hy)] S) Q:=by
 refine al X.point rfl rfl λQ' hR=>?_
 replace k:∀S',Ka S S'->Q' (.rt (.bl true),S'):=λS' a=>hR _ _ (k S' a)
 clear hR;show wZ _ _ fF [gV (.tup [.tup M,.tup N,b0]),gV (ap p),gV (.int (s:Hy)),td] S Q';dsimp only[fF];refine aF λK hK=>?_
 dsimp only[wS,wT,wE,wA,wV,wG];refine qU (d:=d) X h.len hs λS1 k1=>?_
 refine ab (show cJ S1 (.bl true)=gV true from rfl) ?_
 refine ah (Q0:=Q') (λz=>by cases z) (λ_ Q2 hn _=>aL (hn _ _ (hK _ _ ?_)))
 clear hn hK K;refine st ?_;dsimp only[wS,wE,wA,wV,wG,Hz,ap];refine ae #v[] rfl ?_
 refine ab (mz h.mark.1 h.mark.2).1 #[λ_=>?_,λz=>by cases z]
 refine ae #v[] rfl (ay ?_)
 rw[hM];refine ab (mz h.mark.1 h.mark.2).2 ?_;refine st ?_;dsimp only[wS,wE,wA,wV,wG];refine#[λ_=>?_,λz=>by cases z]
 refine kF p.2 W.int (λ_=>true) (λ_=>.bl true) [gV (.tup [.tup M,.tup N,b0])] rfl rfl rfl rfl (by rw[h.len]; omega) ?_ (λx hx S2 k2=>?_) λS2 k2=>?_
 ·dsimp only[wE,wV,wG];exact ae #v[] rfl #[rfl,.refl]
 ·obtain⟨x0,x1⟩:=h.way x hx;dsimp only[fW,wC,wE,wA,wV,wG];refine#[λ_=>ab (mz x0 x1).1 #[λ_=>?_,λz=>by cases z],λz=>by cases z]
  refine ae #v[] rfl (ay ?_)
  rw[hN];exact ab (mz x0 x1).2 #[rfl,rfl,.refl]
 ·rw[c9,iK];exact kN aj (k _ (k1.trans (k2.trans .push)))
theorem GoodW.pt {a n k:Hs}{u:Wd}{p:Pt}(h:GoodW a n u)(hp:u[k]?=gV p):GoodP a n k p:=#[h.mark k p hp,h.len k p hp,h.way k p hp]
theorem qV (X:Knd defs){M N:Hj W}{b0:W}{a n:Hs}{u:Wd}(hM:M.length=a)(hN:N.length=n)(h:GoodW a n u)(hs:u.length<=1000)(k:∀S',Ka S S'->Q (.bl true,S')):wO (aC (ak defs fuel (d+5)) "is_world" 2 [.tup [.tup M,.tup N,b0],am u] S) Q:=by
 refine al X.world rfl rfl λQ' hR=>?_
 show wZ _ _ fE [gV (.tup [.tup M,.tup N,b0]),gV (am u)] S Q';dsimp only[fE];refine st ?_;dsimp only[wS,wE,wA,wV,wG];refine ab (show nZ S (am u) "tuple" = gV true from rfl) #[λ_=>?_,λz=>by cases z]
 refine sf (u.map ap) (λi ys ρ2 S2=>(∃a1 a2,ρ2=[td,a1,a2,gV (.tup [.tup M,.tup N,b0])])/\ys=Ik i (.bl true)/\Ka S S2) rfl rfl rfl #[rfl,#[_,_,rfl],rfl,.refl] ?_ ?_
 ·rintro i x ys ρ2 S2 hx ⟨⟨a1,a2,rfl⟩,rfl,k2⟩;rw[Ht,Ho]at hx;obtain⟨p,hp,rfl⟩:=hx;have hi:i < u.length:=(HG.mp hp).1;refine ab (show eJ (.tp [1,2]) (.tup [.int i,ap p]) [td,a1,a2,gV (.tup [.tup M,.tup N,b0])] S2=gV ([td,gV (.int i),gV (ap p),gV (.tup [.tup M,.tup N,b0])],S2)from rfl) ?_
  dsimp only[fW,wC,wE,wA,wV,wG];refine#[λ_=>kP (d:=d) X hM hN (h.pt hp) ∅ λS3 k3=>#[#[_,_,rfl],?_,k2.trans k3],λz=>by cases z]
  rw[List.replicate_succ']
 ·rintro ys ρ2 S2 ⟨_,rfl,k2⟩;rw[Hk];exact#[ki (by rw[Lk]; exact hs),kN aj (hR _ _ (k _ (k2.trans .push)))]
end
noncomputable def bO:Ss:=
 #v[.ret (.and (.own "is_base_with_two" 2 #v[.v 0,.v 1]) (.cmp .notin (.c .non) (.sl (.own "barred_by" 4 #v[.v 0,.ix (.v 1) (.c (.int 0)),.ix (.v 1) (.c (.int 1)),.ix (.v 1) (.c (.int 2))]) .no (.yes (.neg (.c (.int 1)))))))]
section
variable{defs:Hj (HM×Df)}{fuel d:Hs}{S:aa}{Q:QW}
structure Bwt (defs:Hj (HM×Df)):Prop where
 knd:Knd defs
 ft:Is defs ("first_three" : HM) 2 5 bU
 fb:Is defs ("first_barred" : HM) 2 2 cb
 by':Is defs ("barred_by" : HM) 4 4 dz
 bwt:Is defs ("is_base_with_two" : HM) 2 2 aR
theorem uD {kvs:Hj (T×W)}{bs:Hj Hy}{gs:Hj Wd}{u:Wd}{w:W}(h:HasD kvs (br bs gs))(hs:Std kvs u)(hw:Ans (λi j k=>decide (du (bX u i j k)∈(br bs gs).map du)) u.length w):w=.non:=by
 rcases hw with⟨h1,_⟩|⟨i,j,k,_,h1,h2,h3,h4,_⟩
 ·exact h1
 ·have:=hs k h3 j h2 i h1;unfold bv at this;have h4:decide (du (bX u i j k)∈(br bs gs).map du)=true:=h4;rw[h.get,h4]at this; cases this
theorem qW (hfu:20 < fuel)(F:Fil defs)(B:Bwt defs){ms:Hj W}{ns:Hj HM}{bs:Hj Hy}{a:Hs}{gs:Hj Wd}{kvs:Hj (T×W)}{x:Wd×Pt×Pt}(hb:GoodB bs)(hnl:ns.length=bs.length)(hml:ms.length=a)(hgs:∀g∈gs,GoodW a bs.length g/\g.length=3)(h64:gs.length<=100)(hk:HasD kvs (br bs gs))(hC:Cf a bs.length kvs x.1 x.2.1 x.2.2)(hxl:x.1.length<=500)
  (k:∀S',Ka S S'->Q (.bl true,S')) :
  wO (aC (ak defs fuel (d+7)) "is_base_with_two" 2 [.tup [.tup ms,.tup (HA aB ns bs),.tup (gs.map am)],cW x] S) Q:=by
 refine al B.bwt rfl rfl λQ' hR=>?_
 replace k:∀S',Ka S S'->Q' (.rt (.bl true),S'):=λS' a=>hR _ _ (k S' a)
 clear hR;obtain⟨u,p,q⟩:=x;dsimp only at hC hxl;show wZ _ _ aR [gV (.tup [.tup ms,.tup (HA aB ns bs),.tup (gs.map am)]),gV (.tup [am u,ap p,ap q])] S Q';have zl:(HA aB ns bs).length=bs.length:=by rw[Jb,hnl,JL]
 have ul:(u.map ap).length=u.length:=Hk ..;have iw:=λ(S:aa) (Q:QW)=>qV (defs:=defs) (fuel:=fuel) (d:=d+1) (S:=S) (Q:=Q) (b0:=.tup (gs.map am)) B.knd hml zl hC.gu ∅
 have ip:=λ(h:Pt) (gh:GoodP a bs.length u.length h) (S:aa) (Q:QW)=>kP (defs:=defs) (fuel:=fuel) (d:=d+2) (S:=S) (Q:=Q) (b0:=.tup (gs.map am)) B.knd hml zl gh ∅
 have fb:=λ(h:Pt) (gh:GoodP a bs.length u.length h) (S:aa) (Q:QW)=>kE (defs:=defs) (fuel:=fuel) (d:=d+1) (S:=S) (Q:=Q) (m0:=.tup ms) hfu F.parts F.part F.longer F.barred F.three B.ft B.fb hb hnl hgs h64 (gh.snoc hC.gu) (by rw[Hn,Im]; omega)
 generalize W.tup [.tup ms,.tup (HA aB ns bs),.tup (gs.map am)]=R at iw ip fb;dsimp only[aR];refine aF λK hK=>?_
 dsimp only[wS,wT,wE,wA,wV,wG];refine g7 (d:=d+5) (n:=3) B.knd rfl ?_;refine ab (show cJ S (.bl true)=gV true from rfl) #[λz=>(by cases z),λ_=>?_]
 refine ae #v[] rfl (iw _ _ λS1 k1=>?_)
 refine ab (show cJ S1 (.bl true)=gV true from rfl) ?_
 refine ah (Q0:=Q') (λz=>by cases z) (λ_ Q2 hn _=>aL (hn _ _ (hK _ _ ?_)))
 clear hn hK K;refine aF λK hK=>?_
 dsimp only[wS,wT,wE,wA];refine kF [p,q] ap (λ_=>true) (λ_=>.bl true) [gV R,gV (.tup [am u,ap p,ap q])] rfl rfl rfl rfl (KC rfl) ?_ (λh hh S2 k2=>?_) λS2 k2=>?_
 ·dsimp only[wE,wP,wV,wG,wN];exact ab (show js (.tup [am u,ap p,ap q]) (gV 1) td S1=gV (.tup ([p,q].map ap),S1)from rfl) #[rfl,.refl]
 ·have gh:GoodP a bs.length u.length h:=by
   rcases HZ.mp hh with rfl|hh
   ·exact hC.gp
   ·cases HE.mp hh; exact hC.gq
  dsimp only[fW,wC,wE,wA,wV,wG];refine#[λ_=>ae #v[] rfl (ay ?_),λz=>by cases z]
  rw[ul];exact ip h gh _ _ λS3 k3=>#[rfl,rfl,k3]
 rw[c9,iK];dsimp only;refine kN aj ?_;refine ab (show cJ _ (.bl true)=gV true from rfl) ?_
 refine ah (Q0:=Q') (λz=>by cases z) (λ_ Q2 hn _=>aL (hn _ _ (hK _ _ ?_)))
 clear hn hK K;have k2':=k1.trans (k2.trans (Ka.push (o:=O.lst (Ik [p,q].length (.bl true)))));generalize S2++[O.lst (Ik [p,q].length (W.bl true))]=S3 at k2';refine st ?_;dsimp only[wS,wE,wA];refine kF [p,q] ap (λ_=>true) (λ_=>.bl true) [gV R,gV (.tup [am u,ap p,ap q])] rfl rfl rfl rfl (KC rfl) ?_ (λh hh S4 k4=>?_) λS4 k4=>?_
 ·dsimp only[wE,wP,wV,wG,wN];exact ab (show js (.tup [am u,ap p,ap q]) (gV 1) td S3=gV (.tup ([p,q].map ap),S3)from rfl) #[rfl,.refl]
 ·have gh:GoodP a bs.length u.length h/\bH kvs u u.length h=true:=by
   rcases HZ.mp hh with rfl|hh
   ·exact#[hC.gp,hC.mp]
   ·cases HE.mp hh; exact#[hC.gq,hC.mq]
  dsimp only[fW,wC,wE,wA,wV,wG];refine#[λ_=>ae #v[] rfl ?_,λz=>by cases z]
  dsimp only[am];have ev:u.map ap++[ap h]=(u++[h]).map ap:=by rw[HV]; rfl
  refine ab (bL (ef (by rw[Hn,ul]; show _+1<=_; omega))) ?_
  dsimp only;rw[ev];have fb1:=λ(Q:QW)=>fb h gh.1 S4 Q
  unfold am at fb1;refine fb1 _ λw S5 hw k5=>?_
  rw[uD hk (Std.both.mpr #[hC.su,gh.2]) hw];exact ab (show aK .is .non .non S5=gV (.bl true,S5)from rfl) #[rfl,rfl,k5]
 ·rw[c9,iK];exact kN aj (k _ (k2'.trans (k4.trans .push)))
theorem qX (B:Bwt defs){R:W}(k:Q (.bl false,S)):wO (aC (ak defs fuel (d+2)) "is_base_with_two" 2 [R,.non] S) Q:=by
 refine al B.bwt rfl rfl λQ' hR=>?_
 show wZ _ _ aR [gV R,gV .non] S Q';dsimp only[aR];refine aF λK hK=>?_
 dsimp only[wS,wT,wE,wA,wV,wG];refine qT (d:=d) (n:=3) B.knd ?_;refine ab (show cJ S (.bl false)=gV false from rfl) #[λ_=>?_,λz=>by cases z]
 refine ah (Q0:=Q') (λ_ Q2 _ hr=>?_) (λz=>by cases z)
 refine st ?_;dsimp only[wS,wE];exact hr _ _ (hR _ _ k)
theorem De {kvs:Hj (T×W)}{bs:Hj Hy}{gs:Hj Wd}{u:Wd}{p q:Pt}(h:HasD kvs (br bs gs)):da (PB ((br bs gs).map du) u.length) bs u p q=da (λv p=>bv kvs v p u.length (u.length+1)) bs u p q:=by
 have:PB ((br bs gs).map du) u.length=λv p=>bv kvs v p u.length (u.length+1):=funext λv=>funext λp=>(h.get _).symm
 rw[this]
theorem qY (hfu:20 < fuel)(F:Fil defs)(B:Bwt defs)(hg:Is defs ("is_put_on" : HM) 2 2 bO){ms:Hj W}{ns:Hj HM}{bs:Hj Hy}{a:Hs}{gs:Hj Wd}{kvs:Hj (T×W)}{x:Wd×Pt×Pt}(hb:GoodB bs)(hnl:ns.length=bs.length)(hml:ms.length=a)(hgs:∀g∈gs,GoodW a bs.length g/\g.length=3)(h64:gs.length<=100)(hk:HasD kvs (br bs gs))(hC:Cf a bs.length kvs x.1 x.2.1 x.2.2)(hF:Full kvs bs bs.length x.1 x.2.1 x.2.2)(hxl:x.1.length<=500)
  (k:∀S',Ka S S'->Q (.bl true,S')) :
  wO (aC (ak defs fuel (d+8)) "is_put_on" 2 [.tup [.tup ms,.tup (HA aB ns bs),.tup (gs.map am)],cW x] S) Q:=by
 refine al hg rfl rfl λQ' hR=>?_
 replace k:∀S',Ka S S'->Q' (.rt (.bl true),S'):=λS' a=>hR _ _ (k S' a)
 clear hR;show wZ _ _ bO [gV (.tup [.tup ms,.tup (HA aB ns bs),.tup (gs.map am)]),gV (cW x)] S Q';dsimp only[bO];refine st ?_;dsimp only[wS,wE,wA,wP,wV,wG,wN];refine qW (d:=d) hfu F B hb hnl hml hgs h64 hk hC hxl λS1 k1=>#[λ_=>?_,λz=>by cases z]
 obtain⟨u,p,q⟩:=x;dsimp only at hC hF hxl;dsimp only[cW];refine ae #v[] rfl (ae #v[] rfl (ae #v[] rfl ?_))
 refine pK (d:=d+2) hfu F B.by' hb hnl hgs h64 hC.gu hC.gp hC.gq ∅ λS2 k2=>?_
 rw[De hk];have bl:(da (λv p=>bv kvs v p u.length (u.length+1)) bs u p q).length=bs.length+1:=mf
 have lk:=mw (c:=bs.length) (Y:=(da (λv p=>bv kvs v p u.length (u.length+1)) bs u p q).dropLast) (f:=aV kvs bs u p q) (by rw[JQ,bl]; rfl) (λi hi=>by
  rw[Lj,HY (by rw[bl]; omega)]
  exact kM hC.gp hC.gq ∅)
 refine ab (show js (.tup (da (λv p=>bv kvs v p u.length (u.length+1)) bs u p q)) td (gV (-1)) S2=gV (.tup (da (λv p=>bv kvs v p u.length (u.length+1)) bs u p q).dropLast,S2) by simp only[js,pE]) ?_
 dsimp only;obtain⟨ni,⟨h1,_⟩|⟨i,hi,_,_,h4,_⟩⟩:=lk
 ·refine ab (pO ni) ?_;rw[h1];exact k _ (k1.trans k2)
 ·rw[hF i hi]at h4; cases h4
theorem uE (B:Bwt defs)(hg:Is defs ("is_put_on" : HM) 2 2 bO){R:W}(k:Q (.bl false,S)):wO (aC (ak defs fuel (d+3)) "is_put_on" 2 [R,.non] S) Q:=by
 refine al hg rfl rfl λQ' hR=>?_
 show wZ _ _ bO [gV R,gV .non] S Q';dsimp only[bO];refine st ?_;dsimp only[wS,wE,wA,wV,wG];exact qX (d:=d) B #[λz=>(by cases z),λ_=>hR _ _ k]
end
noncomputable def eX:Ss:=
 #v[.loop (.nm 3) (.rng2 #v[.c (.int 2),.bi .len #v[.v 2]]) #v[.ite (.not (.own "_law_last_may" 4 #v[.v 0,.v 1,.v 2,.v 3])) #v[.ret (.c (.bl false))] .nil],.ret (.c (.bl true))]
noncomputable def cf:Ss:=
 #v[.loop (.tp [2,3]) (.enu #v[.v 1]) #v[.ite (.or (.not (.isi "tuple" (.v 3))) (.or (.cmp .ne (.bi .len #v[.v 3]) (.c (.int 2))) (.or (.not (.isi "tuple" (.ix (.v 3) (.c (.int 1))))) (.cmp .ne (.bi .len #v[.ix (.v 3) (.c (.int 1))]) (.v 2))))) #v[.ret (.c (.bl false))] .nil,.set 5 (.op .add (.lst #v[.tup #v[.ix (.v 3) (.c (.int 0)),.bi .len #v[.ix (.v 0) (.c (.int 0))]]]) (.comp (.tup #v[.v 1,.bi .len #v[.ix (.v 2) (.c (.int 1))]]) (.nm 1) (.seq (.ix (.v 3) (.c (.int 1)))) .nil [td,td,gV 0])),.loop (.tp [4,6]) (.seq (.v 5)) #v[.ite (.or (.isi "bool" (.v 4)) (.or (.not (.isi "int" (.v 4))) (.not (.chn .le .lt (.c (.int 0)) (.v 4) (.v 6))))) #v[.ret (.c (.bl false))] .nil]],.ret (.c (.bl true))]
section
variable{defs:Hj (HM×Df)}{fuel d:Hs}{S:aa}{Q:QW}
theorem qZ (hg:Is defs ("_law_last_may" : HM) 4 8 aG){R:W}{a n q k:Hs}{u:Wd}{kvs:Hj (T×W)}(hu:GoodW a n u)(hk:k < u.length)(hl:u.length<=1000)(e:S[q]?=gV (.dic kvs))(hm:bH kvs u k (u.getD k (0,[]))=true)(kk:Q (.bl true,S)) :
  wO (aC (ak defs fuel (d+1)) "_law_last_may" 4 [R,.ref q,am u,.int (k:Hy)] S) Q:=by
 refine al hg rfl rfl λQ' hR=>?_
 replace kk:=hR _ _ kk;clear hR;show wZ _ _ aG [gV R,gV (.ref q),gV (am u),gV (.int (k:Hy)),td,td,td,td] S Q';have hh:(u.getD k (0,[])).2.length=k:=hu.len k _ (aq (d:=(0,[])) hk);have at':∀p < k,((u.map ap)[((p:Hs):Hy).toNat]?=gV (ap (u.getD p (0,[])))):=λp hp=>cZ ∅
 have hw:∀p < k,(ac (u.getD k (0,[])).2)[((p:Hs):Hy).toNat]?=gV (.int ((u.getD k (0,[])).2.getD p 0)):=λp hp=>by
  rw[HI]; unfold ac; rw[Ht,aq (d:=0) ∅]; rfl
 have hm:=bq.mp hm;dsimp only[aG];refine st ?_;dsimp only[wS,wE,wV,wG];refine ae (Hx _) (cZ hk) ?_;generalize u.getD k (0,[])=h at hh hw hm;dsimp only[wU,ap];refine ab (show cL [4,5] [.int h.1,.tup (h.2.map W.int)] [gV R,gV (.ref q),gV (am u),gV (.int (k:Hy)),td,td,td,td]=gV [gV R,gV (.ref q),gV (am u),gV (.int (k:Hy)),gV (.int h.1),gV (.tup (ac h.2)),td,td]from rfl) ?_
 refine aF λK hK=>?_
 refine cx 1 (k:Hy) (λm ρ S'=>(∃a6 a7,ρ=[gV R,gV (.ref q),gV (am u),gV (.int (k:Hy)),gV (.int h.1),gV (.tup (ac h.2)),a6,a7])/\S'=S) rfl rfl rfl ∅ #[rfl,rfl,#[_,_,rfl],rfl] ?_ ?_
 ·rintro m ρ S1 hm1 ⟨⟨a6,a7,rfl⟩,rfl⟩ Q2 hn2 hr2;clear hK;rw[show(1:Hy)+m=((m+1:Hs):Hy) by omega]
  have hmu:m+1 < k:=∅
  generalize hj:m+1=j at hmu hn2;dsimp only[Hz];refine aF λK hK=>?_
  refine bD (j:Hy) (λi ρ S'=>(∃a7,ρ=[gV R,gV (.ref q),gV (am u),gV (.int (k:Hy)),gV (.int h.1),gV (.tup (ac h.2)),gV (.int (j:Hy)),a7])/\S'=S1) rfl rfl ∅ #[rfl,#[_,rfl],rfl] ?_ ?_
  ·rintro i ρ S2 hi ⟨⟨a7,rfl⟩,rfl⟩ Q3 hn3 hr3;clear hK;have hij:i < j:=∅
   have lj:i < (u.getD j (0,[])).2.length:=by rw[hu.len j _ (aq (d:=(0,[])) ∅)]; exact hij
   dsimp only[Hz];refine aF λK hK=>?_
   dsimp only[wS,wT,wE,wA,wV,wG];refine ae (Hx i) (at' i ∅) (ae #v[] rfl (ae (Hx j) (at' j hmu) (ae #v[] rfl (ae (Hx j) (at' j hmu) (ae #v[] rfl (ae (w:=.int ((u.getD j (0,[])).2.getD i 0)) (Hx i) (by rw[HI,Ht,aq (d:=0) lj]; rfl) (ae (Hx i) (hw i ∅) (ae (Hx j) (hw j hmu) ?_))))))))
   refine ab (show aK .isin (am [((u.getD i (0,[])).1,[]),((u.getD j (0,[])).1,[(u.getD j (0,[])).2.getD i 0]),(h.1,[h.2.getD i 0,h.2.getD j 0])]) (.ref q) S2=gV (.bl (bT kvs u h i j),S2) by simp only[aK,bI e,gX]; rfl) ?_
   dsimp only[wB];rw[hm j hmu i hij];exact ah (Q0:=Q3) (λz=>by cases z) (λ_ Q5 hn5 _=>aL (hn5 _ _ (hK _ _ (aL (hn3 _ _ #[#[_,rfl],rfl])))))
  ·rintro ρ S2 ⟨⟨a7,rfl⟩,rfl⟩;exact hK _ _ (aL (hn2 _ _ #[#[_,_,rfl],rfl]))
 ·rintro ρ S1 ⟨⟨a6,a7,rfl⟩,rfl⟩;refine hK _ _ (st ?_);dsimp only[wS,wE];exact kk
theorem uF (hlm:Is defs ("_law_last_may" : HM) 4 8 aG)(hg:Is defs ("_law_may" : HM) 3 4 eX){R:W}{a n q:Hs}{u:Wd}{kvs:Hj (T×W)}(hu:GoodW a n u)(hl:u.length<=1000)(e:S[q]?=gV (.dic kvs))(hs:Std kvs u)(k:Q (.bl true,S)) :
  wO (aC (ak defs fuel (d+2)) "_law_may" 3 [R,.ref q,am u] S) Q:=by
 refine al hg rfl rfl λQ' hR=>?_
 show wZ _ _ eX [gV R,gV (.ref q),gV (am u),td] S Q';have ul:(u.map ap).length=u.length:=Hk ..;dsimp only[eX];refine aF λK hK=>?_
 refine cx 2 (u.length:Hy) (λm ρ S'=>(∃a3,ρ=[gV R,gV (.ref q),gV (am u),a3])/\S'=S) rfl rfl rfl ∅ ?_ ?_ ?_
 ·dsimp only[wE,wA,wV,wG];refine#[rfl,ay ?_];rw[ul];exact#[rfl,#[_,rfl],rfl]
 ·rintro m ρ S1 hm ⟨⟨a3,rfl⟩,rfl⟩ Q2 hn2 _;clear hK;rw[show(2:Hy)+m=((m+2:Hs):Hy) by omega]
  have hmu:m+2 < u.length:=∅
  generalize hj:m+2=j at hmu hn2;dsimp only[Hz];refine aF λK hK=>?_
  dsimp only[wS,wT,wE,wA,wV,wG];refine qZ (d:=d) hlm hu hmu hl e (bq.mpr λy hy x hx=>hs j hmu y hy x hx) ?_
  refine ab (show cJ S1 (.bl true)=gV true from rfl) ?_
  exact ah (Q0:=Q2) (λz=>by cases z) (λ_ Q5 hn5 _=>aL (hn5 _ _ (hK _ _ (aL (hn2 _ _ #[#[_,rfl],rfl])))))
 ·rintro ρ S1 ⟨⟨a3,rfl⟩,rfl⟩;refine hK _ _ (st ?_);dsimp only[wS,wE];exact hR _ _ k
theorem kQ (hg:Is defs ("_law_is_world" : HM) 2 7 cf){M N:Hj W}{b0:W}{a n:Hs}{u:Wd}(hM:M.length=a)(hN:N.length=n)(hu:GoodW a n u)(hl:u.length<=500)(k:∀S',Ka S S'->Q (.bl true,S')) :
  wO (aC (ak defs fuel (d+1)) "_law_is_world" 2 [.tup [.tup M,.tup N,b0],am u] S) Q:=by
 refine al hg rfl rfl λQ' hR=>?_
 replace k:∀S',Ka S S'->Q' (.rt (.bl true),S'):=λS' a=>hR _ _ (k S' a)
 clear hR;show wZ _ _ cf [gV (.tup [.tup M,.tup N,b0]),gV (am u),td,td,td,td,td] S Q';have l0:∀(S:aa) (Q:QW),Q (.int (a:Hy),S)->wO (ju (.tup [.tup M,.tup N,b0]) (.int 0) S) λp=>wO (Bi.len.fn [p.1] p.2) Q:=λS Q q=>by
  refine ae #v[] rfl (ay ?_)
  rw[hM]; exact q
 have l1:∀(S:aa) (Q:QW),Q (.int (n:Hy),S)->wO (ju (.tup [.tup M,.tup N,b0]) (.int 1) S) λp=>wO (Bi.len.fn [p.1] p.2) Q:=λS Q q=>by
  refine ae #v[] rfl (ay ?_)
  rw[hN]; exact q
 generalize W.tup [.tup M,.tup N,b0]=R at l0 l1;dsimp only[cf];refine aF λK hK=>?_
 refine Ax (u.map ap) (λi ρ S'=>(∃a2 a3 a4 a5 a6,ρ=[gV R,gV (am u),a2,a3,a4,a5,a6])/\Ka S S') rfl rfl #[rfl,#[_,_,_,_,_,rfl],.refl] ?_ ?_
 ·rintro i x ρ S1 hx ⟨⟨a2,a3,a4,a5,a6,rfl⟩,k1⟩;clear hK;rw[Ht,Ho]at hx;obtain⟨p,hp,rfl⟩:=hx;have hi:i < u.length:=(HG.mp hp).1;have gp:=hu.pt hp;refine ab (show eJ (.tp [2,3]) (.tup [.int i,ap p]) [gV R,gV (am u),a2,a3,a4,a5,a6] S1=gV ([gV R,gV (am u),gV (.int i),gV (.tup [.int p.1,.tup (p.2.map W.int)]),a4,a5,a6],S1)from rfl) ?_
  intro Q2 hn2 hr2;refine aF λK hK=>?_
  dsimp only[wS,wT,wE,wA,wV,wG];refine ab (show nZ S1 (.tup [.int p.1,.tup (p.2.map W.int)]) "tuple" = gV true from rfl) #[λz=>(by cases z),λ_=>?_]
  refine ay (ab t9 #[λz=>(by cases z),λ_=>?_])
  refine ae #v[] rfl ?_
  refine ab (show nZ S1 (.tup (p.2.map W.int)) "tuple" = gV true from rfl) #[λz=>(by cases z),λ_=>?_]
  refine ae #v[] rfl (ay (ab t9 ?_))
  rw[Hk,gp.len,IS];dsimp only[wB];refine ah (Q0:=Q2) (λz=>by cases z) (λ_ Q5 hn5 _=>aL (hn5 _ _ (hK _ _ ?_)))
  clear hn5 hK K;refine st ?_;dsimp only[wS,wE,wA,wV,wG,Hz];refine ae #v[] rfl (l0 _ _ ?_)
  refine kF p.2 W.int (λ_=>true) (λz=>.tup [.int z,.int (n:Hy)]) [gV R] rfl rfl rfl rfl (by rw[gp.len]; omega) ?_ (λz hz S3 k3=>?_) λS3 k3=>?_
  ·dsimp only[wE,wV,wG];exact ae #v[] rfl #[rfl,.refl]
  ·dsimp only[fW,wC,wE,wA,wV,wG];exact#[λ_=>l1 _ _ #[rfl,rfl,.refl],λz=>by cases z]
  rw[c9];dsimp only;have k3':=k1.trans (Ka.push.trans k3);have e1:=k3.get _ _ (aj (S:=S1) (o:=O.lst [.tup [.int p.1,.int (a:Hy)]]));refine ab (nG (ar e1) aj (ef (by rw[Hn,Hk,gp.len]; show 1+_<=_; omega))) ?_
  have kk:=(k3'.trans (Ka.push (o:=O.lst (p.2.map λz=>W.tup [.int z,.int (n:Hy)])))).trans (Ka.push (o:=O.lst ([.tup [.int p.1,.int (a:Hy)]]++p.2.map λz=>W.tup [.int z,.int (n:Hy)])))
  have e5:(S3++[O.lst (p.2.map λz=>W.tup [.int z,.int (n:Hy)])]++[O.lst ([.tup [.int p.1,.int (a:Hy)]]++p.2.map λz=>W.tup [.int z,.int (n:Hy)])])[(S3++[O.lst (p.2.map λz=>W.tup [.int z,.int (n:Hy)])]).length]?=gV (O.lst ([.tup [.int p.1,.int (a:Hy)]]++p.2.map λz=>W.tup [.int z,.int (n:Hy)])):=aj
  generalize S3++[O.lst (p.2.map λz=>W.tup [.int z,.int (n:Hy)])]++[O.lst ([.tup [.int p.1,.int (a:Hy)]]++p.2.map λz=>W.tup [.int z,.int (n:Hy)])]=S5 at kk e5
  generalize(S3++[O.lst (p.2.map λz=>W.tup [.int z,.int (n:Hy)])]).length=t5 at e5
  refine aF λK hK=>?_
  refine jC t5 ([.tup [.int p.1,.int (a:Hy)]]++p.2.map λz=>W.tup [.int z,.int (n:Hy)]) (λj ρ S'=>(∃a4 a6,ρ=[gV R,gV (am u),gV (.int i),gV (.tup [.int p.1,.tup (p.2.map W.int)]),a4,gV (.ref t5),a6])/\S'=S5) rfl rfl #[rfl,#[_,_,rfl],rfl] (λ_ _ _ h=>by rw[h.2]; exact e5) ?_ ?_
  ·rintro j w ρ S6 hw ⟨⟨a4,a6,rfl⟩,rfl⟩;clear hK;obtain⟨z,y,rfl,z0,z1⟩ : ∃z y:Hy,w=.tup [.int z,.int y]/\0<=z/\z < y:=by
    rcases Ig.mp (HF hw)with h|h
    ·exact#[_,_,HE.mp h,gp.mark.1,gp.mark.2]
    ·obtain⟨z,hz,rfl⟩:=HU.mp h;exact#[_,_,rfl,(gp.way z hz).1,(gp.way z hz).2]
   refine ab (show eJ (.tp [4,6]) (.tup [.int z,.int y]) [gV R,gV (am u),gV (.int i),gV (.tup [.int p.1,.tup (p.2.map W.int)]),a4,gV (.ref t5),a6] S6=gV ([gV R,gV (am u),gV (.int i),gV (.tup [.int p.1,.tup (p.2.map W.int)]),gV (.int z),gV (.ref t5),gV (.int y)],S6)from rfl) ?_
   intro Q3 hn3 _;refine aF λK hK=>?_
   dsimp only[wS,wT,wE,wA,wV,wG];refine ab (show nZ S6 (.int z) "bool" = gV false from rfl) #[λz=>(by cases z),λ_=>?_]
   refine ab (show nZ S6 (.int z) "int" = gV true from rfl) #[λz=>(by cases z),λ_=>?_]
   refine ab (mz z0 z1).1 #[λ_=>ab (mz z0 z1).2 ?_,λz=>by cases z]
   dsimp only[wB];exact ah (Q0:=Q3) (λz=>by cases z) (λ_ Q5 hn5 _=>aL (hn5 _ _ (hK _ _ (aL (hn3 _ _ #[#[_,_,rfl],rfl])))))
  ·rintro ρ S6 ⟨⟨a4,a6,rfl⟩,rfl⟩;exact hK _ _ (aL (hn2 _ _ #[#[_,_,_,_,_,rfl],kk]))
 ·rintro ρ S1 ⟨⟨a2,a3,a4,a5,a6,rfl⟩,k1⟩;refine hK _ _ (st ?_);dsimp only[wS,wE];exact k _ k1
end
noncomputable def db:Ss:=
 #v[.ite (.or (.not (.isi "tuple" (.v 2))) (.or (.cmp .ne (.bi .len #v[.v 2]) (.c (.int 3))) (.not (.isi "tuple" (.ix (.v 2) (.c (.int 0))))))) #v[.ret (.c (.bl false))] .nil,.asg [4,5,6] (.v 2),.loop (.nm 7) (.seq (.tup #v[.v 5,.v 6])) #v[.ite (.or (.not (.own "_law_is_world" 2 #v[.v 0,.op .add (.v 4) (.tup #v[.v 7])])) (.not (.own "_law_may" 3 #v[.v 0,.v 1,.op .add (.v 4) (.tup #v[.v 7])]))) #v[.ret (.c (.bl false))] .nil],.set 8 (.own "_law_fills" 5 #v[.v 0,.v 1,.v 4,.v 5,.v 6]),.ret (.or (.cmp .eq (.v 8) (.lst .nil)) (.and (.v 3) (.cmp .eq (.v 8) (.lst #v[.neg (.c (.int 1))]))))]
noncomputable def cp:Ss:=
 #v[.set 4 (.op .sub (.op .add (.bi .len #v[.ix (.v 0) (.c (.int 1))]) (.c (.int 1))) (.bi .int #v[.v 3])),.ret (.or (.cmp .is (.v 2) (.c .non)) (.and (.own "_law_unfilled" 4 #v[.v 0,.v 1,.v 2,.v 3]) (.cmp .le (.bi .len #v[.ix (.v 2) (.c (.int 0))]) (.v 4))))]
noncomputable def bn:Ss:=
 #v[.loop (.nm 5) (.rng #v[.v 3]) #v[.asg [6,7,8] (.own "_law_pair" 4 #v[.v 0,.v 1,.v 2,.op .add (.c (.int 1)) (.own "_law_pick" 2 #v[.v 0,.c (.int 6)])]),.set 9 (.own "_law_fills" 5 #v[.v 1,.v 2,.v 6,.v 7,.v 8]),.ite (.or (.cmp .eq (.v 9) (.lst .nil)) (.and (.v 4) (.cmp .eq (.v 9) (.lst #v[.neg (.c (.int 1))])))) #v[.ret (.c (.bl false))] .nil],.ret (.c (.bl true))]
noncomputable def ye (n:Hs)(bw:HX):Hs:=if bw then n else n+1
theorem q8 {X:Hj T}{kvs:Hj (T×W)}{bs:Hj Hy}{u:Wd}{p q:Pt}{i k:Hs}(hk:∀t,(aN kvs t).isSome=decide (t∈X)):iH X bs u p q i k=bd kvs (iG u p q (bs.getD i 0) k):=(hk _).symm
theorem pQ {X:Hj T}{kvs:Hj (T×W)}{bs:Hj Hy}{u:Wd}{p q:Pt}{bw:HX}(hk:∀t,(aN kvs t).isSome=decide (t∈X)):Full kvs bs (ye bs.length bw) u p q↔(fI (iH X bs u p q) (nT p q u.length) bs.length u.length=[]\/(bw=true/\fI (iH X bs u p q) (nT p q u.length) bs.length u.length=[-1])):=by
 have key:∀i < bs.length,((i:Hy)∈fI (iH X bs u p q) (nT p q u.length) bs.length u.length↔aV kvs bs u p q i=false):=λi hi=>by
  rw[mn];constructor
  ·rintro(⟨j,e,_,h⟩|⟨e,_⟩)
   ·obtain rfl:i=j:=∅
    rw[Kj];intro z;obtain⟨k,hk1,hk2⟩:=(eF hi).mp z;have:=h k hk1;rw[q8 hk,hk2]at this; cases this
   ·omega
  ·intro h;refine .inl #[i,rfl,hi,λk hk1=>?_]
   rw[Kj];intro z;rw[q8 hk]at z;rw[(eF hi).mpr #[k,hk1,z]]at h; cases h
 have keyS:((-1:Hy)∈fI (iH X bs u p q) (nT p q u.length) bs.length u.length↔aV kvs bs u p q bs.length=false):=by
  rw[mn];have:aV kvs bs u p q bs.length = !nT p q u.length:=by unfold aV; rw[Iy (Ja _)]
  rw[this];constructor
  ·rintro(⟨j,e,_,_⟩|⟨_,h⟩)
   ·omega
   ·rw[h]; rfl
  ·intro h;exact .inr #[rfl,by simpa using h]
 have ways:(∀i < bs.length,aV kvs bs u p q i=true)->fI (iH X bs u p q) (nT p q u.length) bs.length u.length=if nT p q u.length then[-1]else[]:=λh=>by
  have e:(HJ bs.length).filter (λi=>(HJ u.length).all λk=>!iH X bs u p q i k)=[]:=Mw.mpr λi hi=>by
   have hi:=HL.mp hi;obtain⟨k,hk1,hk2⟩:=(eF hi).mp (h i hi);intro z;have:=HS.mp z k (HL.mpr hk1);rw[q8 hk,hk2]at this; cases this
  unfold fI;rw[e]; rfl
 generalize hL:fI (iH X bs u p q) (nT p q u.length) bs.length u.length=L at key keyS ways;unfold Full ye;cases bw with
 | true=>
  rw[HY rfl];constructor
  ·intro h;rw[ways h];cases nT p q u.length
   ·exact .inl rfl
   ·exact .inr #[rfl,rfl]
  ·intro h i hi;cases hh:aV kvs bs u p q i with
   | true=>rfl
   | false=>
    have:=(key i hi).mpr hh;rcases h with h|⟨_,h⟩
    ·rw[h]at this; cases this
    ·rw[h]at this;have:=HE.mp this;omega
 | false=>
  rw[Iy HN];constructor
  ·intro h;have hw:=ways λi hi=>h i ∅
   have hs:nT p q u.length=false:=by
    have:=h bs.length (JH _);unfold aV at this;rw[Iy (Ja _)]at this
    simpa using this
   rw[hs]at hw;exact .inl hw
  ·intro h i hi;have h:L=[]:=by
    rcases h with h|⟨z,_⟩
    ·exact h
    ·cases z
   cases hh:aV kvs bs u p q i with
   | true=>rfl
   | false=>
    by_cases hn:i < bs.length
    ·have:=(key i hn).mpr hh;rw[h]at this; cases this
    ·obtain rfl:i=bs.length:=∅
     have:=keyS.mpr hh;rw[h]at this; cases this
section
variable{defs:Hj (HM×Df)}{fuel d:Hs}{S:aa}{Q:QW}
theorem AF {Φ:HM->FF}{ρ:Fm}{i j l:Hs}{bw:HX}{L:Hj Hy}(e:S[l]?=gV (.lst (ac L)))(hi:∀P:W->Prop,P (.ref l)->wV ρ i P)(hj:∀P:W->Prop,P (.bl bw)->wV ρ j P)
  (k:∀(c:HX) S',(c=true↔(L=[]\/(bw=true/\L=[-1])))->Ka S S'->Q (.bl c,S')) :
  wE Φ (.or (.cmp .eq (.v i) (.lst .nil)) (.and (.v j) (.cmp .eq (.v i) (.lst #v[.neg (.c (.int 1))])))) ρ S Q:=by
 dsimp only[wE,wA,wN];refine hi _ (ab (sy (ar e) aj) ?_);dsimp only[wB];have e0:(ac L).isEmpty=L.isEmpty:=by cases L <;> rfl
 rw[e0];refine#[λh=>k true _ #[λ_=>.inl (Ls.mp h),λ_=>rfl] .push,λh=>?_]
 have hne:L≠[]:=λz=>by rw[z]at h; cases h
 refine hj _ ?_;dsimp only[wB];refine#[λhb=>hi _ (ab (xK (xs:=L) (ys:=[-1]) (ar (ar e)) aj) ?_),λhb=>k false _ #[λz=>(by cases z),λz=>?_] .push]
 ·refine k _ _ #[λz=>.inr #[hb,IW z],λz=>?_] (Ka.push.trans .push)
  rcases z with z|⟨_,z⟩
  ·exact absurd z hne
  ·exact IZ z
 ·rcases z with z|⟨z,_⟩
  ·exact absurd z hne
  ·rw[hb]at z; cases z
theorem yf {Φ:HM->FF}{ρ:Fm}{i j l:Hs}{bw:HX}{L:Hj Hy}{Q:QB}(e:S[l]?=gV (.lst (ac L)))(hi:∀P:W->Prop,P (.ref l)->wV ρ i P)(hj:∀P:W->Prop,P (.bl bw)->wV ρ j P)
  (hno:¬ (L=[]\/(bw=true/\L=[-1]))) (k:∀S',Ka S S'->Q (false,S')) :
  wT Φ (.or (.cmp .eq (.v i) (.lst .nil)) (.and (.v j) (.cmp .eq (.v i) (.lst #v[.neg (.c (.int 1))])))) ρ S Q:=by
 dsimp only[wT,wE,wA,wN];refine hi _ (ab (sy (ar e) aj) ?_);dsimp only[wB];have e0:(ac L).isEmpty=L.isEmpty:=by cases L <;> rfl
 rw[e0];refine#[λh=>absurd (.inl (Ls.mp h)) hno,λh=>?_]
 refine hj _ (ab (show cJ _ (.bl bw)=gV bw from rfl) ?_)
 refine#[λhb=>hi _ (ab (xK (xs:=L) (ys:=[-1]) (ar (ar e)) aj) ?_),λhb=>k _ .push]
 dsimp only[wB];rw[Iq λz=>hno (.inr #[hb,z])]
 exact k _ (Ka.push.trans .push)
structure Tol (defs:Hj (HM×Df)):Prop where
 lmay:Is defs ("_law_last_may" : HM) 4 8 aG
 both:Is defs ("_law_both" : HM) 5 5 dj
 fills:Is defs ("_law_fills" : HM) 5 7 dB
 may:Is defs ("_law_may" : HM) 3 4 eX
 isw:Is defs ("_law_is_world" : HM) 2 7 cf
 unf:Is defs ("_law_unfilled" : HM) 4 9 db
 told:Is defs ("_law_told_right" : HM) 4 5 cp
theorem kR (V:Tol defs){ms:Hj W}{b0:W}{ns:Hj HM}{bs:Hj Hy}{a q:Hs}{bw:HX}{X:Hj T}{kvs:Hj (T×W)}{x:Wd×Pt×Pt}(hb:GoodB bs)(hnl:ns.length=bs.length)(hml:ms.length=a)(hk:∀t,(aN kvs t).isSome=decide (t∈X))(e:S[q]?=gV (.dic kvs))(hC:Cf a bs.length kvs x.1 x.2.1 x.2.2)(hF:Full kvs bs (ye bs.length bw) x.1 x.2.1 x.2.2)(hxl:x.1.length<=400)
  (k:∀S',Ka S S'->Q (.bl true,S')) :
  wO (aC (ak defs fuel (d+3)) "_law_unfilled" 4 [.tup [.tup ms,.tup (HA aB ns bs),b0],.ref q,cW x,.bl bw] S) Q:=by
 refine al V.unf rfl rfl λQ' hR=>?_
 replace k:∀S',Ka S S'->Q' (.rt (.bl true),S'):=λS' a=>hR _ _ (k S' a)
 clear hR;obtain⟨u,p,r⟩:=x;dsimp only at hC hF hxl;show wZ _ _ db [gV (.tup [.tup ms,.tup (HA aB ns bs),b0]),gV (.ref q),gV (.tup [am u,ap p,ap r]),gV (.bl bw),td,td,td,td,td] S Q';have zl:(HA aB ns bs).length=bs.length:=by rw[Jb,hnl,JL]
 have ul:(u.map ap).length=u.length:=Hk ..;have fl:=λ(S:aa) (Q:QW) e=>sF (defs:=defs) (fuel:=fuel) (d:=d) (S:=S) (Q:=Q) (m0:=.tup ms) (b0:=b0) (q:=q) V.lmay V.both V.fills hb hnl hC.gu hC.gp hC.gq ∅ e hk hC.mq
 have iw:=λ(h:Pt) (gh:GoodP a bs.length u.length h) (S:aa) (Q:QW)=>kQ (defs:=defs) (fuel:=fuel) (d:=d+1) (S:=S) (Q:=Q) (b0:=b0) V.isw hml zl (gh.snoc hC.gu) (by rw[Hn,Im]; omega)
 have im:=λ(R:W) (h:Pt) (gh:GoodP a bs.length u.length h) (mh:bH kvs u u.length h=true) (S:aa) (Q:QW) e=>uF (defs:=defs) (fuel:=fuel) (d:=d) (S:=S) (Q:=Q) (R:=R) (q:=q) V.lmay V.may (gh.snoc hC.gu) (by rw[Hn,Im]; omega) e (Std.both.mpr #[hC.su,mh])
 generalize W.tup [.tup ms,.tup (HA aB ns bs),b0]=R at fl iw;dsimp only[db];refine aF λK hK=>?_
 dsimp only[wS,wT,wE,wA,wV,wG];refine ab (show nZ S (.tup [am u,ap p,ap r]) "tuple" = gV true from rfl) #[λz=>(by cases z),λ_=>?_]
 refine ay (ab t9 #[λz=>(by cases z),λ_=>?_])
 refine ae #v[] rfl ?_
 refine ab (show nZ S (am u) "tuple" = gV true from rfl) ?_
 refine ah (Q0:=Q') (λz=>by cases z) (λ_ Q2 hn _=>aL (hn _ _ (hK _ _ ?_)))
 clear hn hK K;refine st ?_;dsimp only[wS,wE,wV,wG,wU];refine ab (show cL [4,5,6] [am u,ap p,ap r] [gV R,gV (.ref q),gV (.tup [am u,ap p,ap r]),gV (.bl bw),td,td,td,td,td]=gV [gV R,gV (.ref q),gV (.tup [am u,ap p,ap r]),gV (.bl bw),gV (am u),gV (ap p),gV (ap r),td,td]from rfl) ?_
 refine aF λK hK=>?_
 refine for_tup [ap p,ap r] (λi ρ S'=>(∃a7,ρ=[gV R,gV (.ref q),gV (.tup [am u,ap p,ap r]),gV (.bl bw),gV (am u),gV (ap p),gV (ap r),a7,td])/\Ka S S') rfl rfl #[rfl,#[_,rfl],.refl] ?_ ?_
 ·rintro i w ρ S1 hw ⟨⟨a7,rfl⟩,k1⟩;clear hK;obtain⟨h,rfl,gh,mh⟩ : ∃h,w=ap h/\GoodP a bs.length u.length h/\bH kvs u u.length h=true:=by
   rcases HZ.mp (HF hw)with rfl|hw
   ·exact#[p,rfl,hC.gp,hC.mp]
   ·cases HE.mp hw; exact#[r,rfl,hC.gq,hC.mq]
  refine ab (show eJ (.nm 7) (ap h) [gV R,gV (.ref q),gV (.tup [am u,ap p,ap r]),gV (.bl bw),gV (am u),gV (ap p),gV (ap r),a7,td] S1=gV ([gV R,gV (.ref q),gV (.tup [am u,ap p,ap r]),gV (.bl bw),gV (am u),gV (ap p),gV (ap r),gV (ap h),td],S1)from rfl) ?_
  intro Q2 hn2 _;refine aF λK hK=>?_
  dsimp only[wS,wT,wE,wA,wV,wG,am];have ev:u.map ap++[ap h]=(u++[h]).map ap:=by rw[HV]; rfl
  have fw:(u.map ap++[ap h]).length<=1000000:=by rw[Hn,ul]; show _+1<=_; omega
  refine ab (bL (ef fw)) ?_;dsimp only;rw[ev];have iw1:=λ(Q:QW)=>iw h gh S1 Q
  unfold am at iw1;refine iw1 _ λS2 k2=>?_
  refine ab (show cJ S2 (.bl true)=gV true from rfl) #[λz=>(by cases z),λ_=>?_]
  refine ab (bL (ef fw)) ?_;dsimp only;rw[ev];have im1:=λ(Q:QW)=>im R h gh mh S2 Q ((k1.trans k2).get _ _ e)
  unfold am at im1;refine im1 _ ?_;refine ab (show cJ S2 (.bl true)=gV true from rfl) ?_
  exact ah (Q0:=Q2) (λz=>by cases z) (λ_ Q5 hn5 _=>aL (hn5 _ _ (hK _ _ (aL (hn2 _ _ #[#[_,rfl],k1.trans k2])))))
 rintro ρ S1 ⟨⟨a7,rfl⟩,k1⟩;refine hK _ _ ?_;clear hK K;refine aF λK hK=>?_
 dsimp only[wS,wE,wA,wV,wG,Hz];refine fl _ _ (k1.get _ _ e) λl8 S2 e8 _ k2=>hK _ _ ?_
 clear hK K;refine st ?_;dsimp only[wS];refine AF e8 (λ_ h=>h) (λ_ h=>h) λc S3 hc k3=>?_
 rw[hc.mpr ((pQ hk).mp hF)];exact k _ ((k1.trans k2).trans k3)
theorem Dg (V:Tol defs){ms:Hj W}{b0:W}{ns:Hj HM}{bs:Hj Hy}{a q:Hs}{bw:HX}{X:Hj T}{kvs:Hj (T×W)}{w:W}(hb:GoodB bs)(hnl:ns.length=bs.length)(hml:ms.length=a)(hk:∀t,(aN kvs t).isSome=decide (t∈X))(e:S[q]?=gV (.dic kvs))(hw:yo a bs kvs (ye bs.length bw) w)
  (k:∀S',Ka S S'->Q (.bl true,S')) :
  wO (aC (ak defs fuel (d+4)) "_law_told_right" 4 [.tup [.tup ms,.tup (HA aB ns bs),b0],.ref q,w,.bl bw] S) Q:=by
 refine al V.told rfl rfl λQ' hR=>?_
 replace k:∀S',Ka S S'->Q' (.rt (.bl true),S'):=λS' a=>hR _ _ (k S' a)
 clear hR;show wZ _ _ cp [gV (.tup [.tup ms,.tup (HA aB ns bs),b0]),gV (.ref q),gV w,gV (.bl bw),td] S Q';have hb3:bs.length<=3:=by rcases hb with rfl|rfl|rfl|rfl|rfl|rfl <;> decide
 have zl:(HA aB ns bs).length=bs.length:=by rw[Jb,hnl,JL]
 dsimp only[cp];refine aF λK hK=>?_
 dsimp only[wS,wE,wA,wV,wG,Hz];refine ae #v[] rfl (ay ?_)
 rw[zl];refine ab cq ?_;have ei:Bi.int.fn [.bl bw] S=gV (.int (if bw then 1 else 0),S):=rfl
 refine ab ei (ab gL (hK _ _ ?_));clear hK K;have ec:(bs.length:Hy)+1 - (if bw then 1 else 0)=((ye bs.length bw:Hs):Hy):=by
  unfold ye;cases bw
  ·show(bs.length:Hy)+1 - 0=((bs.length+1:Hs):Hy); omega
  ·show(bs.length:Hy)+1 - 1=((bs.length:Hs):Hy); omega
 rw[ec];have hc4:ye bs.length bw<=4:=by unfold ye; split <;> omega
 refine st ?_;dsimp only[wS,wE,wA,wV,wG];rcases hw with⟨rfl,_⟩|⟨x,rfl,hC,hF,hxl⟩
 ·exact ab (show aK .is .non .non S=gV (.bl true,S)from rfl) #[λ_=>k _ .refl,λz=>by cases z]
 ·refine ab (show aK .is (cW x) .non S=gV (.bl false,S)from rfl) #[λz=>(by cases z),λ_=>?_]
  refine kR (d:=d) V hb hnl hml hk e hC hF ∅ λS1 k1=>#[λ_=>?_,λz=>by cases z]
  obtain⟨u,p,r⟩:=x;dsimp only[cW,am];dsimp only at hxl;refine ae #v[] rfl (ay ?_)
  rw[Hk];refine ab (show aK .le (.int (u.length:Hy)) (.int ((ye bs.length bw:Hs):Hy)) S1=gV (.bl (decide ((u.length:Hy)<=((ye bs.length bw:Hs):Hy))),S1)from rfl) ?_
  rw[IZ ∅]
  exact k _ k1
theorem yg (G:Gen defs)(P:Pai defs)(V:Tol defs)(hg:Is defs ("_law_drawn_filled" : HM) 5 10 bn){ms:Hj W}{b0:W}{ns:Hj HM}{bs:Hj Hy}{a q r:Hs}{bw:HX}{X:Hj T}{kvs:Hj (T×W)}(hb:GoodB bs)(hnl:ns.length=bs.length)(hml:ms.length=a)(ha1:0 < a)(ha3:a<=3)(hk:∀t,(aN kvs t).isSome=decide (t∈X))(e:S[q]?=gV (.dic kvs))(hqr:q≠r)(hf:Fl S r)(hno:¬ GF a bs kvs (ye bs.length bw))
  (k:∀S',Fl S' r->Kp r S S'->Q (.bl true,S')) :
  wO (aC (ak defs fuel (d+5)) "_law_drawn_filled" 5 [.ref r,.tup [.tup ms,.tup (HA aB ns bs),b0],.ref q,.int 10,.bl bw] S) Q:=by
 refine al hg rfl rfl λQ' hR=>?_
 replace k:∀S',Fl S' r->Kp r S S'->Q' (.rt (.bl true),S'):=λS' a b=>hR _ _ (k S' a b)
 clear hR;show wZ _ _ bn [gV (.ref r),gV (.tup [.tup ms,.tup (HA aB ns bs),b0]),gV (.ref q),gV (.int 10),gV (.bl bw),td,td,td,td,td] S Q';have hb3:1<=bs.length/\bs.length<=3:=by rcases hb with rfl|rfl|rfl|rfl|rfl|rfl <;> decide
 have zl:(HA aB ns bs).length=bs.length:=by rw[Jb,hnl,JL]
 dsimp only[bn];refine aF λK hK=>?_
 refine bD 10 (λi ρ S'=>(∃a5 a6 a7 a8 a9,ρ=[gV (.ref r),gV (.tup [.tup ms,.tup (HA aB ns bs),b0]),gV (.ref q),gV (.int 10),gV (.bl bw),a5,a6,a7,a8,a9])/\Fl S' r/\Kp r S S') rfl rfl #v[] #[rfl,#[_,_,_,_,_,rfl],hf,.refl] ?_ ?_
 ·rintro i ρ S1 hi ⟨⟨a5,a6,a7,a8,a9,rfl⟩,f1,k1⟩ Q2 hn2 _;clear hK;dsimp only[Hz];refine aF λK hK=>?_
  dsimp only[wS,wE,wA,wV,wG];refine aT (d:=d+3) G.pick f1 #v[] #v[] λv S2 v0 v1 f2 k2=>?_
  refine ab cq ?_;dsimp only;obtain⟨m,rfl⟩ : ∃m:Hs,v=m:=#[v.toNat,∅]
  rw[show(1:Hy)+(m:Hy)=((m+1:Hs):Hy) by omega]
  refine C9 (d:=d) G P hml ha1 ha3 zl hb3.1 hb3.2 ∅ ((k1.trans k2).get _ _ hqr e) hqr f2 λu p w S3 hul hu hst gp mp gq mq f3 k3=>?_
  dsimp only[wU];refine ab (show cL [6,7,8] [am u,ap p,ap w] [gV (.ref r),gV (.tup [.tup ms,.tup (HA aB ns bs),b0]),gV (.ref q),gV (.int 10),gV (.bl bw),gV (.int i),a6,a7,a8,a9]=gV [gV (.ref r),gV (.tup [.tup ms,.tup (HA aB ns bs),b0]),gV (.ref q),gV (.int 10),gV (.bl bw),gV (.int i),gV (am u),gV (ap p),gV (ap w),a9]from rfl) (hK _ _ ?_)
  clear hK K;have k13:=(k1.trans k2).trans k3;refine aF λK hK=>?_
  dsimp only[wS,wE,wA,wV,wG,Hz];refine sF (d:=d+2) V.lmay V.both V.fills hb hnl hu gp gq ∅ (k13.get _ _ hqr e) hk mq λl9 S4 e9 _ k4=>hK _ _ ?_
  clear hK K;refine aF λK hK=>?_
  dsimp only[wS];refine yf e9 (λ_ h=>h) (λ_ h=>h) (λz=>hno #[u,p,w,#[hu,hst,gp,mp,gq,mq],(pQ hk).mpr z]) λS5 k5=>?_
  have k45:=k4.trans k5;exact ah (Q0:=Q2) (λz=>by cases z) (λ_ Q5 hn5 _=>aL (hn5 _ _ (hK _ _ (aL (hn2 _ _ #[#[_,_,_,_,_,rfl],f3.ka k45,k13.trans (k45.kp r)])))))
 ·rintro ρ S1 ⟨⟨a5,a6,a7,a8,a9,rfl⟩,f1,k1⟩;refine hK _ _ (st ?_);dsimp only[wS,wE];exact k _ f1 k1
end
noncomputable def jE:Ss:=
 #v[.set 1 (.own "_law_flow" 1 #v[.v 0]),.set 2 (.own "_law_some_rule" 1 #v[.v 1]),.set 3 (.own "_law_bad" 1 #v[.v 2]),.set 4 (.own "put_on" 1 #v[.v 2]),.ite (.not (.own "_law_told_right" 4 #v[.v 2,.v 3,.v 4,.c (.bl true)])) #v[.ret (.c (.bl false))] .nil,.ite (.or (.and (.cmp .is (.v 4) (.c .non)) (.not (.own "_law_drawn_filled" 5 #v[.v 1,.v 2,.v 3,.c (.int 10),.c (.bl true)]))) (.cmp .eq (.own "is_put_on" 2 #v[.v 2,.v 4]) (.cmp .is (.v 4) (.c .non)))) #v[.ret (.c (.bl false))] .nil,.set 5 (.own "unlaid" 1 #v[.v 2]),.ite (.and (.cmp .isnot (.v 5) (.c .non)) (.or (.cmp .is (.v 4) (.c .non)) (.cmp .isnot (.own "is_put_on" 2 #v[.v 2,.v 5]) (.c (.bl true))))) #v[.ret (.c (.bl false))] .nil,.ret (.cmp .eq (.own "put_on" 1 #v[.v 2]) (.v 4))]
structure Lw29 (defs:Hj (HM×Df)):Prop where
 gen:Gen defs
 unl:Unl defs
 put:Is defs ("put_on" : HM) 1 1 gf
 bwt:Bwt defs
 isp:Is defs ("is_put_on" : HM) 2 2 bO
 pai:Pai defs
 tol:Tol defs
 drw:Is defs ("_law_drawn_filled" : HM) 5 10 bn
 flow:Is defs ("_law_flow" : HM) 1 1 d7
 bad:Is defs ("_law_bad" : HM) 1 4 eS
 law:Is defs ("law" : HM) 1 6 jE
theorem Bk {kvs kvs':Hj (T×W)}{a n:Hs}{u:Wd}{p q:Pt}(h:∀t,(aN kvs t).isSome=(aN kvs' t).isSome)(hC:Cf a n kvs u p q):Cf a n kvs' u p q:=by
 have hm:∀p:Pt,bH kvs u u.length p=true->bH kvs' u u.length p=true:=λp mp=>bq.mpr λq hq i hi=>by
  have:=bq.mp mp q hq i hi;unfold bT at this ⊢;rw[<- h]; exact this
 refine#[hC.gu,λk hk j hj i hi=>?_,hC.gp,hm p hC.mp,hC.gq,hm q hC.mq]
 have:=hC.su k hk j hj i hi;unfold bv at this ⊢;rw[<- h]; exact this
theorem sM {kvs kvs':Hj (T×W)}{bs:Hj Hy}{c:Hs}{u:Wd}{p q:Pt}(h:∀t,(aN kvs t).isSome=(aN kvs' t).isSome)(hF:Full kvs bs c u p q):Full kvs' bs c u p q:=λi hi=>by rw[<- gA h]; exact hF i hi
theorem yh {kvs kvs':Hj (T×W)}{a c:Hs}{bs:Hj Hy}{w:W}(h:∀t,(aN kvs t).isSome=(aN kvs' t).isSome)(hF:yo a bs kvs c w):yo a bs kvs' c w:=by
 rcases hF with⟨rfl,hu⟩|⟨x,rfl,h1,h2,h3⟩
 ·exact .inl #[rfl,λ#[U,P,Q,hC,hF]=>hu #[U,P,Q,Bk (λt=>(h t).symm) hC,sM (λt=>(h t).symm) hF]]
 ·exact .inr #[x,rfl,Bk h h1,sM h h2,h3]
theorem E9 {S:aa}{a c:Hs}{bs:Hj Hy}{kvs:Hj (T×W)}{w:W}(h:yo a bs kvs c w):aK .eq w w S=gV (.bl true,S):=by
 rcases h with⟨rfl,_⟩|⟨x,rfl,_⟩
 ·rfl
 ·show(fL (gQ S (17+2)) [am x.1,ap x.2.1,ap x.2.2] [am x.1,ap x.2.1,ap x.2.2]).map _=_;have e1:gQ S (17+2) (am x.1) (am x.1)=gV true:=by
   show fL (gQ S (16+2)) (x.1.map ap) (x.1.map ap)=_;rw[pA,IZ rfl]
  have e2:∀p:Pt,gQ S (17+2) (ap p) (ap p)=gV true:=λp=>by rw[qA,IZ rfl]
  simp only[fL,e1,e2];rfl
section
variable{defs:Hj (HM×Df)}{fuel d:Hs}
theorem yi (hfu:50 < fuel)(L:Lw29 defs){zs:Hj Hy}:∃S',ak defs fuel (d+12) "law" [.ref 0] [.fro (zs.map W.int)]=gV (.bl true,S'):=by
 suffices h:wO (aC (ak defs fuel (d+12)) "law" 1 [.ref 0] [.fro (zs.map W.int)]) (λp=>p.1=.bl true) by
  obtain⟨⟨v,S'⟩,e,q⟩:=bS h;cases(show v=.bl true from q)
  exact#[S',e]
 have G:=L.gen;refine al L.law rfl rfl λQ' hR=>?_
 show wZ _ _ jE [gV (.ref 0),td,td,td,td,td] [.fro (zs.map W.int)] Q';unfold jE;refine aF λK hK=>?_
 dsimp only[wS,wE,wA,wV,wG,Hz];refine C6 (d:=d+10) L.flow (ns:=zs) rfl λr S1 _ f1=>hK _ _ ?_
 clear hK K;refine aF λK hK=>?_
 dsimp only[wS,wE,wA,wV,wG,Hz];refine pL (d:=d+3) ∅ G L.pai f1 λw S2 hw f2 _=>hK _ _ ?_
 clear hK K f1;obtain⟨a,bs,ms,ns,gs0,rfl,hr⟩:=hw;have hb:=hr.size.good;have hnl:=hr.nl;have hml:=hr.ml;have hpos:=hr.size.pos;have ha3:=hr.size.a3;have pm:(iB gs0).Perm gs0:=vG;have hgs:∀g∈iB gs0,GoodW a bs.length g/\g.length=3:=λg hg=>uu hb (hr.mem g (pm.mem_iff.mp hg))
 have h64:(iB gs0).length<=100:=by
  have h1:=nL gs0 _ hr.nd hr.mem;have h2:=nM hr.size;rw[pm.length_eq]; omega
 clear hr pm;unfold cr;generalize iB gs0=gs at hgs h64;clear gs0;have hb3:0 < bs.length/\bs.length<=3:=by rcases hb with rfl|rfl|rfl|rfl|rfl|rfl <;> decide
 have ml:(ms.map W.str).length=a:=by rw[Hk,hml]
 refine aF λK hK=>?_
 dsimp only[wS,wE,wA,wV,wG,Hz];refine E2 (d:=d+8) G L.bad hb hnl hgs h64 λq kvs S3 e3 h3 hq k3=>hK _ _ ?_
 clear hK K;have f3:=f2.ka k3;have hqr:q≠r:=by have:=f2.lt; omega
 clear k3 hq f2;have po:∀(S:aa) (Q:QW),(∀w kvs S',HasD kvs (br bs gs)->yo a bs kvs bs.length w->Bj a bs kvs bs.length w->Ka S S'->Q (w,S'))->wO (aC (ak defs fuel (d+11)) "put_on" 1 [.tup [.tup (ms.map W.str),.tup (HA aB ns bs),.tup (gs.map am)]] S) Q:=λS Q h=>yd (d:=d) ∅ L.unl L.put hb hnl ml ha3 hgs h64 h
 have yes:∀(x:Wd×Pt×Pt) (S:aa) (Q:QW),Cf a bs.length kvs x.1 x.2.1 x.2.2->Full kvs bs bs.length x.1 x.2.1 x.2.2->x.1.length<=4->(∀S',Ka S S'->Q (.bl true,S'))->wO (aC (ak defs fuel (d+11)) "is_put_on" 2 [.tup [.tup (ms.map W.str),.tup (HA aB ns bs),.tup (gs.map am)],cW x] S) Q:=λx S Q h1 h2 h4 h=>qY (d:=d+3) ∅ L.unl.fil L.bwt L.isp hb hnl ml hgs h64 h3 h1 h2 ∅ h
 refine aF λK hK=>?_
 dsimp only[wS,wE,wA,wV,wG,Hz];refine po _ _ λw kvs1 S4 h4 hf1 hd1 k4=>hK _ _ ?_
 clear hK K;have hf:=yh (kvs':=kvs) (λt=>by rw[h4.get,h3.get]) hf1
 have e4:=k4.get _ _ e3;have f4:=f3.ka k4;clear hf1 e3 f3 k4;refine aF λK hK=>?_
 dsimp only[wS,wT,wE,wA,wV,wG];refine Dg (d:=d+7) L.tol (bw:=true) hb hnl ml h3.get e4 hf λS5 k5=>?_
 refine ab (show cJ S5 (.bl true)=gV true from rfl) ?_
 refine ah (Q0:=Q') (λz=>by cases z) (λ_ Q2 hn2 _=>aL (hn2 _ _ (hK _ _ ?_)))
 clear hn2 hK K;have e5:=k5.get _ _ e4;have f5:=f4.ka k5;clear e4 f4 k5;refine aF λK hK=>?_
 have tl:∀S6:aa,K [gV (.ref 0),gV (.ref r),gV (.tup [.tup (ms.map W.str),.tup (HA aB ns bs),.tup (gs.map am)]),gV (.ref q),gV w,td] S6:=by
  intro S6;refine hK _ _ ?_;clear hK K;refine aF λK hK=>?_
  dsimp only[wS,wE,wA,wV,wG,Hz];refine yc (d:=d) ∅ L.unl hb hnl ml ha3 hgs h64 λw7 kvs7 S7 h7 hf7 _ _=>hK _ _ ?_
  clear hK K;have hf7:=yh (kvs':=kvs) (λt=>by rw[h7.get,h3.get]) hf7
  have fin:∀S8:aa,wZ (ak defs fuel (d+11)) fuel #v[.ret (.cmp .eq (.own "put_on" 1 #v[.v 2]) (.v 4))] [gV (.ref 0),gV (.ref r),gV (.tup [.tup (ms.map W.str),.tup (HA aB ns bs),.tup (gs.map am)]),gV (.ref q),gV w,gV w7] S8 Q':=λS8=>by
   refine st ?_;dsimp only[wS,wE,wA,wV,wG];refine po _ _ λw9 kvs9 S9 h9 _ hd9 _=>?_
   rw[yb hb3.1 (λt=>by rw[h9.get,h4.get]) hd9 hd1]
   exact ab (E9 hf) (hR _ _ rfl)
  refine aF λK hK=>?_
  dsimp only[wS,wT,wE,wA,wV,wG];rcases hf7 with⟨rfl,_⟩|⟨x,rfl,hC,hF,hxl⟩
  ·refine ab (show aK .isnot .non .non S7=gV (.bl false,S7)from rfl) #[λz=>(by cases z),λ_=>?_]
   exact ah (Q0:=Q') (λz=>by cases z) (λ_ Q2 hn2 _=>aL (hn2 _ _ (hK _ _ (fin _))))
  ·refine ab (show aK .isnot (cW x) .non S7=gV (.bl true,S7)from rfl) #[λ_=>?_,λz=>by cases z]
   have hF':Full kvs bs bs.length x.1 x.2.1 x.2.2:=λi hi=>hF i ∅
   have hf':=hf;rcases hf' with⟨rfl,hno⟩|⟨y,rfl,_⟩
   ·exact absurd #[_,_,_,hC,hF'] hno
   ·refine ab (show aK .is (cW y) .non S7=gV (.bl false,S7)from rfl) #[λz=>(by cases z),λ_=>?_]
    refine yes x _ _ hC hF' ∅ λS8 _=>?_
    refine ab (show aK .isnot (.bl true) (.bl true) S8=gV (.bl false,S8)from rfl) ?_
    dsimp only[wB];exact ah (Q0:=Q') (λz=>by cases z) (λ_ Q2 hn2 _=>aL (hn2 _ _ (hK _ _ (fin _))))
 dsimp only[wS,wT,wE,wA,wV,wG];have hf':=hf;rcases hf' with⟨rfl,hno⟩|⟨x,rfl,hC,hF,hxl⟩
 ·refine ab (show aK .is .non .non S5=gV (.bl true,S5)from rfl) #[λ_=>?_,λz=>by cases z]
  refine yg (d:=d+6) (bw:=true) G L.pai L.tol L.drw hb hnl ml hpos ha3 h3.get e5 hqr f5 hno λS6 _ _=>?_
  refine ab (show cJ S6 (.bl true)=gV true from rfl) #[λz=>(by cases z),λ_=>?_]
  refine uE (d:=d+8) L.bwt L.isp ?_;refine ab (show aK .is .non .non S6=gV (.bl true,S6)from rfl) ?_
  refine ab (show aK .eq (.bl false) (.bl true) S6=gV (.bl false,S6)from rfl) ?_
  dsimp only[wB];exact ah (Q0:=Q') (λz=>by cases z) (λ_ Q2 hn2 _=>aL (hn2 _ _ (tl S6)))
 ·refine ab (show aK .is (cW x) .non S5=gV (.bl false,S5)from rfl) #[λz=>(by cases z),λ_=>#[λz=>(by cases z),λ_=>?_]]
  refine yes x _ _ hC hF ∅ λS6 _=>?_
  refine ab (show aK .is (cW x) .non S6=gV (.bl false,S6)from rfl) ?_
  refine ab (show aK .eq (.bl true) (.bl false) S6=gV (.bl false,S6)from rfl) ?_
  dsimp only[wB];exact ah (Q0:=Q') (λz=>by cases z) (λ_ Q2 hn2 _=>aL (hn2 _ _ (tl S6)))
end
noncomputable def mB (i:Hs):Kn:=PySem.Challenge.pw_layworld_k29_put_on.main.body.getD i (.Pass #[0,0,0,0])
noncomputable def Bl:Df:=#[["_law_script"],["_law_script","_law_flow_here","_law_rule","_law_bad_here","_law_told","_law_unfilled_here"],jE]
noncomputable abbrev Tw:=HM×Hs×Df×Hs
noncomputable abbrev tw (x:HM)(i:Hs)(d:Df)(a:Hs):Tw:=(x,i,d,a)
noncomputable def TL:Hj Tw:=[tw "is_whole" 1 #[["thing"],["thing"],fD] 21,tw "is_tuple_of" 2 #[["thing","size"],["thing","size"],bV] 28,tw "is_numbers" 3 #[["thing","size"],["thing","size"],dQ] 33,tw "is_world" 5 #[["rule","thing"],["rule","thing"],fE] 38,tw "is_point" 6 #[["rule","thing","ahead"],["rule","thing","ahead","mark_there"],fF] 43,tw "has_point_form" 7 #[["thing","ahead"],["thing","ahead"],cm] 50,tw "way" 8 #[["rule","world","i","j"],["rule","world","i","j"],sD] 57,tw "part" 10 #[["rule","world","points"],["rule","world","points"],gY] 62,tw "point_over" 11 #[["rule","world","ahead","point"],["rule","world","ahead","point"],dP] 67,tw "longer_orders" 12 #[["orders","size"],["orders","size","longer","order"],aW] 72,tw "back" 14 #[["rule","way"],["rule","way"],je] 79,tw "barred_threes" 16 #[["rule"],["rule","orders","barred","figure","order"],bz] 86,tw "three_at" 17 #[["world","i","j","k"],["world","i","j","k","one","two"],aX] 93,tw "first_barred" 18 #[["rule","world"],["rule","world"],cb] 100,tw "first_three" 19 #[["barred","world"],["barred","world","i","j","k"],bU] 107,tw "first_bar" 20 #[["barred","world"],["barred","world","last","point"],aU] 114,tw "wishes_over" 21 #[["rule","barred","world"],["rule","barred","world","found","mark","heads","size"],cy] 119,tw "longer_wishes" 22 #[["rule","heads"],["rule","heads","longer","mark","ways"],bA] 124,tw "barred_by" 24 #[["rule","base","one","other"],["rule","base","one","other"],dz] 131,tw "all_bars" 25 #[["rule","barred","base","one","other"],["rule","barred","base","one","other","bars"],fu] 136,tw "with_both" 26 #[["rule","base","one","other","number"],["rule","base","one","other","number"],dA] 143,tw "same_bar" 27 #[["one","other"],["one","other","apart"],eh] 148,tw "unlaid" 29 #[["rule"],["rule"],iJ] 155,tw "put_on" 30 #[["rule"],["rule"],gf] 162,tw "first_unfilled" 31 #[["rule","counted"],["rule","counted","barred","mark","other","found"],cj] 169,tw "unfilled_behind" 32 #[["rule","barred","tried","counted"],["rule","barred","tried","counted","bars","place","longer","found"],bF] 176,tw "longer_by_a_point" 33 #[["rule","barred","tried"],["rule","barred","tried","longer","point","base","others","one"],bJ] 181,tw "longer_by_a_way" 34 #[["rule","barred","base","wish"],["rule","barred","base","wish","longer"],bE] 186,tw "is_put_on" 35 #[["rule","thing"],["rule","thing"],bO] 193,tw "is_base_with_two" 36 #[["rule","thing"],["rule","thing"],aR] 198,tw "_law_flow" 38 #[["_law_script"],["_law_script"],d7] 205,tw "_law_pick" 39 #[["_law_flow_here","_law_many"],["_law_flow_here","_law_many","_law_cell","_law_digit"],cM] 212,tw "_law_names" 40 #[["_law_flow_here","_law_many"],["_law_flow_here","_law_many"],eE] 217,tw "_law_between" 41 #[["_law_rule","_law_world_here","_law_i","_law_j"],["_law_rule","_law_world_here","_law_i","_law_j"],dq] 224,tw "_law_part" 42 #[["_law_rule","_law_world_here","_law_points"],["_law_rule","_law_world_here","_law_points","_law_told","_law_k","_law_i"],fg] 229,tw "_law_turns" 43 #[[],[],fX] 236,tw "_law_figure" 44 #[["_law_rule","_law_three"],["_law_rule","_law_three"],dM] 241,tw "_law_bad" 45 #[["_law_rule"],["_law_rule","_law_bad_here","_law_three","_law_points"],eS] 248,tw "_law_may" 46 #[["_law_rule","_law_bad_here","_law_world_here"],["_law_rule","_law_bad_here","_law_world_here","_law_k"],eX] 255,tw "_law_last_may" 47 #[["_law_rule","_law_bad_here","_law_world_here","_law_k"],["_law_rule","_law_bad_here","_law_world_here","_law_k","_law_mark","_law_to","_law_j","_law_i"],aG] 262,tw "_law_backs" 48 #[["_law_flow_here","_law_many"],["_law_flow_here","_law_many","_law_menu"],eB] 269,tw "_law_rule_of" 49 #[["_law_flow_here","_law_marks","_law_backs_here","_law_barred"],["_law_flow_here","_law_marks","_law_backs_here","_law_barred","_law_names_here","_law_ways"],dt] 274,tw "_law_free_three" 50 #[["_law_flow_here","_law_marks","_law_ways"],["_law_flow_here","_law_marks","_law_ways","_law_told","_law_k"],ci] 279,tw "_law_sizes" 51 #[["_law_flow_here"],["_law_flow_here","_law_menu"],eC] 286,tw "_law_any_rule" 52 #[["_law_flow_here"],["_law_flow_here","_law_marks","_law_ways","_law_rule","_law_barred","_law_k"],cY] 293,tw "_law_laying_kind" 53 #[["_law_flow_here"],["_law_flow_here","_law_menu"],b8] 300,tw "_law_breaks" 54 #[["_law_backs_here","_law_must","_law_to_one","_law_to_two","_law_between_here"],["_law_backs_here","_law_must","_law_to_one","_law_to_two","_law_between_here","_law_to","_law_pair_here","_law_x","_law_y","_law_z"],dN] 307,tw "_law_numbered" 55 #[["_law_flow_here","_law_backs_here","_law_must"],["_law_flow_here","_law_backs_here","_law_must","_law_many","_law_menu","_law_some","_law_numbers","_law_told","_law_k","_law_other","_law_u","_law_v"],bj] 312,tw "_law_laying_rule" 56 #[["_law_flow_here"],["_law_flow_here","_law_form","_law_backs_here","_law_must","_law_most","_law_marks","_law_rule","_law_barred","_law_many","_law_at","_law_one","_law_two","_law_between_here","_law_some","_law_first"],b9] 319,tw "_law_rising" 57 #[["_law_marks"],["_law_marks","_law_told","_law_i","_law_j"],dO] 324,tw "_law_free_rule" 58 #[["_law_flow_here"],["_law_flow_here","_law_marks","_law_ways","_law_rule","_law_k","_law_own","_law_free","_law_barred","_law_three"],cD] 329,tw "_law_one_way_rule" 59 #[["_law_flow_here"],["_law_flow_here","_law_marks","_law_barred"],bP] 334,tw "_law_unlaying_rule" 60 #[["_law_flow_here"],["_law_flow_here","_law_form","_law_rule","_law_barred","_law_some","_law_one","_law_two","_law_between_here","_law_first","_law_marks"],bc] 339,tw "_law_new_ways" 61 #[["_law_flow_here","_law_rule","_law_bad_here","_law_world_here","_law_mark","_law_to"],["_law_flow_here","_law_rule","_law_bad_here","_law_world_here","_law_mark","_law_to","_law_k","_law_left","_law_w","_law_seen","_law_i"],aP] 346,tw "_law_world" 62 #[["_law_flow_here","_law_rule","_law_bad_here","_law_many"],["_law_flow_here","_law_rule","_law_bad_here","_law_many","_law_world_here","_law_k","_law_mark","_law_to"],dy] 353,tw "_law_some_rule" 63 #[["_law_flow_here"],["_law_flow_here","_law_form"],cF] 360,tw "_law_new_point" 64 #[["_law_flow_here","_law_rule","_law_bad_here","_law_base"],["_law_flow_here","_law_rule","_law_bad_here","_law_base","_law_first","_law_k","_law_mark","_law_to"],cG] 367,tw "_law_near" 65 #[["_law_flow_here","_law_rule","_law_bad_here","_law_base","_law_point"],["_law_flow_here","_law_rule","_law_bad_here","_law_base","_law_point","_law_mark","_law_to","_law_kind","_law_at"],fA] 374,tw "_law_pair" 66 #[["_law_flow_here","_law_rule","_law_bad_here","_law_many"],["_law_flow_here","_law_rule","_law_bad_here","_law_many","_law_base","_law_one","_law_other"],fB] 381,tw "_law_both" 67 #[["_law_rule","_law_base","_law_one","_law_other","_law_number"],["_law_rule","_law_base","_law_one","_law_other","_law_number"],dj] 388,tw "_law_fills" 68 #[["_law_rule","_law_bad_here","_law_base","_law_one","_law_other"],["_law_rule","_law_bad_here","_law_base","_law_one","_law_other","_law_found","_law_number"],dB] 395,tw "_law_is_world" 69 #[["_law_rule","_law_thing"],["_law_rule","_law_thing","_law_k","_law_point","_law_number","_law_numbers","_law_many"],cf] 400,tw "_law_unfilled" 70 #[["_law_rule","_law_bad_here","_law_thing","_law_by_ways"],["_law_rule","_law_bad_here","_law_thing","_law_by_ways","_law_base","_law_one","_law_other","_law_point","_law_found"],db] 407,tw "_law_told_right" 71 #[["_law_rule","_law_bad_here","_law_told","_law_by_ways"],["_law_rule","_law_bad_here","_law_told","_law_by_ways","_law_most"],cp] 414,tw "_law_drawn_filled" 72 #[["_law_flow_here","_law_rule","_law_bad_here","_law_turns_here","_law_by_ways"],["_law_flow_here","_law_rule","_law_bad_here","_law_turns_here","_law_by_ways","_law_k","_law_base","_law_one","_law_other","_law_found"],bn] 421,tw "law" 73 Bl 428]
noncomputable def jp:Hj (HM×Df):=TL.map λp=>(p.1,p.2.2.1)
noncomputable def GH:Hj (HM×Hs):=TL.map λp=>(p.1,p.2.2.1.ps.length)
noncomputable def AG:Hj HM:=["range","len","list","tuple","int","sorted","isinstance","bool","str","all","min","enumerate"]
noncomputable def Dp:Md:=#[GH,AG]
noncomputable def BD (x:HM)(st:Kn)(df:Df):Prop:=∀(kV doc pm:Hm) (an:Hr Hw) (cdv ct:Hm) (us:Hj Hm),us.length=df.ps.length->bindArgs (JK x x (dH st) (cz st) (aS st) .none kV doc pm an cdv ct) #[us,[]]=pure (df.ps.zip us)
theorem G8 {us:Hj Hm}(h:us.length=0):us=[]:=match us,h with|[],_=>rfl
theorem G9 {us:Hj Hm}(h:us.length=1):∃a,us=[a]:=match us,h with|[a],_=>#[a,rfl]
theorem Ha {us:Hj Hm}(h:us.length=2):∃a b,us=[a,b]:=match us,h with|[a,b],_=>#[a,b,rfl]
theorem Hb {us:Hj Hm}(h:us.length=3):∃a b c,us=[a,b,c]:=match us,h with|[a,b,c],_=>#[a,b,c,rfl]
theorem Hc {us:Hj Hm}(h:us.length=4):∃a b c d,us=[a,b,c,d]:=match us,h with|[a,b,c,d],_=>#[a,b,c,d,rfl]
theorem Hd {us:Hj Hm}(h:us.length=5):∃a b c d e,us=[a,b,c,d,e]:=match us,h with|[a,b,c,d,e],_=>#[a,b,c,d,e,rfl]
theorem He {us:Hj Hm}(h:us.length=6):∃a b c d e f,us=[a,b,c,d,e,f]:=match us,h with|[a,b,c,d,e,f],_=>#[a,b,c,d,e,f,rfl]
noncomputable def DG (p:Tw):Prop:=Ek Dp (mB p.2.1) p.2.2.1/\FnScope p.2.2.1.N p.2.2.1.ps (aS (mB p.2.1))/\BD p.1 (mB p.2.1) p.2.2.1
theorem gc {α:Type}{F:α->Prop}{p:α}{L:Hj α}(a:F p)(b:∀q∈L,F q):∀q∈p::L,F q:=List.forall_mem_cons.mpr #[a,b]
theorem gn {α:Type}{F:α->Prop}:∀q∈([]:Hj α),F q:=λ_ h=>nomatch h
theorem Hf {p:Tw}(a:r8 (cS 20 (wu Dp (mB p.2.1) p.2.2.1.N)) (cz (mB p.2.1))=gV p.2.2.1.body)(b:FnScope p.2.2.1.N p.2.2.1.ps (aS (mB p.2.1)))(c:BD p.1 (mB p.2.1) p.2.2.1):DG p:=#[a,b,c]
set_option maxHeartbeats 0 in
theorem Bm:∀p∈TL,DG p:=by
 unfold TL
 repeat refine gc (Hf (by kernel_rfl) #[rfl,rfl,rfl,by decide +kernel,rfl,by decide +kernel,by decide +kernel] λ_ _ _ _ _ _ us h=>by
  first
   | (obtain⟨a,rfl⟩:=G9 h; rfl)
   | (obtain⟨a,b,rfl⟩:=Ha h; rfl)
   | (obtain⟨a,b,c,rfl⟩:=Hb h; rfl)
   | (obtain⟨a,b,c,d,rfl⟩:=Hc h; rfl)
   | (obtain⟨a,b,c,d,e,rfl⟩:=Hd h; rfl)
   | (obtain⟨a,b,c,d,e,f,rfl⟩:=He h; rfl)
   | (obtain rfl:=G8 h; rfl)) ?_
 exact gn
theorem Hg {f:HM}{m n:Hs}{b:Ss}(h:((jp.lookup f).map λd=>(d.ps.length,d.N.length,d.body))=gV (m,n,b)):Is jp f m n b:=by
 rw[Ho]at h;obtain⟨d,h1,h2⟩:=h;rw[O9,O9]at h2;exact#[d,h1,h2.1,h2.2.1,h2.2.2]
set_option maxHeartbeats 0 in
theorem Fa:Lw29 jp:=by
 repeat' first
  | exact Hg (by kernel_rfl)
  | constructor
theorem kS:∀(L:Hj Tw) (x:HM) (n:Hs),(L.map λp=>(p.1,p.2.2.1.ps.length)).lookup x=gV n->∃p∈L,p.1=x/\p.2.2.1.ps.length=n/\(L.map λp=>(p.1,p.2.2.1)).lookup x=gV p.2.2.1
 | [],x,n,h=>by cases h
 | p::L,x,n,h=>by
  rw[Jd,Jp]at h;rw[Jd,Jp];cases e:x==p.1 with
  | true=>
   rw[e]at h;cases h;exact#[p,Jk ..,(eq_of_beq e).symm,rfl,rfl]
  | false=>
   rw[e]at h;obtain⟨q,h1,h2,h3,h4⟩:=kS L x n h;exact#[q,IL _ h1,h2,h3,h4]
section
variable{P:Io}{w:IA}{K:HD}{mg:HM->Hr Hm}{base:IJ}
noncomputable def yj (K:HD)(mg:HM->Hr Hm)(x:HM)(st:Kn)(df:Df):Prop:=∃(f:Hw) (fd:J4),Fun K x x st f fd/\mg x=gV (.ref f)/\Jh K (.ref f)=true/\Binds K fd df.ps []
theorem Dh {h:IJ}{x:HM}{st:Kn}{df:Df}{f:Hw}{oc:Hm}{od an:Hr Hw}{osl:IF (Hr Hm)}{kV doc pm cdv ct:Hm}(X:K.In h)(G:h.Ns mainGlobals mg)
  (b:BD x st df)
  (a:KP K mainGlobals x=gV (gV (.ref f))) (l:K.lookup f=gV #[oc,od,.func (JK x x (dH st) (cz st) (aS st) .none kV doc pm an cdv ct),osl]) (c:Ks K cdv x=true) (k:Jh K (.ref f)=true):yj K mg x st df:=
 have F:=vd (st:=st) l c k
 #[f,_,F,Pa X G a,k,F.binds b]
theorem yk {fuel:Hs}(hb:MdOk w K mg Dp)(D:∀p∈TL,yj K mg p.1 (mB p.2.1) p.2.2.1):∀d,AU P w K mg base Dp jp fuel d
 | 0=>λf n h=>by
  obtain⟨p,h1,rfl,h2,h3⟩:=kS TL f n h;obtain⟨fa,fd,F,m,kp,b⟩:=D p h1;refine#[fa,fd,p.2.2.1.ps,#[λvs H Q E z=>?_,λA outer s H args us vs Q E hr he hbd hv z=>?_],m,kp,b]
  all_goals
   obtain⟨_,_,_,_,_,_,_,_,z,_⟩:=z;cases z
 | d+1=>λf n h=>by
  obtain⟨p,h1,rfl,h2,h3⟩:=kS TL f n h;obtain⟨g1,g2,_⟩:=Bm p h1;obtain⟨fa,fd,F,m,kp,b⟩:=D p h1;refine#[fa,fd,p.2.2.1.ps,?_,m,kp,b];rw[<- h2];exact AV F g2 h3 g1 hb (yk hb D d)
theorem Fb {h:IJ}(X:K.In h)(G:h.Ns mainGlobals mg)(z:∀y∈AG,KP K mainGlobals y=gV td):MdOk w K mg Dp:=#[λy hy=>PySem.W.mg_none_of X G (z y hy)]
end
theorem Di {l:Mz}{w:IA}{K:HD}{h:IJ}{mg:HM->Hr Hm}{fa f:Hw}(X:K.In h)(G:h.Ns mainGlobals mg)(hfa:mg "law" = gV (.ref fa))(hb:MdOk w K mg Dp)(D:∀p∈TL,yj K mg p.1 (mB p.2.1) p.2.2.1)
  {oc:Hm} {od an:Hr Hw} {osl:IF (Hr Hm)} {kV doc pm cdv ct:Hm} (a:KP K mainGlobals "law" = gV (gV (.ref f))) (l':K.lookup f=gV #[oc,od,.func (JK "law" "law" (dH (mB 73)) (cz (mB 73)) (aS (mB 73)) .none kV doc pm an cdv ct),osl]) (c:Ks K cdv "law" = true) (k:Jh K (.ref f)=true) :
  ∃fd:J4,(∀(s:Hq) (v:Hm),NF s fd #[[v],[]] [("_law_script",v)])/\∀base:IJ,K.In base->base.Ns mainGlobals mg->FnOk l.prog w K mg base uG 12 fa fd ["_law_script"] (vR w K 1 (ak jp 100 12 "law")):=by
 have e:=hfa.symm.trans (Pa X G a);cases e;have F:=vd (st:=mB 73) l' c k;exact#[JK "law" "law" (dH (mB 73)) (cz (mB 73)) (aS (mB 73)) .none kV doc pm an cdv ct,λs v=>.of_eq rfl,λbase _ _=>AV (df:=Bl) F #[rfl,rfl,rfl,by decide +kernel,rfl,by decide +kernel,by decide +kernel] (by rfl) (by rfl) hb (yk hb D 11)]
theorem GJ {l:Mz}{q:Io}{loose:Hj HM}{XP:(HM->Hr Hm)->IJ->Prop}{YP:IA->IJ->Prop}{d:DefRec}{K:Nq->HD}(hn:l.most=gV 63)(hdf:d.params.defaults=[])
  (hY:∀(w:IA) (h:IJ),YP w h->(K w.params).In h)
  (F:∀(w:IA) (mg:HM->Hr Hm) (fa:Hw) (h:IJ),(K w.params).In h->h.Ns mainGlobals mg->mg d.name=gV (.ref fa)->
   ∃fd:J4,(∀(s:Hq) (u:Hm),NF s fd #[[u],[]] [("_law_script",u)])/\∀base:IJ,(K w.params).In base->base.Ns mainGlobals mg->FnOk l.prog w (K w.params) mg base uG 12 fa fd ["_law_script"] (vR w (K w.params) 1 (ak jp 100 12 "law"))) :
  O1 q loose XP YP l.row.toRowW d [] (λf vs=>OG f vs):=
 L2.yR (n:=63) (k:=12) (x:="_law_script") (CX:=λ_=>uG) (sp:=λw=>vR w (K w.params) 1 (ak jp 100 12 "law")) hn #v[] hdf #[rfl,#v[],#v[]] hY F
  (λw H a ns hl hO hS=>CD (yi (defs:=jp) (fuel:=100) (d:=0) #v[] Fa) hO hS) λ_ _ _ _ _ z=>z
end Mi
open PySem PySem.W PyProof.Rows L2
set_option maxHeartbeats 0
namespace Mi
section
noncomputable def pw:Io:=MW
noncomputable def ge (P:Nq)(n:HM)(t:Hs)(v:Hm):JR:=#[PyData.keyHash P n,.str n t,v]
noncomputable def kd (a:Hs)(es:Hj JR)(n:Hs):Hw×Jr:=(a,#[.type "dict",td,.dict es.toArray n,#[]])
noncomputable def kc (a:Hs)(vs:Hj Hm):Hw×Jr:=(a,#[.type "code",td,.fields vs.toArray,#[]])
noncomputable def kf (a:Hs)(st:Kn)(n:HM)(pm cd:Hm):Hw×Jr:=(a,#[.type "function",td,.func (JK n n (dH st) (cz st) (aS st) .none .none .none pm td cd .none),#[]])
noncomputable def GK (i:Hs):Hm:=if i<=3 then(.str "layworld.kinds" 187)else if i<=8 then(.str "layworld.worlds" 210)else if i<=12 then(.str "layworld.parts" 242)else if i<=14 then(.str "layworld.rules" 262)else if i<=22 then(.str "layworld.threes" 272)else if i<=27 then(.str "layworld.fillings" 338)else if i<=36 then(.str "layworld.always" 373)else(.str "law_layworld_k29_put_on" 441)
noncomputable def kx (a:Hs)(b:HX)(i:Hs)(s:HM)(t:Hs)(l p:Hy)(m:Hs)(R:HD):HD:=kc a [.str s t,.str s (t+1),.str "/claim/cut.py" (t+2),.int l 0,.int p 0,.int 0 0,.int 0 0,.int 3 0,.ref (if b then a - 5 else a - 3),.bool true,.int 181 0,.ref (if b then a - 4 else a - 2),.none,if b then .ref (a - 3)else .none,if b then .ref (a - 2)else .none,.ref (a - 1),.int m 0,.int l 0,.str "/claim/cut.py" (m+1)]::kf (a+1) (mB i) s (GK i) (.ref a)::R
noncomputable def K0 (P:Nq):HD:=kd 3 [ge P "__name__" 165 (.str "law_layworld_k29_put_on" 441),ge P "__doc__" 166 .none,ge P "__package__" 167 .none,ge P "__loader__" 168 (.builtin "__main__.__loader__#opaque"),ge P "__spec__" 169 .none,ge P "__annotations__" 170 (.ref 6),ge P "__builtins__" 171 (.ref 4),ge P "__file__" 173 (.str "/claim/cut.py" 172),ge P "__cached__" 174 .none,ge P "is_whole" 195 (.ref 21),ge P "is_tuple_of" 203 (.ref 28),ge P "is_numbers" 209 (.ref 33),ge P "is_world" 217 (.ref 38),ge P "is_point" 223 (.ref 43),ge P "has_point_form" 231 (.ref 50),ge P "way" 241 (.ref 57),ge P "part" 249 (.ref 62),ge P "point_over" 255 (.ref 67),ge P "longer_orders" 261 (.ref 72),ge P "back" 271 (.ref 79),ge P "barred_threes" 284 (.ref 86),ge P "three_at" 296 (.ref 93),ge P "first_barred" 304 (.ref 100),ge P "first_three" 315 (.ref 107),ge P "first_bar" 325 (.ref 114),ge P "wishes_over" 331 (.ref 119),ge P "longer_wishes" 337 (.ref 124),ge P "barred_by" 349 (.ref 131),ge P "all_bars" 355 (.ref 136),ge P "with_both" 366 (.ref 143),ge P "same_bar" 372 (.ref 148),ge P "unlaid" 381 (.ref 155),ge P "put_on" 388 (.ref 162),ge P "first_unfilled" 400 (.ref 169),ge P "unfilled_behind" 414 (.ref 176),ge P "longer_by_a_point" 420 (.ref 181),ge P "longer_by_a_way" 426 (.ref 186),ge P "is_put_on" 434 (.ref 193),ge P "is_base_with_two" 440 (.ref 198),ge P "_law_flow" 449 (.ref 205),ge P "_law_pick" 459 (.ref 212),ge P "_law_names" 465 (.ref 217),ge P "_law_between" 475 (.ref 224),ge P "_law_part" 481 (.ref 229),ge P "_law_turns" 487 (.ref 236),ge P "_law_figure" 493 (.ref 241),ge P "_law_bad" 503 (.ref 248),ge P "_law_may" 513 (.ref 255),ge P "_law_last_may" 527 (.ref 262),ge P "_law_backs" 536 (.ref 269),ge P "_law_rule_of" 542 (.ref 274),ge P "_law_free_three" 548 (.ref 279),ge P "_law_sizes" 556 (.ref 286),ge P "_law_any_rule" 568 (.ref 293),ge P "_law_laying_kind" 576 (.ref 300),ge P "_law_breaks" 592 (.ref 307),ge P "_law_numbered" 598 (.ref 312),ge P "_law_laying_rule" 619 (.ref 319),ge P "_law_rising" 625 (.ref 324),ge P "_law_free_rule" 631 (.ref 329),ge P "_law_one_way_rule" 637 (.ref 334),ge P "_law_unlaying_rule" 643 (.ref 339),ge P "_law_new_ways" 660 (.ref 346),ge P "_law_world" 674 (.ref 353),ge P "_law_some_rule" 682 (.ref 360),ge P "_law_new_point" 696 (.ref 367),ge P "_law_near" 711 (.ref 374),ge P "_law_pair" 724 (.ref 381),ge P "_law_both" 735 (.ref 388),ge P "_law_fills" 748 (.ref 395),ge P "_law_is_world" 754 (.ref 400),ge P "_law_unfilled" 769 (.ref 407),ge P "_law_told_right" 780 (.ref 414),ge P "_law_drawn_filled" 796 (.ref 421),ge P "law" 808 (.ref 428)] 75::(kx 20 true 1 "is_whole" 189 2 1 193
 (kx 27 true 2 "is_tuple_of" 196 4 2 201
 (kx 32 false 3 "is_numbers" 204 6 2 207
 (kx 37 false 5 "is_world" 212 9 2 215
 (kx 42 false 6 "is_point" 218 11 3 221
 (kx 49 true 7 "has_point_form" 224 16 2 229
 (kx 56 true 8 "way" 232 18 4 239
 (kx 61 false 10 "part" 244 23 3 247
 (kx 66 false 11 "point_over" 250 25 4 253
 (kx 71 false 12 "longer_orders" 256 27 2 259
 (kx 78 true 14 "back" 264 33 2 269
 (kx 85 true 16 "barred_threes" 274 36 1 282
 (kx 92 true 17 "three_at" 285 45 4 294
 (kx 99 true 18 "first_barred" 297 49 2 302
 (kx 106 true 19 "first_three" 305 51 2 313
 (kx 113 true 20 "first_bar" 316 58 2 323
 (kx 118 false 21 "wishes_over" 326 64 3 329
 (kx 123 false 22 "longer_wishes" 332 72 2 335
 (kx 130 true 24 "barred_by" 340 78 4 347
 (kx 135 false 25 "all_bars" 350 80 5 353
 (kx 142 true 26 "with_both" 356 83 5 364
 (kx 147 false 27 "same_bar" 367 85 2 370
 (kx 154 true 29 "unlaid" 375 91 1 379
 (kx 161 true 30 "put_on" 382 93 1 386
 (kx 168 true 31 "first_unfilled" 389 95 2 398
 (kx 175 true 32 "unfilled_behind" 401 103 4 412
 (kx 180 false 33 "longer_by_a_point" 415 114 3 418
 (kx 185 false 34 "longer_by_a_way" 421 122 4 424
 (kx 192 true 35 "is_put_on" 427 125 2 432
 (kx 197 false 36 "is_base_with_two" 435 127 2 438
 (kx 204 true 38 "_law_flow" 443 134 1 447
 (kx 211 true 39 "_law_pick" 450 136 2 457
 (kx 216 false 40 "_law_names" 460 151 2 463
 (kx 223 true 41 "_law_between" 466 153 4 473
 (kx 228 false 42 "_law_part" 476 157 3 479
 (kx 235 true 43 "_law_turns" 482 163 0 485
 (kx 240 false 44 "_law_figure" 488 165 2 491
 (kx 247 true 45 "_law_bad" 494 167 1 501
 (kx 254 true 46 "_law_may" 504 173 3 511
 (kx 261 true 47 "_law_last_may" 514 178 4 525
 (kx 268 true 48 "_law_backs" 528 185 2 534
 (kx 273 false 49 "_law_rule_of" 537 188 4 540
 (kx 278 false 50 "_law_free_three" 543 192 3 546
 (kx 285 true 51 "_law_sizes" 549 197 1 554
 (kx 292 true 52 "_law_any_rule" 557 200 1 566
 (kx 299 true 53 "_law_laying_kind" 569 207 1 574
 (kx 306 true 54 "_law_breaks" 577 216 5 590
 (kx 311 false 55 "_law_numbered" 593 224 3 596
 (kx 318 true 56 "_law_laying_rule" 599 239 1 617
 (kx 323 false 57 "_law_rising" 620 259 1 623
 (kx 328 false 58 "_law_free_rule" 626 265 1 629
 (kx 333 false 59 "_law_one_way_rule" 632 278 1 635
 (kx 338 false 60 "_law_unlaying_rule" 638 282 1 641
 (kx 345 true 61 "_law_new_ways" 644 297 6 658
 (kx 352 true 62 "_law_world" 661 310 4 672
 (kx 359 true 63 "_law_some_rule" 675 318 1 680
 (kx 366 true 64 "_law_new_point" 683 325 4 694
 (kx 373 true 65 "_law_near" 697 333 5 709
 (kx 380 true 66 "_law_pair" 712 344 4 722
 (kx 387 true 67 "_law_both" 725 356 5 733
 (kx 394 true 68 "_law_fills" 736 358 5 746
 (kx 399 false 69 "_law_is_world" 749 364 2 752
 (kx 406 true 70 "_law_unfilled" 755 373 4 767
 (kx 413 true 71 "_law_told_right" 770 382 4 778
 (kx 420 true 72 "_law_drawn_filled" 781 385 5 794
 (kx 427 true 73 "law" 797 392 1 806 []))))))))))))))))))))))))))))))))))))))))))))))))))))))))))))))))))
noncomputable def GY:Hj Hs:=[3,20,21,27,28,32,33,37,38,42,43,49,50,56,57,61,62,66,67,71,72,78,79,85,86,92,93,99,100,106,107,113,114,118,119,123,124,130,131,135,136,142,143,147,148,154,155,161,162,168,169,175,176,180,181,185,186,192,193,197,198,204,205,211,212,216,217,223,224,228,229,235,236,240,241,247,248,254,255,261,262,268,269,273,274,278,279,285,286,292,293,299,300,306,307,311,312,318,319,323,324,328,329,333,334,338,339,345,346,352,353,359,360,366,367,373,374,380,381,387,388,394,395,399,400,406,407,413,414,420,421,427,428]
noncomputable def vq:Io:={ pw with main:={ pw.main with body:=[mB 73] } }
noncomputable def lo:Hj HM:=[("is_whole" : HM),("is_tuple_of" : HM),("is_numbers" : HM),("is_world" : HM),("is_point" : HM),("has_point_form" : HM),("way" : HM),("part" : HM),("point_over" : HM),("longer_orders" : HM),("back" : HM),("barred_threes" : HM),("three_at" : HM),("first_barred" : HM),("first_three" : HM),("first_bar" : HM),("wishes_over" : HM),("longer_wishes" : HM),("barred_by" : HM),("all_bars" : HM),("with_both" : HM),("same_bar" : HM),("unlaid" : HM),("put_on" : HM),("first_unfilled" : HM),("unfilled_behind" : HM),("longer_by_a_point" : HM),("longer_by_a_way" : HM),("is_put_on" : HM),("is_base_with_two" : HM),("_law_flow" : HM),("_law_pick" : HM),("_law_names" : HM),("_law_between" : HM),("_law_part" : HM),("_law_turns" : HM),("_law_figure" : HM),("_law_bad" : HM),("_law_may" : HM),("_law_last_may" : HM),("_law_backs" : HM),("_law_rule_of" : HM),("_law_free_three" : HM),("_law_sizes" : HM),("_law_any_rule" : HM),("_law_laying_kind" : HM),("_law_breaks" : HM),("_law_numbered" : HM),("_law_laying_rule" : HM),("_law_rising" : HM),("_law_free_rule" : HM),("_law_one_way_rule" : HM),("_law_unlaying_rule" : HM),("_law_new_ways" : HM),("_law_world" : HM),("_law_some_rule" : HM),("_law_new_point" : HM),("_law_near" : HM),("_law_pair" : HM),("_law_both" : HM),("_law_fills" : HM),("_law_is_world" : HM),("_law_unfilled" : HM),("_law_told_right" : HM),("_law_drawn_filled" : HM)]
noncomputable def EL (K:HD)(p:Tw):Prop:=KP K mainGlobals p.1=gV (gV (.ref p.2.2.2))/\K.lookup p.2.2.2=gV (kf p.2.2.2 (mB p.2.1) p.1 (GK p.2.1) (.ref (p.2.2.2 - 1))).2/\Ks K (.ref (p.2.2.2 - 1)) p.1=true/\Jh K (.ref p.2.2.2)=true
theorem Hh {K:HD}{p:Tw}(e:KP K mainGlobals p.1=gV (gV (.ref p.2.2.2)))(l:K.lookup p.2.2.2=gV (kf p.2.2.2 (mB p.2.1) p.1 (GK p.2.1) (.ref (p.2.2.2 - 1))).2)(c:Ks K (.ref (p.2.2.2 - 1)) p.1=true)(k:Jh K (.ref p.2.2.2)=true):EL K p:=#[e,l,c,k]
theorem Fc (P:Nq):∀p∈TL,EL (K0 P) p:=by
 unfold TL
 repeat refine gc (Hh (by kernel_rfl) (by kernel_rfl) (by kernel_rfl) (by kernel_rfl)) ?_
 exact gn
theorem Fd (P:Nq):∀y∈AG,KP (K0 P) mainGlobals y=gV td:=by
 unfold AG
 repeat refine gc (F:=λy=>KP (K0 P) mainGlobals y=gV td) (by kernel_rfl) ?_
 exact gn
theorem eK:∀P,GY=(K0 P).map (·.1):=λ_=>by kernel_rfl
noncomputable def hk:PySem.W.Hook:=PySem.W.kHook K0 GY eK
theorem hl:PySem.W.LeftO pw vq lo (λs=>Pl vq [] s&&Pb [] s) hk.obs hk.val 4290:=λw=>by kernel_rfl
theorem s0:PySem.Challenge.rw_layworld_k29_put_on.row.wellSaid=true:=by kernel_rfl
end
end Mi
end ZZ.Lean
open ZZ.Lean
theorem PySem.Challenge.cw_layworld_k29_put_on_holds : PySem.Challenge.rw_layworld_k29_put_on.Holds := by
 w_on
 refine PySem.W.holds_law (IC (IC (IC (IC (IC (IC (IC (IC (IC (IC (IC (IC (IC (IC (IC (IC (IC (IC (Mi.s0) (by kernel_rfl)) (by kernel_rfl)) (by kernel_rfl)) (by kernel_rfl)) (by kernel_rfl)) (by kernel_rfl)) (by kernel_rfl)) (by kernel_rfl)) (by kernel_rfl)) (by kernel_rfl)) (by kernel_rfl)) (by kernel_rfl)) (by kernel_rfl)) (by kernel_rfl)) (by kernel_rfl)) (by kernel_rfl)) (by kernel_rfl)) (by kernel_rfl)) (λsaid=>?_)
 refine PySem.W.holds_open (q:=Mi.vq) (loose:=Mi.lo) (Xt:=λs=>Pl Mi.vq [] s&&Pb [] s) (XP:=PySem.W.XL Mi.vq []) (Yf:=Mi.hk.obs) (Ya:=Mi.hk.val) (YP:=Mi.hk.says) (N:=4290) Mi.hl Mi.hk.of Mi.hk.keeps (λs e=>PySem.W.xl_of s (MX.mp e).1) P6 (by rfl) (by rfl) (by rfl) (λs e=>PySem.W.recFacts_of (MX.mp e).2) (by rfl) said (by decide +kernel) #[rfl,rfl,rfl,rfl,rfl,by decide +kernel] ?hw ?hc
 case hw=>w_witness2
 case hc=>
 refine Mi.GJ (l:=MY) (K:=Mi.K0) rfl rfl (λw h Y=>PySem.W.kIn_of Y) ?F
 case F=>
  intro w mg fa h KX G hmg;exact Mi.Di KX G hmg (Mi.Fb KX G (Mi.Fd w.params)) (λp hp=>let ⟨e,l,c,k⟩:=Mi.Fc w.params p hp; Mi.Dh KX G (Mi.Bm p hp).2.2 e l c k)
   (f:=428) (oc:=.type "function") (od:=td) (an:=td) (osl:=#[]) (kV:=.none) (doc:=.none) (pm:=(.str "law_layworld_k29_put_on" 441)) (cdv:=.ref 427) (ct:=.none) (by kernel_rfl) (by kernel_rfl) (by kernel_rfl) (by kernel_rfl)
