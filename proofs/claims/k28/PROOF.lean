import PyProof.Rows.All
import Wide.All
import OpenK.AllK
import Wide.FinOn
import Lean
import PyProof.EqAt
import PyProof.EqKinds
import PyProof.TupleCall
import KE.KDictList
import PyProof.SetKind
import PyProof.IsRules
import KE.KSortTup
import PyProof.ZipIter
import PyProof.Draws
import PyProof.EnumMake
import PyProof.WalksEnum
import PySem.Challenge.RW_layworld_k28_unlaid
noncomputable section
open Option renaming some→gV,none→td
local macro_rules|`(#v[])=>`((by decide))|`(#v[$x:term])=>`(.cons $x .nil)|`(#v[$x:term,$y:term,*])=>`(.cons $x #v[$y,*])
local macro_rules|`(#[$x:term])=>`(⟨$x⟩)|`(#[$x:term,$y:term,*])=>`(⟨$x,$y,*⟩)
local macro_rules|`(∅)=>`((by omega))
open _root_ renaming List→Hg,Option→Hn,Nat→Ho,Int→Hv,Bool→HU,if_pos→HV,decide_eq_false→Im,decide_eq_true_eq→Io,if_neg→Iv,Array→IC,beq_self_eq_true→IJ,of_decide_eq_true→IT,False→IV,decide_eq_true→IW,String→Jb,if_false→Kd,if_true→Km,or_false→Kr,DecidableEq→KC,of_decide_eq_false→K6,beq_eq_false_iff_ne→Lv,forall_congr'→Nd,bne_self_eq_false→NS,True→Ow,not_or→Ph,dif_pos→PZ
open List renaming length_map→Hh,length_append→Hk,getElem?_map→Hq,set→Hw,zipWith→Hy,mem_singleton→HB,mem_of_getElem?→HC,getElem?_eq_some_iff→HD,getElem?_eq_getElem→HE,range→HG,size_toArray→HH,mem_range→HI,getD_eq_getElem?_getD→HL,all_eq_true→HP,mem_map→HQ,map_append→HR,mem_cons→HW,length_take→HX,mem_append→HY,length_range→Ic,replicate→Ih,getElem?_append_left→Ii,length_singleton→Ij,mem_append_right→Ip,length_cons→Iw,take_add_one→Iy,getElem?_append_right→IA,take_length→IE,all_cons→IF,mem_cons_of_mem→II,map_congr_left→IM,getElem_mem→IQ,not_mem_nil→IR,mem_flatMap→IY,map_cons→IZ,flatMap_cons→Ja,length_zipWith→Jf,mem_cons_self→Jh,append_nil→Jl,lookup_cons→Jm,replicate_succ→Jn,length_filter_le→Jq,nodup_cons→Js,length_nil→Jt,range_succ→Jw,getElem?_set→JA,mem_filter→JB,getElem?_eq_none_iff→JD,filter_append→JG,mem_append_left→JI,length_dropLast→JM,getElem?_range→JP,flatMap_append→JQ,map_map→JW,getElem_inj→JX,find?_eq_none→J2,findIdx?_eq_some_iff_getElem→J5,flatten_cons→Ke,any_cons→Kh,length_drop→Kq,zip_cons_cons→Kt,find?_cons→Kv,getElem?_eq_none→Kx,take_append_drop→Ky,append_assoc→KA,mem_of_mem_take→KJ,filterMap_cons→KP,getElem?_take_of_lt→KS,map_take→KZ,length_eq_zero_iff→K8,take_of_length_le→Le,getElem_take→Lf,length_replicate→Lg,ext_getElem→Lm,isEmpty_iff→Lo,mem_iff_getElem→Lr,eq_nil_of_length_eq_zero→Ls,length_pos_iff→Lx,mem_eraseDups→LK,findSome?_eq_none_iff→LL,getLastD_eq_getLast?→LQ,getLast?_eq_getElem?→LR,ext_getElem?→LX,nodup_append→LY,pairwise_map→LZ,filter_congr→L0,filter_cons_of_pos→Mc,filter_cons_of_neg→Mf,getElem?_set_self→Mh,range_succ_eq_map→Ml,length_pos_of_mem→Mq,drop_of_length_le→Mr,filter_eq_nil_iff→Ms,getElem?_dropLast→Mt,of_mem_zip→Mv,nil_append→Mw,forIn_cons→My,find?_some→MD,getElem?_set_ne→MK,nodup_nil→MQ,take_zero→MS,eraseDups_cons→M4,getElem_of_mem→M6,mem_filterMap→Nl,getElem?_take→Nw,take_sublist→NE,map_nil→NL,zip_nil_left→NM,all_eq_false→NP,any_eq_false→NU,map_dropLast→NV,range'_succ→N7,any_toArray→N8,flatMap_nil→Od,perm_middle→Oe,filter_cons→Of,any_eq_true→Og,length_set→On,foldr_cons→Oq,foldl→OB,forIn_nil→OM,drop_zero→OO,all_map→Pg,map_set→Pi,length→Pn,range'→Pu,Nodup→PU,map→Qa
open PySem renaming wpAny_bind→Hi,Value→Hj,Shared→Hm,Addr→Ht,wpAny_pure→Hx,Str→HJ,Expr→HS,Program→Ik,Around→Iu,World→Ix,Heap→IG,wpAny_newObj_type→IH,sizeLine_eq→IL,wpAny_callSpecial?_slot→IU,wpAny_call_entry→Je,wpAny_truthy_bool→Jg,wpAny_holding→Jk,Obj→Jo,codeAny_builtin→Jv,wpAny_mono→Jx,NameKind→Jz,wpAny_field→JK,wpAny_typeNameOfWhole_keyiter→JL,DictEntry→JN,Pos→JY,Spec→JZ,FuncData→J0,wpAny_passesOwn→J7,wpAny_typeNameOf_keyiter→Kj,Stmt→Kk,mem_of_lookup→Kl,plainId_quiet→Kw,Scope→Kz,wpAny_seqItems→KI,wpAny_loadPart'→K1,wpAny_Call_Name_kw→K4,wpAny_dictEntries→Ld,call_meets→Ll,wpAny_standAt→Lp,wpAny_letGo→Lq,wpAny_typeOf→Ly,IsPart→LF,wpAny_setField→LH,wpAny_tryCatch→LI,wpAny_pyIter_list→LV,wpAny_attempt→L4,wpAny_comprehension_free→L6,noFill_tuple_add→L8,wpAny_forIn_list→L9,wpAny_isInstance→Ma,Paired→Mg,codeAny_mono→Mj,Builtin→Mm,ItemsOf→Mo,wpAny_execs_nil→Mu,wpAny_dictEpoch→Mz,wpAny_updateSeq→MA,wpAny_isOneOf_keyiter→MG,GenState→MJ,wpAny_of_eq→MM,wpAny_pyIter_keyiter→MN,wpAny_runValue→MP,PassesOwn→MZ,rangeSize_one→M7,seq_tuple_add→M8,wpAny_newList→Nc,wpAny_rule→Nj,wpAny_load→Nk,Params→No,wpAny_pyIter_tuple→Nt,Env→Nz,wpAny_assign_Name→NA,Operator→NC,BindsTo→ND,concat_meets→NF,wpAny_sequenceKey→NG,seqIndex_neg→NH,list_append→NJ,wpAny_pyIter_enum→NT,wpAny_pyHash_int→NY,wpAny_pyHash_str→NZ,Result→N2,CmpOp→Oh,seqIndex_of→Oi,wpAny_mkInt→Oj,Keyword→Ou,wpAny_Name→Ox,wpAny_bindName→Oy,typeIs_int→OA,fitsIndex_both→OC,call→OE,SetTable→OF,wpAny_fieldsOf→OH,isSubtype_stop→OI,wpAny_newTuple→OL,intBits_le_64→OU,evalPart_none→OW,call_list_seq→OY,wpAny_handled→O3,small_one→Pa,call_range_1→Pd,Sem→Pk,IsRangeIter→Pl,wpAny_throw→Pw,BoolOp→PQ,IsEnum→PR,Model→PX,IsRange→P0,Drawn→P8,Walks→P9,Tok→Qe
open Option renaming map_eq_some_iff→Hl,map_some→Iq,isSome_iff_exists→IP,getD_none→N4,getD_some→Ob,toList→O5
open PySem.Heap renaming get?_push_of_some→Hr,get?_push_size→HM,lt_size→HN,get?_update_other→IN,get?_update_self→J3,SameBut→Kc,get?_update_ne→KR,ExtBut→ML,size_update→Oa,size_push→ON
open Bool renaming and_eq_true→Hs,false_ne_true→HK,false_eq_true→Jc,or_eq_true→JO,eq_iff_iff→Kb,not_eq_true'→Kf,eq_false_iff→Kg,true_and→KW,and_eq_false_iff→Lh,and_eq_true_iff→MV,and_true→M9,not_true→Na,false_or→Nb,not_not→NW,or_false→OX
open Int renaming natCast_nonneg→Hu,toNat_natCast→HF,emod_lt_of_pos→JF,emod_nonneg→J9,toNat_of_nonneg→Kn,zero_add→LB,ediv_nonneg→Os
open Nat renaming le_refl→Hz,le_trans→HZ,lt_of_lt_of_le→Ig,ne_of_lt→Il,lt_irrefl→IX,lt_succ_self→JE,zero_le→JJ,lt_trans→JT,min_self→JU,le_of_ble_eq_true→J4,ne_of_gt→Ks,lt_or_gt_of_ne→Ku,le_succ→KH,sub_self→KL,le_of_lt→La,succ_le_succ→Lk,succ_mul→Lz,lt_of_succ_lt_succ→Mn,mul_le_mul_right→MR,pow_le_pow_right→MT,pow_le_pow_left→M5,add_sub_cancel→Np,lt_of_le_of_lt→Nv,sub_zero→NN,lt_or_ge→NO,min_eq_right→Oc,not_lt_zero→Op,min_eq_left→Ot,not_lt→OJ,mul_le_mul→OP,add_assoc→O1,add_comm→Pe,mul_comm→Pf,ble→Qg
open PySem.W renaming Frag→HA,look_both→Iz,keepIn→Jd,fnOf→JH,kia_one→J8,codeIn→Ko,nsIn→KM,methodObj→LS,cellsFrom_some→Mk,OpenLaw→Mx,kat_nil→MC,KdlSrc→MO,kas_sort→N9,WalkO→OZ,Looks→O4,mg_of→O8,recOk→O9,xlAt→Pj
open Array renaming length_toList→Ir,getElem?_toList→Jp,getElem?_eq_some_iff→J1,getElem?_eq_getElem→KO,perm_iff_toList_perm→LJ,append_assoc→Nh,forIn_toList→Nq,toList→Pc,getD→PP
open PySem.Value renaming ref→IB,none→IK,bool→KD,type→KF,str→Li,int→L7
open Option.some renaming injEq→ID,inj→IS
open PySem.Obj renaming mapSeq→Ji,data_mapFields→K5,isFreed_of_fields→MH,cls_mapFields→NQ,mapFields→O2
open PySem.Around renaming under_plainId→Jj
open PySem.Builtin.Tuple renaming tupleExact→Jr,tupleItemsOf→KG,tupleHashOf→LM,tupleCompareSizes→NX,tupleIsExact→OG
open ForInStep renaming yield→Ju
open PySem.Builtin.Range renaming rangeSize→Jy,small→Lw
open PyProof.Rows renaming slot_tuple_getitem→JC,callWith_type1→JR,subscriptTail_builtinR→Lc,assignInOrder_cons→LD,AllBare→LU,listUpdate_at→L5,SortKind→Mb,get?_update_seq→MB,entry_tuple_getitem→M1,lt_int→M2,args_tuple_getitem→Nm,IsTup→Ny,assignInOrder_nil→NB,listItems_at→NR,callWith_builtin1→N3,seqEpoch_at→Ol,IntsAre→Ov,slicePart_none→Oz,tupleItemsOf_→OV
open PySem.Str renaming ofString→JS
open PySem.Builtin.List renaming listExtendWith→JV,listTooLong→Ki,listFitsIndex→OD
open PySem.Builtin.Slice renaming slicePlaces→J6,sliceAdjust→KN,sliceApplied→LG,slicePartIndex→Om,sliceFields→OQ
open PySem.Heap.SameBut renaming update→KQ,refl→P1
open PySem.F renaming args_tuple_add_2→KT,entry_tuple_add→K7,plainAttrs_list→K9,slot_tuple_add→Lb,slot_tuple_index→L3,slot_dict_get→ME
open PySem.Builtin.SmallTypes renaming ownedTupleIsFree→KU,nextOf→LP,ownedTupleHandOut→M3
open PySem.NameKind renaming free→KY,cell→Qc
open PySem.SeqAt renaming EqAt→Lj,notIn_listAt→Nn,in_tupleAt→N5,in_listAt→Oo
open True renaming intro→Ln
open PySem.Builtin.Dict_items renaming ownsTuple→Lu
open PySem.Builtin.Builtins renaming bindParams→LA
open PySem.Calls renaming Name_function_global→LC,call_function_entry→LO,Constant_str→Ni
open Classical renaming byContradiction→LN,propDecidable→Pb
open Function renaming comp_def→LW,comp→O6
open PySem.Paired renaming length→L1
open PySem.Env renaming kindOf→Mp
open PySem.Builtin.Dict renaming showsAll→MF,dictSlotNone→OS,pendingCount→OT
open PySem.Challenge renaming pw_layworld_k28_unlaid→MU,rw_layworld_k28_unlaid→MW
open Sum renaming inl→MX,inr→MY
open PySem.Expr renaming Name→M0
open PySem.SeqAt.EqAt renaming int_str→Nf,str_int→Ng,none_bool→Pp,bool_none→Pq,bool_bool→Pr,none_int→Px,none_str→Py,bool_int→Pz,bool_str→PC,int_none→PD,int_bool→PF,str_none→PH,str_bool→PJ,int_int→PL,str_str→PM,same→P5
open PUnit renaming unit→Nr
open PySem.ScopeKind renaming function→Nu
open PySem.AutoListH renaming list___mul___list_int_3→Nx
open PySem.AutoSeq1 renaming list_extend_list_list_0→NK,sub_tuple_tuple→O0
open PyProof.Rows.IsTup renaming new→N1
open PySem.IsL renaming update→N6
open PySem.Builtin.Str renaming tooLong→OR
open Prod.mk renaming injEq→O7
open Prod renaming ext→Po
open PySem.MeetsSeq renaming list_pop_at→Ps
open PySem.Heap.IsSliceOf renaming new→PK
open PySem.Walks renaming list→PN
open List.Nodup renaming sublist→PV
open List.Pairwise renaming nil→PY
open PySem.Flow renaming next→P2
open PySem.W.Looks renaming ld→P3
open PySem.W.XL renaming keeps→P4
open PySem.PassesOwn renaming never→P6
open List.cons renaming injEq→P7,inj→Qd
open List.Perm renaming map→Qb
open PySem.Txt renaming mul→Qf
set_option genSizeOf false
namespace ZZ.Lean
set_option Elab.async false
set_option linter.all false
set_option maxRecDepth 100000
namespace L2
open PySem PySem.Spec PyProof.Rows
noncomputable abbrev mC:=Sum Hv HJ
noncomputable def AF:mC->Hj->HU
 | .inl k,v=>Value.isInt k v
 | .inr x,v=>Value.isStrOf x v
noncomputable def Fo (w:Ix):mC->Hv
 | .inl k=>hashInt k
 | .inr x=>hashStr w x
theorem bA:∀ {k:mC} {v:Hj},AF k v=true->(∃i t,k=MX i/\v=L7 i t)\/(∃x t,k=MY x/\v=Li x t)
 | .inl i,v,h=>by
  obtain⟨t,e⟩:=Value.isInt_shape (k:=i) (v:=v) h;exact .inl #[i,t,rfl,e]
 | .inr x,v,h=>by
  obtain⟨t,e⟩:=Value.isStrOf_shape (x:=x) (v:=v) h;exact .inr #[x,t,rfl,e]
theorem Bl (a b:Hv):decide ((MX a:mC)=MX b)=(a==b):=by
 by_cases e:a=b
 ·subst e; simp
 ·have h:¬ (MX a:mC)=MX b:=λq=>e (Sum.inl.inj q)
  rw[Im h];exact(Lv.mpr e).symm
theorem Bm (a b:HJ):decide ((MY a:mC)=MY b)=decide (a=b):=by
 by_cases e:a=b
 ·subst e; simp
 ·have h:¬ (MY a:mC)=MY b:=λq=>e (Sum.inr.inj q)
  rw[Im h,Im e]
theorem Bn (a:Hv)(b:HJ):decide ((MX a:mC)=MY b)=false:=Im (λq=>nomatch q)
theorem Bo (a:HJ)(b:Hv):decide ((MY a:mC)=MX b)=false:=Im (λq=>nomatch q)
noncomputable def mD (prog:Ik)(w:Ix):PySem.KeyKind prog w mC where
 is:=AF
 hash:=Fo w
 inj:=λv a b ha hb=>by
  rcases bA ha with⟨i,t,rfl,rfl⟩|⟨x,t,rfl,rfl⟩
  ·rcases bA hb with⟨j,u,rfl,e⟩|⟨y,u,rfl,e⟩
   ·injection e with e1 _; rw[e1]
   ·exact nomatch e
  ·rcases bA hb with⟨j,u,rfl,e⟩|⟨y,u,rfl,e⟩
   ·exact nomatch e
   ·injection e with e1 _; rw[e1]
 byValue:=λk v h=>by
  rcases bA h with⟨i,t,rfl,rfl⟩|⟨x,t,rfl,rfl⟩ <;> rfl
 pyHash:=λhv h=>by
  rcases bA hv with⟨i,t,rfl,rfl⟩|⟨x,t,rfl,rfl⟩
  ·exact NY h
  ·exact NZ h
 eqBool:=λhu hv h=>by
  rcases bA hu with⟨i,t,rfl,rfl⟩|⟨x,t,rfl,rfl⟩
  ·rcases bA hv with⟨j,u,rfl,rfl⟩|⟨y,u,rfl,rfl⟩
   ·rw[Bl]at h; exact wpAny_eqBool_int h
   ·rw[Bn]at h; exact Nf i t y u _ _ _ _ h
  ·rcases bA hv with⟨j,u,rfl,rfl⟩|⟨y,u,rfl,rfl⟩
   ·rw[Bo]at h; exact Ng x t j u _ _ _ _ h
   ·rw[Bm]at h; exact wpAny_eqBool_str h
 «strs»:=λk x t v h=>by
  rcases bA h with⟨i,u,rfl,e⟩|⟨y,u,rfl,e⟩
  ·exact nomatch e
  ·injection e with e1 _
   subst e1;cases v <;> rfl
inductive V where
 | non|bl (b:HU)|int (i:Hv)|str (x:HJ)|byt (b:IC UInt8)|flt (b:UInt64)|ref (a:Ht)|ty (n:Jb)
 deriving KC
noncomputable def RelV:V->Hj->Prop
 | .non,u=>u=IK
 | .bl b,u=>u=KD b
 | .int i,u=>∃t,u=L7 i t
 | .str x,u=>∃t,u=Li x t
 | .byt b,u=>∃t,u=Value.bytes b t
 | .flt b,u=>∃t,u=Value.float b t
 | .ref a,u=>u=IB a
 | .ty n,u=>u=KF n
noncomputable abbrev Vals:Hg V->Hg Hj->Prop:=Mg RelV
theorem Vals.length {xs:Hg V}{us:Hg Hj}(r:Vals xs us):xs.length=us.length:=L1 r
theorem Vals.get:∀ {xs:Hg V} {us:Hg Hj} {i:Ho} {x:V},Vals xs us->xs[i]?=gV x->∃u,us[i]?=gV u/\RelV x u
 | _,_,_,_,.nil,e=>by simp at e
 | _,_,0,_,.cons r _,e=>by simp at e; subst e; exact#[_,rfl,r]
 | _,_,i+1,x,.cons _ t,e=>by
  obtain⟨u,h1,h2⟩:=Vals.get (i:=i) (x:=x) t (by simpa using e)
  exact#[u,by simpa using h1,h2]
theorem Vals.set {x:V}{u:Hj}(r:RelV x u):∀ {xs:Hg V} {us:Hg Hj} (i:Ho),Vals xs us->Vals (xs.set i x) (us.set i u)
 | _,_,_,.nil=>.nil
 | _,_,0,.cons _ t=>.cons r t
 | _,_,i+1,.cons q t=>.cons q (Vals.set r i t)
theorem Vals.append:∀ {xs ys:Hg V} {us ws:Hg Hj},Vals xs us->Vals ys ws->Vals (xs++ys) (us++ws)
 | _,_,_,_,.nil,s=>s
 | _,_,_,_,.cons r t,s=>.cons r (Vals.append t s)
theorem Vals.take:∀ {xs:Hg V} {us:Hg Hj} (n:Ho),Vals xs us->Vals (xs.take n) (us.take n)
 | _,_,0,_=>.nil
 | _,_,_+1,.nil=>.nil
 | _,_,n+1,.cons r t=>.cons r (Vals.take n t)
theorem Vals.drop:∀ {xs:Hg V} {us:Hg Hj} (n:Ho),Vals xs us->Vals (xs.drop n) (us.drop n)
 | _,_,0,r=>r
 | _,_,_+1,.nil=>.nil
 | _,_,n+1,.cons _ t=>Vals.drop n t
noncomputable def Dp:Hn V->Hn Hj->Prop
 | some v,gV u=>RelV v u
 | none,td=>Ow
 | _,_=>IV
noncomputable def KV {κ:Type}:Hg (κ×V)->Hg (κ×Hj)->Prop:=Mg λ(p:κ×V) (q:κ×Hj)=>p.1=q.1/\RelV p.2 q.2
noncomputable def kV:mC->V
 | .inl i=>.int i
 | .inr x=>.str x
inductive HO where
 | lst (xs:Hg V)
 | tup (xs:Hg V)
 | dK (kvs:Hg (mC×V))|dT (kvs:Hg (Hg mC×V))
 | set (S:Hv->HU) (n:Ho)
 | ins (C dx:Ht) (fs:Hg (HJ×V))
 | own (x:Ht)
 | xd (fs:Hg (HJ×V))
 | met (f x:Ht)
 | rng (lo hi:Hv)
 | frz (o:Jo) (u:HO)
 | tbl (ps:IC Hj)
 | ext (φ:IG->Prop)
noncomputable abbrev Hp:=Ht->Hn HO
noncomputable def bQ (H:Hp)(a:Ht)(o:HO):Hp:=λb=>if b=a then gV o else H b
theorem aZ {H:Hp}{a:Ht}{o:HO}:bQ H a o a=gV o:=by unfold bQ; rw[HV rfl]
theorem aH {H:Hp}{a b:Ht}{o:HO}(h:b≠a):bQ H a o b=H b:=by unfold bQ; rw[Iv h]
theorem dZ {H:Hp}{a b:Ht}{o:HO}(h:H a=gV o)(h':H b=td):a≠b:=by
 intro e; subst e; rw[h]at h'; cases h'
section
variable (P:Ik) (w:Ix)
noncomputable def NoD (h:IG)(a:Ht):Prop:=∃o,h.get? a=gV o/\o.dict=td
theorem NoD.new (h:IG)(its:IC Hj)(n:Ho):NoD (h.push { cls:=.type "tuple",data:=.seq its n }) h.objs.size:=#[_,HM _ rfl,rfl]
noncomputable def ObjOk (H:Hp)(h:IG)(a:Ht):HO->Prop
 | .lst xs=>xs.length<=sizeLine/\∃(its:Hg Hj) (n:Ho),Vals xs its/\h.get? a=gV { cls:=.type "list",data:=.seq its.toArray n }
 | .tup xs=>(xs.length<=sizeLine/\NoD h a)/\∃its:Hg Hj,Vals xs its/\Ny h a its.toArray
 | .dK kvs=>kvs.length<=sizeLine/\(a==sysModules)=false/\∃vs,KV kvs vs/\h.DictOf (mD P w) a vs
 | .dT kvs=>kvs.length<=sizeLine/\(a==sysModules)=false/\∃xs:Hg (Hg mC×Ht×Hj),
   Mg (λ(p:Hg mC×V) (q:Hg mC×Ht×Hj)=>p.1=q.1/\H q.2.1=gV (.tup (p.1.map kV))/\RelV p.2 q.2.2) kvs xs/\
   ∃o es ep,h.get? a=gV o/\o.ExactDict/\o.data=.dict es ep/\es.toList=xs.map (entryOfKey (tupleKind (mD P w)))/\(xs.map (·.1)).Nodup
 | .set S n=>h.SetOf (intKind P w) a S n
 | .ins C dx fs=>H dx=gV (.own a)/\fs.length<=1000/\dx≠a/\h.get? a=gV (PySem.W.instObj C dx)/\
   ∃mA,h.Ns1 dx mA/\(∀f,Dp (fs.lookup f) (mA f))/\PySem.Within mA (fs.map (·.1))
 | .own _=>∃o,h.get? a=gV o
 | .xd fs=>∃mA,h.Ns1 a mA/\∀f,Dp (fs.lookup f) (mA f)
 | .rng lo hi=>∃t u v,h.get? a=gV { cls:=.type "range",data:=.fields [.int lo t,.int hi u,.int 1 v].toArray }
 | .frz o u=>h.get? a=gV o/\ObjOk H h a u
 | .tbl ps=>h.get? a=gV { cls:=.none,data:=.fields ps }
 | .met f x=>h.get? a=gV (LS (.ref f) (.ref x))
 | .ext φ=>φ h/\(∃o,h.get? a=gV o)/\∀h1 h2:IG,φ h1->(∀o,h1.get? a=gV o->h2.get? a=gV o)->φ h2
noncomputable def HOk (H:Hp)(h:IG):Prop:=∀a o,H a=gV o->ObjOk P w H h a o
end
section
variable{P:Ik}{w:Ix}{H H':Hp}{h h':IG}{a:Ht}{o:HO}
theorem ObjOk.lt (x:ObjOk P w H h a o):a < h.objs.size:=by
 cases o with
 | lst xs=>obtain⟨_,_,_,_,e⟩:=x; exact HN e
 | tup xs=>obtain⟨_,_,_,p⟩:=x; exact p.lt
 | dK kvs=>obtain⟨_,_,_,_,o,_,_,e,_⟩:=x; exact HN e
 | dT kvs=>obtain⟨_,_,_,_,o,_,_,e,_⟩:=x; exact HN e
 | set S n=>obtain⟨o,_,_,_,e,_⟩:=x; exact HN e
 | ins C dx fs=>obtain⟨_,_,_,e,_⟩:=x; exact HN e
 | own y=>obtain⟨_,e⟩:=x; exact HN e
 | xd fs=>obtain⟨_,⟨_,_,_,e,_⟩,_⟩:=x; exact HN e
 | rng lo hi=>obtain⟨_,_,_,e⟩:=x; exact HN e
 | frz ob u=>obtain⟨e,_⟩:=x; exact HN e
 | tbl ps=>exact HN (show h.get? a=gV _ from x)
 | met f y=>exact HN (show h.get? a=gV _ from x)
 | ext φ=>obtain⟨_,⟨_,e⟩,_⟩:=x; exact HN e
theorem Paired.mapP {α β:Type}{F G:α->β->Prop}:∀ {l₁:Hg α} {l₂:Hg β},Mg F l₁ l₂->(∀a b,F a b->G a b)->Mg G l₁ l₂
 | _,_,.nil,_=>.nil
 | _,_,.cons r t,f=>.cons (f _ _ r) (Paired.mapP t f)
theorem ObjOk.stay (x:ObjOk P w H h a o)(k:∀b u,(b=a\/H b=gV (.own a))->h.get? b=gV u->h'.get? b=gV u)
  (ho:∀b,H b=gV (.own a)->H' b=gV (.own a)) (ht:∀b xs,H b=gV (.tup xs)->H' b=gV (.tup xs)):ObjOk P w H' h' a o:=by
 induction o with
 | lst xs=>obtain⟨z,its,n,r,e⟩:=x; exact#[z,its,n,r,k _ _ (.inl rfl) e]
 | tup xs=>obtain⟨⟨z,ob',e',d⟩,its,r,ob,e,c⟩:=x; exact#[#[z,ob',k _ _ (.inl rfl) e',d],its,r,ob,k _ _ (.inl rfl) e,c]
 | dK kvs=>obtain⟨z,y,vs,r,ob,es,ep,e,c⟩:=x; exact#[z,y,vs,r,ob,es,ep,k _ _ (.inl rfl) e,c]
 | dT kvs=>
  obtain⟨z,y,xs,r,ob,es,ep,e,c⟩:=x;exact#[z,y,xs,Paired.mapP r λp q z=>#[z.1,ht _ _ z.2.1,z.2.2],ob,es,ep,k _ _ (.inl rfl) e,c]
 | set S n=>obtain⟨ob,es,ep,t,e,c⟩:=x; exact#[ob,es,ep,t,k _ _ (.inl rfl) e,c]
 | ins C dx fs=>
  obtain⟨d,z,ne,e,mA,⟨od,es,ep,e2,c⟩,r⟩:=x;exact#[ho _ d,z,ne,k _ _ (.inl rfl) e,mA,#[od,es,ep,k _ _ (.inr d) e2,c],r]
 | own y=>obtain⟨ob,e⟩:=x; exact#[ob,k _ _ (.inl rfl) e]
 | xd fs=>obtain⟨mA,⟨od,es,ep,e,c⟩,r⟩:=x; exact#[mA,#[od,es,ep,k _ _ (.inl rfl) e,c],r]
 | rng lo hi=>obtain⟨t,u,v,e⟩:=x; exact#[t,u,v,k _ _ (.inl rfl) e]
 | frz ob u ih=>obtain⟨e,q⟩:=x; exact#[k _ _ (.inl rfl) e,ih q]
 | tbl ps=>
  have e:h.get? a=gV { cls:=.none,data:=.fields ps }:=x;show h'.get? a=gV { cls:=.none,data:=.fields ps };exact k a _ (.inl rfl) e
 | met f y=>
  have e:h.get? a=gV (LS (.ref f) (.ref y)):=x;show h'.get? a=gV (LS (.ref f) (.ref y));exact k a _ (.inl rfl) e
 | ext φ=>obtain⟨p,⟨o,e⟩,st⟩:=x; exact#[st _ _ p λo q=>k _ _ (.inl rfl) q,#[o,k _ _ (.inl rfl) e],st]
theorem HOk.lt (x:HOk P w H h)(e:H a=gV o):a < h.objs.size:=(x a o e).lt
theorem HOk.fresh (x:HOk P w H h)(e:h.objs.size<=a):H a=td:=by
 cases q:H a with
 | none=>rfl
 | some u=>exact absurd (Ig (x.lt q) e) (IX _)
theorem HOk.kept (x:HOk P w H h)(k:∀b u,h.get? b=gV u->h'.get? b=gV u):HOk P w H h':=λa o e=>
 (x a o e).stay (λb u _ q=>k b u q) (λ_ q=>q) λ_ _ q=>q
theorem HOk.laid (x:HOk P w H h)(k:∀b u,h.get? b=gV u->h'.get? b=gV u)(hp:h.objs.size<=a)(new:ObjOk P w (bQ H a o) h' a o):HOk P w (bQ H a o) h':=λb u e=>by
 have hn:=x.fresh hp
 by_cases hb:b=a
 ·subst hb; rw[aZ]at e; cases e; exact new
 ·rw[aH hb]at e;exact(x b u e).stay (λc v _ q=>k c v q) (λc q=>by rw[aH (dZ q hn)]; exact q) λc xs q=>by rw[aH (dZ q hn)]; exact q
end
noncomputable def Rd (H:Hp)(a:Ht)(u:HO):Prop:=H a=gV u\/∃o,H a=gV (.frz o u)
theorem Rd.ok {P:Ik}{w:Ix}{H:Hp}{h:IG}{a:Ht}{u:HO}(r:Rd H a u)(x:HOk P w H h):ObjOk P w H h a u:=by
 rcases r with r|⟨o,r⟩
 ·exact x a u r
 ·obtain⟨_,q⟩:=x a _ r;exact q
noncomputable def Dq:Hn HO->Prop
 | some (.lst _)=>Ow
 | some (.dK _)=>Ow
 | some (.dT _)=>Ow
 | some (.set _ _)=>Ow
 | some (.ins _ _ _)=>Ow
 | some (.ext _)=>Ow
 | _=>IV
section
variable{P:Ik}{w:Ix}{H:Hp}{h h':IG}{x e:Ht}{o':HO}
theorem HOk.write (ok:HOk P w H h)(mu:Dq (H x))(he:e=x\/H e=gV (.own x))(k:∀b u,b≠e->h.get? b=gV u->h'.get? b=gV u)(heo:∃u,h'.get? e=gV u)
  (new:ObjOk P w (bQ H x o') h' x o'):HOk P w (bQ H x o') h':=λb u q=>by
 have nown:∀c y,H c=gV (.own y)->c≠x:=λc y r z=>by subst z; rw[r]at mu; exact mu
 have ntup:∀c xs,H c=gV (.tup xs)->c≠x:=λc xs r z=>by subst z; rw[r]at mu; exact mu
 by_cases hb:b=x
 ·subst hb; rw[aZ]at q; cases q; exact new
 ·rw[aH hb]at q
  by_cases hbe:b=e
  ·have q':H b=gV (.own x):=by
    rcases he with z|z
    ·exact absurd (hbe.trans z) hb
    ·rw[hbe]; exact z
   rw[q]at q'; cases q'
   obtain⟨v,hv⟩:=heo;exact#[v,by rw[hbe]; exact hv]
  ·refine(ok b u q).stay (λc v hc r=>k c v ?_ r) (λc r=>by rw[aH (nown c b r)]; exact r) λc xs r=>by rw[aH (ntup c xs r)]; exact r
   rcases hc with rfl|hc
   ·exact hbe
   ·rintro rfl;rcases he with z|z
    ·exact nown c b hc z
    ·rw[hc]at z; cases z; exact hb rfl
end
structure Un (fs ex:Hg Ht)(H H':Hp)(h h':IG):Prop where
 keep:∀b o,h.get? b=gV o->H b=td->b∉fs->b∉ex->h'.get? b=gV o
 slot:∀b o,h.get? b=gV o->H b=td->b∈fs->b∉ex->∃sl,h'.get? b=gV { o with slots:=sl }
 free:∀b o,h.get? b=gV o->H b=td->b∉ex->H' b=td
 there:∀b o,h.get? b=gV o->b∉ex->∃o',h'.get? b=gV o'
 tups:∀b xs,H b=gV (.tup xs)->H' b=gV (.tup xs)
 frzs:∀b o u,H b=gV (.frz o u)->H' b=gV (.frz o u)
 tbls:∀b ps,H b=gV (.tbl ps)->∃more,H' b=gV (.tbl (ps++more))
section
variable{fs fs' ex ex':Hg Ht}{H H1 H2:Hp}{h h1 h2 h':IG}{a x e:Ht}{o:HO}
theorem Un.any (u:Un fs ex H H1 h h1){b:Ht}{ob:Jo}(q:h.get? b=gV ob)(n:H b=td)(hx:b∉ex):∃sl,h1.get? b=gV { ob with slots:=sl }:=by
 by_cases hb:b∈fs
 ·exact u.slot b ob q n hb hx
 ·exact#[ob.slots,u.keep b ob q n hb hx]
theorem Un.trans (a:Un fs ex H H1 h h1)(b:Un fs ex H1 H2 h1 h2):Un fs ex H H2 h h2 where
 keep:=λc ob q n hc hx=>b.keep c ob (a.keep c ob q n hc hx) (a.free c ob q n hx) hc hx
 slot:=λc ob q n hc hx=>by
  obtain⟨sl,e1⟩:=a.slot c ob q n hc hx;obtain⟨sl',e2⟩:=b.slot c _ e1 (a.free c ob q n hx) hc hx;exact#[sl',e2]
 free:=λc ob q n hx=>by
  obtain⟨o',e1⟩:=a.there c ob q hx;exact b.free c o' e1 (a.free c ob q n hx) hx
 there:=λc ob q hx=>by
  obtain⟨o',e1⟩:=a.there c ob q hx;exact b.there c o' e1 hx
 tups:=λc xs q=>b.tups c xs (a.tups c xs q)
 frzs:=λc ob xs q=>b.frzs c ob xs (a.frzs c ob xs q)
 tbls:=λc ps q=>by
  obtain⟨m1,e1⟩:=a.tbls c ps q;obtain⟨m2,e2⟩:=b.tbls c _ e1;exact#[m1++m2,by rw[e2,Nh]]
theorem Un.kept (k:∀b u,h.get? b=gV u->h'.get? b=gV u):Un fs ex H H h h':=
 #[λb ob q _ _ _=>k b ob q,λb ob q _ _ _=>#[ob.slots,k b ob q],λ_ _ _ n _=>n,λb ob q _=>#[ob,k b ob q],λ_ _ q=>q,λ_ _ _ q=>q,λ_ ps q=>#[#[],by rw[q]; simp]]
theorem Un.refl:Un fs ex H H h h:=Un.kept λ_ _ q=>q
theorem Un.laid (k:∀b u,h.get? b=gV u->h'.get? b=gV u)(hp:h.objs.size<=a)(hn:H a=td):Un fs ex H (bQ H a o) h h' where
 keep:=λb u q _ _ _=>k b u q
 slot:=λb u q _ _ _=>#[u.slots,k b u q]
 free:=λb u q n _=>by rw[aH (Il (Ig (HN q) hp))]; exact n
 there:=λb u q _=>#[u,k b u q]
 tups:=λb xs q=>by rw[aH (dZ q hn)]; exact q
 frzs:=λb u xs q=>by rw[aH (dZ q hn)]; exact q
 tbls:=λb ps q=>#[#[],by rw[aH (dZ q hn),q]; simp]
theorem Un.write (mu:Dq (H x))(he:e=x\/H e=gV (.own x))(k:∀b u,b≠e->h.get? b=gV u->h'.get? b=gV u)(heo:∃u,h'.get? e=gV u):Un fs ex H (bQ H x o) h h':=by
 have hx:∀b,H b=td->b≠x:=λb n z=>by subst z; rw[n]at mu; exact mu
 have hb:∀b,H b=td->b≠e:=λb n z=>by
  subst z;rcases he with r|r
  ·exact hx b n r
  ·rw[n]at r; cases r
 have hm:∀b u,H b=gV u->¬ Dq (gV u)->b≠x:=λb u q nm z=>by subst z; rw[q]at mu; exact nm mu
 refine#[λb u q n _ _=>k b u (hb b n) q,λb u q n _ _=>#[u.slots,k b u (hb b n) q],λb u q n _=>by rw[aH (hx b n)]; exact n,λb u q _=>?_,
  λb xs q=>by rw[aH (hm b _ q λz=>z)]; exact q,λb u xs q=>by rw[aH (hm b _ q λz=>z)]; exact q,λb ps q=>#[#[],by rw[aH (hm b _ q λz=>z),q]; simp]]
 by_cases hbe:b=e
 ·subst hbe; exact heo
 ·exact#[u,k b u hbe q]
end
noncomputable def Fc (h:IG)(H:Hp):Hg Ht:=(HG h.objs.size).filter λa=>(H a).isSome
noncomputable def mE (h:IG)(H:Hp):IG:=PySem.W.hideAll h (Fc h H)
theorem sN (h:IG)(H:Hp):(mE h H).objs.size=h.objs.size:=PySem.W.hideAll_size _ _
theorem uG {h:IG}{H:Hp}{b:Ht}{o:Jo}(e:h.get? b=gV o)(n:H b=td):(mE h H).get? b=gV o:=
 PySem.W.hideAll_get _ e λhm=>by
  have q:(H b).isSome=true:=(JB.mp hm).2;rw[n]at q; simp at q
theorem yn {h:IG}{H:Hp}{b:Ht}{o:Jo}(e:(mE h H).get? b=gV o):h.get? b=gV o/\H b=td:=by
 have e':h.get? b=gV o:=PySem.W.of_hideAll (Fc h H) e;refine#[e',?_];cases q:H b with
 | none=>rfl
 | some x=>
  have hm:b∈Fc h H:=JB.mpr #[HI.mpr (HN e'),by simp[q]]
  have z:(mE h H).get? b=td:=PySem.W.hideAll_none (Fc h H) hm;rw[z]at e; cases e
noncomputable def yo (g h:IG)(L:Ht):Hg (Ht×Jo):=(HG h.objs.size).filterMap λa=>if a=L\/(g.get? a).isSome=true then td else(h.get? a).map λo=>(a,o)
noncomputable def cv (g h:IG)(L d:Ht):Hg (Ht×Jo):=(yo g h L).filter λp=>decide (p.1≠d)
structure Mod (K:HA)(mg:HJ->Hn Hj)(base:IG):Prop where
 kin:K.In base
 glob:base.Ns mainGlobals mg
 blt:∃mb,base.Ns builtinsNs mb/\∀x:HJ,x≠"__name__"->mb x=bootBuiltins x
 nolimit:base.NoLimit
structure Cx where
 prog:Ik
 w:Ix
 K:HA
 mg:HJ->Hn Hj
 base:IG
 A:Iu
 N:Hg HJ
 s₀:Hm
 H₀:Hp
 env:Nz
 outer:Hg Nz
 stack:Hg Nz
 ex:Hg Ht
 fn:HJ->HU
 calm:HU
 pn:Hg (Ht×Jo)
 xe:Hj->Hm->Prop
noncomputable def pQ (l:Hg Nz):Hg Ht:=l.filterMap (·.frame)
noncomputable abbrev Cx.fs (X:Cx):Hg Ht:=pQ X.outer
noncomputable def Fp (sc:Kz)(x:HJ):Prop:=sc.names.lookup x=gV .local\/sc.names.lookup x=gV .cell\/sc.names.lookup x=gV .free
noncomputable def yp (sc:Kz)(x:HJ):Prop:=sc.names.lookup x=gV .local\/sc.names.lookup x=gV .cell
noncomputable def Fq (env:Nz)(h:IG)(m:HJ->Hn Hj)(x:HJ)(u:Hj):Prop:=
 (env.kindOf x=gV .local/\m x=gV u)\/((env.kindOf x=gV .cell\/env.kindOf x=gV .free)/\∃c,env.cells.lookup x=gV c/\h.IsCell c (gV u))
structure Cx.Ok (X:Cx):Prop where
 mod:Mod X.K X.mg X.base
 kind:X.env.scope.kind=.function
 glob:X.env.globals=mainGlobals
 blt:X.env.builtins=builtinsNs
 above:X.s₀.heap.objs.size<=X.env.locals
 inj:∀x y c,X.env.cells.lookup x=gV c->X.env.cells.lookup y=gV c->x=y
 has:∀x,(X.env.kindOf x=gV .cell\/X.env.kindOf x=gV .free)->∃c,X.env.cells.lookup x=gV c
 cab:∀x c,X.fn x=true->X.env.cells.lookup x=gV c->X.s₀.heap.objs.size<=c
 hd:X.calm=true->X.A.handled=td
 frames:X.A.frames=gV X.stack
 stk:X.stack=X.outer\/(X.stack=X.env::X.outer/\X.env.frame=gV X.env.locals)
 exf:∀b∈X.ex,b≠X.env.locals/\∀x c,X.env.cells.lookup x=gV c->c≠b
 bs:∀b o,X.base.get? b=gV o->X.s₀.heap.get? b=gV o/\X.H₀ b=td
 bsz:X.base.objs.size<=X.s₀.heap.objs.size
 noex:∀b o,X.base.get? b=gV o->b∉X.ex
 exfs:∀b∈X.ex,b∉X.fs
 funs:X.s₀.heap.FunFrames X.base X.outer
 frf:∀b∈X.fs,X.H₀ b=td
structure Inv (X:Cx)(pins:Hg (Ht×Jo))(σ:Hg (Hn V))(H:Hp)(s:Hm):Prop where
 ok:X.Ok
 os:s.os=X.s₀.os
 bare:LU s.gens
 base:Un X.fs X.ex X.H₀ H X.s₀.heap s.heap
 loc:∃m,s.heap.Ns X.env.locals m/\∀(i:Ho) (x:HJ) (v:V),X.N[i]?=gV x->σ[i]?=gV (gV v)->Fp X.env.scope x->∃u,RelV v u/\Fq X.env s.heap m x u
 cell:∀x c,X.env.cells.lookup x=gV c->∃v,s.heap.IsCell c v
 free:H X.env.locals=td
 freeC:∀x c,X.env.cells.lookup x=gV c->H c=td
 pin:∀p∈X.pn++pins,s.heap.get? p.1=gV p.2/\H p.1=td/\p.1≠X.env.locals/\p.1∉X.fs/\∀v,p.2.data≠.cell v
 hok:HOk X.prog X.w H s.heap
 len:σ.length=X.N.length
section
variable{X:Cx}{pins:Hg (Ht×Jo)}{σ:Hg (Hn V)}{H H':Hp}{s:Hm}{h':IG}
theorem Cx.Ok.nofr (ok:X.Ok){b:Ht}{o:Jo}(e:X.base.get? b=gV o):b∉X.fs:=λhb=>by
 have:=(ok.funs.mem hb).1;rw[e]at this; cases this
theorem Inv.bs (I:Inv X pins σ H s):∀b o,X.base.get? b=gV o->s.heap.get? b=gV o/\H b=td:=λb o e=>
 #[I.base.keep b o (I.ok.bs b o e).1 (I.ok.bs b o e).2 (I.ok.nofr e) (I.ok.noex b o e),I.base.free b o (I.ok.bs b o e).1 (I.ok.bs b o e).2 (I.ok.noex b o e)]
theorem Inv.bk (I:Inv X pins σ H s):∀b o,X.base.get? b=gV o->s.heap.get? b=gV o:=λb o e=>(I.bs b o e).1
theorem Inv.mod (I:Inv X pins σ H s):Mod X.K X.mg X.base:=I.ok.mod
theorem Inv.kIn (I:Inv X pins σ H s):X.K.In s.heap:=I.ok.mod.kin.keeps I.bk
theorem Inv.lt (I:Inv X pins σ H s):X.env.locals < s.heap.objs.size:=let ⟨_,hn,_⟩:=I.loc; hn.lt
theorem Inv.sz (I:Inv X pins σ H s):X.s₀.heap.objs.size<=s.heap.objs.size:=HZ I.ok.above (La I.lt)
theorem Inv.nofs (I:Inv X pins σ H s){a:Ht}(h:s.heap.objs.size<=a):a∉X.fs:=λhb=>by
 obtain⟨_,o,ho,_⟩:=I.ok.funs.mem hb;exact absurd (Ig (HN ho) (HZ I.sz h)) (IX _)
theorem Inv.cne (I:Inv X pins σ H s):∀x c,X.env.cells.lookup x=gV c->c≠X.env.locals:=λx c e z=>by
 obtain⟨v,o,ho,hd⟩:=I.cell x c e;obtain⟨m,⟨o',es,ep,ho',hd',_⟩,_⟩:=I.loc;rw[z,ho']at ho; cases ho; rw[hd']at hd; cases hd
theorem Inv.funs (I:Inv X pins σ H s):s.heap.FunFrames X.base X.outer:=by
 have all:∀(l:Hg Nz),(∀b∈pQ l,b∈X.fs)->X.s₀.heap.FunFrames X.base l->s.heap.FunFrames X.base l:=by
  intro l
  induction l with
  | nil=>intro _ _; trivial
  | cons env r ih=>
   intro hs hl;obtain⟨hk,⟨L,o,hf,hn,ho,hd⟩,hr⟩:=hl;have hL:L∈X.fs:=hs L (by unfold pQ; rw[KP,hf]; exact Jh)
   obtain⟨sl,e⟩:=I.base.slot L o ho (I.ok.frf L hL) hL λz=>I.ok.exfs L z hL
   exact#[hk,#[L,_,hf,hn,e,hd],ih (λb hb=>hs b (by unfold pQ; rw[KP,hf]; exact II _ hb)) hr]
 exact all X.outer (λ_ hb=>hb) I.ok.funs
theorem Inv.stack (I:Inv X pins σ H s):s.heap.FunFrames X.base X.stack:=by
 rcases I.ok.stk with e|⟨e,hf⟩
 ·rw[e]; exact I.funs
 ·rw[e];obtain⟨m,hn,_⟩:=I.loc;refine .cons (by rw[I.ok.kind]; decide) hf hn ?_ I.funs
  exact Heap.get?_none_of_le (HZ I.ok.bsz I.ok.above)
theorem Inv.stkSub (I:Inv X pins σ H s):∀b∈pQ X.stack,b∈X.env.locals::X.fs:=λb hb=>by
 rcases I.ok.stk with e|⟨e,hf⟩
 ·rw[e]at hb; exact II _ hb
 ·rw[e]at hb;unfold pQ at hb;rw[KP,hf]at hb;exact hb
theorem Inv.stkFree (I:Inv X pins σ H s):∀b∈pQ X.stack,H b=td:=λb hb=>by
 rcases HW.mp (I.stkSub b hb)with e|hb
 ·rw[e]; exact I.free
 ·obtain⟨_,o,ho,_⟩:=I.ok.funs.mem hb;exact I.base.free b o ho (I.ok.frf b hb) λz=>I.ok.exfs b z hb
theorem Inv.step {g':IC MJ}{t':Ho}{d':P8}{ch:Hg Ht}(I:Inv X pins σ H s)
  (hch:∀b∈ch,(b∈X.ex\/X.s₀.heap.objs.size<=b)/\b≠X.env.locals/\(∀x c,X.env.cells.lookup x=gV c->c≠b)/\∀p∈X.pn++pins,p.1≠b)
  (keep:∀b o,b≠X.env.locals->b∉X.fs->b∉ch->s.heap.get? b=gV o->H b=td->h'.get? b=gV o)
  (slot:∀b o,b≠X.env.locals->b∈X.fs->b∉ch->s.heap.get? b=gV o->H b=td->∃sl,h'.get? b=gV { o with slots:=sl }) (free:∀b o,b∉ch->s.heap.get? b=gV o->H b=td->H' b=td)
  (there:∀b o,b∉ch->s.heap.get? b=gV o->∃o',h'.get? b=gV o')
  (tups:∀b xs,H b=gV (.tup xs)->H' b=gV (.tup xs)) (frzs:∀b o u,H b=gV (.frz o u)->H' b=gV (.frz o u)) (tbls:∀b ps,H b=gV (.tbl ps)->∃more,H' b=gV (.tbl (ps++more)))
  (ns:∀m,s.heap.Ns X.env.locals m->h'.Ns X.env.locals m) (hok:HOk X.prog X.w H' h') (hg:LU g') :
  Inv X pins σ H' { s with heap:=h',gens:=g',drawn:=d',toks:=t' }:=by
 have neL:∀b o,X.s₀.heap.get? b=gV o->b≠X.env.locals:=λb o e=>Il (Ig (HN e) I.ok.above)
 have neC:∀b o,X.s₀.heap.get? b=gV o->b∉X.ex->b∉ch:=λb o e hx hb=>by
  rcases(hch b hb).1 with z|z
  ·exact hx z
  ·exact absurd (Ig (HN e) z) (IX _)
 have cellK:∀x c,X.env.cells.lookup x=gV c->∀v,s.heap.IsCell c v->h'.IsCell c v:=λx c e v #[o,ho,hd]=>by
  have nch:c∉ch:=λz=>(hch c z).2.2.1 x c e rfl
  by_cases hc:c∈X.fs
  ·obtain⟨sl,q⟩:=slot c o (I.cne x c e) hc nch ho (I.freeC x c e);exact#[_,q,hd]
  ·exact#[o,keep c o (I.cne x c e) hc nch ho (I.freeC x c e),hd]
 refine#[I.ok,I.os,hg,#[λb o e n hb hx=>?_,λb o e n hb hx=>?_,λb o e n hx=>?_,λb o e hx=>?_,λb xs e=>tups b xs (I.base.tups b xs e),λb o xs e=>frzs b o xs (I.base.frzs b o xs e),λb ps e=>?_],?_,λx c e=>?_,?_,λx c e=>?_,λp hp=>?_,hok,I.len]
 ·exact keep b o (neL b o e) hb (neC b o e hx) (I.base.keep b o e n hb hx) (I.base.free b o e n hx)
 ·obtain⟨sl,e1⟩:=I.base.slot b o e n hb hx;obtain⟨sl',e2⟩:=slot b _ (neL b o e) hb (neC b o e hx) e1 (I.base.free b o e n hx);exact#[sl',e2]
 ·obtain⟨o',e1⟩:=I.base.there b o e hx;exact free b o' (neC b o e hx) e1 (I.base.free b o e n hx)
 ·obtain⟨o',e1⟩:=I.base.there b o e hx;exact there b o' (neC b o e hx) e1
 ·obtain⟨m1,e1⟩:=I.base.tbls b ps e;obtain⟨m2,e2⟩:=tbls b _ e1;exact#[m1++m2,by rw[e2,Nh]]
 ·obtain⟨m,hn,hl⟩:=I.loc;refine#[m,ns m hn,λi x v e1 e2 e3=>?_]
  obtain⟨u,r,l⟩:=hl i x v e1 e2 e3;refine#[u,r,?_];rcases l with l|⟨k,c,e,z⟩
  ·exact .inl l
  ·exact .inr #[k,c,e,cellK x c e _ z]
 ·obtain⟨v,z⟩:=I.cell x c e;exact#[v,cellK x c e v z]
 ·obtain⟨m,⟨o,_,_,ho,_⟩,_⟩:=I.loc;exact free _ o (λz=>(hch _ z).2.1 rfl) ho I.free
 ·obtain⟨v,o,ho,hd⟩:=I.cell x c e;exact free c o (λz=>(hch c z).2.2.1 x c e rfl) ho (I.freeC x c e)
 ·obtain⟨e,n,ne,nf,d⟩:=I.pin p hp;have nch:p.1∉ch:=λz=>(hch p.1 z).2.2.2 p hp rfl
  exact#[keep p.1 p.2 ne nf nch e n,free p.1 p.2 nch e n,ne,nf,d]
theorem Inv.un {t':Ho}(I:Inv X pins σ H s)(u:Un X.fs [] H H' s.heap h')(hok:HOk X.prog X.w H' h'):Inv X pins σ H' { s with heap:=h',toks:=t' }:=by
 obtain⟨m,⟨o,es,ep,ho,r⟩,_⟩:=id I.loc;obtain⟨sl,hL⟩:=u.any ho I.free (by simp)
 exact I.step (g':=s.gens) (d':=s.drawn) (ch:=[]) (λ_ z=>nomatch z) (λb o _ hb _ e n=>u.keep b o e n hb (by simp)) (λb o _ hb _ e n=>u.slot b o e n hb (by simp)) (λb o _ e n=>u.free b o e n (by simp)) (λb o _ e=>u.there b o e (by simp)) u.tups u.frzs u.tbls (λm' hm=>by
  obtain⟨o',es',ep',ho',r'⟩:=hm;rw[ho]at ho'; cases ho'
  exact#[_,es',ep',hL,r']) hok I.bare
theorem Inv.call {g':IC MJ}{t':Ho}{d':P8}{ch:Hg Ht}(I:Inv X pins σ H s)(u:Un (pQ X.stack) ch H H' s.heap h')(hok:HOk X.prog X.w H' h')(hg:LU g')
  (hch:∀b∈ch,(b∈X.ex\/X.s₀.heap.objs.size<=b)/\b≠X.env.locals/\(∀x c,X.env.cells.lookup x=gV c->c≠b)/\∀p∈X.pn++pins,p.1≠b) :
  Inv X pins σ H' { s with heap:=h',gens:=g',drawn:=d',toks:=t' }:=by
 obtain⟨m,⟨o,es,ep,ho,r⟩,_⟩:=id I.loc;obtain⟨sl,hL⟩:=u.any ho I.free λz=>(hch _ z).2.1 rfl
 exact I.step (ch:=ch) hch (λb o hL hb hc e n=>u.keep b o e n (λz=>(HW.mp (I.stkSub b z)).elim hL hb) hc) (λb o _ _ hc e n=>u.any e n hc) (λb o hc e n=>u.free b o e n hc) (λb o hc e=>u.there b o e hc) u.tups u.frzs u.tbls (λm' hm=>by
  obtain⟨o',es',ep',ho',r'⟩:=hm;rw[ho]at ho'; cases ho'
  exact#[_,es',ep',hL,r']) hok hg
theorem Inv.turned {t':Ho}{it:Ht}(I:Inv X pins σ H s)(k:∀b o,b≠it->s.heap.get? b=gV o->h'.get? b=gV o)(hn:H it=td)(hL:it≠X.env.locals)
  (h1:it∈X.ex\/X.s₀.heap.objs.size<=it) (h2:∀x c,X.env.cells.lookup x=gV c->c≠it) (h3:∀p∈X.pn++pins,p.1≠it):Inv X pins σ H { s with heap:=h',toks:=t' }:=by
 have nit:∀b u,H b=gV u->b≠it:=λb u e z=>by rw[z,hn]at e; cases e
 refine I.step (g':=s.gens) (d':=s.drawn) (ch:=[it]) (λb hb=>?_) (λb o _ _ hc e _=>k b o (λz=>hc (by simp[z])) e) (λb o _ _ hc e _=>#[o.slots,k b o (λz=>hc (by simp[z])) e]) (λ_ _ _ _ n=>n)
  (λb o hc e=>#[o,k b o (λz=>hc (by simp[z])) e]) (λ_ _ e=>e) (λ_ _ _ e=>e) (λb ps e=>#[#[],by rw[e]; simp]) (λm hm=>?_) (λb u e=>?_) I.bare
 ·have e:b=it:=by simpa using hb
  subst e;exact#[h1,hL,h2,h3]
 ·obtain⟨o,es,ep,ho,r⟩:=hm;exact#[o,es,ep,k _ o (Ne.symm hL) ho,r]
 ·refine(I.hok b u e).stay (λc v hc q=>k c v ?_ q) (λ_ q=>q) λ_ _ q=>q
  rcases hc with z|z
  ·rw[z]; exact nit b u e
  ·exact nit c _ z
theorem Inv.tok (I:Inv X pins σ H s)(t:Ho):Inv X pins σ H { s with toks:=t }:=I.un (h':=s.heap) (t':=t) Un.refl I.hok
theorem Inv.kept {t':Ho}(I:Inv X pins σ H s)(k:∀b u,s.heap.get? b=gV u->h'.get? b=gV u):Inv X pins σ H { s with heap:=h',toks:=t' }:=I.un (Un.kept k) (I.hok.kept k)
theorem Inv.laid {a:Ht}{o:HO}{t':Ho}(I:Inv X pins σ H s)(k:∀b u,s.heap.get? b=gV u->h'.get? b=gV u)(hp:s.heap.objs.size<=a)(new:ObjOk X.prog X.w (bQ H a o) h' a o) :
  Inv X pins σ (bQ H a o) { s with heap:=h',toks:=t' }:=I.un (Un.laid k hp (I.hok.fresh hp)) (I.hok.laid k hp new)
theorem Inv.write {x e:Ht}{o:HO}{t':Ho}(I:Inv X pins σ H s)(mu:Dq (H x))(he:e=x\/H e=gV (.own x))(k:∀b u,b≠e->s.heap.get? b=gV u->h'.get? b=gV u)(heo:∃u,h'.get? e=gV u)
  (new:ObjOk X.prog X.w (bQ H x o) h' x o):Inv X pins σ (bQ H x o) { s with heap:=h',toks:=t' }:=I.un (Un.write mu he k heo) (I.hok.write mu he k heo new)
theorem Inv.pins_of {pins':Hg (Ht×Jo)}(I:Inv X pins σ H s)(h:∀p∈pins',s.heap.get? p.1=gV p.2/\H p.1=td/\p.1≠X.env.locals/\p.1∉X.fs/\∀v,p.2.data≠.cell v):Inv X pins' σ H s:=
 #[I.ok,I.os,I.bare,I.base,I.loc,I.cell,I.free,I.freeC,λp hp=>(HY.mp hp).elim (λz=>I.pin p (JI _ z)) (h p),I.hok,I.len]
theorem n0 {N:Hg HJ}(hN:N.Nodup){i j:Ho}{x:HJ}(a:N[i]?=gV x)(b:N[j]?=gV x):i=j:=by
 obtain⟨h1,e1⟩:=HD.mp a;obtain⟨h2,e2⟩:=HD.mp b;exact(JX hN).mp (e1.trans e2.symm)
theorem sO {M:PX}{A:Iu}{E:Hj->Hm->Prop}{i:Ho}{x:HJ}{v:V}{u:Hj}{Q:Unit->Hm->Prop}(I:Inv X pins σ H s)(hN:X.N.Nodup)(hi:X.N[i]?=gV x)(hx:yp X.env.scope x)(r:RelV v u)
  (h:∀s',Inv X pins (σ.set i (gV v)) H s'->(∃a,Kc a s.heap s'.heap/\(a=X.env.locals\/X.env.cells.lookup x=gV a))->Q () s') (hf:X.fn x=true\/X.env.scope.names.lookup x=gV .local):wpAny M A (storeName X.env x u) Q E s:=by
 obtain⟨m,hn,hl⟩:=id I.loc;have hcls:(X.env.scope.kind==.class||(X.env.scope.kind==.module&&X.env.locals != X.env.globals))=false:=by rw[I.ok.kind]; rfl
 have hiσ:i < σ.length:=by rw[I.len]; exact(HD.mp hi).1
 have cne:=I.cne;have tracked:∀ {a:Ht} {h':IG},(∃o,s.heap.get? a=gV o/\H a=td)->Kc a s.heap h'->HOk X.prog X.w H h':=λ{a h'} ha hs b ob e=>by
  obtain⟨_,_,hfree⟩:=ha;refine(I.hok b ob e).stay (λc w' hc q=>(hs.2 c ?_).trans q) (λ_ q=>q) λ_ _ q=>q
  rintro rfl;rcases hc with rfl|hc
  ·rw[hfree]at e; cases e
  ·rw[hfree]at hc; cases hc
 rcases hx with hk|hk
 ·refine wpAny_storeName_local hk hn (λh' hn' hs=>?_) hcls
  obtain⟨oL,_,_,hoL,_⟩:=id hn;refine h _ #[I.ok,I.os,I.bare,#[λb o e n hb hx=>?_,λb o e n hb hx=>?_,I.base.free,λb o e hx=>?_,I.base.tups,I.base.frzs,I.base.tbls],#[_,hn',λj y v' e1 e2 e3=>?_],λy c e=>?_,I.free,I.freeC,λp hp=>?_,tracked #[oL,hoL,I.free] hs,by simpa using I.len] #[_,hs,.inl rfl]
  ·exact(hs.2 b (Il (Ig (HN e) I.ok.above))).trans (I.base.keep b o e n hb hx)
  ·obtain⟨sl,e1⟩:=I.base.slot b o e n hb hx;exact#[sl,(hs.2 b (Il (Ig (HN e) I.ok.above))).trans e1]
  ·obtain⟨o',e1⟩:=I.base.there b o e hx;exact#[o',(hs.2 b (Il (Ig (HN e) I.ok.above))).trans e1]
  ·by_cases hj:j=i
   ·subst hj;rw[hi]at e1; cases e1
    rw[Mh hiσ]at e2;cases e2;exact#[u,r,.inl #[hk,by simp]]
   ·rw[MK (Ne.symm hj)]at e2;obtain⟨u',r',q⟩:=hl j y v' e1 e2 e3;refine#[u',r',?_];rcases q with⟨k,e⟩|⟨k,c,e,z⟩
    ·refine .inl #[k,?_];have:y≠x:=λe=>hj (n0 hN e1 (e ▸ hi))
     simp[this,e]
    ·exact .inr #[k,c,e,z.sameBut hs (cne y c e)]
  ·obtain⟨w',z⟩:=I.cell y c e;exact#[w',z.sameBut hs (cne y c e)]
  ·obtain⟨e,n,ne,nf,d⟩:=I.pin p hp;exact#[(hs.2 p.1 ne).trans e,n,ne,nf,d]
 ·have hfn:X.fn x=true:=by
   rcases hf with z|z
   ·exact z
   ·rw[z]at hk; cases hk
  obtain⟨c,hc⟩:=I.ok.has x (.inl hk);obtain⟨w',z⟩:=I.cell x c hc;refine wpAny_storeName_cell I.ok.kind hk hc z (λh' hc' hs=>?_)
  obtain⟨oc,hoc,hocd⟩:=id z;refine h { s with heap:=h' } #[I.ok,I.os,I.bare,#[λb o e n hb hx=>?_,λb o e n hb hx=>?_,I.base.free,λb o e hx=>?_,I.base.tups,I.base.frzs,I.base.tbls],#[m,hn.sameBut hs (Ne.symm (cne x c hc)),λj y v' e1 e2 e3=>?_],λy c' e=>?_,I.free,I.freeC,λp hp=>?_,tracked #[oc,hoc,I.freeC x c hc] hs,by simpa using I.len] #[c,hs,.inr hc]
  ·exact(hs.2 b (Il (Ig (HN e) (I.ok.cab x c hfn hc)))).trans (I.base.keep b o e n hb hx)
  ·obtain⟨sl,e1⟩:=I.base.slot b o e n hb hx;exact#[sl,(hs.2 b (Il (Ig (HN e) (I.ok.cab x c hfn hc)))).trans e1]
  ·obtain⟨o',e1⟩:=I.base.there b o e hx;exact#[o',(hs.2 b (Il (Ig (HN e) (I.ok.cab x c hfn hc)))).trans e1]
  ·by_cases hj:j=i
   ·subst hj;rw[hi]at e1; cases e1
    rw[Mh hiσ]at e2;cases e2;exact#[u,r,.inr #[.inl hk,c,hc,hc']]
   ·rw[MK (Ne.symm hj)]at e2;obtain⟨u',r',q⟩:=hl j y v' e1 e2 e3;refine#[u',r',?_];rcases q with q|⟨k,c',e,z'⟩
    ·exact .inl q
    ·refine .inr #[k,c',e,z'.sameBut hs ?_];rintro rfl;exact hj (n0 hN e1 (I.ok.inj _ _ _ e hc ▸ hi))
  ·by_cases hcc:c'=c
   ·subst hcc; exact#[_,hc']
   ·obtain⟨w2,z2⟩:=I.cell y c' e;exact#[w2,z2.sameBut hs hcc]
  ·obtain⟨e,n,ne,nf,d⟩:=I.pin p hp;refine#[(hs.2 p.1 ?_).trans e,n,ne,nf,d];intro q;rw[q,hoc]at e;have q':oc=p.2:=IS e;exact d w' (by rw[<- q']; exact hocd)
theorem g7 {M:PX}{A:Iu}{E:Hj->Hm->Prop}{i:Ho}{x:HJ}{v:V}{u:Hj}{Q:Unit->Hm->Prop}(I:Inv X pins σ H s)(hN:X.N.Nodup)(hi:X.N[i]?=gV x)(hx:yp X.env.scope x)(r:RelV v u)
  (h:∀s',Inv X pins (σ.set i (gV v)) H s'->Q () s') (hf:X.fn x=true\/X.env.scope.names.lookup x=gV .local):wpAny M A (storeName X.env x u) Q E s:=
 sO I hN hi hx r (λs' I' _=>h s' I') hf
theorem Inv.call' {s':Hm}{ch:Hg Ht}(I:Inv X pins σ H s)(ho:s'.os=s.os)(u:Un (pQ X.stack) ch H H' s.heap s'.heap)(hok:HOk X.prog X.w H' s'.heap)(hg:LU s'.gens)
  (hch:∀b∈ch,(b∈X.ex\/X.s₀.heap.objs.size<=b)/\b≠X.env.locals/\(∀x c,X.env.cells.lookup x=gV c->c≠b)/\∀p∈X.pn++pins,p.1≠b):Inv X pins σ H' s':=by
 obtain⟨h',g',d',t',o'⟩:=s';have e:o'=s.os:=ho;subst e;exact I.call (g':=g') (t':=t') (d':=d') u hok hg hch
end
noncomputable abbrev XK:=Hj->Hn Ht->Hp->Prop
noncomputable abbrev St:=Hg (Hn V)
noncomputable abbrev VK:=V->Hp->Prop
noncomputable abbrev TE:=St->Hp->VK->Prop
noncomputable abbrev TT:=St->Hp->(HU->Hp->Prop)->Prop
noncomputable abbrev TA:=St->Hp->(Hg V->Hp->Prop)->Prop
structure Ends where
 nx:St->Hp->Prop
 rt:VK
 bk:St->Hp->Prop:=λ_ _=>IV
 ct:St->Hp->Prop:=λ_ _=>IV
noncomputable abbrev TS:=Ends->St->Hp->Prop
noncomputable def EP (X:Cx)(pins:Hg (Ht×Jo))(σ:St)(Q:VK)(u:Hj)(s':Hm):Prop:=∃v H',Inv X pins σ H' s'/\RelV v u/\Q v H'
noncomputable def TP (X:Cx)(pins:Hg (Ht×Jo))(σ:St)(Q:HU->Hp->Prop)(b:HU)(s':Hm):Prop:=∃H',Inv X pins σ H' s'/\Q b H'
noncomputable def AP (X:Cx)(pins:Hg (Ht×Jo))(σ:St)(Q:Hg V->Hp->Prop)(us:Hg Hj)(s':Hm):Prop:=∃vs H',Inv X pins σ H' s'/\Vals vs us/\Q vs H'
noncomputable def SP (X:Cx)(pins:Hg (Ht×Jo))(D:Ends)(f:Flow)(s':Hm):Prop:=
 match f with
 | .next=>∃σ' H',Inv X pins σ' H' s'/\D.nx σ' H'
 | .brk=>∃σ' H',Inv X pins σ' H' s'/\D.bk σ' H'
 | .cont=>∃σ' H',Inv X pins σ' H' s'/\D.ct σ' H'
 | .ret u=>∃v σ' H',Inv X pins σ' H' s'/\RelV v u/\D.rt v H'
noncomputable def PE (X:Cx)(e:HS)(t:TE):Prop:=
 ∀(pins:Hg (Ht×Jo)) (s:Hm) (σ:St) (H:Hp) (Q:VK),Inv X pins σ H s->t σ H Q->wpAny (model X.prog X.w) X.A (eval e X.env) (EP X pins σ Q) X.xe s
noncomputable def PT (X:Cx)(e:HS)(t:TT):Prop:=
 ∀(pins:Hg (Ht×Jo)) (s:Hm) (σ:St) (H:Hp) (Q:HU->Hp->Prop),Inv X pins σ H s->t σ H Q->wpAny (model X.prog X.w) X.A (isTrue e X.env (eval e X.env)) (TP X pins σ Q) X.xe s
noncomputable def PW (X:Cx)(e:HS)(t:TT):Prop:=
 ∀(whole:Pk Hj) (pins:Hg (Ht×Jo)) (s:Hm) (σ:St) (H:Hp) (Q:HU->Hp->Prop),Inv X pins σ H s->t σ H Q->wpAny (model X.prog X.w) X.A (isTrue e X.env whole) (TP X pins σ Q) X.xe s
theorem PW.pt {X:Cx}{e:HS}{t:TT}(h:PW X e t):PT X e t:=h _
noncomputable def PA (X:Cx)(es:Hg HS)(t:TA):Prop:=
 ∀(pos:JY) (pins:Hg (Ht×Jo)) (s:Hm) (σ:St) (H:Hp) (Q:Hg V->Hp->Prop),Inv X pins σ H s->t σ H Q->wpAny (model X.prog X.w) X.A (spliced (backTo pos (starEach es X.env))) (AP X pins σ Q) X.xe s
noncomputable def PS (X:Cx)(st:Kk)(t:TS):Prop:=
 ∀(pins:Hg (Ht×Jo)) (s:Hm) (σ:St) (H:Hp) (D:Ends),Inv X pins σ H s->t D σ H->wpAny (model X.prog X.w) X.A (exec st X.env) (SP X pins D) X.xe s
noncomputable def PSs (X:Cx)(st:Hg Kk)(t:TS):Prop:=
 ∀(pins:Hg (Ht×Jo)) (s:Hm) (σ:St) (H:Hp) (D:Ends),Inv X pins σ H s->t D σ H->wpAny (model X.prog X.w) X.A (execs st X.env) (SP X pins D) X.xe s
theorem bo {α:Type}{t:Pk α}{Q Q':α->Hm->Prop}{M:PX}{A:Iu}{E:Hj->Hm->Prop}{s:Hm}(h:wpAny M A t Q E s)(hQ:∀a s,Q a s->Q' a s):wpAny M A t Q' E s:=Jx h hQ λ_ _ x=>x
section
variable{X:Cx}
theorem Hf {a b:HS}{ta tb:TE}(ha:PE X a ta)(hb:PE X b tb){pins:Hg (Ht×Jo)}{s:Hm}{σ:St}{H:Hp}{R:V->V->Hp->Prop}(I:Inv X pins σ H s)(h:ta σ H λx H1=>tb σ H1 λy H2=>R x y H2)
  {α:Type} {Q:α->Hm->Prop} {f:Hj->Hj->Pk α}
  (hf:∀v u s2 x y H2,Inv X pins σ H2 s2->RelV x v->RelV y u->R x y H2->wpAny (model X.prog X.w) X.A (f v u) Q X.xe s2) :
  wpAny (model X.prog X.w) X.A (eval a X.env) (λv s₁=>wpAny (model X.prog X.w) X.A (eval b X.env) (λu s₂=>wpAny (model X.prog X.w) X.A (f v u) Q X.xe s₂) X.xe s₁) X.xe s:=by
 refine bo (ha pins s σ H _ I h) λv s1 #[x,H1,I1,r1,q1]=>?_
 refine bo (hb pins s1 σ H1 _ I1 q1) λu s2 #[y,H2,I2,r2,q2]=>?_
 exact hf v u s2 x y H2 I2 r1 r2 q2
noncomputable def Dr (i:Ho):TE:=λσ H Q=>∃v,σ[i]?=gV (gV v)/\Q v H
noncomputable def tC (v:V):TE:=λ_ H Q=>Q v H
theorem Bp {i:Ho}{x:HJ}{pos:JY}(hN:X.N[i]?=gV x)(hv:Fp X.env.scope x)(hd:(x==("__debug__" : HJ))=false:=by decide)(hcd:(x==("__classdict__" : HJ))=false:=by decide):PE X (.Name x pos) (Dr i):=by
 intro pins s σ H Q I h;obtain⟨v,e,h⟩:=h;obtain⟨m,hn,hl⟩:=I.loc;obtain⟨u,r,l⟩:=hl i x v hN e hv;have fin:EP X pins σ Q u s:=#[v,H,I,r,h];rcases l with⟨hk,hm⟩|⟨hk,c,hc,hcell⟩
 ·exact Ox (wpAny_loadName_local I.ok.kind hk hn hm fin) hd
 ·rcases hk with hk|hk
  ·exact Ox (wpAny_loadName_cell I.ok.kind hk hc hcell fin) hd
  ·exact Ox (wpAny_loadName_free I.ok.kind hk hc hcell fin hcd) hd
theorem uH {i j pos}:PE X (.Constant (.int i) j pos) (tC (.int i)):=λ_ _ _ H _ I h=>wpAny_Constant_int #[.int i,H,I.tok _,#[_,rfl],h]
theorem AG {b j pos}:PE X (.Constant (.bool b) j pos) (tC (.bl b)):=λ_ _ _ H _ I h=>Constant_bool #[.bl b,H,I,rfl,h]
theorem uI {j pos}:PE X (.Constant .none j pos) (tC .non):=λ_ _ _ H _ I h=>Constant_none #[.non,H,I,rfl,h]
theorem uJ {x j pos}:PE X (.Constant (.str x) j pos) (tC (.str x)):=λ_ _ _ H _ I h=>Ni #[.str x,H,I.tok _,#[_,rfl],h]
noncomputable def Gl (X:Cx)(x:HJ):Prop:=X.env.kindOf x=gV .globalImplicit
theorem qZ {E:Hj->Hm->Prop}{pins:Hg (Ht×Jo)}{s:Hm}{σ:St}{H:Hp}{x:HJ}{u:Hj}{pos:JY}{Q:Hj->Hm->Prop}(I:Inv X pins σ H s)(hg:Gl X x)(hm:X.mg x=gV u)(h:Q u s)
  (hd:(x==("__debug__" : HJ))=false:=by decide):wpAny (model X.prog X.w) X.A (eval (.Name x pos) X.env) Q E s:=
 LC I.ok.kind hg (Calls.loadGlobal_global (by rw[I.ok.glob]; exact I.mod.glob.keeps I.bk) hm h) hd
theorem iK {E:Hj->Hm->Prop}{pins:Hg (Ht×Jo)}{s:Hm}{σ:St}{H:Hp}{x:HJ}{u:Hj}{pos:JY}{Q:Hj->Hm->Prop}(I:Inv X pins σ H s)(hg:Gl X x)(hm:X.mg x=td)(hv:bootBuiltins x=gV u)(h:Q u s)
  (hn:x≠"__name__":=by decide) (hd:(x==("__debug__" : HJ))=false:=by decide):wpAny (model X.prog X.w) X.A (eval (.Name x pos) X.env) Q E s:=by
 obtain⟨mb,h1,h2⟩:=I.mod.blt;exact LC I.ok.kind hg (Calls.loadGlobal_builtin (by rw[I.ok.glob]; exact I.mod.glob.keeps I.bk) hm (by rw[I.ok.blt]; exact h1.keeps I.bk) ((h2 x hn).trans hv) h) hd
theorem yq {x:HJ}{v:V}{u:Hj}{pos:JY}(hg:Gl X x)(hm:X.mg x=td)(hv:bootBuiltins x=gV u)(r:RelV v u)(hn:x≠"__name__":=by decide)(hd:(x==("__debug__" : HJ))=false:=by decide):PE X (.Name x pos) (tC v):=
 λ_ _ _ H _ I h=>iK I hg hm hv #[v,H,I,r,h] hn hd
variable{a b:HS}{ta tb:TE}{pos:JY}
variable{tA tB':TT}{cv:Hg HS}
noncomputable def Ds (t u:TT):TT:=λσ H Q=>t σ H λc H1=>if c=true then u σ H1 Q else Q false H1
noncomputable def GH (t u:TT):TT:=λσ H Q=>t σ H λc H1=>if c=true then Q true H1 else u σ H1 Q
noncomputable def Fs (t:TT):TT:=λσ H Q=>t σ H λc H1=>Q (!c) H1
theorem yr (ha:PT X a tA):PW X (.BoolOp .And [a] pos) tA:=by
 intro wh pins s σ H Q I h;refine isTrue_and (bo (ha pins s σ H Q I h) λc s1 e=>?_)
 cases c with
 | true=>exact isTrue_and_nil e
 | false=>exact e
theorem Bq (ha:PT X a tA):PW X (.BoolOp .Or [a] pos) tA:=by
 intro wh pins s σ H Q I h;refine isTrue_or (bo (ha pins s σ H Q I h) λc s1 e=>?_)
 cases c with
 | false=>exact isTrue_or_nil e
 | true=>exact e
theorem Br (ha:PT X a tA)(hb:PW X (.BoolOp .And (b::cv) pos) tB'):PW X (.BoolOp .And (a::b::cv) pos) (Ds tA tB'):=by
 intro wh pins s σ H Q I h;refine isTrue_and (bo (ha pins s σ H _ I h) λc s1 #[H1,I1,q1]=>?_)
 cases c with
 | true=>exact hb wh pins s1 σ H1 Q I1 q1
 | false=>exact#[H1,I1,q1]
theorem Dt (ha:PT X a tA)(hb:PW X (.BoolOp .Or (b::cv) pos) tB'):PW X (.BoolOp .Or (a::b::cv) pos) (GH tA tB'):=by
 intro wh pins s σ H Q I h;refine isTrue_or (bo (ha pins s σ H _ I h) λc s1 #[H1,I1,q1]=>?_)
 cases c with
 | true=>exact#[H1,I1,q1]
 | false=>exact hb wh pins s1 σ H1 Q I1 q1
theorem Bs (ha:PT X a tA):PT X (.UnaryOp .Not a pos) (Fs tA):=by
 intro pins s σ H Q I h;exact isTrue_not (ha pins s σ H (λc H1=>Q (!c) H1) I h)
noncomputable def Du (ta tb:TE):TE:=λσ H Q=>ta σ H λx H1=>∃c,x=.bl c/\if c=true then tb σ H1 Q else Q (.bl false) H1
noncomputable def Ft (ta tb:TE):TE:=λσ H Q=>ta σ H λx H1=>∃c,x=.bl c/\if c=true then Q (.bl true) H1 else tb σ H1 Q
noncomputable def Dv (ta:TE):TE:=λσ H Q=>ta σ H λx H1=>∃c,x=.bl c/\Q (.bl (!c)) H1
theorem Bt {op}{t:TE}(h:PE X a t):PE X (.BoolOp op [a] pos) t:=λpins s σ H Q I hw=>BoolOp_one (h pins s σ H Q I hw)
theorem Bu (ha:PE X a ta)(hb:PE X (.BoolOp .And (b::cv) pos) tb):PE X (.BoolOp .And (a::b::cv) pos) (Du ta tb):=by
 intro pins s σ H Q I h;refine BoolOp_and (bo (ha pins s σ H _ I h) λv s1 #[x,H1,I1,r1,q1]=>?_)
 obtain⟨c,rfl,q1⟩:=q1;cases r1;refine Jg ?_;cases c with
 | true=>exact hb pins s1 σ H1 Q I1 q1
 | false=>exact#[.bl false,H1,I1,rfl,q1]
theorem Dw (ha:PE X a ta)(hb:PE X (.BoolOp .Or (b::cv) pos) tb):PE X (.BoolOp .Or (a::b::cv) pos) (Ft ta tb):=by
 intro pins s σ H Q I h;refine BoolOp_or (bo (ha pins s σ H _ I h) λv s1 #[x,H1,I1,r1,q1]=>?_)
 obtain⟨c,rfl,q1⟩:=q1;cases r1;refine Jg ?_;cases c with
 | false=>exact hb pins s1 σ H1 Q I1 q1
 | true=>exact#[.bl true,H1,I1,rfl,q1]
theorem Bv (ha:PE X a ta):PE X (.UnaryOp .Not a pos) (Dv ta):=by
 intro pins s σ H Q I h;refine UnaryOp_ (bo (ha pins s σ H _ I h) λv s1 #[x,H1,I1,r1,q1]=>?_)
 obtain⟨c,rfl,q1⟩:=q1;cases r1;exact not_of (Jg #[.bl (!c),H1,I1,rfl,q1])
noncomputable def GV (t:TT)(ta tb:TE):TE:=λσ H Q=>t σ H λc H1=>if c=true then ta σ H1 Q else tb σ H1 Q
theorem uK {c:HS}(hc:PT X c tA)(ha:PE X a ta)(hb:PE X b tb):PE X (.IfExp c a b pos) (GV tA ta tb):=by
 intro pins s σ H Q I h;refine wpAny_IfExp (bo (hc pins s σ H _ I h) λd s1 #[H1,I1,q1]=>?_)
 cases d with
 | true=>exact ha pins s1 σ H1 Q I1 q1
 | false=>exact hb pins s1 σ H1 Q I1 q1
end
noncomputable def SqL (K:HA)(H:Hp)(a:Ht)(xs:Hg V):Prop:=
 Rd H a (.lst xs)\/
  ∃(o:Jo) (its:IC Hj) (n:Ho),K.lookup a=gV o/\o.cls=.type "list"/\o.dict=td/\o.data=.seq its n/\its.size<=sizeLine/\Vals xs its.toList
noncomputable def SqT (K:HA)(H:Hp)(a:Ht)(xs:Hg V):Prop:=
 Rd H a (.tup xs)\/
  ∃(o:Jo) (its:IC Hj) (n:Ho),K.lookup a=gV o/\o.cls=.type "tuple"/\o.dict=td/\o.data=.seq its n/\its.size<=sizeLine/\Vals xs its.toList
noncomputable def Fu:Hj->Hn V
 | .none=>gV .non
 | .bool b=>gV (.bl b)
 | .int i _=>gV (.int i)
 | .str x _=>gV (.str x)
 | .bytes b _=>gV (.byt b)
 | .float b _=>gV (.flt b)
 | .ref a=>gV (.ref a)
 | .type n=>gV (.ty n)
 | _=>td
theorem RelV.abs {x:V}{u:Hj}(r:RelV x u):Fu u=gV x:=by
 cases x with
 | non=>cases r; rfl
 | bl _=>cases r; rfl
 | int _=>obtain⟨t,rfl⟩:=r; rfl
 | str _=>obtain⟨t,rfl⟩:=r; rfl
 | byt _=>obtain⟨t,rfl⟩:=r; rfl
 | flt _=>obtain⟨t,rfl⟩:=r; rfl
 | ref _=>cases r; rfl
 | ty _=>cases r; rfl
theorem RelV.inj {x y:V}{u:Hj}(r:RelV x u)(q:RelV y u):x=y:=IS (r.abs.symm.trans q.abs)
theorem Vals.inj:∀ {xs ys:Hg V} {us:Hg Hj},Vals xs us->Vals ys us->xs=ys
 | _,_,_,.nil,.nil=>rfl
 | _,_,_,.cons r t,.cons r' t'=>by rw[r.inj r',Vals.inj t t']
section
variable{X:Cx}{pins:Hg (Ht×Jo)}{σ:St}{H:Hp}{s:Hm}{a:Ht}{xs ys:Hg V}
theorem SqL.of {K:HA}(h:H a=gV (.lst xs)):SqL K H a xs:=.inl (.inl h)
theorem SqT.of {K:HA}(h:H a=gV (.tup xs)):SqT K H a xs:=.inl (.inl h)
theorem Inv.list (I:Inv X pins σ H s)(h:SqL X.K H a xs):∃its:Hg Hj,Vals xs its/\PlainL s.heap a its.toArray/\xs.length<=sizeLine:=by
 rcases h with h|⟨o,its,n,hk,hc,hd,hs,hz,r⟩
 ·obtain⟨z,its,n,r,e⟩:=h.ok I.hok;exact#[its,r,#[_,n,e,rfl,rfl,rfl],z]
 ·refine#[its.toList,r,#[o,n,I.kIn a o hk,hc,hd,by simpa using hs],?_]
  have e:=r.length;simp only[Ir]at e;omega
theorem Inv.tuple (I:Inv X pins σ H s)(h:SqT X.K H a xs):∃its:Hg Hj,Vals xs its/\Ny s.heap a its.toArray/\xs.length<=sizeLine:=by
 rcases h with h|⟨o,its,n,hk,hc,hd,hs,hz,r⟩
 ·obtain⟨z,its,r,p⟩:=h.ok I.hok;exact#[its,r,p,z.1]
 ·refine#[its.toList,r,#[o,I.kIn a o hk,hc,n,by simpa using hs],?_]
  have e:=r.length;simp only[Ir]at e;omega
theorem Inv.list_inj (I:Inv X pins σ H s)(h:SqL X.K H a xs)(h':SqL X.K H a ys):xs=ys:=by
 obtain⟨its,r,⟨o,n,e,_,_,d⟩,_⟩:=I.list h;obtain⟨its',r',⟨o',n',e',_,_,d'⟩,_⟩:=I.list h';rw[e]at e'; cases e'
 rw[d]at d';injection d' with d1 _
 have:its=its':=by simpa using congrArg Pc d1
 subst this;exact r.inj r'
theorem Inv.tuple_inj (I:Inv X pins σ H s)(h:SqT X.K H a xs)(h':SqT X.K H a ys):xs=ys:=by
 obtain⟨its,r,⟨o,e,_,n,d⟩,_⟩:=I.tuple h;obtain⟨its',r',⟨o',e',_,n',d'⟩,_⟩:=I.tuple h';rw[e]at e'; cases e'
 rw[d]at d';injection d' with d1 _
 have:its=its':=by simpa using congrArg Pc d1
 subst this;exact r.inj r'
end
noncomputable abbrev Cx.wish (X:Cx)(E:Hj->Hm->Prop):Cx:={ X with xe:=E }
noncomputable abbrev Cx.nox (X:Cx):Cx:=X.wish λ_ _=>IV
theorem Cx.Ok.wish {X:Cx}(ok:X.Ok)(E:Hj->Hm->Prop):(X.wish E).Ok:=
 #[ok.mod,ok.kind,ok.glob,ok.blt,ok.above,ok.inj,ok.has,ok.cab,ok.hd,ok.frames,ok.stk,ok.exf,ok.bs,ok.bsz,ok.noex,ok.exfs,ok.funs,ok.frf]
theorem Cx.Ok.unwish {X:Cx}{E:Hj->Hm->Prop}(ok:(X.wish E).Ok):X.Ok:=
 #[ok.mod,ok.kind,ok.glob,ok.blt,ok.above,ok.inj,ok.has,ok.cab,ok.hd,ok.frames,ok.stk,ok.exf,ok.bs,ok.bsz,ok.noex,ok.exfs,ok.funs,ok.frf]
section
variable{X:Cx}{pins:Hg (Ht×Jo)}{σ:St}{H:Hp}{s:Hm}{E:Hj->Hm->Prop}
theorem Inv.wish (I:Inv X pins σ H s)(E:Hj->Hm->Prop):Inv (X.wish E) pins σ H s:=#[I.ok.wish E,I.os,I.bare,I.base,I.loc,I.cell,I.free,I.freeC,I.pin,I.hok,I.len]
theorem Inv.unwish (I:Inv (X.wish E) pins σ H s):Inv X pins σ H s:=#[I.ok.unwish,I.os,I.bare,I.base,I.loc,I.cell,I.free,I.freeC,I.pin,I.hok,I.len]
theorem SP.unwish {D:Ends}{f:Flow}{s':Hm}(h:SP (X.wish E) pins D f s'):SP X pins D f s':=by
 cases f with
 | next=>obtain⟨σ',H',I,q⟩:=h; exact#[σ',H',I.unwish,q]
 | brk=>obtain⟨σ',H',I,q⟩:=h; exact#[σ',H',I.unwish,q]
 | cont=>obtain⟨σ',H',I,q⟩:=h; exact#[σ',H',I.unwish,q]
 | ret u=>obtain⟨v,σ',H',I,r,q⟩:=h; exact#[v,σ',H',I.unwish,r,q]
theorem PSs.nox {st:Hg Kk}{t:TS}(h:PSs X.nox st t):PSs X st t:=λpins s σ H D I hw=>
 Jx (h pins s σ H D (I.wish _) hw) (λ_ _ q=>q.unwish) λ_ _ z=>IV.elim z
end
section
variable{X:Cx}{st:Kk}{cv:Hg Kk}{t u:TS}{e:HS}{te:TE}{pos:JY}
noncomputable def uL:TS:=λD σ H=>D.nx σ H
noncomputable def Fv (t u:TS):TS:=λD σ H=>t { D with nx:=u D } σ H
theorem yt:PSs X [] uL:=λ_ _ σ H _ I h=>Mu #[σ,H,I,h]
theorem uM (h1:PS X st t)(h2:PSs X cv u):PSs X (st::cv) (Fv t u):=by
 intro pins s σ H D I h;refine wpAny_execs_cons (bo (h1 pins s σ H { D with nx:=u D } I h) λf s1 q=>?_)
 cases f with
 | next=>
  obtain⟨σ',H',I',q⟩:=q;exact h2 pins s1 σ' H' D I' q
 | ret v=>exact q
 | brk=>exact q
 | cont=>exact q
noncomputable def Bw:TS:=λD σ H=>D.bk σ H
noncomputable def Dx:TS:=λD σ H=>D.ct σ H
theorem yu:PS X (.Pass pos) uL:=λ_ _ σ H _ I h=>wpAny_Pass #[σ,H,I,h]
theorem uN:PS X (.Break pos) Bw:=λ_ _ σ H _ I h=>wpAny_Break #[σ,H,I,h]
theorem n6:PS X (.Continue pos) Dx:=λ_ _ σ H _ I h=>wpAny_Continue #[σ,H,I,h]
theorem Inv.quiet {pins:Hg (Ht×Jo)}{σ:St}{H:Hp}{s:Hm}(I:Inv X pins σ H s):interactive X.env=false:=by simp[interactive,I.ok.kind]
theorem Bx {x j pos pos'}:PS X (.Expr (.Constant (.str x) j pos) pos') uL:=λ_ s σ H _ I h=>wpAny_Expr (Ni (show SP X _ _ .next { s with toks:=s.toks+1 } from#[σ,H,I.tok _,h])) I.quiet
noncomputable def Dy (te:TE):TS:=λD σ H=>te σ H λ_ H1=>D.nx σ H1
theorem yv (he:PE X e te)(hs:swapsWith e td pos.line X.env=pure false:=by rfl):PS X (.Expr e pos) (Dy te):=by
 intro pins s σ H D I h;exact wpAny_Expr_any (bo (he pins s σ H _ I h) λv s1 #[x,H1,I1,r1,q1]=>#[σ,H1,I1,q1]) I.quiet hs
noncomputable def Fw (te:TE):TS:=λD σ H=>te σ H D.rt
theorem By (he:PE X e te):PS X (.Return (gV e) pos) (Fw te):=by
 intro pins s σ H D I h;exact wpAny_Return_some (bo (he pins s σ H _ I h) λv s1 #[x,H1,I1,r1,q1]=>#[x,σ,H1,I1,r1,q1])
noncomputable def Dz:TS:=λD _ H=>D.rt .non H
theorem yw:PS X (.Return td pos) Dz:=λ_ _ σ H _ I h=>wpAny_Return_none #[.non,σ,H,I,rfl,h]
noncomputable def Fx (c:TT)(t u:TS):TS:=λD σ H=>c σ H λb H1=>if b=true then t D σ H1 else u D σ H1
theorem DA {c:HS}{a b:Hg Kk}{tc:TT}(hc:PT X c tc)(ha:PSs X a t)(hb:PSs X b u):PS X (.If c a b pos) (Fx tc t u):=by
 intro pins s σ H D I h;refine wpAny_If (bo (hc pins s σ H _ I h) λd s1 #[H1,I1,q1]=>?_)
 cases d with
 | true=>exact ha pins s1 σ H1 D I1 q1
 | false=>exact hb pins s1 σ H1 D I1 q1
end
noncomputable abbrev TG:=V->St->Hp->(St->Hp->Prop)->Prop
noncomputable abbrev Bz:=Hg V->St->Hp->(St->Hp->Prop)->Prop
noncomputable def PG (X:Cx)(target:HS)(t:TG):Prop:=
 ∀(pins:Hg (Ht×Jo)) (s:Hm) (σ:St) (H:Hp) (v:V) (u:Hj) (Q:St->Hp->Prop),Inv X pins σ H s->RelV v u->t v σ H Q->
  wpAny (model X.prog X.w) X.A (assign target X.env u) (λ_ s'=>∃σ' H',Inv X pins σ' H' s'/\Q σ' H') X.xe s
noncomputable def DB (X:Cx)(ts:Hg HS)(t:Bz):Prop:=
 ∀(pins:Hg (Ht×Jo)) (s:Hm) (σ:St) (H:Hp) (vs:Hg V) (us:Hg Hj) (Q:St->Hp->Prop),Inv X pins σ H s->Vals vs us->t vs σ H Q->
  wpAny (model X.prog X.w) X.A (assignInOrder ((assignEach ts X.env).map (·.2)) us) (λ_ s'=>∃σ' H',Inv X pins σ' H' s'/\Q σ' H') X.xe s
noncomputable abbrev BA:=V->V->V->Hp->(Hp->Prop)->Prop
noncomputable def BB (X:Cx)(t:BA):Prop:=
 ∀(pins:Hg (Ht×Jo)) (s:Hm) (σ:St) (H:Hp) (o i v:V) (ov iv u:Hj) (Q:Hp->Prop),Inv X pins σ H s->RelV o ov->RelV i iv->RelV v u->t o i v H Q->
  wpAny (model X.prog X.w) X.A (setItem ov iv u) (λ_ s'=>∃H',Inv X pins σ H' s'/\Q H') X.xe s
section
variable{X:Cx}{pos:JY}
noncomputable def DC (i:Ho):TG:=λv σ H Q=>Q (σ.set i (gV v)) H
theorem q8 {i:Ho}{x:HJ}(hN:X.N.Nodup)(hi:X.N[i]?=gV x)(hx:yp X.env.scope x)(hf:X.fn x=true\/X.env.scope.names.lookup x=gV .local):PG X (.Name x pos) (DC i):=by
 intro pins s σ H v u Q I r h;exact NA (g7 I hN hi hx r (λs' I'=>#[_,H,I',h]) hf)
noncomputable def Fy:Bz:=λvs σ H Q=>vs=[]/\Q σ H
noncomputable def DD (t:TG)(u:Bz):Bz:=λvs σ H Q=>∃v r,vs=v::r/\t v σ H λσ' H'=>u r σ' H' Q
theorem yy:DB X [] Fy:=by
 intro pins s σ H vs us Q I r h;obtain⟨e,h⟩:=h;subst e;cases r;exact NB #[σ,H,I,h]
theorem uO {e:HS}{es:Hg HS}{t:TG}{u:Bz}(h1:PG X e t)(h2:DB X es u)
  (hs:(assignEach (e::es) X.env).map (·.2)=assign e X.env::(assignEach es X.env).map (·.2):=by rfl):DB X (e::es) (DD t u):=by
 intro pins s σ H vs us Q I r h;obtain⟨v,vr,e1,h⟩:=h;subst e1;cases r with
 | cons r rr=>
  rw[hs];refine LD (bo (h1 pins s σ H _ _ _ I r h) λ_ s1 #[σ1,H1,I1,q1]=>?_)
  exact h2 pins s1 σ1 H1 _ _ Q I1 rr q1
noncomputable def Fz (K:HA)(n:Ho)(t:Bz):TG:=λv σ H Q=>∃a xs,v=.ref a/\SqT K H a xs/\xs.length=n/\t xs σ H Q
theorem BC {es:Hg HS}{k:Ho}{t:Bz}{n:Ho}(hc:X.calm=true)(h:DB X es t)
  (hn:(assignEach es X.env).length=n:=by rfl) (hst:(assignEach es X.env).findIdx? (·.1)=td:=by rfl):PG X (.Tuple es k pos) (Fz X.K n t):=by
 intro pins s σ H v u Q I r hw;obtain⟨a,xs,e1,hq,hl,hw⟩:=hw;subst e1;cases r;obtain⟨its,rv,ht,hz⟩:=I.tuple hq;refine assign_Tuple_tuple (I.ok.hd hc) ht (by simp[hn,<- hl,rv.length]) hst λh' hx=>?_
 have I1:Inv X pins σ H { s with heap:=h' }:=I.kept (t':=s.toks) λb o e=>hx b o (Il (HN e)) e
 exact h pins _ σ H xs _ Q I1 (by simpa using rv) hw
noncomputable def FB (to ti:TE)(t:BA):TG:=λv σ H Q=>to σ H λo H1=>ti σ H1 λi H2=>t o i v H2 λH3=>Q σ H3
theorem BE {o i:HS}{to ti:TE}{t:BA}(ho:PE X o to)(hi:PE X i ti)(hs:BB X t)
  (ha:∀v,assign (.Subscript o i pos) X.env v=(do
   let ov <- holding [v] (eval o X.env)
   let iv <- holding [v,ov] (eval i X.env)
   standAt pos
   holding [v,ov,iv] (setItem ov iv v)
   release [v,ov,iv] []):=by intro _; rfl):PG X (.Subscript o i pos) (FB to ti t):=by
 intro pins s σ H v u Q I r h;rw[ha];refine Hi (Jk (bo (ho pins s σ H _ I h) λov s1 #[x,H1,I1,r1,q1]=>?_))
 refine Hi (Jk (bo (hi pins s1 σ H1 _ I1 q1) λiv s2 #[y,H2,I2,r2,q2]=>?_))
 refine Hi (Lp (Hi (Jk (bo (hs pins s2 σ H2 x y v ov iv u _ I2 r1 r2 r q2) λ_ s3 #[H3,I3,q3]=>?_))))
 exact wpAny_release #[σ,H3,I3,q3]
noncomputable def FC (te:TE)(g:TG):TS:=λD σ H=>te σ H λx H1=>g x σ H1 D.nx
theorem BF {tg e:HS}{te:TE}{g:TG}(he:PE X e te)(hg:PG X tg g)(hs:swapsWithSole [tg] e pos.line X.env=pure false:=by rfl)(hw:swappedStores [tg] e X.env=pure td:=by rfl)
  (h1:(assignEach [tg] X.env).map (·.2)=[assign tg X.env]:=by rfl):PS X (.Assign [tg] e pos) (FC te g):=by
 intro pins s σ H D I h;refine wpAny_Assign_stores (bo (he pins s σ H _ I h) λv s1 #[x,H1,I1,r1,q1]=>?_) hs hw
 rw[h1];exact bo (hg pins s1 σ H1 x v _ I1 r1 q1) λ_ s2 q=>q
noncomputable def FD (i j:Ho)(ta:TA):TS:=λD σ H=>ta σ H λvs H1=>∃v w,vs=[v,w]/\D.nx ((σ.set i (gV v)).set j (gV w)) H1
theorem BG {i j:Ho}{x y:HJ}{a b:HS}{ta:TA}{px py pt:JY}{kt k2 pt2}(hc:X.calm=true)(hN:X.N.Nodup)(hi:X.N[i]?=gV x)(hj:X.N[j]?=gV y)(hij:i≠j)
  (hx:X.env.scope.names.lookup x=gV .local) (hy:X.env.scope.names.lookup y=gV .local) (ha:PA X [a,b] ta)
  (hw:swappedStores [.Tuple [.Name x px,.Name y py] kt pt] (.Tuple [a,b] k2 pt2) X.env=pure (gV [x,y]))
  (hs:swapsWithSole [.Tuple [.Name x px,.Name y py] kt pt] (.Tuple [a,b] k2 pt2) pos.line X.env=pure false:=by rfl) :
  PS X (.Assign [.Tuple [.Name x px,.Name y py] kt pt] (.Tuple [a,b] k2 pt2) pos) (FD i j ta):=by
 intro pins s σ H D I h;rw[exec_Assign_arm];refine Hi (Lp ?_);rw[hs];refine Hi (Hx ?_);rw[Iv #v[]]
 refine Hi (Tuple_ (bo (ha _ pins s σ H _ I h) λus s1 #[vs,H1,I1,r1,q1]=>?_))
 obtain⟨v,w,e1,q1⟩:=q1;subst e1;obtain⟨u1,u2,rfl,rv,rw'⟩ : ∃u1 u2,us=[u1,u2]/\RelV v u1/\RelV w u2:=by
  cases r1 with
  | cons p q=>
   cases q with
   | cons p' q'=>
    cases q';exact#[_,_,rfl,p,p']
 refine IH ?_ (by show 2<=sizeLine; decide)
 have I2:Inv X pins σ H1 { s1 with heap:=s1.heap.push { cls:=.type "tuple",data:=.seq [u1,u2].toArray } }:=I1.kept (t':=s1.toks) λb o e=>Hr _ e
 rw[hw];refine Hi (Hx ?_);show wpAny (model X.prog X.w) X.A (do rule "assign.swapped-stores"; let items <- unpackItems (.ref s1.heap.objs.size) 2 td; assignInOrder [λv=>bindName X.env y v,λv=>bindName X.env x v] items.reverse; pure P2) _ _ _
 refine Hi (Nj (Hi (unpackItems_tuple (items:=[u1,u2].toArray) (I.ok.hd hc) (N1 s1.heap _) λh' hx'=>?_)))
 have I3:=I2.kept (h':=h') (t':=s1.toks) λb o e=>hx' b o (Il (HN e)) e
 show wpAny _ _ (assignInOrder [λv=>bindName X.env y v,λv=>bindName X.env x v] [u2,u1] >>= λ_=>pure P2) _ _ _
 refine Hi (LD (Oy (g7 I3 hN hj (.inl hy) rw' (λs2 I4=>?_) (.inr hy))))
 refine LD (Oy (g7 I4 hN hi (.inl hx) rv (λs3 I5=>NB (Hx ?_)) (.inr hx)))
 rw[List.set_comm _ _ (Ne.symm hij)]at I5;exact#[_,H1,I5,q1]
end
section
variable{X:Cx}{pos:JY}
noncomputable def BH (c:TT)(tb:TS):TS:=λD σ H=>∃W:Ho->St->Hp->Prop,(∃m,W m σ H)/\∀m σ H,W m σ H->
 c σ H λb H1=>if b=true then ∃N:St->Hp->Prop,(∀σ' H',N σ' H'->∃m',m' < m/\W m' σ' H')/\tb { D with nx:=N,ct:=N,bk:=D.nx } σ H1 else D.nx σ H1
theorem uP {c:HS}{body:Hg Kk}{tc:TT}{tb:TS}(hp:MZ (model X.prog X.w) X.A X.env X.xe)(hc:PT X c tc)(hb:PSs X body tb):PS X (.While c body [] pos) (BH tc tb):=by
 intro pins s σ H D I h;obtain⟨W,⟨m0,w0⟩,turn⟩:=h;refine wpAny_While (codeAny_whileLoop (λn s'=>∃σ' H',Inv X pins σ' H' s'/\W n σ' H') ?_ m0 #[σ,H,I,w0])
 rintro n s1 ⟨σ1,H1,I1,w1⟩;refine J7 hp (bo (hc pins s1 σ1 H1 _ I1 (turn n σ1 H1 w1)) λb s2 #[H2,I2,q2]=>?_)
 cases b with
 | true=>
  obtain⟨N,hN,q2⟩:=q2;rw[HV rfl];refine J7 hp (bo (hb pins s2 σ1 H2 _ I2 q2) λf s3 q3=>?_)
  cases f with
  | next=>
   obtain⟨σ3,H3,I3,n3⟩:=q3;obtain⟨m',hm,w3⟩:=hN σ3 H3 n3;exact#[m',hm,σ3,H3,I3,w3]
  | cont=>
   obtain⟨σ3,H3,I3,n3⟩:=q3;obtain⟨m',hm,w3⟩:=hN σ3 H3 n3;exact#[m',hm,σ3,H3,I3,w3]
  | brk=>exact q3
  | ret v=>exact q3
 | false=>
  rw[Iv HK];exact Mu #[σ1,H2,I2,q2]
end
structure It where
 go:Ho->Hp->Prop
 yld:Ho->Hp->V->Hp->Prop
 stop:Ho->Hp->Prop
noncomputable def iL (X:Cx)(pins:Hg (Ht×Jo))(H:Hp)(b:Ht):Prop:=
 H b=td/\b≠X.env.locals/\b∉X.fs/\(b∈X.ex\/X.s₀.heap.objs.size<=b)/\(∀x c,X.env.cells.lookup x=gV c->c≠b)/\∀p∈X.pn++pins,p.1≠b
theorem Inv.fpOk {X:Cx}{pins:Hg (Ht×Jo)}{σ:St}{H H':Hp}{s:Hm}{b:Ht}(I:Inv X pins σ H s)(hb:s.heap.objs.size<=b)(hn:H' b=td):iL X pins H' b:=by
 refine#[hn,Ks (Ig I.lt hb),I.nofs hb,.inr (HZ I.sz hb),λx c e z=>?_,λp hp z=>?_]
 ·obtain⟨v,q⟩:=I.cell x c e;exact absurd (Ig q.lt (by rw[z]; exact hb)) (IX _)
 ·exact absurd (Ig (HN (I.pin p hp).1) (by rw[z]; exact hb)) (IX _)
structure Turn (P:Ik)(w:Ix)(K:HA)(tg:HS)(J:It)(fp:Hg Ht)(it:Ht)(tn:Ho->IG->Prop):Prop where
 mem:it∈fp
 obj:∀i h,tn i h->∀b∈fp,∃o,h.get? b=gV o/\∀v,o.data≠.cell v
 keep:∀i h h',tn i h->(∀b∈fp,∀o,h.get? b=gV o->h'.get? b=gV o)->tn i h'
 item:∀(X:Cx),X.prog=P->X.w=w->X.K=K->X.calm=true->∀(i:Ho) (pins:Hg (Ht×Jo)) (s:Hm) (σ:St) (H:Hp) (E:Hj->Hm->Prop),Inv X pins σ H s->(∀b∈fp,iL X pins H b)->tn i s.heap->J.go i H->
  wpAny (model P w) X.A (pyNext (.ref it)) (λr s1=>∃u,r=gV u/\
   wpAny (model P w) X.A (letOwnedTupleGo tg (.ref it) u) (λ_ s2=>∃x H',Inv X pins σ H' s2/\RelV x u/\J.yld i H x H'/\tn (i+1) s2.heap/\∀b∈fp,H' b=td) E s1) E s
 done:∀(X:Cx),X.prog=P->X.w=w->X.K=K->X.calm=true->∀(i:Ho) (pins:Hg (Ht×Jo)) (s:Hm) (σ:St) (H:Hp) (E:Hj->Hm->Prop),Inv X pins σ H s->(∀b∈fp,iL X pins H b)->tn i s.heap->J.stop i H->
  wpAny (model P w) X.A (pyNext (.ref it)) (λr s1=>r=td/\Inv X pins σ H s1) E s
 self:∀(A:Iu) (i:Ho) (s:Hm) (Q:Hj->Hm->Prop) (E:Hj->Hm->Prop),tn i s.heap->Q (.ref it) s->wpAny (model P w) A (pyIter (.ref it)) Q E s
noncomputable abbrev TI:=St->Hp->(It->Hp->Prop)->Prop
noncomputable def Fd (X:Cx)(pins:Hg (Ht×Jo))(σ:St)(tg:HS)(R:It->Hp->Prop)(itv:Hj)(s2:Hm):Prop:=
 ∃(it:Ht) (fp:Hg Ht) (tn:Ho->IG->Prop) (J:It) (H':Hp),itv=.ref it/\Inv X pins σ H' s2/\Turn X.prog X.w X.K tg J fp it tn/\tn 0 s2.heap/\(∀b∈fp,iL X pins H' b)/\R J H'
noncomputable def PI (X:Cx)(tg iter:HS)(wi:TI):Prop:=
 ∀(pins:Hg (Ht×Jo)) (s:Hm) (σ:St) (H:Hp) (R:It->Hp->Prop),Inv X pins σ H s->wi σ H R->
  wpAny (model X.prog X.w) X.A (eval iter X.env) (λv s1=>wpAny (model X.prog X.w) X.A (pyIter v) (Fd X pins σ tg R) X.xe s1) X.xe s
theorem rc {M:PX}{A:Iu}{E:Hj->Hm->Prop}{s:Hm}{tg:HS}{it:Ht}{u:Hj}{o:Jo}{n:Jb}{vs:IC Hj}{Q:Unit->Hm->Prop}(ho:s.heap.get? it=gV o)(hc:o.cls=.type n)(hd:o.data=.fields vs)
    (hn:["enumerate","zip","dict_itemiterator","dict_reverseitemiterator","odict_iterator","itertools.zip_longest","itertools.pairwise"].contains n=false) (hQ:Q () s):wpAny M A (letOwnedTupleGo tg (.ref it) u) Q E s:=by
  unfold letOwnedTupleGo;cases tg <;> first
    | exact Hx hQ
    | (cases u <;> first
        | exact Hx hQ
        | (refine Hi (Nk ho ?_)
           rw[hc,hd];show wpAny M A (if (["enumerate","zip","dict_itemiterator","dict_reverseitemiterator","odict_iterator","itertools.zip_longest","itertools.pairwise"].contains n&&vs[0]?==gV (rawInt _))=true then _ else _) Q E s
           rw[Iv (by intro h; rw[hn,Bool.false_and]at h; cases h)]
           exact Hx hQ))
noncomputable def FH (K:HA)(a:Ht):It:=
 #[λi H=>∃xs x,SqL K H a xs/\xs[i]?=gV x,λi H x H'=>H'=H/\∀xs,SqL K H a xs->xs[i]?=gV x,λi H=>∃xs,SqL K H a xs/\xs.length<=i]
noncomputable def Di (K:HA)(a:Ht):It:=
 #[λi H=>∃xs x,SqT K H a xs/\xs[i]?=gV x,λi H x H'=>H'=H/\∀xs,SqT K H a xs->xs[i]?=gV x,λi H=>∃xs,SqT K H a xs/\xs.length<=i]
noncomputable def DE (lo:Hv)(n:Ho):It:=#[λi _=>i < n,λi H x H'=>H'=H/\x=.int (lo+i),λi _=>n<=i]
theorem sP {P:Ik}{w:Ix}{K:HA}{tg:HS}(a it:Ht):Turn P w K tg (FH K a) [it] it (λi h=>h.IsListIter it a i) where
 mem:=by simp
 obj:=λi h st b hb=>by
  have e:b=it:=by simpa using hb
  subst e;obtain⟨o,e,c,d⟩:=st;exact#[o,e,λv z=>by rw[d]at z; cases z]
 keep:=λi h h' st k=>st.at λo e=>k it (by simp) o e
 item:=by
  intro X hP hw hK hc i pins s σ H E I hf st hg;subst hP hw hK;obtain⟨xs,x,hq,hx⟩:=hg;obtain⟨its,rv,p,hz⟩:=I.list hq;obtain⟨u,hu,ru⟩:=rv.get hx;obtain⟨f0,f1,f2,f3,f4,f5⟩:=hf it (by simp)
  refine wpAny_pyNext_list_item st p.isList (x:=u) (by simpa using hu) λh' st' sb=>?_
  have I1:Inv X pins σ H { s with heap:=h' }:=I.turned (t':=s.toks) (λb o hb e=>(sb.2 b hb).trans e) f0 f1 f3 f4 f5
  obtain⟨o,e,c,d⟩:=id st';exact#[u,rfl,rc (s:={ s with heap:=h' }) e c d #v[] #[x,H,I1,ru,#[rfl,λys hy=>by rw[I.list_inj hy hq]; exact hx],st',λb hb=>(hf b hb).1]]
 done:=by
  intro X hP hw hK hc i pins s σ H E I hf st hg;subst hP hw hK;obtain⟨xs,hq,hx⟩:=hg;obtain⟨its,rv,p,hz⟩:=I.list hq;obtain⟨f0,f1,f2,f3,f4,f5⟩:=hf it (by simp)
  have hl:=rv.length;exact wpAny_pyNext_list_end (I.ok.hd hc) st p.isList (by simp; omega) λh' eb=>#[rfl,I.turned (t':=s.toks) (λb o hb e=>eb b o hb e) f0 f1 f3 f4 f5]
 self:=λ_ _ _ _ _ st h=>wpAny_pyIter_listiter st h
theorem pR {P:Ik}{w:Ix}{K:HA}{tg:HS}(a it:Ht):Turn P w K tg (Di K a) [it] it (λi h=>h.IsTupleIter it a i) where
 mem:=by simp
 obj:=λi h st b hb=>by
  have e:b=it:=by simpa using hb
  subst e;obtain⟨o,e,c,d⟩:=st;exact#[o,e,λv z=>by rw[d]at z; cases z]
 keep:=λi h h' st k=>st.at λo e=>k it (by simp) o e
 item:=by
  intro X hP hw hK hc i pins s σ H E I hf st hg;subst hP hw hK;obtain⟨xs,x,hq,hx⟩:=hg;obtain⟨its,rv,p,hz⟩:=I.tuple hq;obtain⟨u,hu,ru⟩:=rv.get hx;obtain⟨f0,f1,f2,f3,f4,f5⟩:=hf it (by simp)
  refine wpAny_pyNext_tuple_item st (show s.heap.IsTuple a its.toArray from p) (x:=u) (by simpa using hu) λh' st' sb=>?_
  have I1:Inv X pins σ H { s with heap:=h' }:=I.turned (t':=s.toks) (λb o hb e=>(sb.2 b hb).trans e) f0 f1 f3 f4 f5
  obtain⟨o,e,c,d⟩:=id st';exact#[u,rfl,rc (s:={ s with heap:=h' }) e c d #v[] #[x,H,I1,ru,#[rfl,λys hy=>by rw[I.tuple_inj hy hq]; exact hx],st',λb hb=>(hf b hb).1]]
 done:=by
  intro X hP hw hK hc i pins s σ H E I hf st hg;subst hP hw hK;obtain⟨xs,hq,hx⟩:=hg;obtain⟨its,rv,p,hz⟩:=I.tuple hq;obtain⟨f0,f1,f2,f3,f4,f5⟩:=hf it (by simp)
  have hl:=rv.length;exact wpAny_pyNext_tuple_end (I.ok.hd hc) st (show s.heap.IsTuple a its.toArray from p) (by simp; omega) λh' eb=>#[rfl,I.turned (t':=s.toks) (λb o hb e=>eb b o hb e) f0 f1 f3 f4 f5]
 self:=λ_ _ _ _ _ st h=>wpAny_pyIter_tupleiter st h
theorem pS {P:Ik}{w:Ix}{K:HA}{tg:HS}(it:Ht)(lo:Hv)(n:Ho):Turn P w K tg (DE lo n) [it] it (λi h=>Pl h it (lo+(i:Ho)*1) ((n:Hv) - (i:Ho)) 1) where
 mem:=by simp
 obj:=λi h st b hb=>by
  have e:b=it:=by simpa using hb
  subst e;exact#[_,st,λv z=>by
   have z':Data.fields _=Data.cell v:=z;cases z']
 keep:=λi h h' st k=>k it (by simp) _ st
 item:=by
  intro X hP hw hK hc i pins s σ H E I hf st hg;subst hP hw hK;obtain⟨f0,f1,f2,f3,f4,f5⟩:=hf it (by simp)
  have W:=Walks.range (prog:=X.prog) (w:=X.w) (I.ok.hd hc) it lo 1 n;refine W.item i s _ _ hg st λv h' tk hv st' kk=>?_
  obtain⟨t,rfl⟩:=hv;have I1:Inv X pins σ H { s with heap:=h',toks:=tk }:=I.turned (λb o hb e=>kk b o (by simpa using hb) e) f0 f1 f3 f4 f5
  refine#[_,rfl,rc (s:={ s with heap:=h',toks:=tk }) (n:="range_iterator") st' rfl rfl #v[] #[.int (lo+i),H,I1,#[t,?_],#[rfl,rfl],st',λb hb=>(hf b hb).1]]
  rw[Int.mul_one]
 done:=by
  intro X hP hw hK hc i pins s σ H E I hf st hg;subst hP hw hK;obtain⟨f0,f1,f2,f3,f4,f5⟩:=hf it (by simp)
  exact wpAny_pyNext_range_end (I.ok.hd hc) st (by have:n<=i:=hg; omega) λh' eb=>#[rfl,I.turned (t':=s.toks) (λb o hb e=>eb b o hb e) f0 f1 f3 f4 f5]
 self:=λ_ _ _ _ _ st h=>wpAny_pyIter_rangeiter st h
section
variable{X:Cx}{tg:HS}
theorem n8 {pins:Hg (Ht×Jo)}{σ:St}{H:Hp}{s:Hm}{R:It->Hp->Prop}{E:Hj->Hm->Prop}{lo hi:Hv}{t u v:Qe}{tk:Ho}(I:Inv X pins σ H s)(h1 : -(2 ^ 62)<=lo)(h2:lo < 2 ^ 62)(h3 : -(2 ^ 62)<=hi)(h4:hi < 2 ^ 62)
  (q:R (DE lo (hi - lo).toNat) H):wpAny (model X.prog X.w) X.A (pyIter (.ref s.heap.objs.size)) (Fd X pins σ tg R) E { s with heap:=s.heap.push { cls:=.type "range",data:=.fields [.int lo t,.int hi u,.int 1 v].toArray },toks:=tk }:=by
 refine wpAny_pyIter_range (IsRange.new ..) (Pa h1 h2 h3 h4) ?_;have I1:Inv X pins σ H { s with heap:=s.heap.push { cls:=.type "range",data:=.fields [.int lo t,.int hi u,.int 1 v].toArray },toks:=tk }:=I.kept λb o e=>Hr _ e
 refine#[(s.heap.push { cls:=.type "range",data:=.fields [.int lo t,.int hi u,.int 1 v].toArray }).objs.size,[(s.heap.push { cls:=.type "range",data:=.fields [.int lo t,.int hi u,.int 1 v].toArray }).objs.size],_,_,H,rfl,
  I1.kept (t':=tk) λb o e=>Hr _ e,pS _ lo (hi - lo).toNat,?_,λb hb=>?_,q]
 ·have e1:lo+((0:Ho):Hv)*1=lo:=by simp
  have e2:(((hi - lo).toNat:Ho):Hv) - ((0:Ho):Hv)=Jy lo hi 1:=by rw[M7]; split <;> omega
  show Pl _ _ (lo+((0:Ho):Hv)*1) ((((hi - lo).toNat:Ho):Hv) - ((0:Ho):Hv)) 1;rw[e1,e2];exact HM _ rfl
 ·have e:b=(s.heap.push { cls:=.type "range",data:=.fields [.int lo t,.int hi u,.int 1 v].toArray }).objs.size:=by simpa using hb
  subst e;exact I1.fpOk (Hz _) (I1.hok.fresh (Hz _))
noncomputable def DF (ta:TA):TI:=λσ H R=>ta σ H λvs H1=>∃j:Hv,vs=[.int j]/\-(2 ^ 62)<=j/\j < 2 ^ 62/\R (DE 0 j.toNat) H1
noncomputable def iRng2 (ta:TA):TI:=λσ H R=>ta σ H λvs H1=>∃i j:Hv,vs=[.int i,.int j]/\(-(2 ^ 62)<=i/\i < 2 ^ 62/\-(2 ^ 62)<=j/\j < 2 ^ 62)/\R (DE i (j - i).toNat) H1
theorem sQ {a:HS}{ta:TA}{p pos:JY}(hg:Gl X "range")(hm:X.mg "range" = td)(ha:PA X [a] ta)(hs:starEach [a] X.env=[(false,eval a X.env)]:=by rfl):PI X tg (.Call (.Name "range" p) [a] [] pos) (DF ta):=by
 intro pins s σ H R I h;refine Call_ (iK I hg hm boot_range (JR (bo (ha pos pins s σ H _ I h) λus s1 #[vs,H1,I1,r1,q1]=>?_) hs rfl))
 obtain⟨j,e,q1,q2,q⟩:=q1;subst e;cases r1 with
 | cons r rr=>
  cases rr;obtain⟨t,rfl⟩:=r;exact Pd (n8 I1 ∅ ∅ q1 q2 (by simpa using q))
theorem sR {a b:HS}{ta:TA}{p pos:JY}(hg:Gl X "range")(hm:X.mg "range" = td)(ha:PA X [a,b] ta)(hs:starEach [a,b] X.env=[(false,eval a X.env),(false,eval b X.env)]:=by rfl)(hs2:starEach [b] X.env=[(false,eval b X.env)]:=by rfl) :
  PI X tg (.Call (.Name "range" p) [a,b] [] pos) (iRng2 ta):=by
 intro pins s σ H R I h;refine Call_ (iK I hg hm boot_range (JR (bo (ha pos pins s σ H _ I h) λus s1 #[vs,H1,I1,r1,q1]=>?_) (by rw[hs,hs2]) (by rw[hs2]; rfl)))
 obtain⟨i,j,e,⟨q1,q2,q3,q4⟩,q⟩:=q1;subst e;cases r1 with
 | cons r rr=>
  cases rr with
  | cons r' rr=>
   cases rr;obtain⟨t,rfl⟩:=r;obtain⟨t',rfl⟩:=r';exact call_range_2 (n8 I1 q1 q2 q3 q4 q)
noncomputable def FJ (wi:TI)(g:TG)(tb:TS):TS:=λD σ H=>wi σ H λJ H1=>∃W:Ho->Ho->St->Hp->Prop,(∃m,W 0 m σ H1)/\∀i m σ H,W i m σ H->
 (J.stop i H/\D.nx σ H)\/(J.go i H/\∃N:St->Hp->Prop,(∀σ' H',N σ' H'->∃m',m' < m/\W (i+1) m' σ' H')/\∀x H',J.yld i H x H'->g x σ H' λσ2 H2=>tb { D with nx:=N,ct:=N,bk:=D.nx } σ2 H2)
noncomputable def iM (fp:Hg Ht)(h:IG):Hg (Ht×Jo):=fp.filterMap λb=>(h.get? b).map λo=>(b,o)
theorem eY {fp:Hg Ht}{h:IG}{b:Ht}{o:Jo}(hb:b∈fp)(e:h.get? b=gV o):(b,o)∈iM fp h:=Nl.mpr #[b,hb,by rw[e]; rfl]
theorem sS {fp:Hg Ht}{h:IG}{p:Ht×Jo}(hp:p∈iM fp h):p.1∈fp/\h.get? p.1=gV p.2:=by
 obtain⟨b,hb,e⟩:=Nl.mp hp;cases q:h.get? b with
 | none=>rw[q]at e; cases e
 | some o=>
  rw[q]at e;have e':(b,o)=p:=IS e;subst e';exact#[hb,q]
theorem Inv.pinned {pins:Hg (Ht×Jo)}{σ:St}{H:Hp}{s:Hm}{fp:Hg Ht}(I:Inv X pins σ H s)(hf:∀b∈fp,iL X pins H b)(ho:∀b∈fp,∃o,s.heap.get? b=gV o/\∀v,o.data≠.cell v):Inv X (pins++iM fp s.heap) σ H s:=
 I.pins_of λp hp=>(HY.mp hp).elim (λz=>I.pin p (Ip _ z)) λz=>by
  obtain⟨hb,e⟩:=sS z;obtain⟨f0,f1,f2,_⟩:=hf p.1 hb;obtain⟨o,e',d⟩:=ho p.1 hb;rw[e]at e'; cases e'
  exact#[e,f0,f1,f2,d]
theorem Inv.unpinned {pins pl:Hg (Ht×Jo)}{σ:St}{H:Hp}{s:Hm}(I:Inv X (pins++pl) σ H s):Inv X pins σ H s:=I.pins_of λp hp=>I.pin p (Ip _ (JI _ hp))
theorem BI {iter:HS}{body:Hg Kk}{wi:TI}{g:TG}{tb:TS}{pos:JY}(hp:MZ (model X.prog X.w) X.A X.env X.xe)(hc:X.calm=true)(hi:PI X tg iter wi)(hg:PG X tg g)(hb:PSs X body tb)
  (hs:∀x,foldedSetIterable iter X.env x=pure x:=by intro _; rfl):PS X (.For tg iter body [] pos) (FJ wi g tb):=by
 intro pins s σ H D I h;refine wpAny_For (bo (hi pins s σ H _ I h) λv s1 h1=>bo h1 λitv s2 h2=>?_) hs
 obtain⟨it,fp,tn,J,H2,e,I2,T,aF,f2,W,⟨m0,w0⟩,turn⟩:=h2;subst e;have stat:∀ {H':Hp},(∀b∈fp,H' b=td)->∀b∈fp,iL X pins H' b:=λhn b hb=>#[hn b hb,(f2 b hb).2]
 refine codeAny_forLoop_any (λn s'=>∃i σ' H',Inv X pins σ' H' s'/\tn i s'.heap/\(∀b∈fp,H' b=td)/\W i n σ' H') ?_ m0 #[0,σ,H2,I2,aF,λb hb=>(f2 b hb).1,w0]
 rintro n s3 ⟨i,σ3,H3,I3,st3,fr3,w3⟩;rcases turn i n σ3 H3 w3 with⟨stop,qn⟩|⟨go,N,hN,step⟩
 ·refine J7 hp (bo (T.done X rfl rfl rfl hc i pins s3 σ3 H3 X.xe I3 (stat fr3) st3 stop) λr s4 #[hr,I4]=>?_)
  subst hr;exact Mu #[σ3,H3,I4,qn]
 ·refine J7 hp (bo (T.item X rfl rfl rfl hc i pins s3 σ3 H3 X.xe I3 (stat fr3) st3 go) λr s4 #[u,hr,h4]=>?_)
  subst hr;refine J7 hp (bo h4 λ_ s5 #[x,H5,I5,r5,y5,st5,fr5]=>?_)
  have I5':=I5.pinned (stat fr5) (T.obj _ _ st5);refine J7 hp (bo (hg _ s5 σ3 H5 x u _ I5' r5 (step x H5 y5)) λ_ s6 #[σ6,H6,I6,q6]=>?_)
  refine J7 hp (bo (hb _ s6 σ6 H6 _ I6 q6) λf s7 q7=>?_)
  have again:∀ {σ7:St} {H7:Hp},Inv X (pins++iM fp s5.heap) σ7 H7 s7->N σ7 H7->∃m,m < n/\∃i σ' H',Inv X pins σ' H' s7/\tn i s7.heap/\(∀b∈fp,H' b=td)/\W i m σ' H':=λ{σ7 H7} I7 n7=>by
   obtain⟨m',hm,w7⟩:=hN σ7 H7 n7;refine#[m',hm,i+1,σ7,H7,I7.unpinned,T.keep _ _ _ st5 λb hb o e=>(I7.pin (b,o) (Ip _ (Ip _ (eY hb e)))).1,λb hb=>?_,w7]
   obtain⟨o,e,d⟩:=T.obj _ _ st5 b hb;exact(I7.pin (b,o) (Ip _ (Ip _ (eY hb e)))).2.1
  cases f with
  | next=>obtain⟨σ7,H7,I7,n7⟩:=q7; exact again I7 n7
  | cont=>obtain⟨σ7,H7,I7,n7⟩:=q7; exact again I7 n7
  | brk=>obtain⟨σ7,H7,I7,q7⟩:=q7; exact#[σ7,H7,I7.unpinned,q7]
  | ret v=>obtain⟨x7,σ7,H7,I7,r7,q7⟩:=q7; exact#[x7,σ7,H7,I7.unpinned,r7,q7]
end
theorem for_tup {K:HA}{a:Ht}{xs:Hg V}{g:TG}{tb:TS}{D:Ends}{σ:St}{H:Hp}(Pv:Ho->St->Hp->Prop)(h0:Pv 0 σ H)(hl:∀i σ H,i<=xs.length->Pv i σ H->SqT K H a xs)
  (hs:∀i x σ H,xs[i]?=gV x->Pv i σ H->g x σ H λσ2 H2=>tb { D with nx:=Pv (i+1),ct:=Pv (i+1),bk:=D.nx } σ2 H2) (hd:∀σ H,Pv xs.length σ H->D.nx σ H) :
  ∃W:Ho->Ho->St->Hp->Prop,(∃m,W 0 m σ H)/\∀i m σ H,W i m σ H->
   ((Di K a).stop i H/\D.nx σ H)\/((Di K a).go i H/\∃N:St->Hp->Prop,(∀σ' H',N σ' H'->∃m',m' < m/\W (i+1) m' σ' H')/\∀x H',(Di K a).yld i H x H'->g x σ H' λσ2 H2=>tb { D with nx:=N,ct:=N,bk:=D.nx } σ2 H2):=by
 refine#[λi m σ H=>m=xs.length - i/\i<=xs.length/\Pv i σ H,#[xs.length,by simp,JJ _,h0],?_]
 rintro i m σ H ⟨rfl,hi,p⟩;have q:=hl i σ H hi p
 by_cases hlt:i < xs.length
 ·refine .inr #[#[xs,xs[i],q,by simp[hlt]],Pv (i+1),λσ' H' p'=>#[xs.length - (i+1),∅,rfl,hlt,p'],λx H' y=>?_]
  obtain⟨e,y⟩:=y;subst e;exact hs i x σ _ (y xs q) p
 ·have e:i=xs.length:=∅
  subst e;exact .inl #[#[xs,q,Hz _],hd σ H p]
noncomputable abbrev R2:=V->V->Hp->VK->Prop
noncomputable def OpR (X:Cx)(f:Hj->Hj->Pk Hj)(r:R2):Prop:=
 ∀(pins:Hg (Ht×Jo)) (s:Hm) (σ:St) (H:Hp) (x y:V) (v u:Hj) (Q:VK),Inv X pins σ H s->RelV x v->RelV y u->r x y H Q->
  wpAny (model X.prog X.w) X.A (f v u) (EP X pins σ Q) X.xe s
noncomputable def FK (X:Cx)(f:Hj->Pk Hj)(r:V->Hp->VK->Prop):Prop:=
 ∀(pins:Hg (Ht×Jo)) (s:Hm) (σ:St) (H:Hp) (x:V) (v:Hj) (Q:VK),Inv X pins σ H s->RelV x v->r x H Q->
  wpAny (model X.prog X.w) X.A (f v) (EP X pins σ Q) X.xe s
noncomputable def CallR (X:Cx)(f:Hj)(r:Hg V->Hp->VK->Prop):Prop:=
 ∀(pins:Hg (Ht×Jo)) (s:Hm) (σ:St) (H:Hp) (xs:Hg V) (us:Hg Hj) (Q:VK),Inv X pins σ H s->Vals xs us->r xs H Q->
  wpAny (model X.prog X.w) X.A (call f us) (EP X pins σ Q) X.xe s
noncomputable def FL (X:Cx)(r:V->Hp->(HU->Hp->Prop)->Prop):Prop:=
 ∀(pins:Hg (Ht×Jo)) (s:Hm) (σ:St) (H:Hp) (x:V) (v:Hj) (Q:HU->Hp->Prop),Inv X pins σ H s->RelV x v->r x H Q->
  wpAny (model X.prog X.w) X.A (truthy v) (TP X pins σ Q) X.xe s
noncomputable def Fe (r:R2)(ta tb:TE):TE:=λσ H Q=>ta σ H λx H1=>tb σ H1 λy H2=>r x y H2 Q
noncomputable def GX (r:V->Hp->VK->Prop)(ta:TE):TE:=λσ H Q=>ta σ H λx H1=>r x H1 Q
noncomputable def rI (C:Hv->Hv->Prop)(g:Hv->Hv->V):R2:=λx y H Q=>∃i j,x=.int i/\y=.int j/\C i j/\Q (g i j) H
noncomputable def AH (g:Hv->Hv->V):R2:=λx y H Q=>∃i j,x=.int i/\y=.int j/\Q (g i j) H
noncomputable def rU (g:Hv->V):V->Hp->VK->Prop:=λx H Q=>∃i,x=.int i/\Q (g i) H
section
variable{X:Cx}{a b c:HS}{ta tb tc:TE}{pos:JY}
theorem BJ (ha:PE X a ta)(hb:PE X b tb){pins:Hg (Ht×Jo)}{s:Hm}{σ:St}{H:Hp}{R:V->V->Hp->Prop}(I:Inv X pins σ H s)
  (h:ta σ H λx H1=>tb σ H1 λy H2=>R x y H2) {Q:Hj->Hm->Prop} {f:Hj->Hj->Pk Hj}
  (hf:∀v u s2 x y H2,Inv X pins σ H2 s2->RelV x v->RelV y u->R x y H2->wpAny (model X.prog X.w) X.A (f v u) Q X.xe s2) :
  wpAny (model X.prog X.w) X.A (eval a X.env) (λv s₁=>wpAny (model X.prog X.w) X.A (eval b X.env) (λu s₂=>wpAny (model X.prog X.w) X.A (f v u) Q X.xe s₂) X.xe s₁) X.xe s:=by
 refine bo (ha pins s σ H _ I h) λv s1 #[x,H1,I1,r1,q1]=>?_
 refine bo (hb pins s1 σ H1 _ I1 q1) λu s2 #[y,H2,I2,r2,q2]=>?_
 exact hf v u s2 x y H2 I2 r1 r2 q2
theorem DH {op:NC}{r:R2}(ho:OpR X (binaryOp op) r)(ha:PE X a ta)(hb:PE X b tb):PE X (.BinOp a op b pos) (Fe r ta tb):=by
 intro pins s σ H Q I h;exact wpAny_BinOp (BJ ha hb I h λv u s2 x y H2 I2 rx ry q=>ho pins s2 σ H2 x y v u Q I2 rx ry q)
theorem DI {op:UnaryOp}{r:V->Hp->VK->Prop}(ho:FK X (unaryOp op) r)(ha:PE X a ta):PE X (.UnaryOp op a pos) (GX r ta):=by
 intro pins s σ H Q I h;exact UnaryOp_ (bo (ha pins s σ H _ I h) λv s1 #[x,H1,I1,r1,q1]=>ho pins s1 σ H1 x v Q I1 r1 q1)
theorem Ff {f:Hj->Hj->Pk Hj}{C:Hv->Hv->Prop}{g:Hv->Hv->Hv}
  (rule:∀(i j:Hv) (t u:Qe) (s:Hm) (Q:Hj->Hm->Prop) (E:Hj->Hm->Prop),C i j->Q (.int (g i j) s.toks) { s with toks:=s.toks+1 }->wpAny (model X.prog X.w) X.A (f (.int i t) (.int j u)) Q E s) :
  OpR X f (rI C λi j=>.int (g i j)):=by
 intro pins s σ H x y v u Q I rx ry h;obtain⟨i,j,rfl,rfl,hc,q⟩:=h;obtain⟨t,rfl⟩:=rx;obtain⟨t',rfl⟩:=ry;exact rule i j t t' s _ _ hc #[.int (g i j),H,I.tok _,#[_,rfl],q]
theorem DJ {f:Hj->Hj->Pk Hj}{g:Hv->Hv->Hv}
  (rule:∀(i j:Hv) (t u:Qe) (s:Hm) (Q:Hj->Hm->Prop) (E:Hj->Hm->Prop),Q (.int (g i j) s.toks) { s with toks:=s.toks+1 }->wpAny (model X.prog X.w) X.A (f (.int i t) (.int j u)) Q E s) :
  OpR X f (AH λi j=>.int (g i j)):=by
 intro pins s σ H x y v u Q I rx ry h;obtain⟨i,j,rfl,rfl,q⟩:=h;obtain⟨t,rfl⟩:=rx;obtain⟨t',rfl⟩:=ry;exact rule i j t t' s _ _ #[.int (g i j),H,I.tok _,#[_,rfl],q]
theorem yz {f:Hj->Hj->Pk Hj}{g:Hv->Hv->HU}
  (rule:∀(i j:Hv) (t u:Qe) (s:Hm) (Q:Hj->Hm->Prop) (E:Hj->Hm->Prop),Q (.bool (g i j)) s->wpAny (model X.prog X.w) X.A (f (.int i t) (.int j u)) Q E s) :
  OpR X f (AH λi j=>.bl (g i j)):=by
 intro pins s σ H x y v u Q I rx ry h;obtain⟨i,j,rfl,rfl,q⟩:=h;obtain⟨t,rfl⟩:=rx;obtain⟨t',rfl⟩:=ry;exact rule i j t t' s _ _ #[.bl (g i j),H,I,rfl,q]
noncomputable def FM (i j:Hv):Prop:=0 < j/\j < 1073741824
noncomputable def FN (i j:Hv):Prop:=0<=j/\j<=1000000/\i.natAbs < 2 ^ 64
noncomputable def CMul (i j:Hv):Prop:=(-(2 ^ 64) < i/\i < 2 ^ 64)\/(-(2 ^ 64) < j/\j < 2 ^ 64)
theorem CMul.ok {i j:Hv}(h:CMul i j):IntMulOk i j:=by
 rcases h with⟨h1,h2⟩|⟨h1,h2⟩
 ·exact .of_left (OU h1 h2)
 ·exact .of_right (OU h1 h2)
theorem BK:OpR X (binaryOp .Add) (AH λi j=>.int (i+j)):=DJ λ_ _ _ _ _ _ _ q=>add_int q
theorem BL:OpR X (binaryOp .Sub) (AH λi j=>.int (i - j)):=DJ λ_ _ _ _ _ _ _ q=>sub_int q
theorem BM:OpR X (binaryOp .Mult) (rI CMul λi j=>.int (i*j)):=Ff λ_ _ _ _ _ _ _ hc q=>mul_int q hc.ok
theorem yA:OpR X (binaryOp .FloorDiv) (rI FM λi j=>.int (i / j)):=Ff λi j _ _ _ _ _ hc q=>by
 have h1:(0:Hv) < j:=hc.1;have h2:j < 1073741824:=hc.2;exact floordiv_int ∅ (by rw[Int.fdiv_eq_ediv_of_nonneg i ∅]; exact q) (.inl (PyProof.noPylong_small ∅))
theorem BN:OpR X (binaryOp .Mod) (rI (λ_ j=>0 < j) λi j=>.int (i % j)):=Ff λi j _ _ _ _ _ hc q=>by
 have h1:(0:Hv) < j:=hc;exact mod_int' ∅ (by rw[Int.fmod_eq_emod_of_nonneg i ∅]; exact q)
theorem BO:OpR X (binaryOp .Pow) (rI FN λi j=>.int (i ^ j.toNat)):=Ff λ_ _ _ _ _ _ _ hc q=>pow_int_small hc.1 hc.2.1 hc.2.2 q
theorem GY {f:Hj->Pk Hj}{g:Hv->Hv}
  (rule:∀(i:Hv) (t:Qe) (s:Hm) (Q:Hj->Hm->Prop) (E:Hj->Hm->Prop),Q (.int (g i) s.toks) { s with toks:=s.toks+1 }->wpAny (model X.prog X.w) X.A (f (.int i t)) Q E s) :
  FK X f (rU λi=>.int (g i)):=by
 intro pins s σ H x v Q I rx h;obtain⟨i,rfl,q⟩:=h;obtain⟨t,rfl⟩:=rx;exact rule i t s _ _ #[.int (g i),H,I.tok _,#[_,rfl],q]
theorem BP:FK X (unaryOp .USub) (rU λi=>.int (-i)):=GY λ_ _ _ _ _ q=>neg_int q
end
section
variable{X:Cx}{a b c:HS}{ta tb tc:TE}{pos:JY}
theorem uQ {pins:Hg (Ht×Jo)}{σ:St}{H:Hp}{s:Hm}{Q:VK}{k k':HU}(I:Inv X pins σ H s)(q:Q (.bl k) H)(e:k=k'):EP X pins σ Q (.bool k') s:=by
 subst e;exact#[.bl k,H,I,rfl,q]
theorem DK:OpR X (compareOp .Lt) (AH λi j=>.bl (decide (i < j))):=yz λ_ _ _ _ _ _ _ q=>lt_int q
theorem DL:OpR X (compareOp .LtE) (AH λi j=>.bl (decide (i<=j))):=yz λ_ _ _ _ _ _ _ q=>le_int q
theorem DM:OpR X (compareOp .Gt) (AH λi j=>.bl (decide (j < i))):=yz λ_ _ _ _ _ _ _ q=>gt_int q
theorem DN:OpR X (compareOp .GtE) (AH λi j=>.bl (decide (j<=i))):=yz λ_ _ _ _ _ _ _ q=>ge_int q
theorem BQ:OpR X (compareOp .Is) (λx y H Q=>y=.non/\Q (.bl (decide (x=.non))) H):=by
 intro pins s σ H x y v u Q I rx ry h;obtain⟨rfl,q⟩:=h;cases ry;refine is_none_gen (uQ I q ?_);cases x <;> first
  | (cases rx; rfl)
  | (obtain⟨t,rfl⟩:=rx; rfl)
theorem yB:OpR X (compareOp .IsNot) (λx y H Q=>y=.non/\Q (.bl (!decide (x=.non))) H):=by
 intro pins s σ H x y v u Q I rx ry h;obtain⟨rfl,q⟩:=h;cases ry;refine isnot_none_gen (uQ I q ?_);cases x <;> first
  | (cases rx; rfl)
  | (obtain⟨t,rfl⟩:=rx; rfl)
theorem yC {op:Oh}{r:R2}(ho:OpR X (compareOp op) r)(ha:PE X a ta)(hb:PE X b tb)(hm:behindInMarks op b=false):PE X (.Compare a [op] [b] pos) (Fe r ta tb):=by
 intro pins s σ H Q I h;exact wpAny_Compare1 (BJ ha hb I h λv u s2 x y H2 I2 rx ry q=>ho pins s2 σ H2 x y v u Q I2 rx ry q) hm
noncomputable def AI (t:TE):TT:=λσ H Q=>t σ H λx H'=>∃k,x=.bl k/\Q k H'
theorem yD {op:Oh}{r:R2}(ho:OpR X (compareOp op) r)(ha:PE X a ta)(hb:PE X b tb)(hm:behindInMarks op b=false):PT X (.Compare a [op] [b] pos) (AI (Fe r ta tb)):=by
 intro pins s σ H Q I h;refine wpAny_isTrue_Compare1 (bo (ha pins s σ H _ I h) λv s1 #[x,H1,I1,r1,q1]=>bo (hb pins s1 σ H1 _ I1 q1) λu s2 #[y,H2,I2,r2,q2]=>
  bo (ho pins s2 σ H2 x y v u _ I2 r1 r2 q2) λc s3 #[z,H3,I3,r3,k,e,q3]=>?_) hm
 subst e;cases r3;exact Jg #[H3,I3,q3]
noncomputable def pT (r r':R2)(ta tb tc:TE):TE:=λσ H Q=>ta σ H λx H1=>tb σ H1 λy H2=>r x y H2 λz H3=>∃k,z=.bl k/\
 (if k=true then tc σ H3 λw' H4=>r' y w' H4 Q else Q (.bl false) H3)
theorem uR {op op':Oh}{r r':R2}(ho:OpR X (compareOp op) r)(ho':OpR X (compareOp op') r')(ha:PE X a ta)(hb:PE X b tb)(hc:PE X c tc)
  (hm:lastMarks [op,op'] [b,c]=false:=by with_unfolding_all rfl):PE X (.Compare a [op,op'] [b,c] pos) (pT r r' ta tb tc):=by
 intro pins s σ H Q I h;refine Compare_chain (bo (ha pins s σ H _ I h) λv s1 #[x,H1,I1,r1,q1]=>chain_link (bo (hb pins s1 σ H1 _ I1 q1) λu s2 #[y,H2,I2,r2,q2]=>
  bo (ho pins s2 σ H2 x y v u _ I2 r1 r2 q2) λd s3 #[z,H3,I3,r3,k,e,q3]=>?_)) hm
 subst e;cases r3;refine Jg ?_;cases k with
 | false=>exact ite_ff #[.bl false,H3,I3,rfl,q3]
 | true=>exact ite_tt (chain_last (bo (hc pins s3 σ H3 _ I3 q3) λw' s4 #[z',H4,I4,r4,q4]=>ho' pins s4 σ H4 y z' u w' Q I4 r2 r4 q4))
theorem uS {op op':Oh}{r r':R2}(ho:OpR X (compareOp op) r)(ho':OpR X (compareOp op') r')(ha:PE X a ta)(hb:PE X b tb)(hc:PE X c tc)
  (hm:lastMarks [op,op'] [b,c]=false:=by with_unfolding_all rfl):PT X (.Compare a [op,op'] [b,c] pos) (AI (pT r r' ta tb tc)):=by
 intro pins s σ H Q I h;refine isTrue_chain (bo (ha pins s σ H _ I h) λv s1 #[x,H1,I1,r1,q1]=>test_link (bo (hb pins s1 σ H1 _ I1 q1) λu s2 #[y,H2,I2,r2,q2]=>
  bo (ho pins s2 σ H2 x y v u _ I2 r1 r2 q2) λd s3 #[z,H3,I3,r3,k,e,q3]=>?_)) hm
 subst e;cases r3;refine Jg ?_;cases k with
 | false=>
  obtain⟨k',e',q'⟩:=q3;cases e';exact ite_ff #[H3,I3,q']
 | true=>
  refine ite_tt (test_last (bo (hc pins s3 σ H3 _ I3 q3) λw' s4 #[z',H4,I4,r4,q4]=>bo (ho' pins s4 σ H4 y z' u w' _ I4 r2 r4 q4) λd' s5 #[z2,H5,I5,r5,k2,e2,q5]=>?_))
  subst e2;cases r5;exact Jg #[H5,I5,q5]
noncomputable def FP (K:HA)(x:V)(H:Hp)(k:HU):Prop:=
 match x with
 | .non=>k=false
 | .bl b=>k=b
 | .int i=>k=(i != 0)
 | .str y=>y.length<=sizeLine/\k=((y.length:Hv) != 0)
 | .byt y=>y.size<=sizeLine/\k=((y.size:Hv) != 0)
 | .ref p=>(∃xs,SqL K H p xs/\k = !xs.isEmpty)\/(∃xs,SqT K H p xs/\k = !xs.isEmpty)\/∃kvs,H p=gV (.dK kvs)/\k = !kvs.isEmpty
 | _=>IV
theorem pU {κ:Type}{kvs:Hg (κ×V)}{vs:Hg (κ×Hj)}(r:KV kvs vs):(!vs.isEmpty) = !kvs.isEmpty:=by
 cases r <;> rfl
theorem jF {xs:Hg V}{its:Hg Hj}(r:Vals xs its):(!its.toArray.isEmpty) = !xs.isEmpty:=by
 cases r <;> simp
theorem iN:(sizeLine:Ho) < 2 ^ 63:=by rw[IL]; decide
theorem BR:FL X (λx H Q=>∃k,FP X.K x H k/\Q k H):=by
 intro pins s σ H x v Q I rx h;obtain⟨k,e,q⟩:=h;have hl:=iN;have hs:sizeLine=16777216:=IL;cases x with
 | non=>
  cases rx;have e':k=false:=e;subst e';exact truthy_none #[H,I,q]
 | bl b=>
  cases rx;have e':k=b:=e;subst e';exact Jg #[H,I,q]
 | int i=>
  obtain⟨t,rfl⟩:=rx;have e':k=(i != 0):=e;subst e';exact PySem.P.truthy_int #[H,I,q]
 | str y=>
  obtain⟨t,rfl⟩:=rx;obtain⟨hy,e'⟩ : y.length<=sizeLine/\k=((y.length:Hv) != 0):=e;subst e';exact PySem.P.truthy_str ∅ #[H,I.tok _,q]
 | byt y=>
  obtain⟨t,rfl⟩:=rx;obtain⟨hy,e'⟩ : y.size<=sizeLine/\k=((y.size:Hv) != 0):=e;subst e';exact PySem.W.truthy_bytes ∅ #[H,I.tok _,q]
 | ref p=>
  cases rx;have e':(∃xs,SqL X.K H p xs/\k = !xs.isEmpty)\/(∃xs,SqT X.K H p xs/\k = !xs.isEmpty)\/∃kvs,H p=gV (.dK kvs)/\k = !kvs.isEmpty:=e;rcases e' with⟨xs,hx,e'⟩|⟨xs,hx,e'⟩|⟨kvs,hx,e'⟩
  ·subst e';obtain⟨its,r,pl,hz⟩:=I.list hx;have hlen:=r.length;exact wpAny_truthy_list pl.isList (by simp only[HH]; omega) #[H,I.tok _,by rw[jF r]; exact q]
  ·subst e';obtain⟨its,r,pl,hz⟩:=I.tuple hx;have hlen:=r.length;exact truthy_tuple pl (by simp only[HH]; omega) #[H,I.tok _,by rw[jF r]; exact q]
  ·subst e';obtain⟨hz,hS,vs,r,m⟩ : kvs.length<=sizeLine/\(p==sysModules)=false/\∃vs,KV kvs vs/\s.heap.DictOf (mD X.prog X.w) p vs:=I.hok p _ hx;have hlen:kvs.length=vs.length:=L1 r;exact wpAny_truthy_dict hS m ∅ #[H,I.tok _,by rw[pU r]; exact q]
 | _=>exact(show IV from e).elim
theorem pV:OpR X (binaryOp .Add) (λx y H Q=>∃i j,x=.str i/\y=.str j/\i.length+j.length<=sizeLine/\Q (.str (i++j)) H):=by
 intro pins s σ H x y v u Q I rx ry h;obtain⟨i,j,rfl,rfl,hz,q⟩:=h;obtain⟨t,rfl⟩:=rx;obtain⟨t',rfl⟩:=ry;exact add_str (λt' tk=>#[.str (i++j),H,I.tok _,#[_,rfl],q]) hz
theorem ln {x:V}{us:Hg Hj}(r:Vals [x] us):∃u,us=[u]/\RelV x u:=by
 cases r with
 | cons r1 r2=>cases r2; exact#[_,rfl,r1]
theorem lq:CallR X (.type "int") (λxs H Q=>(∃i,xs=[.int i]/\Q (.int i) H)\/∃k,xs=[.bl k]/\Q (.int (if k then 1 else 0)) H):=by
 intro pins s σ H xs us Q I r h;rcases h with⟨i,rfl,q⟩|⟨k,rfl,q⟩
 ·obtain⟨u,rfl,t,rfl⟩:=ln r;exact call_int_int #[.int i,H,I,#[_,rfl],q]
 ·obtain⟨u,rfl,r1⟩:=ln r;cases r1;exact call_int_bool #[.int (if k then 1 else 0),H,I.tok _,#[_,rfl],q]
noncomputable def FQ (K:HA)(x:V)(H:Hp)(n:Ho):Prop:=
 match x with
 | .str y=>y.length<=sizeLine/\n=y.length
 | .byt y=>y.size<=sizeLine/\n=y.size
 | .ref p=>(∃xs,SqL K H p xs/\n=xs.length)\/∃xs,SqT K H p xs/\n=xs.length
 | _=>IV
theorem jG:CallR X (.builtin "len") (λxs H Q=>∃x n,xs=[x]/\FQ X.K x H n/\Q (.int n) H):=by
 intro pins s σ H xs us Q I r h;obtain⟨x,n,rfl,e,q⟩:=h;obtain⟨u,rfl,rx⟩:=ln r;have hl:=iN;have hs:sizeLine=16777216:=IL;cases x with
 | str y=>
  obtain⟨t,rfl⟩:=rx;obtain⟨hy,e'⟩ : y.length<=sizeLine/\n=y.length:=e;subst e';exact len_str ∅ #[.int _,H,I.tok _,#[_,rfl],q]
 | byt y=>
  obtain⟨t,rfl⟩:=rx;obtain⟨hy,e'⟩ : y.size<=sizeLine/\n=y.size:=e;subst e';exact PySem.W.len_bytes ∅ #[.int _,H,I.tok _,#[_,rfl],q]
 | ref p=>
  cases rx;have e':(∃xs,SqL X.K H p xs/\n=xs.length)\/∃xs,SqT X.K H p xs/\n=xs.length:=e;rcases e' with⟨xs,hx,e'⟩|⟨xs,hx,e'⟩
  ·subst e';obtain⟨its,r',pl,hz⟩:=I.list hx;have hlen:=r'.length;exact Calls.call_len_list pl.isList (by simp only[HH]; omega) #[.int xs.length,H,I.tok _,#[_,by simp only[HH]; rw[hlen]],q]
  ·subst e';obtain⟨its,r',pl,hz⟩:=I.tuple hx;have hlen:=r'.length;exact len_tuple pl (by simp only[HH]; omega) #[.int xs.length,H,I.tok _,#[_,by simp only[HH]; rw[hlen]],q]
 | _=>exact(show IV from e).elim
end
structure Room (k:Ho)(A:Iu):Prop where
 hd:A.handled=td
 dp:A.depth+3*k+5 < recursionLimit
 un:A.units+16*k+200 < cLine
theorem Room.deeper {k:Ho}{A:Iu}(r:Room (k+1) A)(env:Nz):Room k (A.deeper env):=
 #[r.hd,by have:=r.dp; show A.depth+1+3*k+5 < _; omega,by have:=r.un; show A.units+3+16*k+200 < _; omega]
theorem Room.depth {k:Ho}{A:Iu}(r:Room k A):A.depth < recursionLimit:=by have:=r.dp; omega
noncomputable def DO:TA:=λ_ H Q=>Q [] H
noncomputable def DP (ta:TE)(tr:TA):TA:=λσ H Q=>ta σ H λx H1=>tr σ H1 λxs H2=>Q (x::xs) H2
section
variable{X:Cx}{e:HS}{es:Hg HS}{te:TE}{t:TA}{pos:JY}
theorem uT:PA X [] DO:=λ_ _ _ _ H Q I h=>Calls.spliced_nil #[[],H,I,.nil,h]
theorem mF (ha:PE X e te)(hr:PA X es t)(hs:starEach (e::es) X.env=(false,eval e X.env)::starEach es X.env:=by rfl):PA X (e::es) (DP te t):=by
 intro pos pins s σ H Q I h;rw[hs];show wpAny _ _ (spliced ((false,eval e X.env)::backTo pos (starEach es X.env))) _ _ s;refine Calls.spliced_cons (bo (ha pins s σ H _ I h) λu s1 #[x,H1,I1,r1,q1]=>?_)
 exact bo (hr pos pins s1 σ H1 _ I1 q1) λus s2 #[xs,H2,I2,r2,q2]=>#[x::xs,H2,I2,.cons r1 r2,q2]
noncomputable def FR (t:TA):TE:=λσ H Q=>t σ H λxs H1=>xs.length<=sizeLine/\∀p,H1 p=td->Q (.ref p) (bQ H1 p (.tup xs))
noncomputable def FU (t:TA):TE:=λσ H Q=>t σ H λxs H1=>xs.length<=sizeLine/\∀p,H1 p=td->Q (.ref p) (bQ H1 p (.lst xs))
theorem BS {x1}(h:PA X es t):PE X (.Tuple es x1 pos) (FR t):=by
 intro pins s σ H Q I hq;refine wpAny_Tuple_spliced (bo (h pos pins s σ H _ I hq) λus s1 #[xs,H1,I1,r,z,q]=>#[by rw[<- r.length]; exact z,?_])
 have hf:H1 s1.heap.objs.size=td:=I1.hok.fresh (Hz _);refine#[.ref s1.heap.objs.size,bQ H1 s1.heap.objs.size (.tup xs),I1.laid (t':=s1.toks) (λb u e=>Hr _ e) (Hz _) ?_,rfl,q _ hf]
 exact#[#[z,NoD.new _ _ _],us,r,#[_,HM _ rfl,rfl,_,rfl]]
theorem BU (h:PA X es t):PE X (.List es pos) (FU t):=by
 intro pins s σ H Q I hq;refine wpAny_List_spliced (bo (h pos pins s σ H _ I hq) λus s1 #[xs,H1,I1,r,z,q]=>#[by rw[<- r.length]; exact z,?_])
 have hf:H1 s1.heap.objs.size=td:=I1.hok.fresh (Hz _);refine#[.ref s1.heap.objs.size,bQ H1 s1.heap.objs.size (.lst xs),I1.laid (t':=s1.toks) (λb u e=>Hr _ e) (Hz _) ?_,rfl,q _ hf]
 exact#[z,us,0,r,HM _ rfl]
end
noncomputable abbrev Sp:=Hg V->Hp->VK->XK->Prop
noncomputable abbrev uU:=Hg Nz->Hp->Hm->XK->Hj->Hm->Prop
structure Env0 (P:Ik)(w:Ix)(K:HA)(mg:HJ->Hn Hj)(base:IG)(A:Iu)(outer:Hg Nz)(s:Hm)(H:Hp):Prop where
 frames:A.frames=gV outer
 mod:Mod K mg base
 bs:∀b o,base.get? b=gV o->s.heap.get? b=gV o/\H b=td
 bsz:base.objs.size<=s.heap.objs.size
 funs:s.heap.FunFrames base outer
 frf:∀b∈pQ outer,H b=td
 hok:HOk P w H s.heap
 bare:LU s.gens
noncomputable def CE (outer:Hg Nz)(P:Ik)(w:Ix)(H:Hp)(s:Hm)(Q:VK)(u:Hj)(s':Hm):Prop:=
 ∃v H',s'.os=s.os/\LU s'.gens/\Un (pQ outer) [] H H' s.heap s'.heap/\HOk P w H' s'.heap/\RelV v u/\Q v H'
noncomputable def CR (CX:uU)(outer:Hg Nz)(P:Ik)(w:Ix)(H:Hp)(s:Hm)(Q:VK)(E:XK)(r:N2)(s':Hm):Prop:=
 match r with
 | .ok (.ret u)=>CE outer P w H s Q u s'
 | .ok _=>IV
 | .error e=>CX outer H s E e s'
structure FnOk (P:Ik)(w:Ix)(K:HA)(mg:HJ->Hn Hj)(base:IG)(CX:uU)(k:Ho)(f:Ht)(fd:J0)(ps:Hg HJ)(sp:Sp):Prop where
 len:∀vs H Q E,sp vs H Q E->vs.length=ps.length
 run:∀(A:Iu) (outer:Hg Nz) (s:Hm) (H:Hp) (args:Args) (us:Hg Hj) (vs:Hg V) (Q:VK) (E:XK),Room k A->Env0 P w K mg base A outer s H->ND s fd args (ps.zip us)->Vals vs us->sp vs H Q E->
  codeAny (model P w) A (.call (.ref f) args) (CR CX outer P w H s Q E) s
section
variable{X:Cx}{pins:Hg (Ht×Jo)}{σ:St}{H:Hp}{s s':Hm}
theorem Inv.env0 (I:Inv X pins σ H s):Env0 X.prog X.w X.K X.mg X.base X.A X.stack s H:=
 #[I.ok.frames,I.ok.mod,I.bs,HZ I.ok.bsz I.sz,I.stack,I.stkFree,I.hok,I.bare]
theorem Inv.after {Q:VK}{u:Hj}(I:Inv X pins σ H s)(h:CE X.stack X.prog X.w H s Q u s'):EP X pins σ Q u s':=by
 obtain⟨v,H',os,bare,un,hok,r,q⟩:=h;obtain⟨hh,g,d,t,os'⟩:=s';obtain rfl:os'=s.os:=os;exact#[v,H',I.call (h':=hh) (g':=g) (d':=d) (t':=t) (ch:=[]) un hok bare (λb z=>absurd z (by simp)),r,q]
end
noncomputable def uV (sp:Sp)(dvs:Hg V)(E:XK)(t:TA):TE:=λσ H Q=>t σ H λvs H1=>sp (vs++dvs) H1 Q E
noncomputable def Binds (K:HA)(fd:J0)(ps:Hg HJ)(ds:Hg Hj):Prop:=
 ∀(s:Hm) (us:Hg Hj),K.In s.heap->(us++ds).length=ps.length->ND s fd #[us,[]] (ps.zip (us++ds))
theorem Binds.all {K:HA}{fd:J0}{ps:Hg HJ}(h:∀us:Hg Hj,us.length=ps.length->bindArgs fd #[us,[]]=pure (ps.zip us)):Binds K fd ps []:=λs us _ hl=>by
 rw[Jl]at hl ⊢;exact .of_eq (h us hl)
noncomputable def mG (CX:uU)(X:Cx)(E:XK):Prop:=∀(pins:Hg (Ht×Jo)) (σ:St) (H:Hp) (s:Hm) (e:Hj) (s':Hm),Inv X pins σ H s->CX X.stack H s E e s'->X.xe e s'
section
variable{X:Cx}{CX:uU}{k:Ho}{f C:Ht}{fd:J0}{ps:Hg HJ}{sp:Sp}{dvs:Hg V}{ds:Hg Hj}{E:XK}{x m:HJ}{p pos apos:JY}{e o:HS}{es:Hg HS}{ta:TE}{t:TA}
theorem uW {pins:Hg (Ht×Jo)}{σ:St}{H:Hp}{s:Hm}{Q:VK}{us:Hg Hj}{vs:Hg V}(F:FnOk X.prog X.w X.K X.mg X.base CX k f fd ps sp)(hr:Room k X.A)(hb:Binds X.K fd ps ds)(hd:Vals dvs ds)(hx:mG CX X E)
  (I:Inv X pins σ H s) (r:Vals vs us) (h:sp (vs++dvs) H Q E):wpAny (model X.prog X.w) X.A (call (.ref f) us) (EP X pins σ Q) X.xe s:=by
 have r2:Vals (vs++dvs) (us++ds):=r.append hd;have hl:(us++ds).length=ps.length:=by rw[<- r2.length]; exact F.len _ _ _ _ h
 refine wpAny_call (Mj (F.run X.A X.stack s H #[us,[]] (us++ds) (vs++dvs) Q E hr I.env0 (hb s us I.kIn hl) r2 h) λr s' hq=>?_)
 cases r with
 | error e=>exact hx pins σ H s e s' I hq
 | ok fl=>
  cases fl with
  | ret u=>exact I.after hq
  | next=>exact IV.elim hq
  | brk=>exact IV.elim hq
  | cont=>exact IV.elim hq
theorem yE (F:FnOk X.prog X.w X.K X.mg X.base CX k f fd ps sp)(hr:Room k X.A)(hg:Gl X x)(hm:X.mg x=gV (.ref f))(hk:Jd X.K (.ref f)=true)(hb:Binds X.K fd ps ds)(hd:Vals dvs ds)(hx:mG CX X E)
  (ha:PA X (e::es) t) (hdb:(x==("__debug__" : HJ))=false:=by decide) (he:starEach (e::es) X.env=(false,eval e X.env)::starEach es X.env:=by rfl) (hpl:(backTo pos (starEach es X.env)).any (·.1)=false:=by rfl) :
  PE X (.Call (.Name x p) (e::es) [] pos) (uV sp dvs E t):=by
 intro pins s σ H Q I h;refine K4 (qZ I hg hm ?_ hdb);refine PySem.W.callWith_K (h₀:=X.base) I.ok.mod.kin hk (bo (ha pos pins s σ H _ I h) λus s1 #[vs,H1,I1,r,q]=>#[I1.kIn,?_]) he hpl
 exact uW F hr hb hd hx I1 r q
theorem uX (F:FnOk X.prog X.w X.K X.mg X.base CX k f fd ps sp)(hr:Room k X.A)(hg:Gl X x)(hm:X.mg x=gV (.ref f))(hk:Jd X.K (.ref f)=true)(hb:Binds X.K fd ps ds)(hd:Vals dvs ds)(hx:mG CX X E)
  (hdb:(x==("__debug__" : HJ))=false:=by decide):PE X (.Call (.Name x p) [] [] pos) (uV sp dvs E DO):=by
 intro pins s σ H Q I h;refine K4 (qZ I hg hm ?_ hdb);exact PySem.W.callWith_K0 I.kIn hk (uW (us:=[]) F hr hb hd hx I .nil h)
end
structure FnScope (N P:Hg HJ)(sc:Kz):Prop where
 kind:sc.kind=.function
 co:sc.isCoroutine=false
 gen:sc.isGenerator=false
 nd:N.Nodup
 pre:N.take P.length=P
 par:∀x∈P,sc.names.lookup x=gV .local\/sc.names.lookup x=gV .cell
 nofree:∀y∈sc.names,y.2≠.free
theorem lu {kindOf:HJ->Hn Jz}{x:HJ}:∀ {binds:Hg (HJ×Hj)} {m:HJ->Hn Hj},(∀v,(x,v)∉binds)->bindL kindOf binds m x=m x
 | [],_,_=>rfl
 | (n,v)::r,m,h=>by
  unfold bindL;rw[lu λw hw=>h w (II _ hw)]
  split
  ·have:x≠n:=by rintro rfl; exact h v Jh
   simp[this]
  ·rfl
theorem lv {kindOf:HJ->Hn Jz}{x:HJ}:∀ {binds:Hg (HJ×Hj)} {m:HJ->Hn Hj},(∀v,(x,v)∉binds)->bindC kindOf binds m x=m x
 | [],_,_=>rfl
 | (n,v)::r,m,h=>by
  unfold bindC;rw[lv λw hw=>h w (II _ hw)]
  split
  ·rfl
  ·have:x≠n:=by rintro rfl; exact h v Jh
   simp[this]
theorem lA {kindOf:HJ->Hn Jz}{x:HJ}{v:Hj}:∀ {P:Hg HJ} {vs:Hg Hj} {i:Ho} {m:HJ->Hn Hj},P.Nodup->P[i]?=gV x->vs[i]?=gV v->kindOf x=gV .local->
  bindL kindOf (P.zip vs) m x=gV v
 | [],_,_,_,_,h,_,_=>by simp at h
 | _::_,[],_,_,_,_,h,_=>by simp at h
 | p::P,w::vs,0,m,nd,h1,h2,hk=>by
  simp at h1 h2; subst h1; subst h2
  show bindL kindOf ((p,w)::P.zip vs) m p=_;unfold bindL;rw[lu λv hv=>(Js.mp nd).1 (Mv hv).1,HV hk]
  simp
 | p::P,w::vs,i+1,m,nd,h1,h2,hk=>by
  show bindL kindOf ((p,w)::P.zip vs) m x=_;unfold bindL;exact lA (i:=i) (Js.mp nd).2 (by simpa using h1) (by simpa using h2) hk
theorem lB {kindOf:HJ->Hn Jz}{x:HJ}{v:Hj}:∀ {P:Hg HJ} {vs:Hg Hj} {i:Ho} {m:HJ->Hn Hj},P.Nodup->P[i]?=gV x->vs[i]?=gV v->kindOf x≠gV .local->
  bindC kindOf (P.zip vs) m x=gV v
 | [],_,_,_,_,h,_,_=>by simp at h
 | _::_,[],_,_,_,_,h,_=>by simp at h
 | p::P,w::vs,0,m,nd,h1,h2,hk=>by
  simp at h1 h2; subst h1; subst h2
  show bindC kindOf ((p,w)::P.zip vs) m p=_;unfold bindC;rw[lv λv hv=>(Js.mp nd).1 (Mv hv).1,Iv hk]
  simp
 | p::P,w::vs,i+1,m,nd,h1,h2,hk=>by
  show bindC kindOf ((p,w)::P.zip vs) m x=_;unfold bindC;exact lB (i:=i) (Js.mp nd).2 (by simpa using h1) (by simpa using h2) hk
noncomputable def fK (N:Hg HJ)(vs:Hg V):St:=vs.map gV++Ih (N.length - vs.length) td
noncomputable def pW (CX:uU)(P:Ik)(w:Ix)(K:HA)(mg:HJ->Hn Hj)(base:IG)(N:Hg HJ)(qual:HJ)(scope:Kz)(f:Ht)(cd:Hj)(A:Iu)(outer:Hg Nz)(s:Hm)(H:Hp)(E:XK):Cx where
 prog:=P
 w:=w
 K:=K
 mg:=mg
 base:=base
 A:=A.deeper (envOfC qual scope s.heap.objs.size f cd)
 N:=N
 s₀:=s
 H₀:=H
 env:=envOfC qual scope s.heap.objs.size f cd
 outer:=outer
 stack:=envOfC qual scope s.heap.objs.size f cd::outer
 ex:=[]
 calm:=true
 fn:=λ_=>true
 pn:=[]
 xe:=λe s'=>wpAny (model P w) (A.deeper (envOfC qual scope s.heap.objs.size f cd)) (leaving (envOfC qual scope s.heap.objs.size f cd) e) (λ_ s''=>CX outer H s E e s'') (λe' s''=>CX outer H s E e' s'') s'
theorem og {sc:Kz}{n:Ho}{x:HJ}(h:sc.names.lookup x=gV .cell):∃c,(cellsFrom n sc.names []).lookup x=gV c:=by
 have q:=Mk sc.names n [] (.inl h);exact IP.mp q
theorem sT {CX:uU}{P:Ik}{w:Ix}{K:HA}{mg:HJ->Hn Hj}{base:IG}{N ps:Hg HJ}{qual:HJ}{scope:Kz}{f:Ht}{cd:Hj}{A:Iu}{outer:Hg Nz}{s s1:Hm}{H:Hp}{E:XK}{us:Hg Hj}{vs:Hg V}
  (S:FnScope N ps scope) (hd:A.handled=td) (e0:Env0 P w K mg base A outer s H) (hl:vs.length=ps.length) (r:Vals vs us)
  (x:InCallC s s.heap.objs.size (bindL (envOfC qual scope s.heap.objs.size f cd).kindOf (ps.zip us) λ_=>td) (cellsFrom (s.heap.objs.size+1) scope.names []) (bindC (envOfC qual scope s.heap.objs.size f cd).kindOf (ps.zip us) λ_=>td) s1) :
  Inv (pW CX P w K mg base N qual scope f cd A outer s H E) [] (fK N vs) H s1:=by
 have hpl:ps.length<=N.length:=by have:=congrArg Pn S.pre; rw[HX]at this; omega
 obtain⟨h1,tk,rfl,hk⟩:=x.done;have noA:∀b:Ht,b∉(pW CX P w K mg base N qual scope f cd A outer s H E).ex:=λb z=>absurd (show b∈([]:Hg Ht)from z) (by simp)
 refine#[#[e0.mod,S.kind,rfl,rfl,Hz _,λy z c h1 h2=>?_,λy hy=>?_,λy c _ h=>?_,λ_=>hd,Around.frames_deeper e0.frames,.inr #[rfl,rfl],λb z=>absurd z (noA b),e0.bs,e0.bsz,λb _ _=>noA b,λb z=>absurd z (noA b),e0.funs,e0.frf],
  rfl,e0.bare,Un.kept hk,#[_,x.toInCall.ns,λi y v h1 h2 h3=>?_],λy c h=>#[_,x.cell y c h],e0.hok.fresh (Hz _),λy c h=>?_,λp hp=>absurd (show p∈([]:Hg (Ht×Jo))from hp) (by simp),e0.hok.kept hk,?_]
 ·exact name_of_addr x.apart (Kl h1) (Kl h2)
 ·have hy:scope.names.lookup y=gV .cell\/scope.names.lookup y=gV .free:=hy;rcases hy with hy|hy
  ·exact og hy
  ·exact absurd rfl (S.nofree _ (Kl hy))
 ·exact La (x.above y c (Kl h))
 ·have hi:i < vs.length:=by
   unfold fK at h2
   by_cases hi:i < vs.length
   ·exact hi
   ·rw[IA (by simpa using hi)]at h2
    rw[List.getElem?_replicate]at h2;split at h2 <;> cases h2
  have ha:vs[i]?=gV v:=by
   unfold fK at h2;rw[Ii (by simpa using hi),Hq]at h2
   cases e:vs[i]? with
   | none=>rw[e]at h2; cases h2
   | some a=>rw[e]at h2; cases h2; rfl
  obtain⟨u,hu,rv⟩:=r.get ha;have hp:ps[i]?=gV y:=by
   rw[<- S.pre,KS ∅]; exact h1
  have ndP:ps.Nodup:=by rw[<- S.pre]; exact S.nd.sublist (NE _ _)
  refine#[u,rv,?_];rcases S.par y (HC hp)with k|k
  ·exact .inl #[k,lA ndP hp hu k]
  ·obtain⟨c,e⟩:=og (n:=s.heap.objs.size+1) k;refine .inr #[.inl k,c,e,?_];have q:=x.cell y c e;rw[lB ndP hp hu (by show scope.names.lookup y≠_; rw[k]; decide)]at q
   exact q
 ·exact e0.hok.fresh (La (x.above y c (Kl h)))
 ·unfold fK;show _=N.length;rw[Hk,Hh,Lg];omega
theorem DQ {CX:uU}{P:Ik}{w:Ix}{K:HA}{mg:HJ->Hn Hj}{base:IG}{k:Ho}{f:Ht}{name qual:HJ}{params:Arguments}{body:Hg Kk}{scope:Kz}{dV kV doc pm cdv ct oc:Hj}{an od:Hn Ht}
  {osl:IC (Hn Hj)} {N ps:Hg HJ} {sp:Sp} (lk:K.lookup f=gV #[oc,od,.func (JH name qual params body scope dV kV doc pm an cdv ct),osl]) (hcd:Ko K cdv qual=true) (S:FnScope N ps scope)
  (len:∀vs H Q E,sp vs H Q E->vs.length=ps.length)
  (hbody:∀(A:Iu) (outer:Hg Nz) (s:Hm) (H:Hp) (vs:Hg V) (Q:VK) (E:XK),Room k (A.deeper (envOfC qual scope s.heap.objs.size f cdv))->sp vs H Q E->
   ∃t,PSs (pW CX P w K mg base N qual scope f cdv A outer s H E) body t/\t { nx:=λ_ H'=>Q .non H',rt:=Q } (fK N vs) H) :
  FnOk P w K mg base CX (k+1) f (JH name qual params body scope dV kV doc pm an cdv ct) ps sp:=by
 refine#[len,λA outer s H args us vs Q E hr e0 hb r hsp=>?_]
 have hl:=len _ _ _ _ hsp;have KX:K.In s.heap:=e0.mod.kin.keeps λb o e=>(e0.bs b o e).1
 have lim:s.heap.NoLimit:=e0.mod.nolimit.keeps λb o e=>(e0.bs b o e).1
 have hkind:∀y∈ps.zip us,scope.names.lookup y.1=gV .local\/(scope.names.lookup y.1=gV .cell/\((cellsFrom (s.heap.objs.size+1) scope.names []).lookup y.1).isSome=true):=λ#[n,v] hy=>by
  rcases S.par n (Mv hy).1 with q|q
  ·exact .inl q
  ·exact .inr #[q,Mk _ _ _ (.inl q)]
 refine codeAny_call_function hr.depth (KX _ _ lk) rfl S.co S.gen rfl (PySem.W.codeRec_of KX hcd) (hb _ _ _ _ ?_);refine wpAny_newFunctionEnv_cells S.kind hkind λenv he s1 x=>?_
 subst he;refine#[lim.keeps x.toInCall.keep,codeAny_func ?_];obtain⟨t,ht,hq⟩:=hbody A outer s H vs Q E (hr.deeper _) hsp;have I:Inv (pW CX P w K mg base N qual scope f cdv A outer s H E) [] (fK N vs) H s1:=sT S hr.hd e0 hl r x;refine Jx (ht [] s1 (fK N vs) H _ I hq) (λfl s' hs=>?_) λe s' hs=>hs
 have fin:∀ {σ':St} {H':Hp} {v:V} {u:Hj},Inv (pW CX P w K mg base N qual scope f cdv A outer s H E) [] σ' H' s'->RelV v u->Q v H'->CE outer P w H s Q u s':=
  λ{σ' H' v u} J rv q=>#[v,H',J.os,J.bare,J.base,J.hok,rv,q]
 cases fl with
 | ret u=>
  obtain⟨v,σ',H',J,rv,q⟩:=hs;exact fin J rv q
 | next=>
  obtain⟨σ',H',J,q⟩:=hs;exact fin (v:=V.non) (u:=IK) J rfl q
 | brk=>
  obtain⟨_,_,_,q⟩:=hs;exact IV.elim q
 | cont=>
  obtain⟨_,_,_,q⟩:=hs;exact IV.elim q
section
variable{X:Cx}{x:HJ}{p pos:JY}{e:HS}{es:Hg HS}{t:TA}{id T:Jb}{r:Hg V->Hp->VK->Prop}
noncomputable def GJ (r:Hg V->Hp->VK->Prop)(t:TA):TE:=λσ H Q=>t σ H λvs H1=>r vs H1 Q
theorem oh (hc:CallR X (.builtin id) r)(hg:Gl X x)(hm:X.mg x=td)(hv:bootBuiltins x=gV (.builtin id))(ha:PA X (e::es) t)(hn:x≠"__name__":=by decide)(hdb:(x==("__debug__" : HJ))=false:=by decide)
  (he:starEach (e::es) X.env=(false,eval e X.env)::starEach es X.env:=by rfl) (hpl:(backTo pos (starEach es X.env)).any (·.1)=false:=by rfl):PE X (.Call (.Name x p) (e::es) [] pos) (GJ r t):=by
 intro pins s σ H Q I h;refine K4 (iK I hg hm hv ?_ hn hdb);exact N3 (bo (ha pos pins s σ H _ I h) λus s1 #[vs,H1,I1,r1,q1]=>hc pins s1 σ H1 vs us Q I1 r1 q1) he hpl
theorem sU (hc:CallR X (.type T) r)(hg:Gl X x)(hm:X.mg x=td)(hv:bootBuiltins x=gV (.type T))(ha:PA X (e::es) t)(hn:x≠"__name__":=by decide)(hdb:(x==("__debug__" : HJ))=false:=by decide)
  (he:starEach (e::es) X.env=(false,eval e X.env)::starEach es X.env:=by rfl) (hpl:(backTo pos (starEach es X.env)).any (·.1)=false:=by rfl):PE X (.Call (.Name x p) (e::es) [] pos) (GJ r t):=by
 intro pins s σ H Q I h;refine K4 (iK I hg hm hv ?_ hn hdb);exact JR (bo (ha pos pins s σ H _ I h) λus s1 #[vs,H1,I1,r1,q1]=>hc pins s1 σ H1 vs us Q I1 r1 q1) he hpl
end
end L2
namespace HT
open PySem PyProof.Rows
section
open PySem.SeqAt
open PySem.AutoSeq1 (wpAny_loadPart')
open PySem.MeetsSeq PySem.MeetsSeq2 PySem.MeetsSeq3
end
section
variable{prog:Ik}{w:Ix}{A:Iu}{E:Hj->Hm->Prop}{s:Hm}
theorem yF {t b:Ht}{vs ws:Hg Hj}{Q:Hj->Hm->Prop}(ht:Ny s.heap t vs.toArray)(hb:Ny s.heap b ws.toArray)(hv:vs≠[])
  (h1:ws=[]->Q (.ref t) s) (h2:ws≠[]->Q (.ref s.heap.objs.size) { s with heap:=s.heap.push { cls:=.type "tuple",data:=.seq (vs++ws).toArray } })
  (hsz:vs.length+ws.length<=sizeLine):wpAny (model prog w) A (binaryOp .Add (.ref t) (.ref b)) Q E s:=by
 obtain⟨⟨cls,dd,data,sl⟩,ho,hc,n,hd⟩:=id ht;obtain⟨⟨cls2,dd2,data2,sl2⟩,ho2,hc2,n2,hd2⟩:=id hb;simp only at hc hd hc2 hd2;subst hc hd hc2 hd2;have e:vs.toArray++ws.toArray=(vs++ws).toArray:=by simp
 by_cases hw:ws=[]
 ·exact NF #[_,ho,rfl] #[_,ho2,rfl] L8 M8 Lb K7 (KT _ _)
   (tuple_addW1 t b vs.toArray ws.toArray n n2 dd dd2 sl sl2 (by simpa using hv) (by simp[hw])) #[ho,ho2,h1 hw]
 ·refine NF #[_,ho,rfl] #[_,ho2,rfl] L8 M8 Lb K7 (KT _ _)
   (tuple_addW2 t b vs.toArray ws.toArray n n2 dd dd2 sl sl2 (by simpa using hv) (by simpa using hw) (by rw[HH,HH]; exact hsz)) #[ho,ho2,?_]
  rw[e];exact h2 hw
noncomputable def cu (n d:Ho):Hn Hv->Ho
 | none=>d
 | some v=>if v < 0 then(v+(n:Hv)).toNat else min v.toNat n
theorem jH (n d:Ho):cu n d td=d:=rfl
theorem re (n d k:Ho):cu n d (gV (k:Hv))=min k n:=by
 show(if (k:Hv) < 0 then((k:Hv)+(n:Hv)).toNat else min (k:Hv).toNat n)=min k n
 rw[Iv ∅,HF]
theorem BV (n d:Ho)(hd:d<=n)(o:Hn Hv):cu n d o<=n:=by
 cases o with
 | none=>exact hd
 | some v=>
  show(if v < 0 then(v+(n:Hv)).toNat else min v.toNat n)<=n
  by_cases hv:v < 0
  ·rw[HV hv]; omega
  ·rw[Iv hv]; exact Nat.min_le_right _ _
theorem rf (v:Hv)(n d:Ho):(if v < 0 then max (v+(n:Hv)) 0 else min v (n:Hv))=((cu n d (gV v):Ho):Hv):=by
 show(if v < 0 then max (v+(n:Hv)) 0 else min v (n:Hv))=(((if v < 0 then(v+(n:Hv)).toNat else min v.toNat n):Ho):Hv)
 by_cases hv:v < 0
 ·simp only[HV hv]; omega
 ·simp only[Iv hv]; omega
theorem pX (lo hi:Hn Hv)(n:Ho):KN lo hi 1 (n:Hv)=(((cu n 0 lo:Ho):Hv),((cu n n hi:Ho):Hv)):=by
 have h1:¬ ((1:Hv) < 0):=∅
 unfold KN;simp only[h1,Kd];refine Po ?_ ?_
 ·cases lo with
  | none=>rfl
  | some v=>exact rf v n 0
 ·cases hi with
  | none=>rfl
  | some v=>exact rf v n n
theorem pY (i j:Ho):J6 (i:Hv) (j:Hv) 1=j - i:=by
 unfold J6;have h1:(1:Hv) > 0:=∅
 simp only[h1,Km,Int.ediv_one];split <;> omega
theorem jI {v:Hj}{o:Hn Hv}{Q:Hn Hv->Hm->Prop}(p:LF v o)(h:Q o s):wpAny (model prog w) A (Om v) Q E s:=by
 cases p with
 | none=>exact Oz h
 | int i t=>exact slicePart_int h
theorem eM {sl:Ht}{vl vu:Hj}{lo hi:Hn Hv}{n:Ho}{Q:Hv×Hv×Ho->Hm->Prop}(hs:s.heap.IsSliceOf sl vl vu .none)(pl:LF vl lo)(pu:LF vu hi)
  (h:Q (((cu n 0 lo:Ho):Hv),1,cu n n hi - cu n 0 lo) s):wpAny (model prog w) A (LG (.ref sl) (pure (n:Hv))) Q E s:=by
 obtain⟨os,hos,hcs,hds⟩:=id hs;unfold LG OQ;refine Hi (Hi (JK hos hds (x:=vl) rfl (Hi (JK hos hds (x:=vu) rfl (Hi (JK hos hds (x:=.none) rfl (Hx ?_)))))));refine Hi (Oz ?_);show wpAny _ _ (if ((1:Hv)==0)=true then _ else _) _ _ s
 rw[Iv #v[]]
 refine Hi (jI pl (Hi (jI pu (Hi (Hx ?_)))));show wpAny _ _ (match KN lo hi 1 (n:Hv)with|(lo,hi)=>pure (lo,(1:Hv),J6 lo hi 1)) _ _ s
 rw[pX lo hi n];show wpAny _ _ (pure (((cu n 0 lo:Ho):Hv),(1:Hv),J6 ((cu n 0 lo:Ho):Hv) ((cu n n hi:Ho):Hv) 1)) _ _ s;rw[pY];exact Hx h
theorem uY (xs:IC Hj)(i k:Ho):((HG k).filterMap λ(m:Ho)=>xs[((i:Hv)+(m:Hv)*1).toNat]?).toArray=((xs.toList.drop i).take k).toArray:=by
 have e:(λ(m:Ho)=>xs[((i:Hv)+(m:Hv)*1).toNat]?)=λm=>xs[i+m]?:=by
  funext m
  have:((i:Hv)+(m:Hv)*1).toNat=i+m:=∅
  rw[this]
 rw[e];have:=pick_run xs i k;rw[List.filterMap_map]at this;have e2:((λx=>xs[x]?)∘λx=>i+x)=λm=>xs[i+m]?:=rfl
 rw[e2]at this;rw[this]
theorem g8 {t sl:Ht}{items:IC Hj}{vl vu:Hj}{lo hi:Hn Hv}{Q:Hj->Hm->Prop}(ht:Ny s.heap t items)(hs:s.heap.IsSliceOf sl vl vu .none)(pl:LF vl lo)(pu:LF vu hi)
  (hw:¬ (cu items.size 0 lo=0/\cu items.size items.size hi=items.size))
  (h:Q (.ref s.heap.objs.size) { s with heap:=s.heap.push { cls:=.type "tuple",data:=.seq ((items.toList.drop (cu items.size 0 lo)).take (cu items.size items.size hi - cu items.size 0 lo)).toArray } })
  (hsz:items.size<=sizeLine):wpAny (model prog w) A (getItem (.ref t) (.ref sl)) Q E s:=by
 have htake:sizeOk (.seq ((items.toList.drop (cu items.size 0 lo)).take (cu items.size items.size hi - cu items.size 0 lo)).toArray):=by
  show((items.toList.drop (cu items.size 0 lo)).take (cu items.size items.size hi - cu items.size 0 lo)).toArray.size<=sizeLine;rw[HH,HX,Kq,Ir];omega
 have hj:cu items.size items.size hi<=items.size:=BV _ _ (Hz _) hi;obtain⟨os,hos,hcs,hds⟩:=id hs;have hTs:s.TypeIs (.ref sl) "slice":=#[os,hos,hcs];unfold getItem
 try with_reducible refine Jk ?_
 first|refine Hi (Hx ?_)|skip
 refine Hi (NG ht.typeIs #v[] ?_)
 refine Hi (IU (name:=JS "__getitem__") ht.typeIs JC
  (Je JC ht.typeIs M1 ?_ (Nm _ _)))
 show wpAny _ _ (KG (.ref t) >>= _) _ _ s;refine Hi (OV ht ?_);refine Hi (Ly hTs ?_);rw[HV #v[]]
 refine Hi (eM hs pl pu ?_);have hno:¬ ((((cu items.size 0 lo:Ho):Hv)==0&&(1:Hv)==1&&(cu items.size items.size hi - cu items.size 0 lo)==items.size)=true):=by
  intro q;rw[Hs,Hs]at q;have q1:((cu items.size 0 lo:Ho):Hv)=0:=eq_of_beq q.1.1;have q2:cu items.size items.size hi - cu items.size 0 lo=items.size:=eq_of_beq q.2;exact hw #[∅,∅]
 show wpAny _ _ (if (((cu items.size 0 lo:Ho):Hv)==0&&(1:Hv)==1&&(cu items.size items.size hi - cu items.size 0 lo)==items.size)=true then _ else _) _ _ s
 rw[Iv hno,uY]
 first
  | exact Hi (m:=Jr _) (IH (Hx #[_,rfl,Hx h]) htake)
  | exact Hi (m:=Jr _) (IH (Hi (Hx (Hx #[_,rfl,Hx h]))) htake)
  | exact Hi (Hi (m:=Jr _) (IH (Hx (Hx #[_,rfl,Hx h])) htake))
  | exact Hi (Hi (m:=Jr _) (IH (Hx #[_,rfl,Hx h]) htake))
end
end HT
namespace L2
open PySem PySem.Spec PyProof.Rows
noncomputable abbrev TO:=St->Hp->(Hn Hv->Hp->Prop)->Prop
noncomputable def PO (X:Cx)(e:Hn HS)(t:TO):Prop:=
 ∀(pins:Hg (Ht×Jo)) (s:Hm) (σ:St) (H:Hp) (Q:Hn Hv->Hp->Prop),Inv X pins σ H s->t σ H Q->
  wpAny (model X.prog X.w) X.A (evalPart e X.env) (λu s'=>∃o H',Inv X pins σ H' s'/\LF u o/\Q o H') X.xe s
noncomputable def yG:TO:=λ_ H Q=>Q td H
noncomputable def DR (t:TE):TO:=λσ H Q=>t σ H λx H1=>∃i,x=.int i/\Q (gV i) H1
section
variable{X:Cx}{e:HS}{te:TE}{lo hi:Hn HS}{tl th:TO}{pos p2:JY}
theorem yH:PO X td yG:=by
 intro pins s σ H Q I h;rw[OW];exact Hx #[td,H,I,.none,h]
theorem yI (h:PE X e te):PO X (gV e) (DR te):=by
 intro pins s σ H Q I hw;rw[evalPart_some];refine bo (h pins s σ H _ I hw) λu s1 #[x,H1,I1,r1,q1]=>?_
 obtain⟨i,rfl,q⟩:=q1;obtain⟨t,rfl⟩:=r1;exact#[gV i,H1,I1,.int i t,q]
noncomputable def DS (X:Cx)(r:V->Hn Hv->Hn Hv->Hp->VK->Prop):Prop:=
 ∀(pins:Hg (Ht×Jo)) (s:Hm) (σ:St) (H:Hp) (x:V) (v vl vu:Hj) (lo hi:Hn Hv) (sl:Ht) (Q:VK),Inv X pins σ H s->RelV x v->s.heap.IsSliceOf sl vl vu .none->LF vl lo->LF vu hi->r x lo hi H Q->
  ∃T id,typeLookup (.type T) "__getitem__" = pure (gV (.builtin id))/\s.TypeIs v T/\wpAny (model X.prog X.w) X.A (getItem v (.ref sl)) (EP X pins σ Q) X.xe s
noncomputable def GZ (r:V->Hn Hv->Hn Hv->Hp->VK->Prop)(te:TE)(tl th:TO):TE:=λσ H Q=>te σ H λx H1=>tl σ H1 λl H2=>th σ H2 λu H3=>r x l u H3 Q
theorem uZ {r:V->Hn Hv->Hn Hv->Hp->VK->Prop}(hr:DS X r)(he:PE X e te)(hl:PO X lo tl)(hu:PO X hi th):PE X (.Subscript e (.Slice lo hi td p2) pos) (GZ r te tl th):=by
 intro pins s σ H Q I h;refine Subscript_ (bo (he pins s σ H _ I h) λv s1 #[x,H1,I1,r1,q1]=>?_)
 refine wpAny_Slice (bo (hl pins s1 σ H1 _ I1 q1) λvl s2 #[l,H2,I2,pl,q2]=>bo (hu pins s2 σ H2 _ I2 q2) λvu s3 #[u,H3,I3,pu,q3]=>?_)
 rw[OW];refine Hx ?_;have I4:Inv X pins σ H3 { s3 with heap:=s3.heap.push { cls:=.type "slice",data:=.fields [vl,vu,.none].toArray } }:=I3.kept (t':=s3.toks) λb ob q=>Hr _ q
 obtain⟨T,id,hT,ht,hg⟩:=hr pins { s3 with heap:=s3.heap.push { cls:=.type "slice",data:=.fields [vl,vu,.none].toArray } } σ H3 x v vl vu l u s3.heap.objs.size Q I4 r1 (PK ..) pl pu q3
 show wpAny (model X.prog X.w) X.A (subscriptTail e (.Slice lo hi td p2) v (.ref s3.heap.objs.size)) (EP X pins σ Q) X.xe { s3 with heap:=s3.heap.push { cls:=.type "slice",data:=.fields [vl,vu,.none].toArray } }
 exact tail_any (ops:=[.ref s3.heap.objs.size,v]) ht hT hg (by with_unfolding_all rfl)
noncomputable def jJ (xs:Hg V)(lo hi:Hn Hv):Hg V:=(xs.drop (HT.cu xs.length 0 lo)).take (HT.cu xs.length xs.length hi - HT.cu xs.length 0 lo)
theorem jf (xs:Hg V)(lo hi:Hn Hv):(jJ xs lo hi).length<=xs.length:=by
 unfold jJ;rw[HX,Kq];omega
noncomputable def FV (K:HA):V->Hn Hv->Hn Hv->Hp->VK->Prop:=λx lo hi H Q=>∃a xs,x=.ref a/\SqT K H a xs/\
 ¬ (HT.cu xs.length 0 lo=0/\HT.cu xs.length xs.length hi=xs.length)/\∀p,H p=td->Q (.ref p) (bQ H p (.tup (jJ xs lo hi)))
theorem BW:DS X (FV X.K):=by
 intro pins s σ H x v vl vu lo hi sl Q I rx hs pl pu h;obtain⟨a,xs,rfl,hx,hw,q⟩:=h;cases rx;obtain⟨its,r,ht,hz⟩:=I.tuple hx;have hlen:its.toArray.size=xs.length:=by rw[HH]; exact r.length.symm
 refine#["tuple",_,PyProof.Rows.slot_tuple_getitem.lookup,ht.typeIs,?_];refine HT.g8 ht hs pl pu (by rw[hlen]; exact hw) ?_ (by rw[hlen]; exact hz)
 rw[hlen];refine#[.ref s.heap.objs.size,_,I.laid (t':=s.toks) (o:=.tup (jJ xs lo hi)) (λb ob q=>Hr _ q) (Hz _) ?_,rfl,q _ (I.hok.fresh (Hz _))]
 exact#[#[HZ (jf xs lo hi) hz,NoD.new _ _ _],_,(r.drop (HT.cu xs.length 0 lo)).take (HT.cu xs.length xs.length hi - HT.cu xs.length 0 lo),N1 _ _]
theorem Vals.nil_iff {xs:Hg V}{us:Hg Hj}(r:Vals xs us):us=[]↔xs=[]:=by
 cases r with
 | nil=>simp
 | cons _ _=>simp
end
noncomputable def rg (n:Ho)(i:Hv):Hn Ho:=if 0<=i then(if i < n then gV i.toNat else td)else if -(n:Hv)<=i then gV (i+n).toNat else td
noncomputable def ol {α:Type}(xs:Hg α)(i:Hv):Hn α:=(rg xs.length i).bind λj=>xs[j]?
theorem rh {n:Ho}{i:Hv}{j:Ho}(h:rg n i=gV j):seqIndex? i n=gV j/\j < n/\-(n:Hv)<=i/\i < n:=by
 unfold rg at h
 by_cases h0:0<=i
 ·rw[HV h0]at h
  by_cases h1:i < n
  ·rw[HV h1]at h;have e:i.toNat=j:=IS h;exact#[by rw[Oi h0 h1,e],∅,∅,h1]
  ·rw[Iv h1]at h; cases h
 ·rw[Iv h0]at h
  by_cases h1 : -(n:Hv)<=i
  ·rw[HV h1]at h;have e:(i+n).toNat=j:=IS h;exact#[by rw[NH ∅ h1,e],∅,h1,∅]
  ·rw[Iv h1]at h; cases h
theorem mH {α:Type}{xs:Hg α}{i:Hv}{v:α}(h:ol xs i=gV v):∃j,seqIndex? i xs.length=gV j/\xs[j]?=gV v/\j < xs.length/\-(xs.length:Hv)<=i/\i < xs.length:=by
 unfold ol at h;cases e:rg xs.length i with
 | none=>rw[e]at h; cases h
 | some j=>
  rw[e]at h;obtain⟨h1,h2,h3,h4⟩:=rh e;exact#[j,h1,h,h2,h3,h4]
theorem atI_nat {α:Type}{xs:Hg α}{j:Ho}{v:α}(h:xs[j]?=gV v):ol xs (j:Hv)=gV v:=by
 have hj:j < xs.length:=(HD.mp h).1;have e:rg xs.length (j:Hv)=gV j:=by
  unfold rg;rw[HV ∅,HV ∅]; simp
 unfold ol; rw[e]; exact h
noncomputable def mI (b:HS):Prop:=∀o i,subscripted b false o i=operate [o,i] (getItem o i)
noncomputable def IxR (X:Cx)(r:R2):Prop:=
 ∀(value slice:HS) (pins:Hg (Ht×Jo)) (s:Hm) (σ:St) (H:Hp) (x y:V) (v u:Hj) (Q:VK),Inv X pins σ H s->RelV x v->RelV y u->r x y H Q->
  subscripted slice false v u=operate [v,u] (getItem v u)->wpAny (model X.prog X.w) X.A (subscriptTail value slice v u) (EP X pins σ Q) X.xe s
noncomputable def MtR (X:Cx)(id:Jb)(r:V->Hg V->Hp->VK->Prop):Prop:=
 ∀(pins:Hg (Ht×Jo)) (s:Hm) (σ:St) (H:Hp) (x:V) (xs:Hg V) (v:Hj) (us:Hg Hj) (Q:VK),Inv X pins σ H s->RelV x v->Vals xs us->r x xs H Q->
  wpAny (model X.prog X.w) X.A (call (.builtin id) (v::us)) (EP X pins σ Q) X.xe s
section
variable{X:Cx}{a b:HS}{ta tb:TE}{pos:JY}
theorem DT {r:R2}(hr:IxR X r)(ha:PE X a ta)(hb:PE X b tb)(hs:mI b):PE X (.Subscript a b pos) (Fe r ta tb):=by
 intro pins s σ H Q I h;exact Subscript_ (BJ ha hb I h λv u s2 x y H2 I2 rx ry q=>hr a b pins s2 σ H2 x y v u Q I2 rx ry q (hs _ _))
noncomputable def FW (K:HA):R2:=λx y H Q=>∃p xs i v,x=.ref p/\y=.int i/\SqL K H p xs/\ol xs i=gV v/\Q v H
noncomputable def FX (K:HA):R2:=λx y H Q=>∃p xs i v,x=.ref p/\y=.int i/\SqT K H p xs/\ol xs i=gV v/\Q v H
noncomputable def FY:R2:=λx y H Q=>∃z i c,x=.str z/\y=.int i/\z.length<=sizeLine/\ol z.cps.toList i=gV c/\Q (.str #[[c].toArray]) H
theorem yJ:IxR X (FW X.K):=by
 intro value slice pins s σ H x y v u Q I rx ry h hs;obtain⟨p,xs,i,z,rfl,rfl,hq,he,q⟩:=h;cases rx;obtain⟨t,rfl⟩:=ry;obtain⟨its,r,pl,hz⟩:=I.list hq;obtain⟨j,h1,h2,h3,h4,h5⟩:=mH he;obtain⟨w,ew,rw'⟩:=r.get h2;have hl:=r.length;have hn:=iN;have fin:EP X pins σ Q w s:=#[z,H,I,rw',q]
 by_cases h0:0<=i
 ·have hj:i.toNat=j:=by
   rw[Oi h0 h5]at h1;exact IS h1
  exact item_listR pl.isList h0 ∅ (by rw[hj]; simpa using ew) fin hs
 ·have hj:(i+(its.toArray.size:Hv)).toNat=j:=by
   rw[NH ∅ h4]at h1
   rw[HH,<- hl];exact IS h1
  exact Lc (x:=w) pl.isList.typeIs slot_list_getitem.lookup
   (wpAny_getItem_list_neg (Q:=λr s'=>r=w/\EP X pins σ Q r s') pl.isList ∅ (by rw[HH] <;> omega) ∅ (by rw[hj]; simpa using ew) #[rfl,fin]) hs
theorem BX:IxR X (FX X.K):=by
 intro value slice pins s σ H x y v u Q I rx ry h hs;obtain⟨p,xs,i,z,rfl,rfl,hq,he,q⟩:=h;cases rx;obtain⟨t,rfl⟩:=ry;obtain⟨its,r,pl,hz⟩:=I.tuple hq;obtain⟨j,h1,h2,h3,h4,h5⟩:=mH he;obtain⟨w,ew,rw'⟩:=r.get h2;have hl:=r.length;have hn:=iN;have fin:EP X pins σ Q w s:=#[z,H,I,rw',q];exact Lc (x:=w) pl.typeIs slot_tuple_getitem.lookup
  (getItem_tuple (j:=j) (Q:=λr s'=>r=w/\EP X pins σ Q r s') pl ∅ ∅ (by rw[HH,<- hl]; exact h1) (by simpa using ew) #[rfl,fin]) hs
theorem BY:IxR X FY:=by
 intro value slice pins s σ H x y v u Q I rx ry h hs;obtain⟨z,i,c,rfl,rfl,hz,he,q⟩:=h;obtain⟨t,rfl⟩:=rx;obtain⟨t',rfl⟩:=ry;obtain⟨j,h1,h2,h3,h4,h5⟩:=mH he;have hl:z.cps.toList.length=z.length:=by simp[Str.length]
 rw[hl]at h1 h4 h5;have hn:=iN;exact tail_any (typeIs_str s z t) slot_str_getitem.lookup (getItem_str (c:=c) (by
  have e1:decide (i < -(2 ^ 63:Hv))=false:=Im ∅
  have e2:decide (i>=2 ^ 63)=false:=Im ∅
  rw[e1,e2,OX]) (by rw[h1]; simpa using h2) #[.str #[[c].toArray],H,I.tok _,#[_,rfl],q]) hs
theorem pZ (its:Hg Hj)(n j:Ho)(u:Hj):Ji (·.setIfInBounds j u) { cls:=.type "list",data:=.seq its.toArray n }={ cls:=.type "list",data:=.seq (its.set j u).toArray n }:=by
 simp[Ji]
theorem Inv.lst {pins:Hg (Ht×Jo)}{σ:St}{H:Hp}{s:Hm}{p:Ht}{xs:Hg V}(I:Inv X pins σ H s)(h:H p=gV (.lst xs)) :
  ∃(its:Hg Hj) (n:Ho),Vals xs its/\s.heap.get? p=gV { cls:=.type "list",data:=.seq its.toArray n }/\xs.length<=sizeLine:=by
 obtain⟨z,its,n,r,e⟩:=I.hok p _ h;exact#[its,n,r,e,z]
theorem Inv.lstUpd {pins:Hg (Ht×Jo)}{σ:St}{H:Hp}{s:Hm}{p:Ht}{xs ys:Hg V}{its its':Hg Hj}{n n':Ho}{f:Jo->Jo}(I:Inv X pins σ H s)(h:H p=gV (.lst xs))
  (ho:s.heap.get? p=gV { cls:=.type "list",data:=.seq its.toArray n }) (hf:f { cls:=.type "list",data:=.seq its.toArray n }={ cls:=.type "list",data:=.seq its'.toArray n' }) (r:Vals ys its') (hz:ys.length<=sizeLine) (t:Ho) :
  Inv X pins σ (bQ H p (.lst ys)) { s with heap:=s.heap.update p f,toks:=t }:=by
 have e:(s.heap.update p f).get? p=gV { cls:=.type "list",data:=.seq its'.toArray n' }:=by
  rw[J3 f ho (by rw[hf] <;> rfl),hf]
 refine I.write (x:=p) (e:=p) (by rw[h]; trivial) (.inl rfl) (λb u hb q=>(IN _ _ (Ne.symm hb)).trans q) #[_,e] ?_
 exact#[hz,its',n',r,e]
noncomputable def DU:V->V->V->Hp->(Hp->Prop)->Prop:=λo i v H Q=>∃p xs k j,o=.ref p/\i=.int k/\H p=gV (.lst xs)/\rg xs.length k=gV j/\Q (bQ H p (.lst (xs.set j v)))
theorem u4:BB X DU:=by
 intro pins s σ H o i v ov iv u Q I ro ri rv h;obtain⟨p,xs,k,j,rfl,rfl,hp,hj,q⟩:=h;cases ro;obtain⟨t,rfl⟩:=ri;obtain⟨its,n,r,ho,hz⟩:=I.lst hp;obtain⟨h1,h2,h3,h4⟩:=rh hj;have hl:=r.length;have hn:=iN;have I':Inv X pins σ (bQ H p (.lst (xs.set j v))) { s with heap:=s.heap.update p (Ji (·.setIfInBounds j u)) }:=
  I.lstUpd hp ho (pZ its n j u) (r.set rv j) (by rw[On]; exact hz) s.toks
 by_cases h0:0<=k
 ·have hk:k.toNat=j:=by
   rw[Oi h0 h4]at h1;exact IS h1
  exact PySem.W.ki_setAt ho h0 ∅ (by rw[HH,<- hl]; exact h4) (by rw[hk]; exact#[_,I',q])
 ·have hk:(k+(its.toArray.size:Hv)).toNat=j:=by
   rw[NH ∅ h3]at h1
   rw[HH,<- hl];exact IS h1
  exact PySem.W.ki_setBack ho ∅ (by rw[HH,<- hl]; exact h3) ∅ (by rw[hk]; exact#[_,I',q])
theorem mJ (lo hi:Hn Hv)(n:Ho):(sliceBounds lo hi td n).1=((HT.cu n 0 lo:Ho):Hv)/\(sliceBounds lo hi td n).2.1=((HT.cu n n hi:Ho):Hv)/\(sliceBounds lo hi td n).2.2=1:=by
 refine#[?_,?_,rfl]
 ·cases lo with
  | none=>simp[sliceBounds,HT.cu]
  | some i=>
   simp only[sliceBounds,HT.cu,N4,show(1:Hv) > 0 by decide,Km]
   by_cases h:i < 0
   ·simp only[h,Km] <;> omega
   ·simp only[h,Kd] <;> omega
 ·cases hi with
  | none=>simp[sliceBounds,HT.cu]
  | some i=>
   simp only[sliceBounds,HT.cu,N4,show(1:Hv) > 0 by decide,Km]
   by_cases h:i < 0
   ·simp only[h,Km] <;> omega
   ·simp only[h,Kd] <;> omega
theorem kW (its:Hg Hj)(lo hi:Hn Hv):slicePick its.toArray lo hi td=((its.drop (HT.cu its.length 0 lo)).take (HT.cu its.length its.length hi - HT.cu its.length 0 lo)).toArray:=by
 obtain⟨h1,h2,h3⟩:=mJ lo hi its.toArray.size;unfold slicePick;rw[h1,h2,h3];simp only[sliceRange_one,pick_run,HH] <;> rfl
noncomputable def FZ (K:HA):V->Hn Hv->Hn Hv->Hp->VK->Prop:=λx lo hi H Q=>∃a xs,x=.ref a/\SqL K H a xs/\∀p,H p=td->Q (.ref p) (bQ H p (.lst (jJ xs lo hi)))
theorem yK:DS X (FZ X.K):=by
 intro pins s σ H x v vl vu lo hi sl Q I rx hs pl pu h;obtain⟨a,xs,rfl,hx,q⟩:=h;cases rx;obtain⟨its,r,ht,hz⟩:=I.list hx;have hlen:=r.length;refine#["list",_,slot_list_getitem.lookup,ht.isList.typeIs,?_];refine wpAny_getItem_list_slice ht.isList hs pl pu .none (by simp) ?_ (by rw[HH] <;> omega)
 rw[kW,<- hlen];refine#[.ref s.heap.objs.size,_,I.laid (t':=s.toks) (o:=.lst (jJ xs lo hi)) (λb ob q=>Hr _ q) (Hz _) ?_,rfl,q _ (I.hok.fresh (Hz _))]
 exact#[HZ (jf xs lo hi) hz,_,0,(r.drop (HT.cu xs.length 0 lo)).take (HT.cu xs.length xs.length hi - HT.cu xs.length 0 lo),HM _ rfl]
noncomputable def gG:V->HU
 | .non=>true
 | .bl _=>true
 | .int _=>true
 | .str _=>true
 | _=>false
noncomputable def yL:V->V->HU
 | .non,.non=>true
 | .bl a,.bl b=>a==b
 | .bl a,.int b=>(if a then 1 else 0)==b
 | .int a,.bl b=>a==(if b then 1 else 0)
 | .int a,.int b=>a==b
 | .str a,.str b=>a==b
 | _,_=>false
theorem BZ {A:Iu}{s:Hm}{y x:V}{u v:Hj}(ry:RelV y u)(rx:RelV x v)(fy:gG y=true)(fx:gG x=true):Lj A s u v (yL y x):=by
 cases y with
 | non=>
  cases ry;cases x with
  | non=>cases rx; exact P5 _
  | bl b=>cases rx; exact Pp b
  | int b=>obtain⟨t,rfl⟩:=rx; exact Px b t
  | str b=>obtain⟨t,rfl⟩:=rx; exact Py b t
  | _=>exact absurd (show false=true from fx) HK
 | bl a=>
  cases ry;cases x with
  | non=>cases rx; exact Pq a
  | bl b=>cases rx; exact Pr a b
  | int b=>obtain⟨t,rfl⟩:=rx; exact Pz a b t
  | str b=>obtain⟨t,rfl⟩:=rx; exact PC a b t
  | _=>exact absurd (show false=true from fx) HK
 | int a=>
  obtain⟨t',rfl⟩:=ry;cases x with
  | non=>cases rx; exact PD a t'
  | bl b=>cases rx; exact PF a t' b
  | int b=>obtain⟨t,rfl⟩:=rx; exact PL a t' b t
  | str b=>obtain⟨t,rfl⟩:=rx; exact Nf a t' b t
  | _=>exact absurd (show false=true from fx) HK
 | str a=>
  obtain⟨t',rfl⟩:=ry;cases x with
  | non=>cases rx; exact PH a t'
  | bl b=>cases rx; exact PJ a t' b
  | int b=>obtain⟨t,rfl⟩:=rx; exact Ng a t' b t
  | str b=>obtain⟨t,rfl⟩:=rx; exact PM a t' b t
  | _=>exact absurd (show false=true from fx) HK
 | _=>exact absurd (show false=true from fy) HK
noncomputable def om (x:V)(u:Hj):HU:=match u with
 | .none=>yL .non x
 | .bool b=>yL (.bl b) x
 | .int i _=>yL (.int i) x
 | .str z _=>yL (.str z) x
 | _=>false
theorem p4 {x y:V}{u:Hj}(r:RelV y u)(f:gG y=true):om x u=yL y x:=by
 cases y with
 | non=>cases r; rfl
 | bl b=>cases r; rfl
 | int i=>obtain⟨t,rfl⟩:=r; rfl
 | str z=>obtain⟨t,rfl⟩:=r; rfl
 | _=>exact absurd (show false=true from f) HK
theorem g9 {x:V}:∀ {xs:Hg V} {us:Hg Hj},Vals xs us->xs.all gG=true->us.any (om x)=xs.any λy=>yL y x
 | _,_,.nil,_=>rfl
 | y::xs,u::us,.cons r t,f=>by
  rw[IF,Hs]at f;rw[Kh,Kh,p4 r f.1,g9 t f.2]
theorem eN {A:Iu}{s:Hm}{x:V}{v:Hj}(rx:RelV x v)(fx:gG x=true):∀ {xs:Hg V} {us:Hg Hj},Vals xs us->xs.all gG=true->∀u∈us,Lj A s u v (om x u)
 | _,_,.nil,_=>λu hu=>by cases hu
 | y::xs,u::us,.cons r t,f=>λu' hu=>by
  rw[IF,Hs]at f;rcases HW.mp hu with rfl|hu
  ·rw[p4 r f.1]; exact BZ r rx f.1 fx
  ·exact eN rx fx t f.2 u' hu
noncomputable def Fg (x:V)(xs:Hg V):HU:=xs.any λy=>yL y x
noncomputable def F0 (K:HA)(neg:HU):R2:=λx y H Q=>∃p xs,y=.ref p/\(SqL K H p xs\/SqT K H p xs)/\gG x=true/\xs.all gG=true/\Q (.bl (if neg then !Fg x xs else Fg x xs)) H
theorem sV:OpR X (compareOp .In) (F0 X.K false):=by
 intro pins s σ H x y v u Q I rx ry h;obtain⟨p,xs,rfl,hq,fx,fs,q⟩:=h;cases ry;rcases hq with hq|hq
 ·obtain⟨its,r,pl,hz⟩:=I.list hq;refine Oo (om x) pl.isList (λw hw=>eN rx fx r fs w (by simpa using hw)) #[.bl _,H,I,rfl,?_]
  rw[show its.toArray.any (om x)=its.any (om x) by simp,g9 r fs]
  exact q
 ·obtain⟨its,r,pl,hz⟩:=I.tuple hq;refine N5 (om x) pl (λw hw=>eN rx fx r fs w (by simpa using hw)) #[.bl _,H,I,rfl,?_]
  rw[show its.toArray.any (om x)=its.any (om x) by simp,g9 r fs]
  exact q
theorem mK:OpR X (compareOp .NotIn) (F0 X.K true):=by
 intro pins s σ H x y v u Q I rx ry h;obtain⟨p,xs,rfl,hq,fx,fs,q⟩:=h;cases ry;rcases hq with hq|hq
 ·obtain⟨its,r,pl,hz⟩:=I.list hq;refine Nn (om x) pl.isList (λw hw=>eN rx fx r fs w (by simpa using hw)) #[.bl _,H,I,rfl,?_]
  rw[show its.toArray.any (om x)=its.any (om x) by simp,g9 r fs]
  exact q
 ·obtain⟨its,r,pl,hz⟩:=I.tuple hq;refine SeqAt.notIn_tupleAt (om x) pl (λw hw=>eN rx fx r fs w (by simpa using hw)) #[.bl _,H,I,rfl,?_]
  rw[show its.toArray.any (om x)=its.any (om x) by simp,g9 r fs]
  exact q
theorem mL:CallR X (.type "list") (λxs H Q=>∃p ys,xs=[.ref p]/\(SqL X.K H p ys\/SqT X.K H p ys)/\∀l,H l=td->Q (.ref l) (bQ H l (.lst ys))):=by
 intro pins s σ H xs us Q I r h;obtain⟨p,ys,rfl,hq,q⟩:=h;obtain⟨u,rfl,rx⟩:=ln r;cases rx;have fin:∀(its:Hg Hj),Vals ys its->ys.length<=sizeLine->∀(h':IG) (c':Ho),(∀b o',s.heap.get? b=gV o'->h'.get? b=gV o')->
   h'.get? s.heap.objs.size=gV { cls:=.type "list",dict:=td,data:=.seq its.toArray c',slots:=#[] }->EP X pins σ Q (.ref s.heap.objs.size) { s with heap:=h' }:=λits r' hz h' c' kp e=>
  #[.ref s.heap.objs.size,_,I.laid (t':=s.toks) kp (Hz _) (show ObjOk X.prog X.w _ h' _ (.lst ys)from#[hz,its,c',r',e]),rfl,q _ (I.hok.fresh (Hz _))]
 rcases hq with hq|hq
 ·obtain⟨its,r',pl,hz⟩:=I.list hq;have hlen:=r'.length;obtain⟨o,ho,hc,n,hd⟩:=pl.isList;exact OY p (.inl rfl) ho hc hd (λh' c' kp e=>fin its r' hz h' c' kp e) (by simp only[HH] <;> omega)
 ·obtain⟨its,r',pl,hz⟩:=I.tuple hq;have hlen:=r'.length;obtain⟨o,ho,hc,n,hd⟩:=pl;exact OY p (.inr rfl) ho hc hd (λh' c' kp e=>fin its r' hz h' c' kp e) (by simp only[HH] <;> omega)
theorem gH:CallR X (.type "tuple") (λxs H Q=>∃p ys,xs=[.ref p]/\((SqL X.K H p ys/\∀l,H l=td->Q (.ref l) (bQ H l (.tup ys)))\/(SqT X.K H p ys/\Q (.ref p) H))):=by
 intro pins s σ H xs us Q I r h;obtain⟨p,ys,rfl,h⟩:=h;obtain⟨u,rfl,rx⟩:=ln r;cases rx;rcases h with⟨hq,q⟩|⟨hq,q⟩
 ·obtain⟨its,r',pl,hz⟩:=I.list hq;have hlen:=r'.length;refine call_tuple_list pl.isList (λh' kp=>?_) (by simp only[HH] <;> omega)
  have I1:Inv X pins σ H { s with heap:=h' }:=I.kept (t':=s.toks) kp
  have I2:Inv X pins σ (bQ H h'.objs.size (.tup ys)) { s with heap:=h'.push { cls:=.type "tuple",data:=.seq its.toArray } }:=
   I1.laid (t':=s.toks) (λb o e=>Hr _ e) (Hz _) (show ObjOk X.prog X.w _ _ _ (.tup ys)from#[#[hz,NoD.new _ _ _],its,r',N1 _ _])
  exact#[.ref h'.objs.size,_,I2,rfl,q _ (I1.hok.fresh (Hz _))]
 ·obtain⟨its,r',pl,hz⟩:=I.tuple hq;exact call_tuple_same pl #[.ref p,H,I,rfl,q]
noncomputable def F1 (K:HA)(T:Jb)(x:V)(H:Hp):Prop:=match x with
 | .str _=>T = "str"
 | .int _=>T = "int"
 | .ref p=>(T = "list"/\∃xs,SqL K H p xs)\/(T = "tuple"/\∃o,K.lookup p=gV o/\o.cls=.type "tuple"/\o.dict=td)\/
   (T = "dict"/\((∃kvs,H p=gV (.dK kvs))\/∃kvs,H p=gV (.dT kvs)))\/(T = "set"/\∃S n,H p=gV (.set S n))
 | _=>IV
theorem u5 {pins:Hg (Ht×Jo)}{σ:St}{H:Hp}{s:Hm}{T:Jb}{x:V}{v:Hj}(I:Inv X pins σ H s)(r:RelV x v)(ty:F1 X.K T x H) :
  s.TypeIs v T/\∀a,v=.ref a->∃ob,s.heap.get? a=gV ob/\ob.dict=td:=by
 cases x with
 | str z=>
  obtain⟨t,rfl⟩:=r;cases(show T = "str" from ty)
  exact#[typeIs_str s z t,λ_ e=>nomatch e]
 | int i=>
  obtain⟨t,rfl⟩:=r;cases(show T = "int" from ty)
  exact#[OA s i t,λ_ e=>nomatch e]
 | ref p=>
  cases r;rcases ty with⟨rfl,xs,hq⟩|⟨rfl,o,hk,hc,hd⟩|⟨rfl,hk⟩|⟨rfl,S,n,hk⟩
  ·obtain⟨its,_,pl,_⟩:=I.list hq;refine#[pl.isList.typeIs,λa e=>?_]
   cases e;obtain⟨o,n,e,c,hd,_⟩:=pl;exact#[o,e,hd]
  ·refine#[#[o,I.kIn p o hk,hc],λa e=>?_]
   cases e;exact#[o,I.kIn _ o hk,hd]
  ·have z:∃o,s.heap.get? p=gV o/\o.ExactDict:=by
    rcases hk with⟨kvs,hk⟩|⟨kvs,hk⟩
    ·obtain⟨_,_,_,_,o,_,_,e,ex,_⟩:=I.hok p _ hk;exact#[o,e,ex]
    ·obtain⟨_,_,_,_,o,_,_,e,ex,_⟩:=I.hok p _ hk;exact#[o,e,ex]
   obtain⟨o,e,ex⟩:=z;refine#[#[o,e,ex.1],λa e2=>?_]
   cases e2;exact#[o,e,ex.2.1]
  ·obtain⟨o,_,_,_,e,ex,_⟩:=I.hok p _ hk;refine#[#[o,e,ex.1],λa e2=>?_]
   cases e2;exact#[o,e,ex.2.1]
 | _=>exact IV.elim ty
variable{o e:HS}{es:Hg HS}{to:TE}{t:TA}{name:HJ}{apos cpos:JY}{T id:Jb}{r:V->Hg V->Hp->VK->Prop}
end
noncomputable def F2 (X:Cx)(id:Jb)(r:V->Hg V->Hp->VK->Prop):Prop:=
 ∀(pins:Hg (Ht×Jo)) (s:Hm) (σ:St) (H:Hp) (x:V) (xs:Hg V) (v:Hj) (us:Hg Hj) (Q:VK),Inv X pins σ H s->RelV x v->Vals xs us->r x xs H Q->
  wpAny (model X.prog X.w) X.A (call (.builtin id) (v::us)) (EP X pins σ Q) X.xe s
theorem Vals.one:∀ {x:V} {us:Hg Hj},Vals [x] us->∃u,us=[u]/\RelV x u
 | _,_,.cons r .nil=>#[_,rfl,r]
theorem Vals.eraseIdx:∀ {xs:Hg V} {us:Hg Hj} (i:Ho),Vals xs us->Vals (xs.eraseIdx i) (us.eraseIdx i)
 | _,_,_,.nil=>.nil
 | _,_,0,.cons _ t=>t
 | _,_,i+1,.cons r t=>.cons r (Vals.eraseIdx i t)
theorem Vals.rep {xs:Hg V}{us:Hg Hj}(h:Vals xs us):∀k:Ho,Vals (Ih k xs).flatten (Ih k us).flatten
 | 0=>.nil
 | k+1=>by
  rw[Jn,Jn,Ke,Ke];exact Vals.append h (Vals.rep h k)
theorem lC {α:Type}:∀(l:Hg α) (i:Ho),(l.eraseIdx i).length<=l.length
 | [],_=>Hz _
 | _::_,0=>KH _
 | _::r,i+1=>Lk (lC r i)
theorem lD (its:Hg Hj):∀(k:Ho) (acc:Hg Hj),
  OB (λx1 x2=>x1++x2) acc.toArray (Ih k its.toArray)=(acc++(Ih k its).flatten).toArray
 | 0,acc=>by simp
 | k+1,acc=>by
  have e:acc.toArray++its.toArray=(acc++its).toArray:=by simp
  have e2:(acc++its)++(Ih k its).flatten=acc++(Ih (k+1) its).flatten:=by
   rw[Jn,Ke,KA]
  rw[<- e2,<- lD its k (acc++its),<- e,Jn,List.foldl_cons]
section
variable{X:Cx}{pins:Hg (Ht×Jo)}{σ:St}{H:Hp}{s:Hm}{l b:Ht}{xs ys zs:Hg V}
theorem Inv.lset {its its':Hg Hj}{n:Ho}{f:IC Hj->IC Hj}{t':Ho}(I:Inv X pins σ H s)(hH:H l=gV (.lst xs))
  (e:s.heap.get? l=gV { cls:=.type "list",data:=.seq its.toArray n }) (hf:f its.toArray=its'.toArray) (hv:Vals ys its') (hz:ys.length<=sizeLine) :
  Inv X pins σ (bQ H l (.lst ys)) { s with heap:=s.heap.update l (Ji f),toks:=t' }:=by
 have q:=N6 e f;rw[hf]at q;refine I.write (x:=l) (e:=l) (by rw[hH]; exact trivial) (.inl rfl) (λb' u hb hu=>(IN s.heap (Ji f) (Ne.symm hb)).trans hu) #[_,q] ?_
 exact#[hz,its',_,hv,q]
theorem Inv.lnew {its:Hg Hj}{t':Ho}(I:Inv X pins σ H s)(hv:Vals ys its)(hz:ys.length<=sizeLine) :
  Inv X pins σ (bQ H s.heap.objs.size (.lst ys)) { s with heap:=s.heap.push { cls:=.type "list",data:=.seq its.toArray },toks:=t' }:=
 I.laid (λ_ _ q=>Hr _ q) (Hz _) #[hz,its,0,hv,HM _ rfl]
theorem Inv.fresh (I:Inv X pins σ H s):H s.heap.objs.size=td:=I.hok.fresh (Hz _)
theorem Inv.lstM (I:Inv X pins σ H s)(hH:H l=gV (.lst xs)):xs.length<=sizeLine/\∃(its:Hg Hj) (n:Ho),Vals xs its/\xs.length=its.length/\s.heap.get? l=gV { cls:=.type "list",data:=.seq its.toArray n }:=by
 obtain⟨z,its,n,r,e⟩:=I.hok l _ hH;exact#[z,its,n,r,r.length,e]
theorem on {n:Ho}(h:n<=sizeLine):Ki n=false:=by
 unfold Ki;exact Im ∅
end
section
variable{X:Cx}
noncomputable def yM:V->Hg V->Hp->VK->Prop:=λx vs H Q=>∃l xs y,x=.ref l/\vs=[y]/\H l=gV (.lst xs)/\xs.length < sizeLine/\Q .non (bQ H l (.lst (xs++[y])))
theorem sW:F2 X "list.append" yM:=by
 intro pins s σ H x vs v us Q I rx rv h;obtain⟨l,xs,y,rfl,rfl,hH,hz,q⟩:=h;cases rx;obtain⟨u,rfl,ru⟩:=rv.one;obtain⟨z,its,n,r,hl,e⟩:=I.lstM hH;refine Ll F.slot_list_append #[_,e,rfl] F.entry_list_append (F.args_list_append_2 _ _) (NJ l its.toArray n u (by rw[HH]; omega)) #[e,?_]
 refine#[.non,_,I.lset (its':=its++[u]) hH e (by simp) (r.append #v[ru]) ?_,rfl,q]
 rw[Hk,Ij];omega
noncomputable def yN:V->Hg V->Hp->VK->Prop:=λx vs H Q=>∃l b xs zs,x=.ref l/\vs=[.ref b]/\H l=gV (.lst xs)/\H b=gV (.lst zs)/\xs.length+zs.length<=sizeLine/\Q .non (bQ H l (.lst (xs++zs)))
theorem sX:F2 X "list.extend" yN:=by
 intro pins s σ H x vs v us Q I rx rv h;obtain⟨l,b,xs,zs,rfl,rfl,hH,hB,hz,q⟩:=h;cases rx;obtain⟨u,rfl,ru⟩:=rv.one;cases ru;obtain⟨z,its,n,r,hl,e⟩:=I.lstM hH;obtain⟨z2,its2,n2,r2,hl2,e2⟩:=I.lstM hB;have hsz:its.toArray.size+its2.toArray.size<=sizeLine:=by rw[HH,HH]; omega
 have hlong:¬ (!its.toArray.isEmpty&&Ki (its.toArray.size+its2.toArray.size))=true:=by
  rw[on hsz,Bool.and_false];exact HK
 refine Ll F.slot_list_extend #[_,e,rfl] F.entry_list_extend (F.args_list_extend_2 _ _)
  (NK l its.toArray n b its2.toArray n2 hlong (by rw[HH]; omega) ∅) #[e,e2,?_]
 refine#[.non,_,I.lset (its':=its++its2) hH e (by simp) (r.append r2) ?_,rfl,q]
 rw[Hk];omega
noncomputable def B0:V->Hg V->Hp->VK->Prop:=λx vs H Q=>∃l xs i k y,x=.ref l/\vs=[.int i]/\H l=gV (.lst xs)/\-(2 ^ 63)<=i/\i < 2 ^ 63/\seqIndex? i xs.length=gV k/\xs[k]?=gV y/\Q y (bQ H l (.lst (xs.eraseIdx k)))
theorem u6:F2 X "list.pop" B0:=by
 intro pins s σ H x vs v us Q I rx rv h;obtain⟨l,xs,i,k,y,rfl,rfl,hH,h1,h2,hk,hy,q⟩:=h;cases rx;obtain⟨u,rfl,ru⟩:=rv.one;obtain⟨t,rfl⟩:=ru;obtain⟨z,its,n,r,hl,e⟩:=I.lstM hH;obtain⟨w,hw,rw'⟩:=r.get hy;refine Ll F.slot_list_pop #[_,e,rfl] F.entry_list_pop (F.args_list_pop_2 _ _)
  (Ps l its.toArray n i t k w (OC h1 h2) (by rw[HH,<- hl]; exact hk) (by rw[<- Jp]; exact hw) (by rw[HH]; omega)) #[e,?_]
 refine#[y,_,I.lset (its':=its.eraseIdx k) hH e ?_ (r.eraseIdx k) ?_,rw',q]
 ·show its.toArray.eraseIdxIfInBounds k=(its.eraseIdx k).toArray;rw[List.eraseIdxIfInBounds_toArray]
 ·have:=lC xs k;omega
noncomputable def F3:R2:=λx y H Q=>∃l b xs zs,x=.ref l/\y=.ref b/\H l=gV (.lst xs)/\H b=gV (.lst zs)/\xs.length+zs.length<=sizeLine/\∀p,H p=td->Q (.ref p) (bQ H p (.lst (xs++zs)))
theorem B1:OpR X (binaryOp .Add) F3:=by
 intro pins s σ H x y v u Q I rx ry h;obtain⟨l,b,xs,zs,rfl,rfl,hH,hB,hz,q⟩:=h;cases rx;cases ry;obtain⟨z,its,n,r,hl,e⟩:=I.lstM hH;obtain⟨z2,its2,n2,r2,hl2,e2⟩:=I.lstM hB;refine PySem.P.add_list e e2 ?_ (by rw[HH,HH]; omega)
 have ea:its.toArray++its2.toArray=(its++its2).toArray:=by simp
 rw[ea];exact#[.ref _,_,I.lnew (t':=s.toks) (r.append r2) (by rw[Hk]; omega),rfl,q _ I.fresh]
noncomputable def F4:R2:=λx y H Q=>∃l k xs,x=.ref l/\y=.int k/\H l=gV (.lst xs)/\-(2 ^ 63)<=k/\k < 2 ^ 63/\xs.length*k.toNat<=sizeLine/\
 ∀p,H p=td->Q (.ref p) (bQ H p (.lst (Ih k.toNat xs).flatten))
theorem yO {α:Type}(xs:Hg α)(k:Ho):(Ih k xs).flatten.length=k*xs.length:=by
 induction k with
 | zero=>simp
 | succ k ih=>rw[Jn,Ke,Hk,ih,Lz,Pe]
theorem B2:OpR X (binaryOp .Mult) F4:=by
 intro pins s σ H x y v u Q I rx ry h;obtain⟨l,k,xs,rfl,rfl,hH,h1,h2,hz,q⟩:=h;cases rx;obtain⟨t,rfl⟩:=ry;obtain⟨z,its,n,r,hl,e⟩:=I.lstM hH;have hlen:its.toArray.size*k.toNat<=sizeLine:=by rw[HH,<- hl]; exact hz
 have hcap:¬ its.toArray.size*k.toNat > (2 ^ 63 - 1) / 8:=by
  have:(sizeLine:Ho)<=(2 ^ 63 - 1) / 8:=by decide
  omega
 have hfit:¬ (!OD k)=true:=by
  rw[OC h1 h2];exact HK
 have hlong:¬ Ki (its.toArray.size*k.toNat)=true:=by
  rw[on hlen];exact HK
 have hnew:OB (λx1 x2=>x1++x2) #[] (Ih (if its.toArray.isEmpty=true then 0 else k.toNat) its.toArray)=(Ih k.toNat its).flatten.toArray:=by
  have f0:∀m:Ho,OB (λx1 x2=>x1++x2) #[] (Ih m its.toArray)=(Ih m its).flatten.toArray:=λm=>by
   have:=lD its m [];rw[Mw]at this;exact this
  rw[f0];cases its with
  | nil=>simp
  | cons a r'=>rw[Iv (by simp)]
 refine wpAny_binaryOp_repeat_ref (T:="list") (U:="int") #v[] #[_,e,rfl] (λs'=>OA s' k t) noFill_list_mul F.fills_int_mul F.slot_int_rmul repeat_list F.slot_int_index.lookup
  (Ll F.slot_int_rmul (OA s k t) F.entry_int_rmul (F.args_int_rmul_2 _ _) (int___rmul___int_list k t l its.toArray n)
   #[e,rfl,#[_,e,rfl],Ll F.slot_list_mul #[_,e,rfl] F.entry_list_mul (F.args_list_mul_2 _ _) (Nx l its.toArray n k t hfit hcap hlong) #[e,?_]])
 rw[hnew];exact#[.ref _,_,I.lnew (t':=s.toks) (r.rep k.toNat) (by rw[yO,Pf]; exact hz),rfl,q _ I.fresh]
end
section
variable{X:Cx}{pins:Hg (Ht×Jo)}{σ:St}{H:Hp}{s:Hm}{a:Ht}{y v:V}{u r:Hj}{o:Hn V}{A:Iu}{E:Hj->Hm->Prop}
theorem Inv.big (I:Inv X pins σ H s):sysModules < s.heap.objs.size:=by
 have h:mainGlobals < s.heap.objs.size:=(I.mod.glob.keeps I.bk).lt;exact JT #v[] h
theorem mM {h':IG}{t':Ho}{ob:HO}(I:Inv X pins σ H s)(mu:Dq (H a))(hs:Kc a s.heap h')(he:∃q,h'.get? a=gV q)(new:ObjOk X.prog X.w (bQ H a ob) h' a ob) :
  Inv X pins σ (bQ H a ob) { s with heap:=h',toks:=t' }:=
 I.write (x:=a) (e:=a) mu (.inl rfl) (λb q hb z=>(hs.2 b hb).trans z) he new
end
noncomputable abbrev VV:Hg (V×V)->Hg (Hj×Hj)->Prop:=Mg λp q=>RelV p.1 q.1/\RelV p.2 q.2
end L2
namespace Att
open PySem PySem.W PySem.Calls PyProof.Rows
theorem jr {P:No}{h:IG}:∀(ns:Hg Hv) (vs:Hg Hj),WellAll P h vs (ns.map WData.int)->Ov vs ns:=by
 intro ns
 induction ns with
 | nil=>
  intro vs w;rw[NL]at w;cases w;exact .nil
 | cons n ns ih=>
  intro vs w;rw[IZ]at w;cases w with
  | cons a b=>
   cases a;exact .cons _ _ (ih _ b)
theorem sY {l:OpenLaw}{n:Ho}(hn:l.most=gV n){P:No}{h:IG}{args:Hg WData}{vals:Hg Hj}
  (hpre:l.row.toRowW.claim.pre args=true) (hwl:WellAll P h vals args) :
  ∃a vs ns,vals=[IB a]/\args=[WData.list (ns.map WData.int)]/\h.get? a=gV { cls:=.type "list",data:=.seq vs.toArray }/\Ov vs ns/\ns.length<=n:=by
 have hsh:WShape.hasAll [] args [.list .int]=true:=(pre_splitW hpre).1;have hc:l.pre.holds [] { args:=args }=true:=(pre_splitW hpre).2;obtain⟨d,r,rfl,h1,h2⟩:=hasAllW_cons hsh;obtain rfl:=hasAllW_nil h2;obtain⟨xs,rfl,h3⟩:=hasW_list h1;obtain⟨ns,rfl⟩:=items_int h3;have hlen:ns.length<=n:=by
  unfold OpenLaw.pre at hc;have h4:(WTm.not (.lt (.lit (.int (n:Hv))) (.len (.arg 0)))).holds [] { args:=[.list (ns.map .int)] }=true:=by
   have h4:=(holds_andW hc).1;rw[hn]at h4;exact h4
  have h5:=condW_of h4 (w_not (w_lt w_lit (w_len_list (w_arg rfl))));rw[Hh]at h5;refine Nat.le_of_not_lt λq=>?_
  have q':(n:Hv) < ((ns.length:Ho):Hv):=∅
  first
   | (rw[IW q']at h5; exact absurd h5 #v[])
   | (simp at h5; omega)
 cases hwl with
 | cons w1 w2=>
  cases w2;cases w1 with
  | list ho hall=>exact#[_,_,ns,rfl,rfl,ho,jr ns _ hall,hlen]
theorem sZ (l:OpenLaw)(args:Hg WData):l.row.toRowW.claim.post args (.bool true) args=true:=
 postW_of (r:=l.row.toRowW) (X:=(true==true))
  (show WShape.has [] (.bool true) .bool=true by first|rfl|decide|simp[WShape.has,WShape.arms,WShape.armsAll])
  (show(WTm.eq .res (.lit (.bool true))).value [] { args:=args,res:=gV (.bool true),after:=args }=gV (.bool (true==true))from w_eq_bool (w_res rfl) w_lit) rfl
theorem attach_call {l:OpenLaw}{n:Ho}{q:Ik}{loose:Hg HJ}{XP:(HJ->Hn Hj)->IG->Prop}{YP:Ix->IG->Prop}{d:DefRec}
  (hn:l.most=gV n) (hdf:d.params.defaults=[])
  (call:∀(w:Ix) (s₀ s₁:Hm) (mg mb:HJ->Hn Hj) (fa:Ht) (o:Jo) (pm cd doc:Hj) (a:Ht) (vs:Hg Hj) (ns:Hg Hv),
   Ground q loose [] XP w s₀ mg mb s₁.heap->YP w s₁.heap->
   s₁.heap.get? fa=gV o->o.data=.func (docDef d.name d.params d.body d.scope pm cd doc)->s₁.heap.CodeRec cd d.name->mg d.name=gV (.ref fa)->
   s₁.heap.get? a=gV { cls:=.type "list",data:=.seq vs.toArray }->Ov vs ns->ns.length<=n->s₁.gens=#[]->
   codeAny (model l.prog w) callerA (.call (.ref fa) #[[.ref a],[]]) (λr s'=>r=.ok (.ret (.bool true))/\OldK s₁.heap s'.heap/\s'.os=s₁.os/\LU s'.gens) s₁) :
  WalkO q loose XP YP l.row.toRowW d [] (λf vs=>OE f vs):=by
 intro w s₀ s₁ mg mb G Y fa o pm cd doc dV kV ho hd hcd hD hmg hg args vals as hpre hlay hrd hwl hlo;obtain rfl:dV=.none:=Dflts.none hD hdf;obtain rfl:kV=.none:=Dflts.noKw hD;obtain⟨a,vs,ns,rfl,rfl,hobj,hints,hlen⟩:=sY hn hpre hwl;refine enter_call (Mj (call w s₀ s₁ mg mb fa o pm cd doc a vs ns G Y ho (fd_plain hd) hcd hmg hobj hints hlen hg) λr s' hq=>?_)
 obtain⟨rfl,h2,h3,h4⟩:=hq;exact#[.inl #[.bool true,.bool true,[],rfl,λ_=>rfl,.bool true,sZ l _,λ_=>#[PY,λ_ hm=>(nomatch hm)]],h2,h3,h4]
end Att
namespace L2
open PySem PySem.Spec PyProof.Rows
theorem lE:∀ {vs:Hg Hj} {ns:Hg Hv},Ov vs ns->Vals (ns.map V.int) vs
 | _,_,.nil=>.nil
 | _,_,.cons n t h=>.cons #[t,rfl] (lE h)
noncomputable def u7 (H:Hp):Prop:=∀b,H b=td\/∃o xs,H b=gV (.frz o (.lst xs))
theorem u8 {P:Ik}{w:Ix}{K:HA}{mg mb:HJ->Hn Hj}{CX:uU}{k:Ho}{fa a:Ht}{fd:J0}{x:HJ}{sp:Sp}{s₁:Hm}{vs:Hg Hj}{ns:Hg Hv}
  (KX:K.In s₁.heap) (hns:s₁.heap.Ns mainGlobals mg) (hb:s₁.heap.Ns builtinsNs mb) (hbb:∀x:HJ,x≠"__name__"->mb x=bootBuiltins x) (hlim:s₁.heap.NoLimit) (hg:s₁.gens=#[])
  (ha:s₁.heap.get? a=gV { cls:=.type "list",data:=.seq vs.toArray }) (hi:Ov vs ns) (hl:ns.length<=sizeLine) (hr:Room k callerA)
  (F:∀base:IG,K.In base->base.Ns mainGlobals mg->FnOk P w K mg base CX k fa fd [x] sp) (hbind:∀(s:Hm) (u:Hj),ND s fd #[[u],[]] [(x,u)])
  (hsp:∀H:Hp,u7 H->SqL K H a (ns.map V.int)->sp [.ref a] H (λv _=>v=.bl true) λ_ _ _=>IV)
  (hCX:∀H e s',CX [] H s₁ (λ_ _ _=>IV) e s'->IV) :
  codeAny (model P w) callerA (.call (.ref fa) #[[.ref a],[]]) (λr s'=>r=.ok (.ret (.bool true))/\OldK s₁.heap s'.heap/\s'.os=s₁.os/\LU s'.gens) s₁:=by
 have rv:=lE hi;have lenV:=hi.length;have core:∀H:Hp,u7 H->SqL K H a (ns.map V.int)->HOk P w H s₁.heap->(∀b,H b≠td->b=a)->(H a≠td->K.lookup a=td)->
   codeAny (model P w) callerA (.call (.ref fa) #[[.ref a],[]]) (λr s'=>r=.ok (.ret (.bool true))/\OldK s₁.heap s'.heap/\s'.os=s₁.os/\LU s'.gens) s₁:=by
  intro H hO hS hok hA hK;have base_of:∀ {b:Ht} {o:Jo},s₁.heap.get? b=gV o->H b=td->(mE s₁.heap H).get? b=gV o:=λe n=>uG e n
  have noA:∀ {b:Ht} {o:Jo} {es:IC JN} {ep:Ho},s₁.heap.get? b=gV o->o.data=.dict es ep->H b=td:=λ{b o es ep} e d=>by
   cases q:H b with
   | none=>rfl
   | some u=>
    have e':b=a:=hA b (by rw[q]; simp)
    subst e';rw[ha]at e; cases e
    have d':Data.seq vs.toArray _=Data.dict es ep:=d;cases d'
  have nsK:∀ {b:Ht} {m:HJ->Hn Hj},s₁.heap.Ns b m->(mE s₁.heap H).Ns b m:=λ{b m} #[o,es,ep,e,d,r]=>#[o,es,ep,base_of e (noA e d),d,r]
  have hKb:K.In (mE s₁.heap H):=λb o e=>base_of (KX b o e) (by
   cases q:H b with
   | none=>rfl
   | some u=>
    have e':b=a:=hA b (by rw[q]; simp)
    subst e';rw[hK (by rw[q]; simp)]at e; cases e)
  have hM:Mod K mg (mE s₁.heap H):=#[hKb,nsK hns,#[mb,nsK hb,hbb],let ⟨mc,h1,h2⟩:=hlim; #[mc,nsK h1,h2]]
  have e0:Env0 P w K mg (mE s₁.heap H) callerA [] s₁ H:=#[rfl,hM,λb o e=>yn e,Nat.le_of_eq (sN _ _),trivial,λb hb=>absurd (show b∈([]:Hg Ht)from hb) (by simp),hok,.of_eq hg]
  refine Mj ((F _ hKb (nsK hns)).run callerA [] s₁ H #[[.ref a],[]] [.ref a] [.ref a] _ _ hr e0 (hbind s₁ (.ref a)) #v[rfl] (hsp H hO hS)) λr s' h=>?_
  cases r with
  | error e=>exact(hCX H e s' h).elim
  | ok fl=>
   cases fl with
   | next=>exact IV.elim h
   | brk=>exact IV.elim h
   | cont=>exact IV.elim h
   | ret u=>
    obtain⟨v,H',os,bare,un,hok',r',q⟩:=h;have q':v=.bl true:=q;subst q';obtain rfl:u=KD true:=r';refine#[rfl,OldK.of_keep λb o e=>?_,os,bare]
    cases q:H b with
    | none=>exact un.keep b o e q (by intro z; exact absurd (show b∈([]:Hg Ht)from z) (by simp)) (by simp)
    | some u=>
     rcases hO b with z|⟨ob,xs,z⟩
     ·rw[q]at z; cases z
     ·have z2:=un.frzs b ob _ z;obtain⟨e1,_⟩:=hok b _ z;obtain⟨e2,_⟩:=hok' b _ z2;rw[e]at e1; cases e1
      exact e2
 cases hk:K.lookup a with
 | some o=>
  have e:=KX a o hk;rw[ha]at e;cases e;refine core (λ_=>td) (λ_=>.inl rfl) (.inr #[_,vs.toArray,_,hk,rfl,rfl,rfl,by rw[HH,lenV]; exact hl,by simpa using rv]) (λb u z=>by have z':(td:Hn HO)=gV u:=z; cases z') (λb z=>absurd rfl z) λz=>absurd rfl z
 | none=>
  refine core (λb=>if b=a then gV (.frz { cls:=.type "list",data:=.seq vs.toArray } (.lst (ns.map V.int)))else td) (λb=>?_) (.inl (.inr #[{ cls:=.type "list",data:=.seq vs.toArray },HV rfl])) (λb u z=>?_) (λb z=>?_) λ_=>hk
  ·by_cases hb:b=a
   ·exact .inr #[_,_,HV hb]
   ·exact .inl (Iv hb)
  ·by_cases hb:b=a
   ·have z':=(HV hb).symm.trans z;cases z';subst hb;exact#[ha,by rw[Hh]; exact hl,vs,_,rv,ha]
   ·have z':=(Iv hb).symm.trans z;cases z'
  ·by_cases hb:b=a
   ·exact hb
   ·exact absurd (Iv hb) z
theorem yP {l:Mx}{n k:Ho}{q:Ik}{loose:Hg HJ}{XP:(HJ->Hn Hj)->IG->Prop}{YP:Ix->IG->Prop}{d:DefRec}{K:No->HA}{CX:Ix->uU}{sp:Ix->Sp}{x:HJ}
  (hn:l.most=gV n) (hn2:n<=sizeLine) (hdf:d.params.defaults=[]) (hr:Room k callerA)
  (hY:∀(w:Ix) (h:IG),YP w h->(K w.params).In h)
  (F:∀(w:Ix) (mg:HJ->Hn Hj) (fa:Ht) (h:IG),(K w.params).In h->h.Ns mainGlobals mg->mg d.name=gV (.ref fa)->
   ∃fd:J0,(∀(s:Hm) (u:Hj),ND s fd #[[u],[]] [(x,u)])/\
    ∀base:IG,(K w.params).In base->base.Ns mainGlobals mg->FnOk l.prog w (K w.params) mg base (CX w) k fa fd [x] (sp w))
  (hsp:∀(w:Ix) (H:Hp) (a:Ht) (ns:Hg Hv),ns.length<=n->u7 H->SqL (K w.params) H a (ns.map V.int)->sp w [.ref a] H (λv _=>v=.bl true) λ_ _ _=>IV)
  (hCX:∀(w:Ix) (H:Hp) (s:Hm) (e:Hj) (s':Hm),CX w [] H s (λ_ _ _=>IV) e s'->IV) :
  OZ q loose XP YP l.row.toRowW d [] (λf vs=>OE f vs):=by
 refine Att.attach_call hn hdf λw s₀ s₁ mg mb fa o pm cd doc a vs ns G Y ho hd hcd hmg hobj hints hlen hg=>?_
 have KX:=hY w _ Y;obtain⟨fd,hb,hF⟩:=F w mg fa _ KX G.T.g hmg;exact u8 KX G.T.g G.T.b G.T.builtins G.T.nolimit hg hobj hints (HZ hlen hn2) hr hF hb (λH hO hS=>hsp w H a ns hlen hO hS) λH e s'=>hCX w H s₁ e s'
noncomputable def dI (s:Kk):Arguments:=match s with
 | .FunctionDef _ a _ _ _ _ _ _ _ _=>a
 | _=>{ posonlyargs:=[],args:=[],vararg:=td,kwonlyargs:=[],kw_defaults:=[],kwarg:=td,defaults:=[] }
noncomputable def cz (s:Kk):Hg Kk:=match s with
 | .FunctionDef _ _ b _ _ _ _ _ _ _=>b
 | _=>[]
noncomputable def aS (s:Kk):Kz:=match s with
 | .FunctionDef _ _ _ _ _ _ sc _ _ _=>sc
 | _=>{ kind:=.function,names:=[],isGenerator:=false,isCoroutine:=false }
noncomputable abbrev uE:uU:=λ_ _ _ _ _ _=>IV
noncomputable abbrev E0:XK:=λ_ _ _=>IV
theorem AJ {X:Cx}:mG uE X E0:=λ_ _ _ _ _ _ _ h=>h.elim
structure Fun (K:HA)(x qual:HJ)(st:Kk)(f:Ht)(fd:J0):Prop where
 ex:∃(oc:Hj) (od:Hn Ht) (kV doc pm:Hj) (an:Hn Ht) (cdv ct:Hj) (osl:IC (Hn Hj)),
  fd=JH x qual (dI st) (cz st) (aS st) .none kV doc pm an cdv ct/\K.lookup f=gV #[oc,od,.func fd,osl]/\Ko K cdv qual=true
 kp:Jd K (.ref f)=true
section
variable{P:Ik}{w:Ix}{K:HA}{mg:HJ->Hn Hj}{base:IG}
theorem Fun.ok {x qual:HJ}{st:Kk}{f:Ht}{fd:J0}{N ps:Hg HJ}{k:Ho}{sp:Sp}(F:Fun K x qual st f fd)(S:FnScope N ps (aS st))(len:∀vs H Q E,sp vs H Q E->vs.length=ps.length)
  (hbody:∀(cdv:Hj) (A:Iu) (outer:Hg Nz) (s:Hm) (H:Hp) (vs:Hg V) (Q:VK) (E:XK),Room k (A.deeper (envOfC qual (aS st) s.heap.objs.size f cdv))->sp vs H Q E->
   ∃t,PSs (pW uE P w K mg base N qual (aS st) f cdv A outer s H E).nox (cz st) t/\t { nx:=λ_ H'=>Q .non H',rt:=Q } (fK N vs) H):FnOk P w K mg base uE (k+1) f fd ps sp:=by
 obtain⟨oc,od,kV,doc,pm,an,cdv,ct,osl,rfl,lk,hcd⟩:=F.ex;refine DQ lk hcd S len λA outer s H vs Q E hr hsp=>?_
 obtain⟨t,h,q⟩:=hbody cdv A outer s H vs Q E hr hsp;exact#[t,h.nox,q]
theorem Fun.binds {x qual:HJ}{st:Kk}{f:Ht}{fd:J0}{ps:Hg HJ}(F:Fun K x qual st f fd)
  (h:∀(kV doc pm:Hj) (an:Hn Ht) (cdv ct:Hj) (us:Hg Hj),us.length=ps.length->bindArgs (JH x qual (dI st) (cz st) (aS st) .none kV doc pm an cdv ct) #[us,[]]=pure (ps.zip us)):Binds K fd ps []:=by
 obtain⟨oc,od,kV,doc,pm,an,cdv,ct,osl,rfl,lk,hcd⟩:=F.ex;exact .all (h kV doc pm an cdv ct)
theorem u9 {x qual:HJ}{st:Kk}{f:Ht}{oc:Hj}{od an:Hn Ht}{osl:IC (Hn Hj)}{kV doc pm cdv ct:Hj}(l:K.lookup f=gV #[oc,od,.func (JH x qual (dI st) (cz st) (aS st) .none kV doc pm an cdv ct),osl])
  (c:Ko K cdv qual=true) (k:Jd K (.ref f)=true):Fun K x qual st f (JH x qual (dI st) (cz st) (aS st) .none kV doc pm an cdv ct):=#[#[oc,od,kV,doc,pm,an,cdv,ct,osl,rfl,l,c],k]
end
end L2
namespace Mi
open PySem PySem.Spec PyProof.Rows L2
inductive W where
 | non|bl (b:HU)|int (i:Hv)|str (x:HJ)|tup (xs:Hg W)|ref (i:Ho)
inductive T where
 | int (i:Hv)|str (x:HJ)|tup (xs:Hg T)
mutual
noncomputable def T.beq:T->T->HU
 | .int i,.int j=>i==j
 | .str x,.str y=>x==y
 | .tup xs,.tup ys=>T.beqs xs ys
 | _,_=>false
noncomputable def T.beqs:Hg T->Hg T->HU
 | [],[]=>true
 | x::xs,y::ys=>T.beq x y&&T.beqs xs ys
 | _,_=>false
end
mutual
theorem T.beq_iff:∀x y:T,T.beq x y=true↔x=y
 | .int i,.int j=>by simp[T.beq]
 | .str x,.str y=>by simp[T.beq]
 | .tup xs,.tup ys=>by simp[T.beq,T.beqs_iff xs ys]
 | .int _,.str _|.int _,.tup _|.str _,.int _|.str _,.tup _|.tup _,.int _|.tup _,.str _=>by simp[T.beq]
theorem T.beqs_iff:∀xs ys:Hg T,T.beqs xs ys=true↔xs=ys
 | [],[]=>by simp[T.beqs]
 | x::xs,y::ys=>by simp[T.beqs,T.beq_iff x y,T.beqs_iff xs ys]
 | [],_::_|_::_,[]=>by simp[T.beqs]
end
noncomputable instance:KC T:=λx y=>decidable_of_iff (T.beq x y=true) (T.beq_iff x y)
mutual
noncomputable def T.w:T->W
 | .int i=>.int i
 | .str x=>.str x
 | .tup xs=>.tup (T.ws xs)
noncomputable def T.ws:Hg T->Hg W
 | []=>[]
 | x::xs=>T.w x::T.ws xs
end
mutual
noncomputable def W.t:W->Hn T
 | .int i=>gV (.int i)
 | .str x=>gV (.str x)
 | .tup xs=>(W.ts xs).map .tup
 | _=>td
noncomputable def W.ts:Hg W->Hn (Hg T)
 | []=>gV []
 | x::xs=>match W.t x,W.ts xs with
  | some y,gV ys=>gV (y::ys)
  | _,_=>td
end
mutual
theorem W.t_w:∀ {w:W} {k:T},W.t w=gV k->k.w=w
 | .int i,_,h=>by cases h; rfl
 | .str x,_,h=>by cases h; rfl
 | .tup xs,_,h=>by
  simp only[W.t,Hl]at h;obtain⟨ks,h1,h2⟩:=h;subst h2;simp only[T.w,W.ts_w h1]
 | .non,_,h|.bl _,_,h|.ref _,_,h=>by cases h
theorem W.ts_w:∀ {ws:Hg W} {ks:Hg T},W.ts ws=gV ks->T.ws ks=ws
 | [],_,h=>by cases h; rfl
 | w::ws,_,h=>by
  simp only[W.ts]at h;split at h
  ·rename_i y ys h1 h2;cases h;simp only[T.ws,W.t_w h1,W.ts_w h2]
  ·cases h
end
mutual
theorem T.w_t:∀k:T,W.t k.w=gV k
 | .int _=>rfl
 | .str _=>rfl
 | .tup xs=>by simp only[T.w,W.t,T.ws_ts xs,Iq]
theorem T.ws_ts:∀ks:Hg T,W.ts (T.ws ks)=gV ks
 | []=>rfl
 | x::xs=>by simp only[T.ws,W.ts,T.w_t x,T.ws_ts xs]
end
mutual
noncomputable def T.depth:T->Ho
 | .tup xs=>T.depths xs+1
 | _=>0
noncomputable def T.depths:Hg T->Ho
 | []=>0
 | x::xs=>max (T.depth x) (T.depths xs)
end
mutual
noncomputable def T.draws:T->Ho
 | .tup xs=>T.drawss xs+1
 | _=>1
noncomputable def T.drawss:Hg T->Ho
 | []=>0
 | x::xs=>T.draws x+T.drawss xs
end
mutual
noncomputable def oo (wd:Ix):T->Hv
 | .int i=>hashInt i
 | .str x=>hashStr wd x
 | .tup xs=>reduceHash (LM (jK wd xs))
noncomputable def jK (wd:Ix):Hg T->Hg Hv
 | []=>[]
 | x::xs=>oo wd x::jK wd xs
end
noncomputable def T.isTup:T->HU
 | .tup _=>true
 | _=>false
noncomputable def bg:Ho:=6
inductive O where
 | lst (xs:Hg W)
 | fro (xs:Hg W)
 | rng (lo hi:Hv)
 | dic (kvs:Hg (T×W))
 | frd (kvs:Hg (T×W))
noncomputable abbrev aa:=Hg O
noncomputable abbrev Fm:=Hg (Hn W)
section
variable (K:HA) (A:Hg Ht) (H:Hp)
mutual
inductive Rel:W->V->Prop
 | non:Rel .non .non
 | bl {b:HU}:Rel (.bl b) (.bl b)
 | int {i:Hv}:Rel (.int i) (.int i)
 | str {x:HJ}:Rel (.str x) (.str x)
 | tup {ws:Hg W} {a:Ht} {vs:Hg V}:SqT K H a vs->RelL ws vs->Rel (.tup ws) (.ref a)
 | ref {i:Ho} {a:Ht}:A[i]?=gV a->Rel (.ref i) (.ref a)
inductive RelL:Hg W->Hg V->Prop
 | nil:RelL [] []
 | cons {w:W} {v:V} {ws:Hg W} {vs:Hg V}:Rel w v->RelL ws vs->RelL (w::ws) (v::vs)
end
end
section
variable{K:HA}{A A' A'':Hg Ht}{H H' H'':Hp}
structure Ext (K:HA)(A:Hg Ht)(H:Hp)(A':Hg Ht)(H':Hp):Prop where
 ad:∀(i:Ho) (a:Ht),A[i]?=gV a->A'[i]?=gV a
 tp:∀(a:Ht) (vs:Hg V),SqT K H a vs->SqT K H' a vs
 fz:∀(a:Ht) (o:Jo) (u:HO),H a=gV (.frz o u)->H' a=gV (.frz o u)
theorem Ext.refl:Ext K A H A H:=#[λ_ _ h=>h,λ_ _ h=>h,λ_ _ _ h=>h]
theorem Ext.trans (e:Ext K A H A' H')(f:Ext K A' H' A'' H''):Ext K A H A'' H'':=#[λi a h=>f.ad i a (e.ad i a h),λa vs h=>f.tp a vs (e.tp a vs h),λa o u h=>f.fz a o u (e.fz a o u h)]
mutual
theorem Rel.mono (e:Ext K A H A' H'):∀ {w:W} {v:V},Rel K A H w v->Rel K A' H' w v
 | _,_,.non=>.non
 | _,_,.bl=>.bl
 | _,_,.int=>.int
 | _,_,.str=>.str
 | _,_,.tup h r=>.tup (e.tp _ _ h) (RelL.mono e r)
 | _,_,.ref h=>.ref (e.ad _ _ h)
theorem RelL.mono (e:Ext K A H A' H'):∀ {ws:Hg W} {vs:Hg V},RelL K A H ws vs->RelL K A' H' ws vs
 | _,_,.nil=>.nil
 | _,_,.cons r t=>.cons (Rel.mono e r) (RelL.mono e t)
end
theorem RelL.length:∀ {ws:Hg W} {vs:Hg V},RelL K A H ws vs->ws.length=vs.length
 | _,_,.nil=>rfl
 | _,_,.cons _ t=>by simp[RelL.length t]
theorem RelL.get:∀ {ws:Hg W} {vs:Hg V} {i:Ho} {w:W},RelL K A H ws vs->ws[i]?=gV w->∃v,vs[i]?=gV v/\Rel K A H w v
 | _,_,_,_,.nil,e=>by simp at e
 | _,_,0,_,.cons r _,e=>by simp at e; subst e; exact#[_,rfl,r]
 | _,_,i+1,w,.cons _ t,e=>by
  obtain⟨u,h1,h2⟩:=RelL.get (i:=i) (w:=w) t (by simpa using e)
  exact#[u,by simpa using h1,h2]
theorem RelL.append:∀ {xs ys:Hg W} {us ws:Hg V},RelL K A H xs us->RelL K A H ys ws->RelL K A H (xs++ys) (us++ws)
 | _,_,_,_,.nil,s=>s
 | _,_,_,_,.cons r t,s=>.cons r (RelL.append t s)
theorem RelL.take:∀ {xs:Hg W} {us:Hg V} (n:Ho),RelL K A H xs us->RelL K A H (xs.take n) (us.take n)
 | _,_,0,_=>.nil
 | _,_,_+1,.nil=>.nil
 | _,_,n+1,.cons r t=>.cons r (RelL.take n t)
theorem RelL.drop:∀ {xs:Hg W} {us:Hg V} (n:Ho),RelL K A H xs us->RelL K A H (xs.drop n) (us.drop n)
 | _,_,0,r=>r
 | _,_,_+1,.nil=>.nil
 | _,_,n+1,.cons _ t=>RelL.drop n t
theorem RelL.set {x:W}{u:V}(r:Rel K A H x u):∀ {xs:Hg W} {us:Hg V} (i:Ho),RelL K A H xs us->RelL K A H (xs.set i x) (us.set i u)
 | _,_,_,.nil=>.nil
 | _,_,0,.cons _ t=>.cons r t
 | _,_,i+1,.cons q t=>.cons q (RelL.set r i t)
theorem RelL.rep {xs:Hg W}{us:Hg V}(h:RelL K A H xs us):∀k:Ho,RelL K A H (Ih k xs).flatten (Ih k us).flatten
 | 0=>.nil
 | k+1=>by
  rw[Jn,Jn,Ke,Ke];exact RelL.append h (RelL.rep h k)
theorem RelL.eraseIdx:∀ {xs:Hg W} {us:Hg V} (i:Ho),RelL K A H xs us->RelL K A H (xs.eraseIdx i) (us.eraseIdx i)
 | _,_,_,.nil=>.nil
 | _,_,0,.cons _ t=>t
 | _,_,i+1,.cons r t=>.cons r (RelL.eraseIdx i t)
noncomputable def FroL (K:HA)(H:Hp)(a:Ht)(vs:Hg V):Prop:=
 (∃o,H a=gV (.frz o (.lst vs)))\/
  ∃(o:Jo) (its:IC Hj) (n:Ho),K.lookup a=gV o/\o.cls=.type "list"/\o.dict=td/\o.data=.seq its n/\its.size<=sizeLine/\Vals vs its.toList
theorem FroL.sq {a:Ht}{vs:Hg V}(h:FroL K H a vs):SqL K H a vs:=by
 rcases h with⟨o,h⟩|h
 ·exact .inl (.inr #[o,h])
 ·exact .inr h
noncomputable def vc (wd:Ix)(x:T×Ht×Hj):JN:=#[oo wd x.1,.ref x.2.1,x.2.2]
noncomputable def DicAt (wd:Ix)(a:Ht)(xs:Hg (T×Ht×Hj))(h:IG):Prop:=
 xs.length<=sizeLine/\(a==sysModules)=false/\(xs.map (·.1)).Nodup/\∃o es ep,h.get? a=gV o/\o.ExactDict/\o.data=.dict es ep/\es.toList=xs.map (vc wd)
noncomputable def d0 (wd:Ix)(a:Ht)(xs:Hg (T×Ht×Hj)):HO:=.ext (DicAt wd a xs)
noncomputable def KRel (K:HA)(A:Hg Ht)(H:Hp):Hg (T×W)->Hg (T×Ht×Hj)->Prop:=
 Mg λ(p:T×W) (q:T×Ht×Hj)=>p.1=q.1/\p.1.isTup=true/\p.1.depth<=bg/\Rel K A H p.1.w (.ref q.2.1)/\∃v,Rel K A H p.2 v/\RelV v q.2.2
theorem KRel.mono (e:Ext K A H A' H'){kvs:Hg (T×W)}{xs:Hg (T×Ht×Hj)}(h:KRel K A H kvs xs):KRel K A' H' kvs xs:=
 Paired.mapP h λ_ _ #[h1,h2,h3,h4,v,h5,h6]=>#[h1,h2,h3,h4.mono e,v,h5.mono e,h6]
variable{wd:Ix}
noncomputable def ObjRel (wd:Ix)(K:HA)(A:Hg Ht)(H:Hp)(a:Ht):O->Prop
 | .lst ws=>∃vs,H a=gV (.lst vs)/\RelL K A H ws vs
 | .fro ws=>∃vs,FroL K H a vs/\RelL K A H ws vs
 | .rng lo hi=>H a=gV (.rng lo hi)
 | .dic kvs=>∃xs,H a=gV (d0 wd a xs)/\KRel K A H kvs xs
 | .frd kvs=>∃o xs,H a=gV (.frz o (d0 wd a xs))/\KRel K A H kvs xs
noncomputable def O.mut:O->HU
 | .fro _=>false
 | .rng _ _=>false
 | .frd _=>false
 | _=>true
structure StoreOk (wd:Ix)(K:HA)(A:Hg Ht)(H:Hp)(S:aa):Prop where
 len:A.length=S.length
 nd:∀(i j:Ho) (a:Ht) (o u:O),S[i]?=gV o->o.mut=true->S[j]?=gV u->u.mut=true->A[i]?=gV a->A[j]?=gV a->i=j
 obj:∀(i:Ho) (o:O) (a:Ht),S[i]?=gV o->A[i]?=gV a->ObjRel wd K A H a o
noncomputable def EnvRel (K:HA)(A:Hg Ht)(H:Hp)(ρ:Fm)(σ:L2.St):Prop:=
 ρ.length=σ.length/\∀(i:Ho) (w:W),ρ[i]?=gV (gV w)->∃v,σ[i]?=gV (gV v)/\Rel K A H w v
theorem EnvRel.mono {ρ:Fm}{σ:L2.St}(e:Ext K A H A' H')(h:EnvRel K A H ρ σ):EnvRel K A' H' ρ σ:=
 #[h.1,λi w q=>let ⟨v,a,b⟩:=h.2 i w q; #[v,a,b.mono e]]
theorem EnvRel.set {ρ:Fm}{σ:L2.St}{w:W}{v:V}(h:EnvRel K A H ρ σ)(r:Rel K A H w v)(i:Ho):EnvRel K A H (ρ.set i (gV w)) (σ.set i (gV v)):=by
 refine#[by simp[h.1],λj w' q=>?_]
 rw[JA]at q ⊢
 by_cases e:i=j
 ·subst e;rw[HV rfl]at q ⊢
  by_cases hl:i < ρ.length
  ·rw[HV hl]at q;rw[HV (h.1 ▸ hl)];cases q;exact#[v,rfl,r]
  ·rw[Iv hl]at q; cases q
 ·rw[Iv e]at q ⊢;exact h.2 j w' q
noncomputable def Wr (H:Hp)(p:Ht):Prop:=H p=td\/(∃xs,H p=gV (.lst xs))\/(∃φ,H p=gV (.ext φ))\/∃ks,H p=gV (.dK ks)
theorem Wr.lst {p:Ht}{xs:Hg V}(h:H p=gV (.lst xs)):Wr H p:=.inr (.inl #[xs,h])
theorem Wr.ext {p:Ht}{φ:IG->Prop}(h:H p=gV (.ext φ)):Wr H p:=.inr (.inr (.inl #[φ,h]))
theorem Wr.ne_tup {p a:Ht}{xs:Hg V}(hp:Wr H p)(h:H a=gV (.tup xs)):a≠p:=by
 intro e; subst e
 rcases hp with q|⟨xs,q⟩|⟨φ,q⟩|⟨ks,q⟩ <;> (rw[h]at q; cases q)
theorem Wr.ne_frz {p a:Ht}{o:Jo}{u:HO}(hp:Wr H p)(h:H a=gV (.frz o u)):a≠p:=by
 intro e; subst e
 rcases hp with q|⟨xs,q⟩|⟨φ,q⟩|⟨ks,q⟩ <;> (rw[h]at q; cases q)
theorem Wr.ne_rng {p a:Ht}{lo hi:Hv}(hp:Wr H p)(h:H a=gV (.rng lo hi)):a≠p:=by
 intro e; subst e
 rcases hp with q|⟨xs,q⟩|⟨φ,q⟩|⟨ks,q⟩ <;> (rw[h]at q; cases q)
theorem rj {p:Ht}{o:HO}(hp:Wr H p){a:Ht}{vs:Hg V}(h:SqT K H a vs):SqT K (bQ H p o) a vs:=by
 rcases h with(h|⟨o',h⟩)|h
 ·exact .inl (.inl (by rw[aH (hp.ne_tup h)]; exact h))
 ·exact .inl (.inr #[o',by rw[aH (hp.ne_frz h)]; exact h])
 ·exact .inr h
theorem vd {p:Ht}{o:HO}(hp:Wr H p){a:Ht}{vs:Hg V}(h:FroL K H a vs):FroL K (bQ H p o) a vs:=by
 rcases h with⟨o',h⟩|h
 ·exact .inl #[o',by rw[aH (hp.ne_frz h)]; exact h]
 ·exact .inr h
theorem dj {p:Ht}{o:HO}(hp:Wr H p):Ext K A H A (bQ H p o):=#[λ_ _ h=>h,λ_ _ h=>rj hp h,λ_ _ _ h=>by rw[aH (hp.ne_frz h)]; exact h]
theorem d3 {p:Ht}{o:HO}(hp:H p=td):Ext K A H (A++[p]) (bQ H p o):=
 #[λi a h=>by rw[Ii (HD.mp h).1]; exact h,λ_ _ h=>rj (.inl hp) h,λ_ _ _ h=>by rw[aH (Wr.ne_frz (.inl hp) h)]; exact h]
theorem ObjRel.keep {p a:Ht}{o:HO}{b:O}(hp:Wr H p)(hne:b.mut=true->a≠p)(e:Ext K A H A' (bQ H p o))(h:ObjRel wd K A H a b):ObjRel wd K A' (bQ H p o) a b:=by
 cases b with
 | lst ws=>
  obtain⟨vs,q,r⟩:=h;exact#[vs,by rw[aH (hne rfl)]; exact q,r.mono e]
 | fro ws=>
  obtain⟨vs,q,r⟩:=h;exact#[vs,vd hp q,r.mono e]
 | rng lo hi=>
  have h:H a=gV (.rng lo hi):=h;show bQ H p o a=gV (.rng lo hi);rw[aH (hp.ne_rng h)];exact h
 | dic kvs=>
  obtain⟨xs,q,r⟩:=h;exact#[xs,by rw[aH (hne rfl)]; exact q,r.mono e]
 | frd kvs=>
  obtain⟨ob,xs,q,r⟩:=h;exact#[ob,xs,by rw[aH (hp.ne_frz q)]; exact q,r.mono e]
theorem ObjRel.there {a:Ht}{b:O}(h:ObjRel wd K A H a b)(hm:b.mut=true):H a≠td:=by
 cases b with
 | lst ws=>obtain⟨vs,q,r⟩:=h; rw[q]; intro z; cases z
 | fro ws=>cases hm
 | rng lo hi=>cases hm
 | dic kvs=>obtain⟨vs,q,r⟩:=h; rw[q]; intro z; cases z
 | frd ws=>cases hm
theorem ObjRel.wr {a:Ht}{b:O}(h:ObjRel wd K A H a b)(hm:b.mut=true):Wr H a:=by
 cases b with
 | lst ws=>obtain⟨vs,q,r⟩:=h; exact .lst q
 | fro ws=>cases hm
 | rng lo hi=>cases hm
 | dic kvs=>obtain⟨vs,q,r⟩:=h; exact .ext q
 | frd ws=>cases hm
theorem StoreOk.lay {S:aa}{p:Ht}{o:HO}(h:StoreOk wd K A H S)(hp:H p=td):StoreOk wd K A (bQ H p o) S:=
 #[h.len,h.nd,λi b a e ea=>(h.obj i b a e ea).keep (.inl hp) (λhm z=>(h.obj i b a e ea).there hm (z ▸ hp)) (dj (.inl hp))]
theorem StoreOk.pushO {S:aa}{p:Ht}{n:O}{u:HO}(h:StoreOk wd K A H S)(hp:H p=td)(r:ObjRel wd K (A++[p]) (bQ H p u) p n):StoreOk wd K (A++[p]) (bQ H p u) (S++[n]):=by
 have ex:Ext K A H (A++[p]) (bQ H p u):=d3 hp;have old:∀ {i:Ho} {o:O} {a:Ht},(S++[n])[i]?=gV o->(A++[p])[i]?=gV a->i < S.length->S[i]?=gV o/\A[i]?=gV a:=λ{i o a} e ea hl=>by
  rw[Ii hl]at e;rw[Ii (h.len ▸ hl)]at ea;exact#[e,ea]
 have new:∀ {i:Ho} {o:O} {a:Ht},(S++[n])[i]?=gV o->(A++[p])[i]?=gV a->¬ i < S.length->i=S.length/\o=n/\a=p:=λ{i o a} e ea hl=>by
  have hi:i=S.length:=by
   have:=(HD.mp e).1;simp at this;omega
  subst hi;simp at e;rw[<- h.len]at ea;simp at ea;exact#[rfl,e.symm,ea.symm]
 refine#[by simp[h.len],λi j a o u e1 m1 e2 m2 a1 a2=>?_,λi o a e ea=>?_]
 ·by_cases hi:i < S.length <;> by_cases hj:j < S.length
  ·obtain⟨x1,y1⟩:=old e1 a1 hi;obtain⟨x2,y2⟩:=old e2 a2 hj;exact h.nd i j a o u x1 m1 x2 m2 y1 y2
  ·obtain⟨x1,y1⟩:=old e1 a1 hi;obtain⟨_,_,z⟩:=new e2 a2 hj;subst z;exact absurd hp ((h.obj i o a x1 y1).there m1)
  ·obtain⟨x2,y2⟩:=old e2 a2 hj;obtain⟨_,_,z⟩:=new e1 a1 hi;subst z;exact absurd hp ((h.obj j u a x2 y2).there m2)
  ·rw[(new e1 a1 hi).1,(new e2 a2 hj).1]
 ·by_cases hi:i < S.length
  ·obtain⟨x1,y1⟩:=old e ea hi;exact(h.obj i o a x1 y1).keep (.inl hp) (λhm z=>(h.obj i o a x1 y1).there hm (z ▸ hp)) ex
  ·obtain⟨_,rfl,rfl⟩:=new e ea hi;exact r
theorem StoreOk.push {S:aa}{p:Ht}{ws:Hg W}{vs:Hg V}(h:StoreOk wd K A H S)(hp:H p=td)(r:RelL K A H ws vs):StoreOk wd K (A++[p]) (bQ H p (.lst vs)) (S++[.lst ws]):=
 h.pushO hp #[vs,aZ,r.mono (d3 hp)]
theorem StoreOk.writeO {S:aa}{i:Ho}{p:Ht}{o0 n:O}{u:HO}(h:StoreOk wd K A H S)(e:S[i]?=gV o0)(m0:o0.mut=true)(ea:A[i]?=gV p)(r:ObjRel wd K A (bQ H p u) p n) :
  StoreOk wd K A (bQ H p u) (S.set i n)/\Ext K A H A (bQ H p u):=by
 have hw:Wr H p:=(h.obj i _ p e ea).wr m0;have ex:Ext K A H A (bQ H p u):=dj hw;have hl:i < S.length:=(HD.mp e).1;refine#[#[by simp[h.len],λj k a o u e1 m1 e2 m2 a1 a2=>?_,λj o a e1 a1=>?_],ex]
 ·have get:∀ {j:Ho} {o:O},(S.set i n)[j]?=gV o->o.mut=true->∃o',S[j]?=gV o'/\o'.mut=true:=λ{j o} q m=>by
   rw[JA]at q
   by_cases z:i=j
   ·subst z; exact#[_,e,m0]
   ·rw[Iv z]at q; exact#[o,q,m]
  obtain⟨o',x1,m1'⟩:=get e1 m1;obtain⟨u',x2,m2'⟩:=get e2 m2;exact h.nd j k a o' u' x1 m1' x2 m2' a1 a2
 ·rw[JA]at e1
  by_cases z:i=j
  ·subst z;rw[HV rfl,HV hl]at e1;cases e1;rw[ea]at a1; cases a1
   exact r
  ·rw[Iv z]at e1;exact(h.obj j o a e1 a1).keep hw (λhm q=>z (h.nd i j p _ o e m0 e1 hm ea (q ▸ a1))) ex
theorem StoreOk.write {S:aa}{i:Ho}{p:Ht}{ws:Hg W}{us:Hg V}{ws0:Hg W}(h:StoreOk wd K A H S)(e:S[i]?=gV (.lst ws0))(ea:A[i]?=gV p)(r:RelL K A H ws us) :
  StoreOk wd K A (bQ H p (.lst us)) (S.set i (.lst ws))/\Ext K A H A (bQ H p (.lst us)):=
 h.writeO e rfl ea #[us,aZ,r.mono (dj ((h.obj i _ p e ea).wr rfl))]
end
noncomputable def gO (S:aa)(i:Ho):Hn (Hg W):=match S[i]? with
 | some (.lst xs)=>gV xs
 | some (.fro xs)=>gV xs
 | _=>td
noncomputable def nY (S:aa)(i:Ho):Hn (Hg W):=match S[i]? with
 | some (.lst xs)=>gV xs
 | _=>td
noncomputable def kX (S:aa)(xs:Hg W):Hn (W×aa):=if xs.length<=sizeLine then gV (.ref S.length,S++[.lst xs])else td
noncomputable def p7 (S:aa)(xs:Hg W):Hn (W×aa):=if xs.length<=sizeLine then gV (.tup xs,S)else td
noncomputable def yQ (j:Hv):HU:=decide (0 < j)&&decide (j < 1073741824)
noncomputable def tf (i j:Hv):HU:=(decide (-(2 ^ 64) < i)&&decide (i < 2 ^ 64))||(decide (-(2 ^ 64) < j)&&decide (j < 2 ^ 64))
noncomputable def DV (i j:Hv):HU:=decide (0<=j)&&decide (j<=1000000)&&decide (i.natAbs < 2 ^ 64)
inductive BOp where|add|sub|mul|fdiv|mod|pow
 deriving KC
noncomputable def yk (c:Hv->Hv->HU)(f:Hv->Hv->Hv)(x y:W)(S:aa):Hn (W×aa):=match x,y with
 | .int i,.int j=>if c i j then gV (.int (f i j),S)else td
 | _,_=>td
noncomputable def ve (x y:W)(S:aa):Hn (W×aa):=match x with
 | .int i=>match y with
  | .int j=>gV (.int (i+j),S)
  | _=>td
 | .str x=>match y with
  | .str y=>if x.length+y.length<=sizeLine then gV (.str (x++y),S)else td
  | _=>td
 | .tup xs=>match y with
  | .tup ys=>p7 S (xs++ys)
  | _=>td
 | .ref i=>match y with
  | .ref j=>match nY S i,nY S j with
   | some xs,gV ys=>kX S (xs++ys)
   | _,_=>td
  | _=>td
 | _=>td
noncomputable def yR (x y:W)(S:aa):Hn (W×aa):=match x with
 | .str x=>match y with
  | .int k=>if k < 2 ^ 24/\-(2 ^ 24)<=k/\x.length*k.toNat<=sizeLine then gV (.str (Qf x k),S)else td
  | _=>td
 | .ref i=>match y with
  | .int k=>match nY S i with
   | some xs=>if k < 2 ^ 24/\-(2 ^ 24)<=k/\xs.length*k.toNat<=sizeLine then kX S (Ih k.toNat xs).flatten else td
   | none=>td
  | _=>td
 | x=>yk tf (· * ·) x y S
noncomputable def hG:BOp->W->W->aa->Hn (W×aa)
 | .add,x,y,S=>ve x y S
 | .sub,x,y,S=>yk (λ_ _=>true) (· - ·) x y S
 | .mul,x,y,S=>yR x y S
 | .fdiv,x,y,S=>yk (λ_ j=>yQ j) (· / ·) x y S
 | .mod,x,y,S=>yk (λ_ j=>decide (0 < j)) (· % ·) x y S
 | .pow,x,y,S=>yk DV (λi j=>i ^ j.toNat) x y S
noncomputable def BOp.py:BOp->NC
 | .add=>.Add|.sub=>.Sub|.mul=>.Mult|.fdiv=>.FloorDiv|.mod=>.Mod|.pow=>.Pow
section
variable (X:Cx)
noncomputable def dG (pins:Hg (Ht×Jo))(σ:L2.St)(A:Hg Ht)(H:Hp)(S':aa)(w:W)(u:Hj)(s':Hm):Prop:=
 ∃v H' A',Inv X pins σ H' s'/\RelV v u/\Ext X.K A H A' H'/\StoreOk X.w X.K A' H' S'/\Rel X.K A' H' w v
noncomputable abbrev FE:=Fm->aa->Hn (W×aa)
noncomputable def LOp (f:Hj->Hj->Pk Hj)(g:W->W->aa->Hn (W×aa)):Prop:=
 ∀(pins:Hg (Ht×Jo)) (s:Hm) (σ:L2.St) (H:Hp) (A:Hg Ht) (S:aa) (x y:W) (a b:V) (u v:Hj) (w:W) (S':aa),Inv X pins σ H s->StoreOk X.w X.K A H S->
  Rel X.K A H x a->RelV a u->Rel X.K A H y b->RelV b v->g x y S=gV (w,S')->wpAny (model X.prog X.w) X.A (f u v) (dG X pins σ A H S' w) X.xe s
end
section
variable{X:Cx}
theorem jL {S:aa}{i:Ho}{xs:Hg W}(h:nY S i=gV xs):S[i]?=gV (.lst xs):=by
 unfold nY at h;split at h
 ·cases h; assumption
 ·cases h
theorem eH {A:Hg Ht}{H:Hp}{S:aa}{i:Ho}{xs:Hg W}{a:Ht}(so:StoreOk X.w X.K A H S)(h:nY S i=gV xs)(ea:A[i]?=gV a):∃vs,H a=gV (.lst vs)/\RelL X.K A H xs vs:=
 so.obj i _ a (jL h) ea
theorem cH {A:Hg Ht}{H:Hp}{S:aa}{i:Ho}{xs:Hg W}{a:Ht}(so:StoreOk X.w X.K A H S)(h:gO S i=gV xs)(ea:A[i]?=gV a):∃vs,SqL X.K H a vs/\RelL X.K A H xs vs:=by
 unfold gO at h;split at h
 ·cases h;obtain⟨vs,q,r⟩:=so.obj i _ a (by assumption) ea
  exact#[vs,.of q,r]
 ·cases h;obtain⟨vs,q,r⟩:=so.obj i _ a (by assumption) ea
  exact#[vs,q.sq,r]
 ·cases h
theorem jy {S S':aa}{xs:Hg W}{w:W}(h:kX S xs=gV (w,S')):xs.length<=sizeLine/\w=.ref S.length/\S'=S++[.lst xs]:=by
 unfold kX at h;split at h
 ·cases h; exact#[by assumption,rfl,rfl]
 ·cases h
theorem rm {S S':aa}{xs:Hg W}{w:W}(h:p7 S xs=gV (w,S')):xs.length<=sizeLine/\w=.tup xs/\S'=S:=by
 unfold p7 at h;split at h
 ·cases h; exact#[by assumption,rfl,rfl]
 ·cases h
theorem yS {A:Hg Ht}{H:Hp}{S:aa}{ws:Hg W}{vs:Hg V}{Q:VK}{p:Ht}(so:StoreOk X.w X.K A H S)(r:RelL X.K A H ws vs)(hp:H p=td)
  (q:∀v H' A',Ext X.K A H A' H'->StoreOk X.w X.K A' H' (S++[.lst ws])->Rel X.K A' H' (.ref S.length) v->Q v H'):Q (.ref p) (bQ H p (.lst vs)):=
 q _ _ (A++[p]) (d3 hp) (so.push hp r) (.ref (by rw[<- so.len]; simp))
theorem yT {A:Hg Ht}{H:Hp}{S:aa}{ws:Hg W}{vs:Hg V}{Q:VK}{p:Ht}(so:StoreOk X.w X.K A H S)(r:RelL X.K A H ws vs)(hp:H p=td)
  (q:∀v H' A',Ext X.K A H A' H'->StoreOk X.w X.K A' H' S->Rel X.K A' H' (.tup ws) v->Q v H'):Q (.ref p) (bQ H p (.tup vs)):=
 q _ _ A (dj (.inl hp)) (so.lay hp) (.tup (.of aZ) (r.mono (dj (.inl hp))))
noncomputable def DW (K:HA):R2:=λx y H Q=>∃a b xs ys,x=.ref a/\y=.ref b/\SqT K H a xs/\SqT K H b ys/\xs.length+ys.length<=sizeLine/\
 (xs=[]->Q (.ref b) H)/\(ys=[]->Q (.ref a) H)/\(∀p,H p=td->Q (.ref p) (bQ H p (.tup (xs++ys))))
theorem yU:OpR X (binaryOp .Add) (DW X.K):=by
 intro pins s σ H x y v u Q I rx ry h;obtain⟨a,b,xs,ys,rfl,rfl,ha,hb,hz,q0,q1,q2⟩:=h;cases rx;cases ry;obtain⟨its,r1,p1,_⟩:=I.tuple ha;obtain⟨its2,r2,p2,_⟩:=I.tuple hb
 by_cases hx:xs=[]
 ·obtain⟨⟨cls,dd,data,sl⟩,ho,hc,n,hd⟩:=id p1;obtain⟨⟨cls2,dd2,data2,sl2⟩,ho2,hc2,n2,hd2⟩:=id p2;simp only at hc hd hc2 hd2;subst hc hd hc2 hd2;exact NF #[_,ho,rfl] #[_,ho2,rfl] L8 M8 Lb K7 (KT _ _)
   (tuple_addW0 a b its.toArray its2.toArray n n2 dd dd2 sl sl2 (by simp[r1.nil_iff.mpr hx])) #[ho,ho2,#[.ref b,H,I,rfl,q0 hx]]
 ·refine HT.yF p1 p2 (λz=>hx (r1.nil_iff.mp z)) (λz=>#[.ref a,H,I,rfl,q1 (r2.nil_iff.mp z)]) (λz=>?_) (by rw[<- r1.length,<- r2.length]; exact hz)
  refine#[.ref s.heap.objs.size,_,I.laid (t':=s.toks) (o:=.tup (xs++ys)) (λb ob q=>Hr _ q) (Hz _) ?_,rfl,q2 _ (I.hok.fresh (Hz _))]
  exact#[#[by rw[Hk]; exact hz,NoD.new _ _ _],_,r1.append r2,N1 _ _]
theorem RelL.nil_iff {K:HA}{A:Hg Ht}{H:Hp}{ws:Hg W}{vs:Hg V}(r:RelL K A H ws vs):vs=[]↔ws=[]:=by
 cases r <;> simp
theorem p8:OpR X (binaryOp .Mult) (λx y H Q=>∃z k,x=.str z/\y=.int k/\MulOk z k/\Q (.str (Qf z k)) H):=by
 intro pins s σ H x y v u Q I rx ry h;obtain⟨z,k,rfl,rfl,ok,q⟩:=h;obtain⟨t,rfl⟩:=rx;obtain⟨t',rfl⟩:=ry;exact SB.mul ok λt2 k2=>#[.str _,H,I.tok _,#[_,rfl],q]
theorem vf {x:HJ}{k:Hv}(h1:k < 16777216)(h2 : -16777216<=k)(h3:x.length*k.toNat<=sizeLine):MulOk x k:=by
 have hs:sizeLine=16777216:=IL;rw[hs]at h3;refine#[?_,λa b=>?_,λ_ _=>?_]
 ·rw[Bool.or_eq_false_iff];exact#[Im ∅,Im ∅]
 ·have hk:0 < k:=∅
  have e:(x.length:Hv)*k=((x.length*k.toNat:Ho):Hv):=by
   rw[Int.natCast_mul,Kn ∅]
  intro hgt;have h4:(2 ^ 63 - 1:Hv) < (x.length:Hv)*k:=(Int.ediv_lt_iff_lt_mul hk).mp hgt;rw[e]at h4;generalize x.length*k.toNat=z at h3 h4;omega
 ·unfold OR;rw[hs];exact Im ∅
noncomputable def EndV (wd:Ix)(K:HA)(A:Hg Ht)(H:Hp)(S':aa)(w:W):VK:=λv H'=>∃A',Ext K A H A' H'/\StoreOk wd K A' H' S'/\Rel K A' H' w v
theorem EndV.here {A:Hg Ht}{H:Hp}{S:aa}{w:W}{v:V}(so:StoreOk X.w X.K A H S)(r:Rel X.K A H w v):EndV X.w X.K A H S w v H:=#[A,.refl,so,r]
theorem EndV.lst {A:Hg Ht}{H:Hp}{S:aa}{ws:Hg W}{vs:Hg V}{p:Ht}(so:StoreOk X.w X.K A H S)(r:RelL X.K A H ws vs)(hp:H p=td):EndV X.w X.K A H (S++[.lst ws]) (.ref S.length) (.ref p) (bQ H p (.lst vs)):=
 yS (Q:=EndV X.w X.K A H (S++[.lst ws]) (.ref S.length)) so r hp λv H' A' a b c=>#[A',a,b,c]
theorem EndV.tup {A:Hg Ht}{H:Hp}{S:aa}{ws:Hg W}{vs:Hg V}{p:Ht}(so:StoreOk X.w X.K A H S)(r:RelL X.K A H ws vs)(hp:H p=td):EndV X.w X.K A H S (.tup ws) (.ref p) (bQ H p (.tup vs)):=
 yT (Q:=EndV X.w X.K A H S (.tup ws)) so r hp λv H' A' a b c=>#[A',a,b,c]
theorem EP.post {pins:Hg (Ht×Jo)}{σ:L2.St}{A:Hg Ht}{H:Hp}{S':aa}{w:W}{u:Hj}{s':Hm}(h:EP X pins σ (EndV X.w X.K A H S' w) u s'):dG X pins σ A H S' w u s':=by
 obtain⟨v,H',I',r,A',x,y,z⟩:=h;exact#[v,H',A',I',r,x,y,z]
theorem OpR.go {f:Hj->Hj->Pk Hj}{r:R2}(h:OpR X f r){pins:Hg (Ht×Jo)}{σ:L2.St}{A:Hg Ht}{H:Hp}{S':aa}{w:W}{s:Hm}{a b:V}{u v:Hj}(I:Inv X pins σ H s)(ru:RelV a u)(rv:RelV b v)
  (q:r a b H (EndV X.w X.K A H S' w)):wpAny (model X.prog X.w) X.A (f u v) (dG X pins σ A H S' w) X.xe s:=bo (h pins s σ H a b u v _ I ru rv q) λ_ _=>EP.post
theorem yV:LOp X (binaryOp .Add) (hG .add):=by
 intro pins s σ H A S x y a b u v w S' I so rx ru ry rv e;cases rx with
 | int=>cases ry with
  | int=>cases e; exact OpR.go BK I ru rv #[_,_,rfl,rfl,.here so .int]
  | _=>cases e
 | str=>cases ry with
  | str=>
   dsimp only[hG,ve]at e;split at e
   ·cases e; exact OpR.go pV I ru rv #[_,_,rfl,rfl,by assumption,.here so .str]
   ·cases e
  | _=>cases e
 | tup h1 r1=>cases ry with
  | tup h2 r2=>
   obtain⟨hl,rfl,rfl⟩:=rm (show p7 S _=_ from e)
   rw[Hk,r1.length,r2.length]at hl;refine OpR.go yU I ru rv #[_,_,_,_,rfl,rfl,h1,h2,hl,λz=>?_,λz=>?_,λp hp=>.tup so (r1.append r2) hp]
   ·have z':=r1.nil_iff.mp z;subst z';exact .here so (.tup h2 r2)
   ·have z':=r2.nil_iff.mp z;subst z';rw[Jl];exact .here so (.tup h1 r1)
  | _=>cases e
 | ref h1=>cases ry with
  | ref h2=>
   dsimp only[hG,ve]at e;split at e
   ·obtain⟨hl,rfl,rfl⟩:=jy e;obtain⟨vs,q1,r1⟩:=eH so (by assumption) h1
    obtain⟨us,q2,r2⟩:=eH so (by assumption) h2
    rw[Hk,r1.length,r2.length]at hl;exact OpR.go B1 I ru rv #[_,_,_,_,rfl,rfl,q1,q2,hl,λp hp=>.lst so (r1.append r2) hp]
   ·cases e
  | _=>cases e
 | _=>cases e
theorem oq {f:Hj->Hj->Pk Hj}{c:Hv->Hv->HU}{g:Hv->Hv->Hv}{r:R2}(h:OpR X f r)(hr:∀i j H Q,c i j=true->Q (.int (g i j)) H->r (.int i) (.int j) H Q):LOp X f (yk c g):=by
 intro pins s σ H A S x y a b u v w S' I so rx ru ry rv e;cases rx with
 | int=>cases ry with
  | int=>
   unfold yk at e;dsimp only at e;split at e
   ·cases e; exact OpR.go h I ru rv (hr _ _ _ _ (by assumption) (.here so .int))
   ·cases e
  | _=>cases e
 | _=>cases e
theorem yW:LOp X (binaryOp .Sub) (hG .sub):=oq BL λ_ _ _ _ _ q=>#[_,_,rfl,rfl,q]
theorem yX {i j:Hv}(h:tf i j=true):CMul i j:=by
 unfold tf at h;rw[JO,Hs,Hs,Io,Io,Io,Io]at h;exact h
theorem yY:LOp X (binaryOp .Mult) (hG .mul):=by
 have hI:LOp X (binaryOp .Mult) (yk tf (· * ·)):=oq BM λ_ _ _ _ h q=>#[_,_,rfl,rfl,yX h,q]
 intro pins s σ H A S x y a b u v w S' I so rx ru ry rv e;cases x with
 | str z=>
  cases rx with
  | str=>cases ry with
   | int=>
    dsimp only[hG,yR]at e;split at e
    ·rename_i hc;cases e; exact OpR.go p8 I ru rv #[_,_,rfl,rfl,vf ∅ ∅ hc.2.2,.here so .str]
    ·cases e
   | _=>cases e
 | ref z=>
  cases rx with
  | ref h1=>cases ry with
   | int=>
    dsimp only[hG,yR]at e;split at e
    ·split at e
     ·rename_i hc;obtain⟨hl,rfl,rfl⟩:=jy e;obtain⟨vs,q1,r1⟩:=eH so (by assumption) h1
      rw[r1.length]at hc;exact OpR.go B2 I ru rv #[_,_,_,rfl,rfl,q1,∅,∅,hc.2.2,λp hp=>.lst so (r1.rep _) hp]
     ·cases e
    ·cases e
   | _=>cases e
 | _=>exact hI _ _ _ _ _ _ _ _ _ _ _ _ _ _ I so rx ru ry rv e
theorem vg:LOp X (binaryOp .FloorDiv) (hG .fdiv):=oq yA λ_ _ _ _ h q=>#[_,_,rfl,rfl,by
 unfold yQ at h;rw[Hs,Io,Io]at h;exact h,q]
theorem yZ:LOp X (binaryOp .Mod) (hG .mod):=oq BN λ_ _ _ _ h q=>#[_,_,rfl,rfl,IT h,q]
theorem y4:LOp X (binaryOp .Pow) (hG .pow):=oq BO λ_ _ _ _ h q=>#[_,_,rfl,rfl,by
 unfold DV at h;rw[Hs,Hs,Io,Io,Io]at h;exact#[h.1.1,h.1.2,h.2],q]
theorem rn (o:BOp):LOp X (binaryOp o.py) (hG o):=by
 cases o
 ·exact yV
 ·exact yW
 ·exact yY
 ·exact vg
 ·exact yZ
 ·exact y4
end
noncomputable def fL (f:W->W->Hn HU):Hg W->Hg W->Hn HU
 | [],[]=>gV true
 | [],_::_=>gV false
 | _::_,[]=>gV false
 | x::xs,y::ys=>match f x y,fL f xs ys with
  | some a,gV b=>gV (a&&b)
  | _,_=>td
noncomputable def b2 (b:HU):Hv:=if b then 1 else 0
noncomputable def gP (S:aa):Ho->W->W->Hn HU
 | _,.non,y=>match y with
  | .non=>gV true
  | _=>td
 | _,.bl a,y=>match y with
  | .bl b=>gV (a==b)
  | _=>td
 | _,.int a,y=>match y with
  | .int b=>gV (a==b)
  | _=>td
 | _,.str a,y=>match y with
  | .str b=>gV (a==b)
  | _=>td
 | 0,_,_=>td
 | d+1,.tup xs,y=>match y with
  | .tup ys=>fL (gP S d) xs ys
  | _=>td
 | d+1,.ref i,y=>match y with
  | .ref j=>match nY S i,nY S j with
   | some xs,gV ys=>if xs.length=ys.length then fL (gP S d) xs ys else gV false
   | _,_=>td
  | _=>td
section
variable{X:Cx}{pins:Hg (Ht×Jo)}{σ:L2.St}{H:Hp}{s:Hm}{A:Hg Ht}{S:aa}
noncomputable def RU (K:HA)(A:Hg Ht)(H:Hp)(w:W)(u:Hj):Prop:=∃v,Rel K A H w v/\RelV v u
theorem rq {ws:Hg W}{vs:Hg V}{us:Hg Hj}(r:RelL X.K A H ws vs)(q:Vals vs us):∀(j:Ho) (h1:j < ws.length) (h2:j < us.length),RU X.K A H ws[j] us[j]:=by
 induction ws generalizing vs us with
 | nil=>intro j h1; simp at h1
 | cons w ws ih=>
  cases r with
  | cons r1 rr=>
   cases q with
   | cons q1 qq=>
    intro j h1 h2;cases j with
    | zero=>exact#[_,r1,q1]
    | succ j=>exact ih rr qq j (by simpa using h1) (by simpa using h2)
theorem vh {ws:Hg W}{u:Hj}(I:Inv X pins σ H s)(h:RU X.K A H (.tup ws) u):∃a its,u=.ref a/\Ny s.heap a its/\its.size=ws.length/\ws.length<=sizeLine/\∀(j:Ho) (h1:j < ws.length) (h2:j < its.size),RU X.K A H ws[j] its[j]:=by
 obtain⟨v,r,q⟩:=h;cases r with
 | tup sq rl=>
  obtain⟨its,rv,ht,hz⟩:=I.tuple sq;refine#[_,its.toArray,q,ht,by rw[HH,<- rv.length,rl.length],by rw[rl.length]; exact hz,λj h1 h2=>?_]
  have:=rq rl rv j h1 (by simpa using h2)
  simpa using this
theorem vk {i:Ho}{ws:Hg W}{u:Hj}(I:Inv X pins σ H s)(so:StoreOk X.w X.K A H S)(e:nY S i=gV ws)(h:RU X.K A H (.ref i) u):∃a its,u=.ref a/\A[i]?=gV a/\s.heap.IsList a its/\its.size=ws.length/\ws.length<=sizeLine/\∀(j:Ho) (h1:j < ws.length) (h2:j < its.size),RU X.K A H ws[j] its[j]:=by
 obtain⟨v,r,q⟩:=h;cases r with
 | ref ea=>
  obtain⟨vs,hq,rl⟩:=eH so e ea;obtain⟨its,rv,ht,hz⟩:=I.list (.of hq);refine#[_,its.toArray,q,ea,ht.isList,by rw[HH,<- rv.length,rl.length],by rw[rl.length]; exact hz,λj h1 h2=>?_]
  have:=rq rl rv j h1 (by simpa using h2)
  simpa using this
theorem jM {f:W->W->Hn HU}:∀ {xs ys:Hg W} {k:HU},fL f xs ys=gV k->∃e:Ho->HU,(∀(j:Ho) (h1:j < xs.length) (h2:j < ys.length),f xs[j] ys[j]=gV (e j))/\
  k=((HG (min xs.length ys.length)).all e&&xs.length==ys.length)
 | [],[],k,h=>#[λ_=>true,λj h1=>by simp at h1,by cases h; rfl]
 | [],_::_,k,h=>#[λ_=>true,λj h1=>by simp at h1,by cases h; simp]
 | _::_,[],k,h=>#[λ_=>true,λj h1 h2=>by simp at h2,by cases h; simp]
 | x::xs,y::ys,k,h=>by
  dsimp only[fL]at h;split at h
  ·rename_i a b ha hb;cases h;obtain⟨e,h1,h2⟩:=jM hb;refine#[λj=>match j with|0=>a|j+1=>e j,λj hj1 hj2=>?_,?_]
   ·cases j with
    | zero=>exact ha
    | succ j=>exact h1 j (by simpa using hj1) (by simpa using hj2)
   ·subst h2;simp only[Iw,Nat.add_min_add_right,Ml,IF,Pg,Bool.and_assoc];congr 2;simp
  ·cases h
theorem y6 (I:Inv X pins σ H s)(so:StoreOk X.w X.K A H S):∀(d:Ho) {x y:W} {v:V} {k:HU},Rel X.K A H x v->Rel X.K A H y v->gP S d x y=gV k->k=true:=by
 intro d
 induction d with
 | zero=>
  intro x y v k rx ry e;cases rx with
  | non=>cases ry; cases e; rfl
  | bl=>cases ry; cases e; exact IJ _
  | int=>cases ry; cases e; exact IJ _
  | str=>cases ry; cases e; exact IJ _
  | tup _ _=>cases e
  | ref _=>cases e
 | succ d ih=>
  have lists:∀ {xs ys:Hg W} {vs:Hg V} {k:HU},RelL X.K A H xs vs->RelL X.K A H ys vs->fL (gP S d) xs ys=gV k->k=true:=by
   intro xs
   induction xs with
   | nil=>
    intro ys vs k r1 r2 e;cases r1; cases r2; cases e; rfl
   | cons x xs ihx=>
    intro ys vs k r1 r2 e;cases r1 with
    | cons p1 q1=>
     cases r2 with
     | cons p2 q2=>
      dsimp only[fL]at e;split at e
      ·rename_i a b ha hb;cases e;rw[ih p1 p2 ha,ihx q1 q2 hb];rfl
      ·cases e
  intro x y v k rx ry e;cases rx with
  | non=>cases ry; cases e; rfl
  | bl=>cases ry; cases e; exact IJ _
  | int=>cases ry; cases e; exact IJ _
  | str=>cases ry; cases e; exact IJ _
  | tup h1 r1=>
   cases ry with
   | tup h2 r2=>
    rw[I.tuple_inj h1 h2]at r1;exact lists r1 r2 e
   | ref ea=>cases e
  | ref ea=>
   cases ry with
   | tup h2 r2=>cases e
   | ref eb=>
    dsimp only[gP]at e;split at e
    ·rename_i xs ys hx hy;have:=so.nd _ _ _ _ _ (jL hx) rfl (jL hy) rfl ea eb;subst this;rw[hx]at hy; cases hy
     rw[HV rfl]at e;obtain⟨vs,q,r⟩:=eH so hx ea;exact lists r r e
    ·cases e
theorem be (A:Iu):A.in1.units=A.units+1:=rfl
noncomputable abbrev Dj (B:Iu)(s:Hm)(u v:Hj)(k:HU):Prop:=SeqAt.RcAt B s u v k/\SeqAt.RcNeAt B s u v (!k)/\Lj B s u v k
open SeqAt in
theorem AK (I:Inv X pins σ H s)(so:StoreOk X.w X.K A H S):∀(d:Ho) (B:Iu) {x y:W} {u v:Hj} {k:HU},B.units+d < cLine->RU X.K A H x u->RU X.K A H y v->gP S d x y=gV k->Dj B s u v k:=by
 have non:∀ {B:Iu} {y:W} {u v:Hj} {k:HU} {d:Ho},RU X.K A H .non u->RU X.K A H y v->gP S d .non y=gV k->Dj B s u v k:=by
  intro B y u v k d ⟨_,rx,ra⟩ ⟨_,ry,rb⟩ e;cases rx;cases(show u=IK from ra)
  cases y with
  | non=>
   have e:gV (true)=gV k:=by cases d <;> exact e
   cases e;cases ry;cases(show v=IK from rb)
   exact#[.none_none,.none_none,.same _]
  | _=>cases d <;> cases e
 have bl:∀ {B:Iu} {b:HU} {y:W} {u v:Hj} {k:HU} {d:Ho},RU X.K A H (.bl b) u->RU X.K A H y v->gP S d (.bl b) y=gV k->Dj B s u v k:=by
  intro B b y u v k d ⟨_,rx,ra⟩ ⟨_,ry,rb⟩ e;cases rx;cases(show u=KD _ from ra)
  cases y with
  | bl c=>
   have e:gV (b==c)=gV k:=by cases d <;> exact e
   cases e;cases ry;cases(show v=KD _ from rb)
   exact#[.bool_bool _ _,.bool_bool _ _,.bool_bool _ _]
  | _=>cases d <;> cases e
 have int:∀ {B:Iu} {b:Hv} {y:W} {u v:Hj} {k:HU} {d:Ho},RU X.K A H (.int b) u->RU X.K A H y v->gP S d (.int b) y=gV k->Dj B s u v k:=by
  intro B b y u v k d ⟨_,rx,ra⟩ ⟨_,ry,rb⟩ e;cases rx;obtain⟨t0,rfl⟩ : ∃t,u=L7 _ t:=ra;cases y with
  | int c=>
   have e:gV (b==c)=gV k:=by cases d <;> exact e
   cases e;cases ry;obtain⟨t,rfl⟩ : ∃t,v=L7 _ t:=rb;exact#[.int_int _ _ _ _,.int_int _ _ _ _,.int_int _ _ _ _]
  | _=>cases d <;> cases e
 have str:∀ {B:Iu} {b:HJ} {y:W} {u v:Hj} {k:HU} {d:Ho},RU X.K A H (.str b) u->RU X.K A H y v->gP S d (.str b) y=gV k->Dj B s u v k:=by
  intro B b y u v k d ⟨_,rx,ra⟩ ⟨_,ry,rb⟩ e;cases rx;obtain⟨t0,rfl⟩ : ∃t,u=Li _ t:=ra;cases y with
  | str c=>
   have e:gV (b==c)=gV k:=by cases d <;> exact e
   cases e;cases ry;obtain⟨t,rfl⟩ : ∃t,v=Li _ t:=rb;exact#[.str_str _ _ _ _,.str_str _ _ _ _,.str_str _ _ _ _]
  | _=>cases d <;> cases e
 intro d
 induction d with
 | zero=>
  intro B x y u v k hu rx ry e;cases x with
  | non=>exact non rx ry e
  | bl b=>exact bl rx ry e
  | int b=>exact int rx ry e
  | str b=>exact str rx ry e
  | _=>cases e
 | succ d ih=>
  intro B x y u v k hu rx ry e;have hu0:B.units < cLine:=∅
  have hu1:B.in1.units+d < cLine:=by rw[be]; omega
  have rx0:=rx;have ry0:=ry;have fin:∀ {a b:Ht},u=.ref a->v=.ref b->RcAt B s u v k->RcNeAt B s u v (!k)->Dj B s u v k:=by
   intro a b ea eb h1 h2;subst ea eb;refine#[h1,h2,?_]
   by_cases hab:a=b
   ·subst hab;obtain⟨v1,q1,z1⟩:=rx0;obtain⟨v2,q2,z2⟩:=ry0;have e12:v1=v2:=z1.inj z2;subst e12;have:=y6 I so (d+1) q1 q2 e;subst this;exact EqAt.same _
   ·exact EqAt.of_refs hab h1
  cases x with
  | non=>exact non rx ry e
  | bl b=>exact bl rx ry e
  | int b=>exact int rx ry e
  | str b=>exact str rx ry e
  | tup xs=>
   cases y with
   | tup ys=>
    obtain⟨a,its,rfl,ht,hs,_,hi⟩:=vh I rx;obtain⟨b,its2,rfl,ht2,hs2,_,hi2⟩:=vh I ry;obtain⟨f,h1,h2⟩:=jM (show fL (gP S d) xs ys=gV k from e)
    have he:∀j (h1:j < its.size) (h2:j < its2.size),EqAt B.in1 s its[j] its2[j] (f j):=λj j1 j2=>
     (ih B.in1 hu1 (hi j (hs ▸ j1) j1) (hi2 j (hs2 ▸ j2) j2) (h1 j (hs ▸ j1) (hs2 ▸ j2))).2.2
    rw[<- hs,<- hs2]at h2;subst h2;exact fin rfl rfl (RcAt.tuples ht ht2 hu0 he) (RcNeAt.tuples ht ht2 hu0 he)
   | _=>cases e
  | ref i=>
   cases y with
   | ref j=>
    dsimp only[gP]at e;split at e
    ·rename_i ws ws2 hw hw2;obtain⟨a,its,rfl,_,hl,hs,_,hi⟩:=vk I so hw rx;obtain⟨b,its2,rfl,_,hl2,hs2,_,hi2⟩:=vk I so hw2 ry;split at e
     ·rename_i hlen;obtain⟨f,h1,h2⟩:=jM e;have he:∀j (h1:j < its.size) (h2:j < its2.size),EqAt B.in1 s its[j] its2[j] (f j):=λj j1 j2=>
       (ih B.in1 hu1 (hi j (hs ▸ j1) j1) (hi2 j (hs2 ▸ j2) j2) (h1 j (hs ▸ j1) (hs2 ▸ j2))).2.2
      have hk:k=(HG its.size).all f:=by rw[h2,hs,hlen]; simp
      subst hk;exact fin rfl rfl (RcAt.lists hl hl2 (by rw[hs,hs2,hlen]) hu0 he) (RcNeAt.lists hl hl2 (by rw[hs,hs2,hlen]) hu0 he)
     ·rename_i hlen;cases e;have hb:(its.size != its2.size)=true:=by rw[hs,hs2]; simpa using hlen
      exact fin rfl rfl (RcAt.lists_lengths hl hl2 hb hu0) (RcNeAt.lists_lengths hl hl2 hb hu0)
    ·cases e
   | _=>cases e
end
noncomputable def AL (fe fl:W->W->Hn HU):Hg W->Hg W->Hn HU
 | [],[]=>gV false
 | [],_::_=>gV true
 | _::_,[]=>gV false
 | x::xs,y::ys=>match fe x y with
  | some true=>AL fe fl xs ys
  | some false=>fl x y
  | none=>td
noncomputable def G0 (S:aa):Ho->W->W->Hn HU
 | _,.int a,.int b=>gV (decide (a < b))
 | _,.str a,.str b=>gV (decide (a.cps.toList < b.cps.toList))
 | d+1,.tup xs,.tup ys=>AL (gP S d) (G0 S d) xs ys
 | _,_,_=>td
noncomputable def LtAt (B:Iu)(s:Hm)(u v:Hj)(k:HU):Prop:=
 ∀(prog:Ik) (w:Ix) (E:Hj->Hm->Prop) (Q:Hj->Hm->Prop),Q (.bool k) s->wpAny (model prog w) B (richCompare .Lt u v) Q E s
inductive LexR (B:Iu)(s:Hm):Hg Hj->Hg Hj->HU->Prop
 | nn:LexR B s [] [] false
 | nc {v:Hj} {vs:Hg Hj}:LexR B s [] (v::vs) true
 | cn {v:Hj} {vs:Hg Hj}:LexR B s (v::vs) [] false
 | eq {u v:Hj} {us vs:Hg Hj} {k:HU}:Lj B s u v true->LexR B s us vs k->LexR B s (u::us) (v::vs) k
 | ne {u v:Hj} {us vs:Hg Hj} {k:HU}:Lj B s u v false->LtAt B s u v k->LexR B s (u::us) (v::vs) k
section
open PySem.SeqAt
open PySem.AutoSeq1 (wpAny_loadPart')
open PySem.MeetsSeq PySem.MeetsSeq2 PySem.MeetsSeq3
theorem mN (l b:Ht)(items items2:IC Hj)(n n2:Ho)(dd dd2:Hn Ht)(sl sl2:IC (Hn Hj))(k:HU) :
  Meets (Mm.«tuple.__lt__» #[[.ref l,.ref b],[]])
   (λB R s=>s.heap.get? l=gV { cls:=.type "tuple",dict:=dd,data:=.seq items n,slots:=sl }/\s.heap.get? b=gV { cls:=.type "tuple",dict:=dd2,data:=.seq items2 n2,slots:=sl2 }/\
    LexR B.in1 s items.toList items2.toList k/\R (.ok (.ret (.bool k))) s):=
 .of_wp λprog w A R s h=>by
  obtain⟨hp,g,d,tk,os⟩:=s; obtain⟨hl,hb,hx,h⟩:=h
  have f2:=O0;have z1:items.toList.length=items.size:=by simp
  have z2:items2.toList.length=items2.size:=by simp
  wp_walk using K1 hl,K1 hb,L9 _ (λcv b s'=>b.1=td/\s'=#[hp,g,d,tk,os]/\∃(vs ws:Hg Hj),cv=vs.zip ws/\
   LexR A.in1 #[hp,g,d,tk,os] vs ws k/\vs.length+items2.size=ws.length+items.size) _
  case turn=>
   rintro⟨y,x⟩ cv b s' ⟨hb',rfl,vs,ws,hz,hlx,hlen⟩;cases hlx with
   | nn=>rw[NM]at hz; cases hz
   | nc=>rw[NM]at hz; cases hz
   | cn=>rw[List.zip_nil_right]at hz; cases hz
   | eq he hr=>
    rw[Kt]at hz;injection hz with hyx hrest
    injection hyx with hy hx
    subst hy hx;simp only[Iw]at hlen;refine Hi (he prog w _ _ ?_)
    wp_walk
    exact#[rfl,rfl,_,_,hrest,hr,∅]
   | ne he hr=>
    rw[Kt]at hz;injection hz with hyx hrest
    injection hyx with hy hx
    subst hy hx;refine Hi (he prog w _ _ ?_);have hri:=hr prog w
    wp_walk using hri
    exact#[_,rfl,by simpa using h]
  case fin=>
   rintro⟨b1,b2⟩ s' ⟨hb',rfl,vs,ws,hz,hlx,hlen⟩;simp only at hb';subst hb';have hv:k=decide (items.size < items2.size):=by
    cases hlx with
    | nn=>simp only[Jt]at hlen; exact(Im ∅).symm
    | nc=>simp only[Jt,Iw]at hlen; exact(IW ∅).symm
    | cn=>simp only[Jt,Iw]at hlen; exact(Im ∅).symm
    | eq _ _=>rw[Kt]at hz; cases hz
    | ne _ _=>rw[Kt]at hz; cases hz
   subst hv
   wp_walk
   exact#[_,rfl,by simpa [NX]using h]
  case h=>
   exact#[rfl,rfl,items.toList,items2.toList,rfl,hx,∅]
end
theorem LtAt.tuples {B:Iu}{s:Hm}{l b:Ht}{items items2:IC Hj}{k:HU}(hl:Ny s.heap l items)(hb:Ny s.heap b items2)(hu:B.units < cLine)(hx:LexR B.in1 s items.toList items2.toList k) :
  LtAt B s (.ref l) (.ref b) k:=λprog w E Q h=>by
 obtain⟨⟨cls,dd,data,sl⟩,ho,hc,n,hd⟩:=id hl;obtain⟨⟨cls2,dd2,data2,sl2⟩,ho2,hc2,n2,hd2⟩:=id hb;simp only at hc hd hc2 hd2;subst hc hd hc2 hd2;exact richCompare_meets_room (op:=.Lt) #[_,ho,rfl] #[_,ho2,rfl] PySem.F.slot_tuple_lt PySem.F.entry_tuple_lt (PySem.F.args_tuple_lt_2 _ _) (mN l b items items2 n n2 dd dd2 sl sl2 k)
  #[ho,ho2,hx,show KD k≠Value.notImplemented/\Q (.bool k) s from#[(λx=>nomatch x),h]] hu
inductive COp where|eq|ne|lt|le|gt|ge|isin|notin|is|isnot
 deriving KC
noncomputable def COp.py:COp->Oh
 | .eq=>.Eq|.ne=>.NotEq|.lt=>.Lt|.le=>.LtE|.gt=>.Gt|.ge=>.GtE|.isin=>.In|.notin=>.NotIn|.is=>.Is|.isnot=>.IsNot
noncomputable def bB:W->HU
 | .non=>true
 | .bl _=>true
 | .int _=>true
 | .str _=>true
 | _=>false
noncomputable def mO:W->W->HU
 | .non,.non=>true
 | .bl a,.bl b=>a==b
 | .bl a,.int b=>b2 a==b
 | .int a,.bl b=>a==b2 b
 | .int a,.int b=>a==b
 | .str a,.str b=>a==b
 | _,_=>false
noncomputable def eO (S:aa):W->Hn (Hg W)
 | .tup xs=>gV xs
 | .ref i=>gO S i
 | _=>td
noncomputable abbrev fM:Ho:=20
noncomputable def y8 (x y:W)(S:aa):Hn HU:=match eO S y with
 | some ys=>if bB x&&ys.all bB then gV (ys.any λz=>mO z x)else td
 | none=>td
noncomputable def vm:W->HU
 | .non=>true
 | _=>false
noncomputable def vn (f:Hv->Hv->HU):W->W->Hn HU
 | .int i,.int j=>gV (f i j)
 | _,_=>td
noncomputable def uF:COp->W->W->aa->Hn HU
 | .eq,x,y,S=>gP S fM x y
 | .ne,x,y,S=>(gP S fM x y).map (!·)
 | .lt,x,y,_=>vn (λi j=>decide (i < j)) x y
 | .le,x,y,_=>vn (λi j=>decide (i<=j)) x y
 | .gt,x,y,_=>vn (λi j=>decide (j < i)) x y
 | .ge,x,y,_=>vn (λi j=>decide (j<=i)) x y
 | .isin,x,y,S=>y8 x y S
 | .notin,x,y,S=>(y8 x y S).map (!·)
 | .is,x,y,_=>if vm y then gV (vm x)else td
 | .isnot,x,y,_=>if vm y then gV (!vm x)else td
noncomputable def dJ (o:COp)(x y:W)(S:aa):Hn (W×aa):=(uF o x y S).map λk=>(.bl k,S)
section
variable{X:Cx}
theorem rs {pins:Hg (Ht×Jo)}{σ:L2.St}{H:Hp}{s:Hm}{A:Hg Ht}{S:aa}{k:HU}(I:Inv X pins σ H s)(so:StoreOk X.w X.K A H S):dG X pins σ A H S (.bl k) (.bool k) s:=
 #[.bl k,H,A,I,rfl,.refl,so,.bl]
theorem y9 {o:COp}{x y w:W}{S S':aa}(h:dJ o x y S=gV (w,S')):∃k,uF o x y S=gV k/\w=.bl k/\S'=S:=by
 unfold dJ at h;rw[Hl]at h;obtain⟨k,h1,h2⟩:=h;cases h2;exact#[k,h1,rfl,rfl]
theorem jN {A:Hg Ht}{H:Hp}{w:W}{v:V}(r:Rel X.K A H w v)(f:bB w=true):gG v=true:=by
 cases r <;> first|rfl|cases f
theorem iO {A:Hg Ht}{H:Hp}:∀ {ws:Hg W} {vs:Hg V},RelL X.K A H ws vs->ws.all bB=true->vs.all gG=true
 | _,_,.nil,_=>rfl
 | _,_,.cons r t,f=>by
  rw[IF,Hs]at f ⊢;exact#[jN r f.1,iO t f.2]
theorem rz {A:Hg Ht}{H:Hp}{x y:W}{u v:V}(r:Rel X.K A H x u)(q:Rel X.K A H y v)(fx:bB x=true)(fy:bB y=true):yL u v=mO x y:=by
 cases r <;> cases q <;> first|rfl|cases fx|cases fy
theorem rA {A:Hg Ht}{H:Hp}{y:W}{v:V}(q:Rel X.K A H y v)(fy:bB y=true):∀ {ws:Hg W} {vs:Hg V},RelL X.K A H ws vs->ws.all bB=true->Fg v vs=ws.any λz=>mO z y
 | _,_,.nil,_=>rfl
 | _,_,.cons r t,f=>by
  rw[IF,Hs]at f;have:=rA q fy t f.2;unfold Fg at this ⊢;rw[Kh,Kh,rz r q f.1 fy,this]
theorem mP {pins:Hg (Ht×Jo)}{σ:L2.St}{H:Hp}{s:Hm}{A:Hg Ht}{S:aa}{y:W}{b:V}{ys:Hg W}(so:StoreOk X.w X.K A H S)(r:Rel X.K A H y b)(e:eO S y=gV ys):∃p vs,b=.ref p/\(SqL X.K H p vs\/SqT X.K H p vs)/\RelL X.K A H ys vs:=by
 cases r with
 | tup h1 r1=>cases e; exact#[_,_,rfl,.inr h1,r1]
 | ref ea=>
  obtain⟨vs,h1,r1⟩:=cH so e ea;exact#[_,vs,rfl,.inl h1,r1]
 | _=>cases e
theorem vo {neg:HU}{o:Oh}(ho:OpR X (compareOp o) (F0 X.K neg)){pins:Hg (Ht×Jo)}{σ:L2.St}{H:Hp}{s:Hm}{A:Hg Ht}{S:aa}{x y:W}{a b:V}{u v:Hj}{ys:Hg W}(I:Inv X pins σ H s)(so:StoreOk X.w X.K A H S)
  (rx:Rel X.K A H x a) (ru:RelV a u) (ry:Rel X.K A H y b) (rv:RelV b v) (e:eO S y=gV ys) (f:(bB x&&ys.all bB)=true) :
  wpAny (model X.prog X.w) X.A (compareOp o u v) (dG X pins σ A H S (.bl (if neg then !ys.any λz=>mO z x else ys.any λz=>mO z x))) X.xe s:=by
 obtain⟨p,vs,rfl,hq,rl⟩:=mP (pins:=pins) (σ:=σ) (s:=s) so ry e;rw[Hs]at f;refine OpR.go ho I ru rv #[p,vs,rfl,hq,jN rx f.1,iO rl f.2,?_];rw[rA rx f.1 rl f.2];exact .here so .bl
theorem hJ (hu:X.A.units+fM < cLine)(o:COp):LOp X (compareOp o.py) (dJ o):=by
 intro pins s σ H A S x y a b u v w S' I so rx ru ry rv e;obtain⟨k,ek,e1,e2⟩:=y9 e;subst e1;subst e2;clear e
 rename aa=>S
 have twoI:∀ {f:Hv->Hv->HU},vn f x y=gV k->∃i j,x=.int i/\y=.int j/\k=f i j:=by
  intro f h;cases x with
  | int i=>cases y with
   | int j=>cases h; exact#[i,j,rfl,rfl,rfl]
   | _=>cases h
  | _=>cases h
 have hu1:X.A.units+1 < cLine:=by have:fM=20:=rfl; omega
 have ofSq:∀ {c:HU},y8 x y S=gV c->(∃ys,eO S y=gV ys/\(bB x&&ys.all bB)=true/\c=ys.any λz=>mO z x):=by
  intro c h;unfold y8 at h;split at h
  ·split at h
   ·cases h; exact#[_,by assumption,by assumption,rfl]
   ·cases h
  ·cases h
 have ofN:∀ {c:HU},(if vm y then gV c else td)=gV k->y=.non/\k=c:=by
  intro c h;cases y with
  | non=>cases h; exact#[rfl,rfl]
  | _=>cases h
 cases o with
 | eq=>exact(AK I so fM X.A hu #[a,rx,ru] #[b,ry,rv] ek).1 _ _ _ _ (rs I so)
 | ne=>
  obtain⟨k',h1,rfl⟩:=Hl.mp ek;exact(AK I so fM X.A hu #[a,rx,ru] #[b,ry,rv] h1).2.1 _ _ _ _ (rs I so)
 | lt=>
  obtain⟨i,j,rfl,rfl,rfl⟩:=twoI ek;cases rx; cases ry
  exact OpR.go DK I ru rv #[_,_,rfl,rfl,.here so .bl]
 | le=>
  obtain⟨i,j,rfl,rfl,rfl⟩:=twoI ek;cases rx; cases ry
  exact OpR.go DL I ru rv #[_,_,rfl,rfl,.here so .bl]
 | gt=>
  obtain⟨i,j,rfl,rfl,rfl⟩:=twoI ek;cases rx; cases ry
  exact OpR.go DM I ru rv #[_,_,rfl,rfl,.here so .bl]
 | ge=>
  obtain⟨i,j,rfl,rfl,rfl⟩:=twoI ek;cases rx; cases ry
  exact OpR.go DN I ru rv #[_,_,rfl,rfl,.here so .bl]
 | isin=>
  obtain⟨ys,h1,h2,rfl⟩:=ofSq ek;exact vo (neg:=false) sV I so rx ru ry rv h1 h2
 | notin=>
  obtain⟨c,h,rfl⟩:=Hl.mp ek;obtain⟨ys,h1,h2,rfl⟩:=ofSq h;exact vo (neg:=true) mK I so rx ru ry rv h1 h2
 | is=>
  obtain⟨rfl,rfl⟩:=ofN ek;cases ry;refine OpR.go BQ I ru rv #[rfl,?_];cases rx <;> exact .here so .bl
 | isnot=>
  obtain⟨rfl,rfl⟩:=ofN ek;cases ry;refine OpR.go yB I ru rv #[rfl,?_];cases rx <;> exact .here so .bl
end
end Mi
namespace HT
open PySem PyProof.Rows
section
variable{prog:Ik}{w:Ix}{A:Iu}{E:Hj->Hm->Prop}{s:Hm}
theorem gA {t sl:Ht}{items:IC Hj}{vl vu:Hj}{lo hi:Hn Hv}{Q:Hj->Hm->Prop}(ht:Ny s.heap t items)(hs:s.heap.IsSliceOf sl vl vu .none)(pl:LF vl lo)(pu:LF vu hi)
  (hw:cu items.size 0 lo=0/\cu items.size items.size hi=items.size) (h:Q (.ref t) s):wpAny (model prog w) A (getItem (.ref t) (.ref sl)) Q E s:=by
 obtain⟨os,hos,hcs,hds⟩:=id hs;have hTs:s.TypeIs (.ref sl) "slice":=#[os,hos,hcs];unfold getItem
 try with_reducible refine Jk ?_
 first|refine Hi (Hx ?_)|skip
 refine Hi (NG ht.typeIs #v[] ?_)
 refine Hi (IU (name:=JS "__getitem__") ht.typeIs JC
  (Je JC ht.typeIs M1 ?_ (Nm _ _)))
 show wpAny _ _ (KG (.ref t) >>= _) _ _ s;refine Hi (OV ht ?_);refine Hi (Ly hTs ?_);rw[HV #v[]]
 refine Hi (eM hs pl pu ?_);have hyes:((((cu items.size 0 lo:Ho):Hv)==0&&(1:Hv)==1&&(cu items.size items.size hi - cu items.size 0 lo)==items.size)=true):=by
  rw[hw.1,hw.2];simp
 show wpAny _ _ (if (((cu items.size 0 lo:Ho):Hv)==0&&(1:Hv)==1&&(cu items.size items.size hi - cu items.size 0 lo)==items.size)=true then _ else _) _ _ s
 rw[HV hyes];unfold OG;refine Hi (Hi (Ly ht.typeIs (Hx ?_)));rw[HV #v[]]
 exact Hi (Nj (Hi (Hx (Hx #[_,rfl,Hx h]))))
end
end HT
namespace Mi
open PySem PySem.Spec PyProof.Rows L2
noncomputable def tj (x y:W)(S:aa):Hn (W×aa):=match x,y with
 | .tup xs,.int i=>(ol xs i).map λw=>(w,S)
 | .ref r,.int i=>match gO S r with
  | some xs=>(ol xs i).map λw=>(w,S)
  | none=>td
 | .str x,.int i=>if x.length<=sizeLine then(ol x.cps.toList i).map λc=>(.str #[[c].toArray],S)else td
 | _,_=>td
noncomputable def js (xs:Hg W)(lo hi:Hn Hv):Hg W:=(xs.drop (HT.cu xs.length 0 lo)).take (HT.cu xs.length xs.length hi - HT.cu xs.length 0 lo)
noncomputable def jg (x:W)(lo hi:Hn Hv)(S:aa):Hn (W×aa):=match x with
 | .tup xs=>gV (.tup (js xs lo hi),S)
 | .ref r=>match gO S r with
  | some xs=>gV (.ref S.length,S++[.lst (js xs lo hi)])
  | none=>td
 | _=>td
noncomputable def tm (o i v:W)(S:aa):Hn aa:=match o,i with
 | .ref r,.int k=>match nY S r with
  | some xs=>match rg xs.length k with
   | some j=>gV (S.set r (.lst (xs.set j v)))
   | none=>td
  | none=>td
 | _,_=>td
section
variable (X:Cx)
noncomputable def LIx (g:W->W->aa->Hn (W×aa)):Prop:=
 ∀(value slice:HS) (pins:Hg (Ht×Jo)) (s:Hm) (σ:L2.St) (H:Hp) (A:Hg Ht) (S:aa) (x y:W) (a b:V) (u v:Hj) (w:W) (S':aa),Inv X pins σ H s->StoreOk X.w X.K A H S->
  Rel X.K A H x a->RelV a u->Rel X.K A H y b->RelV b v->g x y S=gV (w,S')->subscripted slice false u v=operate [u,v] (getItem u v)->wpAny (model X.prog X.w) X.A (subscriptTail value slice u v) (dG X pins σ A H S' w) X.xe s
noncomputable def LSl (g:W->Hn Hv->Hn Hv->aa->Hn (W×aa)):Prop:=
 ∀(pins:Hg (Ht×Jo)) (s:Hm) (σ:L2.St) (H:Hp) (A:Hg Ht) (S:aa) (x:W) (a:V) (v vl vu:Hj) (lo hi:Hn Hv) (sl:Ht) (w:W) (S':aa),Inv X pins σ H s->StoreOk X.w X.K A H S->
  Rel X.K A H x a->RelV a v->s.heap.IsSliceOf sl vl vu .none->LF vl lo->LF vu hi->g x lo hi S=gV (w,S')->
  ∃T id,typeLookup (.type T) "__getitem__" = pure (gV (.builtin id))/\s.TypeIs v T/\wpAny (model X.prog X.w) X.A (getItem v (.ref sl)) (dG X pins σ A H S' w) X.xe s
noncomputable def LSet (g:W->W->W->aa->Hn aa):Prop:=
 ∀(pins:Hg (Ht×Jo)) (s:Hm) (σ:L2.St) (H:Hp) (A:Hg Ht) (S:aa) (o i x:W) (ao ai ax:V) (uo ui ux:Hj) (S':aa),Inv X pins σ H s->StoreOk X.w X.K A H S->
  Rel X.K A H o ao->RelV ao uo->Rel X.K A H i ai->RelV ai ui->Rel X.K A H x ax->RelV ax ux->g o i x S=gV S'->
  wpAny (model X.prog X.w) X.A (setItem uo ui ux) (λ_ s'=>∃H' A',Inv X pins σ H' s'/\Ext X.K A H A' H'/\StoreOk X.w X.K A' H' S') X.xe s
noncomputable def LCall (f:Hj)(g:Hg W->aa->Hn (W×aa)):Prop:=
 ∀(pins:Hg (Ht×Jo)) (s:Hm) (σ:L2.St) (H:Hp) (A:Hg Ht) (S:aa) (xs:Hg W) (vs:Hg V) (us:Hg Hj) (w:W) (S':aa),Inv X pins σ H s->StoreOk X.w X.K A H S->
  RelL X.K A H xs vs->Vals vs us->g xs S=gV (w,S')->wpAny (model X.prog X.w) X.A (call f us) (dG X pins σ A H S' w) X.xe s
noncomputable def LMeth (id:Jb)(g:W->Hg W->aa->Hn (W×aa)):Prop:=
 ∀(pins:Hg (Ht×Jo)) (s:Hm) (σ:L2.St) (H:Hp) (A:Hg Ht) (S:aa) (x:W) (a:V) (u:Hj) (xs:Hg W) (vs:Hg V) (us:Hg Hj) (w:W) (S':aa),Inv X pins σ H s->StoreOk X.w X.K A H S->
  Rel X.K A H x a->RelV a u->RelL X.K A H xs vs->Vals vs us->g x xs S=gV (w,S')->wpAny (model X.prog X.w) X.A (call (.builtin id) (u::us)) (dG X pins σ A H S' w) X.xe s
end
section
variable{X:Cx}{pins:Hg (Ht×Jo)}{σ:L2.St}{H:Hp}{s:Hm}{A:Hg Ht}{S:aa}
theorem IxR.go {r:R2}(h:IxR X r){S':aa}{w:W}{a b:V}{u v:Hj}{value slice:HS}(I:Inv X pins σ H s)(ru:RelV a u)(rv:RelV b v)(q:r a b H (EndV X.w X.K A H S' w))(hs:subscripted slice false u v=operate [u,v] (getItem u v)) :
  wpAny (model X.prog X.w) X.A (subscriptTail value slice u v) (dG X pins σ A H S' w) X.xe s:=bo (h value slice pins s σ H a b u v _ I ru rv q hs) λ_ _=>EP.post
theorem CallR.go {f:Hj}{r:Hg V->Hp->VK->Prop}(h:CallR X f r){S':aa}{w:W}{vs:Hg V}{us:Hg Hj}(I:Inv X pins σ H s)(rv:Vals vs us)(q:r vs H (EndV X.w X.K A H S' w)) :
  wpAny (model X.prog X.w) X.A (call f us) (dG X pins σ A H S' w) X.xe s:=bo (h pins s σ H vs us _ I rv q) λ_ _=>EP.post
theorem MtR.go {id:Jb}{r:V->Hg V->Hp->VK->Prop}(h:MtR X id r){S':aa}{w:W}{a:V}{u:Hj}{vs:Hg V}{us:Hg Hj}(I:Inv X pins σ H s)(ru:RelV a u)(rv:Vals vs us)(q:r a vs H (EndV X.w X.K A H S' w)) :
  wpAny (model X.prog X.w) X.A (call (.builtin id) (u::us)) (dG X pins σ A H S' w) X.xe s:=bo (h pins s σ H a vs u us _ I ru rv q) λ_ _=>EP.post
theorem rB {xs:Hg W}{vs:Hg V}{i:Hv}{w:W}(r:RelL X.K A H xs vs)(e:ol xs i=gV w):∃v,ol vs i=gV v/\Rel X.K A H w v:=by
 unfold ol at e ⊢;rw[r.length]at e;cases q:rg vs.length i with
 | none=>rw[q]at e; cases e
 | some j=>
  rw[q]at e;obtain⟨v,h1,h2⟩:=r.get (show xs[j]?=gV w from e)
  exact#[v,h1,h2]
theorem G1 (hu:X.A.units+10 < cLine):LIx X tj:=by
 intro value slice pins s σ H A S x y a b u v w S' I so rx ru ry rv e hs;cases rx with
 | tup h1 r1=>cases ry with
  | int=>
   (dsimp only[tj]at e; simp only[Hl]at e)
   obtain⟨w',e1,e2⟩:=e;cases e2;obtain⟨z,h2,r2⟩:=rB r1 e1;exact IxR.go BX I ru rv #[_,_,_,_,rfl,rfl,h1,h2,.here so r2] hs
  | _=>cases e
 | ref ea=>cases ry with
  | int=>
   dsimp only[tj]at e;split at e
   ·rename_i ws hw;rw[Hl]at e;obtain⟨w',e1,e2⟩:=e;cases e2;obtain⟨vs,h1,r1⟩:=cH so hw ea;obtain⟨z,h2,r2⟩:=rB r1 e1;exact IxR.go yJ I ru rv #[_,_,_,_,rfl,rfl,h1,h2,.here so r2] hs
   ·cases e
  | _=>cases e
 | str=>cases ry with
  | int=>
   dsimp only[tj]at e;split at e
   ·rw[Hl]at e;obtain⟨c,e1,e2⟩:=e;cases e2;exact IxR.go BY I ru rv #[_,_,_,rfl,rfl,by assumption,e1,.here so .str] hs
   ·cases e
  | _=>cases e
 | _=>cases ry <;> cases e
theorem mQ {xs:Hg W}{vs:Hg V}{lo hi:Hn Hv}(r:RelL X.K A H xs vs):RelL X.K A H (js xs lo hi) (jJ vs lo hi):=by
 unfold js jJ;rw[r.length];exact(r.drop _).take _
theorem zb:DS X (λx lo hi H Q=>∃a xs,x=.ref a/\SqT X.K H a xs/\(jJ xs lo hi=xs->Q (.ref a) H)/\∀p,H p=td->Q (.ref p) (bQ H p (.tup (jJ xs lo hi)))):=by
 intro pins s σ H x v vl vu lo hi sl Q I rx hs pl pu h;obtain⟨a,xs,rfl,hx,q0,q⟩:=h
 by_cases hw:(HT.cu xs.length 0 lo=0/\HT.cu xs.length xs.length hi=xs.length)
 ·cases rx;obtain⟨its,r,ht,hz⟩:=I.tuple hx;have hlen:its.toArray.size=xs.length:=by rw[HH]; exact r.length.symm
  refine#["tuple",_,PyProof.Rows.slot_tuple_getitem.lookup,ht.typeIs,?_];refine HT.gA ht hs pl pu (by rw[hlen]; exact hw) #[.ref a,H,I,rfl,q0 ?_]
  unfold jJ;rw[hw.1,hw.2];simp
 ·exact BW pins s σ H (.ref a) v vl vu lo hi sl Q I rx hs pl pu #[a,xs,rfl,hx,hw,q]
theorem G2:LSl X jg:=by
 intro pins s σ H A S x a v vl vu lo hi sl w S' I so rx rv hs pl pu e;cases rx with
 | tup h1 r1=>
  cases e;obtain⟨T,id,z1,z2,z3⟩:=zb pins s σ H _ v vl vu lo hi sl (EndV X.w X.K A H S (.tup (js _ lo hi))) I rv hs pl pu #[_,_,rfl,h1,λq=>.here so (.tup h1 (by have:=mQ (lo:=lo) (hi:=hi) r1; rw[q]at this; exact this)),λp hp=>.tup so (mQ r1) hp]
  exact#[T,id,z1,z2,bo z3 λ_ _=>EP.post]
 | ref ea=>
  simp only[jg]at e;split at e
  ·rename_i ws hw;cases e;obtain⟨vs,h1,r1⟩:=cH so hw ea;obtain⟨T,id,z1,z2,z3⟩:=yK pins s σ H _ v vl vu lo hi sl (EndV X.w X.K A H (S++[.lst (js ws lo hi)]) (.ref S.length)) I rv hs pl pu #[_,_,rfl,h1,λp hp=>.lst so (mQ r1) hp]
   exact#[T,id,z1,z2,bo z3 λ_ _=>EP.post]
  ·cases e
 | _=>cases e
theorem lset (hu:X.A.units+10 < cLine):LSet X tm:=by
 intro pins s σ H A S o i x ao ai ax uo ui ux S' I so ro ruo ri rui rx rux e;cases ro with
 | ref ea=>cases ri with
  | int=>
   simp only[tm]at e;split at e
   ·rename_i ws hw;split at e
    ·rename_i j hj;cases e;obtain⟨vs,h1,r1⟩:=eH so hw ea;rw[r1.length]at hj;obtain⟨so',ex⟩:=so.write (jL hw) ea (r1.set rx j);exact bo (u4 pins s σ H _ _ _ uo ui ux (λH'=>H'=bQ H _ (.lst (vs.set j ax))) I ruo rui rux #[_,_,_,_,rfl,rfl,h1,hj,rfl]) λ_ s' #[H',I',e']=>#[_,A,e' ▸ I',ex,so']
    ·cases e
   ·cases e
  | _=>cases e
 | _=>cases ri <;> cases e
noncomputable def p9 (xs:Hg W)(S:aa):Hn (W×aa):=match xs with
 | [.tup ys]=>gV (.int ys.length,S)
 | [.str y]=>if y.length<=sizeLine then gV (.int y.length,S)else td
 | [.ref i]=>(gO S i).map λys=>(.int ys.length,S)
 | _=>td
theorem tq:LCall X (.builtin "len") p9:=by
 intro pins s σ H A S xs vs us w S' I so rl rv e;cases rl with
 | nil=>cases e
 | cons r t=>
  cases t with
  | cons _ _=>cases r <;> cases e
  | nil=>
   cases r with
   | tup h1 r1=>cases e; rw[r1.length]; exact CallR.go jG I rv #[_,_,rfl,.inr #[_,h1,rfl],.here so .int]
   | str=>
    dsimp only[p9]at e;split at e
    ·cases e; exact CallR.go jG I rv #[_,_,rfl,#[by assumption,rfl],.here so .int]
    ·cases e
   | ref ea=>
    (dsimp only[p9]at e; simp only[Hl]at e)
    obtain⟨ws,hw,e2⟩:=e;cases e2;obtain⟨vs',h1,r1⟩:=cH so hw ea;rw[r1.length];exact CallR.go jG I rv #[_,_,rfl,.inl #[_,h1,rfl],.here so .int]
   | _=>cases e
noncomputable def hW (xs:Hg W)(S:aa):Hn (W×aa):=match xs with
 | [x]=>match eO S x with
  | some ys=>gV (.ref S.length,S++[.lst ys])
  | none=>td
 | _=>td
theorem gQ:LCall X (.type "list") hW:=by
 intro pins s σ H A S xs vs us w S' I so rl rv e;cases rl with
 | nil=>cases e
 | cons r t=>
  cases t with
  | cons _ _=>cases e
  | nil=>
   simp only[hW]at e;split at e
   ·rename_i ys hy;cases e;obtain⟨p,vs',rfl,hq,r1⟩:=mP (pins:=pins) (σ:=σ) (s:=s) so r hy;exact CallR.go mL I rv #[p,vs',rfl,hq,λl hl=>.lst so r1 hl]
   ·cases e
noncomputable def jO (xs:Hg W)(S:aa):Hn (W×aa):=match xs with
 | [.tup ys]=>gV (.tup ys,S)
 | [.ref i]=>match gO S i with
  | some ys=>gV (.tup ys,S)
  | none=>td
 | _=>td
theorem jh:LCall X (.type "tuple") jO:=by
 intro pins s σ H A S xs vs us w S' I so rl rv e;cases rl with
 | nil=>cases e
 | cons r t=>
  cases t with
  | cons _ _=>cases r <;> cases e
  | nil=>
   cases r with
   | tup h1 r1=>cases e; exact CallR.go gH I rv #[_,_,rfl,.inr #[h1,.here so (.tup h1 r1)]]
   | ref ea=>
    dsimp only[jO]at e;split at e
    ·rename_i ys hy;cases e;obtain⟨vs',h1,r1⟩:=cH so hy ea;exact CallR.go gH I rv #[_,_,rfl,.inl #[h1,λl hl=>.tup so r1 hl]]
    ·cases e
   | _=>cases e
noncomputable def DX (xs:Hg W)(S:aa):Hn (W×aa):=match xs with
 | [.int i]=>gV (.int i,S)
 | [.bl b]=>gV (.int (if b then 1 else 0),S)
 | _=>td
theorem tt:LCall X (.type "int") DX:=by
 intro pins s σ H A S xs vs us w S' I so rl rv e;cases rl with
 | nil=>cases e
 | cons r t=>
  cases t with
  | cons _ _=>cases r <;> cases e
  | nil=>
   cases r with
   | int=>cases e; exact CallR.go lq I rv (.inl #[_,rfl,.here so .int])
   | bl=>cases e; exact CallR.go lq I rv (.inr #[_,rfl,.here so .int])
   | _=>cases e
noncomputable def hX (x:W)(xs:Hg W)(S:aa):Hn (W×aa):=match x,xs with
 | .ref i,[y]=>match nY S i with
  | some ys=>if ys.length < sizeLine then gV (.non,S.set i (.lst (ys++[y])))else td
  | none=>td
 | _,_=>td
theorem iP {i:Ho}{p:Ht}{ws ws0:Hg W}{us:Hg V}(so:StoreOk X.w X.K A H S)(e:nY S i=gV ws0)(ea:A[i]?=gV p)(r:RelL X.K A H ws us){w:W}{v:V}(rw':Rel X.K A H w v) :
  EndV X.w X.K A H (S.set i (.lst ws)) w v (bQ H p (.lst us)):=by
 obtain⟨so',ex⟩:=so.write (jL e) ea r;exact#[A,ex,so',rw'.mono ex]
theorem mR:LMeth X "list.append" hX:=by
 intro pins s σ H A S x a u xs vs us w S' I so rx ru rl rv e;cases rx with
 | ref ea=>
  cases rl with
  | nil=>cases e
  | cons r t=>
   cases t with
   | cons _ _=>cases e
   | nil=>
    simp only[hX]at e;split at e
    ·rename_i ys hy;split at e
     ·rename_i hl;cases e;obtain⟨vs',h1,r1⟩:=eH so hy ea;rw[r1.length]at hl;exact MtR.go sW I ru rv #[_,_,_,rfl,rfl,h1,hl,iP so hy ea (r1.append #v[r]) .non]
     ·cases e
    ·cases e
 | _=>cases e
noncomputable def hZ (x:W)(xs:Hg W)(S:aa):Hn (W×aa):=match x,xs with
 | .ref i,[.ref j]=>match nY S i,nY S j with
  | some ys,gV zs=>if ys.length+zs.length<=sizeLine then gV (.non,S.set i (.lst (ys++zs)))else td
  | _,_=>td
 | _,_=>td
theorem mS:LMeth X "list.extend" hZ:=by
 intro pins s σ H A S x a u xs vs us w S' I so rx ru rl rv e;cases rx with
 | ref ea=>
  cases rl with
  | nil=>cases e
  | cons r t=>
   cases t with
   | cons _ _=>cases r <;> cases e
   | nil=>
    cases r with
    | ref eb=>
     dsimp only[hZ]at e;split at e
     ·rename_i ys zs hy hz;split at e
      ·rename_i hl;cases e;obtain⟨vs',h1,r1⟩:=eH so hy ea;obtain⟨vs2,h2,r2⟩:=eH so hz eb;rw[r1.length,r2.length]at hl;exact MtR.go sX I ru rv #[_,_,_,_,rfl,rfl,h1,h2,hl,iP so hy ea (r1.append r2) .non]
      ·cases e
     ·cases e
    | _=>cases e
 | _=>cases e
noncomputable def B3 (x:W)(xs:Hg W)(S:aa):Hn (W×aa):=match x,xs with
 | .ref i,[.int k]=>match nY S i with
  | some ys=>if -(2 ^ 63)<=k/\k < 2 ^ 63 then match seqIndex? k ys.length with
   | some j=>match ys[j]? with
    | some y=>gV (y,S.set i (.lst (ys.eraseIdx j)))
    | none=>td
   | none=>td
   else td
  | none=>td
 | _,_=>td
theorem tu:LMeth X "list.pop" B3:=by
 intro pins s σ H A S x a u xs vs us w S' I so rx ru rl rv e;cases rx with
 | ref ea=>
  cases rl with
  | nil=>cases e
  | cons r t=>
   cases t with
   | cons _ _=>cases r <;> cases e
   | nil=>
    cases r with
    | int=>
     dsimp only[B3]at e;split at e
     ·rename_i ys hy;split at e
      ·rename_i hk;split at e
       ·rename_i j hj;split at e
        ·rename_i y hyj;cases e;obtain⟨vs',h1,r1⟩:=eH so hy ea;obtain⟨v',h2,r2⟩:=r1.get hyj;rw[r1.length]at hj;exact MtR.go u6 I ru rv #[_,_,_,_,_,rfl,rfl,h1,hk.1,hk.2,hj,h2,iP so hy ea (r1.eraseIdx j) r2]
        ·cases e
       ·cases e
      ·cases e
     ·cases e
    | _=>cases e
 | _=>cases e
theorem iQ {M:PX}{A:Iu}{E:Hj->Hm->Prop}{s:Hm}{β:Type}{m:Ho}(f:Ho->β->Pk (ForInStep β))(I:Ho->β->Hm->Prop)(Q:β->Hm->Prop)
  (turn:∀i b s,i < m->I i b s->wpAny M A (f i b) (λr s'=>match r with|.yield b'=>I (i+1) b' s'|.done b'=>Q b' s') E s)
  (fin:∀b s,I m b s->Q b s) (b:β) (h:I 0 b s):wpAny M A (forIn [0:m] b f) Q E s:=by
 rw[Std.Legacy.Range.forIn_eq_forIn_range'];simp only[Std.Legacy.Range.size,NN,Np,Nat.div_one];refine L9 _ (λcv b s'=>∃i,i<=m/\cv=Pu i (m - i)/\I i b s') _ ?_ ?_ _ _ #[0,JJ _,by simp,h]
 ·rintro x cv b s' ⟨i,hi,hr,hI⟩;have hlt:i < m:=by
   rcases NO i m with h|h
   ·exact h
   ·rw[Nat.sub_eq_zero_of_le h]at hr; simp at hr
  obtain⟨rfl,hrest⟩ : x=i/\cv=Pu (i+1) (m - (i+1)):=by
   have e:m - i=(m - (i+1))+1:=∅
   rw[e,N7]at hr;injection hr with h1 h2
   exact#[h1,h2]
  refine Jx (turn x b s' hlt hI) (λr s2 hr2=>?_) λ_ _ e=>e
  cases r with
  | yield b'=>exact#[x+1,hlt,hrest,hr2]
  | done b'=>exact hr2
 ·rintro b s' ⟨i,hi,hr,hI⟩;have:i=m:=by
   rcases NO i m with h|h
   ·have e:m - i=(m - (i+1))+1:=∅
    rw[e,N7]at hr; cases hr
   ·omega
  exact fin b s' (this ▸ hI)
open SeqAt in
theorem kY (l:Ht)(items:IC Hj)(n:Ho)(dd:Hn Ht)(sl:IC (Hn Hj))(x:Hj)(e:Hj->HU)(j:Ho)(hj:j < items.size)
  (hit:e items[j]=true) (hno:∀m (hm:m < items.size),m < j->e items[m]=false) :
  Meets (Mm.«tuple.index» #[[.ref l,x],[]])
   (λA R s=>s.heap.get? l=gV { cls:=.type "tuple",dict:=dd,data:=.seq items n,slots:=sl }/\(∀y,y∈items->EqAt A.in1 s y x (e y))/\R (.ok (.ret (.int j s.toks))) { s with toks:=s.toks+1 }):=
 .of_wp λprog w A R s h=>by
  obtain⟨hp,g,d,tk,os⟩:=s; obtain⟨hl,he,h⟩:=h
  wp_walk using K1 hl,iQ _ (λi b s'=>b.1=td/\s'=#[hp,g,d,tk,os]/\i<=j) _
  case turn=>
   rintro i b s' hi ⟨hb,rfl,hij⟩;have hi2:i < items.size:=∅
   rw[KO hi2];refine Hi (he _ (Array.getElem_mem hi2) prog w _ _ ?_)
   by_cases ej:i=j
   ·subst ej;rw[hit]
    wp_walk
    exact#[_,rfl,h]
   ·rw[hno i hi2 ∅]
    wp_walk
    exact#[rfl,rfl,∅]
  case fin=>
   rintro b s' ⟨hb,rfl,hij⟩;rw[JU]at hij;omega
  case h=>exact#[rfl,rfl,JJ _]
theorem mT {A:Hg Ht}{H:Hp}:∀ {ws:Hg W} {vs:Hg V} {us:Hg Hj},RelL X.K A H ws vs->Vals vs us->ws.all bB=true->∀(j:Ho) (h:j < us.length) (h':j < ws.length),om .non us[j]=mO ws[j] .non
 | _,_,_,.nil,.nil,_,j,h,_=>absurd h (Op _)
 | _,_,_,.cons r t,.cons q p,f,j,h,h'=>by
  rw[IF,Hs]at f;cases j with
  | zero=>exact(p4 q (jN r f.1)).trans (rz r .non f.1 rfl)
  | succ j=>exact mT t p f.2 j (Mn h) (Mn h')
noncomputable def ib (x:W)(xs:Hg W)(S:aa):Hn (W×aa):=match x,xs with
 | .tup ys,[.non]=>if ys.all bB then(ys.findIdx? λz=>mO z .non).map λj=>(.int (j:Ho),S)else td
 | _,_=>td
theorem ou:LMeth X "tuple.index" ib:=by
 intro pins s σ H A S x a u xs vs us w S' I so rx ru rl rv e;cases rx with
 | tup hq r1=>
  cases rl with
  | nil=>cases e
  | cons r t=>
   cases t with
   | cons _ _=>cases r <;> cases e
   | nil=>
    cases r with
    | non=>
     dsimp only[ib]at e;split at e
     ·rename_i hf;rw[Hl]at e;obtain⟨j,hj,e⟩:=e;cases e;cases ru;obtain⟨u',rfl,q'⟩:=rv.one;cases(show u'=IK from q')
      obtain⟨its,r2,⟨⟨cls,dd,data,sl⟩,eo,hc,n,hd⟩,hz⟩:=I.tuple hq;dsimp only at hc hd;subst hc hd;have hl:its.length=_:=r2.length.symm.trans r1.length.symm;obtain⟨hj1,hj2,hj3⟩:=J5.mp hj;refine Ll L3 #[_,eo,rfl] PySem.F.entry_tuple_index (PySem.F.args_tuple_index_2 _ _) (kY _ its.toArray n dd sl .none (om .non) j (by rw[HH,hl]; exact hj1) ?_ λm hm h=>?_) #[eo,λy hy=>eN (x:=.non) rfl rfl r2 (iO r1 hf) y (by simpa using hy),#[.int _,H,A,I.tok _,#[_,rfl],.refl,so,.int]]
      ·exact(mT r1 r2 hf j (by rw[hl]; exact hj1) hj1).trans hj2
      ·have hm':m < its.length:=by simpa using hm
       exact(mT r1 r2 hf m hm' (by rw[<- hl]; exact hm')).trans (by simpa using hj3 m h)
     ·cases e
    | _=>cases e
 | _=>cases e
noncomputable def mU:Hg W->Hn (Hg HJ)
 | []=>gV []
 | .str x::xs=>(mU xs).map (x :: ·)
 | _::_=>td
noncomputable def vp (x:W)(xs:Hg W)(S:aa):Hn (W×aa):=match x,xs with
 | .str x,[y]=>match eO S y with
  | some ys=>match mU ys with
   | some zs=>if (zs.map (·.length)).sum+zs.length*x.length<=16777216 then gV (.str (Txt.join x zs),S)else td
   | none=>td
  | none=>td
 | _,_=>td
theorem jP:∀ {ws:Hg W} {vs:Hg V} {us:Hg Hj} {zs:Hg HJ},RelL X.K A H ws vs->Vals vs us->mU ws=gV zs->StrsAre us zs
 | _,_,_,zs,.nil,.nil,e=>by cases e; exact .nil
 | _,_,_,zs,.cons r t,.cons q p,e=>by
  cases r with
  | str=>
   simp only[mU,Hl]at e;obtain⟨z,e1,e2⟩:=e;subst e2;obtain⟨tk,rfl⟩ : ∃t,_=Li _ t:=q;exact .cons _ tk (jP t p e1)
  | _=>cases e
theorem qa:LMeth X "str.join" vp:=by
 intro pins s σ H A S x a u xs vs us w S' I so rx ru rl rv e;cases rx with
 | str=>
  cases rl with
  | nil=>cases e
  | cons r t=>
   cases t with
   | cons _ _=>cases e
   | nil=>
    simp only[vp]at e;split at e
    ·rename_i ys hy;split at e
     ·rename_i zs hz;split at e
      ·rename_i hl;cases e;obtain⟨p,vs',rfl,hq,r1⟩:=mP (pins:=pins) (σ:=σ) (s:=s) so r hy;obtain⟨t0,rfl⟩ : ∃t,u=Li _ t:=ru;obtain⟨u1,rfl,ru1⟩:=ln rv;have ru1':u1=IB p:=ru1;subst ru1';rcases hq with hq|hq
       ·obtain⟨its,rr,pl,hz'⟩:=I.list hq;exact join_list pl.isList (by simpa using jP r1 rr hz) hl λt' k=>#[.str _,H,A,I.tok _,#[_,rfl],.refl,so,.str]
       ·obtain⟨its,rr,pl,hz'⟩:=I.tuple hq;exact join_tuple pl (by simpa using jP r1 rr hz) hl λt' k=>#[.str _,H,A,I.tok _,#[_,rfl],.refl,so,.str]
      ·cases e
     ·cases e
    ·cases e
 | _=>cases e
noncomputable def cw (S:aa):W->Hn HU
 | .non=>gV false
 | .bl b=>gV b
 | .int i=>gV (i != 0)
 | .str y=>if y.length<=sizeLine then gV ((y.length:Hv) != 0)else td
 | .tup xs=>gV (!xs.isEmpty)
 | .ref i=>(gO S i).map λxs=>!xs.isEmpty
theorem ji {ws:Hg W}{vs:Hg V}(r:RelL X.K A H ws vs):(!ws.isEmpty) = !vs.isEmpty:=by cases r <;> rfl
theorem F5 {x:W}{a:V}{u:Hj}{k:HU}{Q:HU->Hm->Prop}(I:Inv X pins σ H s)(so:StoreOk X.w X.K A H S)(rx:Rel X.K A H x a)(ru:RelV a u)(e:cw S x=gV k)(hq:∀s',Inv X pins σ H s'->Q k s') :
  wpAny (model X.prog X.w) X.A (truthy u) Q X.xe s:=by
 refine bo (BR pins s σ H a u (λb H'=>b=k/\H'=H) I ru #[k,?_,rfl,rfl]) λb s' #[H',I',e1,e2]=>?_
 ·cases rx with
  | non=>cases e; rfl
  | bl=>cases e; rfl
  | int=>cases e; rfl
  | str=>
   simp only[cw]at e;split at e
   ·cases e; exact#[by assumption,rfl]
   ·cases e
  | tup h1 r1=>cases e; exact .inr (.inl #[_,h1,ji r1])
  | ref ea=>
   simp only[cw,Hl]at e;obtain⟨ws,hw,e2⟩:=e;subst e2;obtain⟨vs,h1,r1⟩:=cH so hw ea;exact .inl #[_,h1,ji r1]
 ·subst e1 e2;exact hq s' I'
end
noncomputable def zd (S:aa)(i:Ho):Hn (Hv×Hv):=match S[i]? with
 | some (.rng lo hi)=>gV (lo,hi)
 | _=>td
noncomputable def qb (xs:Hg W)(S:aa):Hn (W×aa):=match xs with
 | [.int j]=>if -(2 ^ 62)<=j/\j < 2 ^ 62 then gV (.ref S.length,S++[.rng 0 j])else td
 | _=>td
noncomputable def DY (lo:Hv)(n:Ho):Hg W:=(HG n).map λ(k:Ho)=>.int (lo+(k:Hv))
noncomputable def lF (xs:Hg W)(S:aa):Hn (W×aa):=match xs with
 | [.ref i]=>match zd S i with
  | some (lo,hi)=>if -(2 ^ 62)<=lo/\lo < 2 ^ 62/\-(2 ^ 62)<=hi/\hi < 2 ^ 62/\(hi - lo).toNat<=sizeLine then gV (.ref S.length,S++[.lst (DY lo (hi - lo).toNat)])else td
  | none=>hW [.ref i] S
 | xs=>hW xs S
section
variable{X:Cx}{pins:Hg (Ht×Jo)}{σ:L2.St}{H:Hp}{s:Hm}{A:Hg Ht}{S:aa}
theorem Inv.drawn (I:Inv X pins σ H s)(d:P8):Inv X pins σ H { s with drawn:=d }:=#[I.ok,I.os,I.bare,I.base,I.loc,I.cell,I.free,I.freeC,I.pin,I.hok,I.len]
theorem ow {h':IG}{tk:Ho}{dr:P8}{D:Ht}{n:O}{u:HO}(I:Inv X pins σ H s)(so:StoreOk X.w X.K A H S)(hk:∀b o,s.heap.get? b=gV o->h'.get? b=gV o)(hD:s.heap.objs.size<=D)(new:ObjOk X.prog X.w (bQ H D u) h' D u)
  (r:H D=td->ObjRel X.w X.K (A++[D]) (bQ H D u) D n):dG X pins σ A H (S++[n]) (.ref S.length) (.ref D) { s with heap:=h',toks:=tk,drawn:=dr }:=by
 have hn:H D=td:=I.hok.fresh hD;refine#[.ref D,_,A++[D],Mi.Inv.drawn (I.laid (a:=D) (o:=u) (t':=tk) hk hD new) dr,rfl,d3 hn,so.pushO hn (r hn),.ref ?_];rw[<- so.len]; simp
theorem mV:∀ {vs:Hg V} {us:Hg Hj},vs.length=us.length->(∀(i:Ho) v u,vs[i]?=gV v->us[i]?=gV u->L2.RelV v u)->Vals vs us
 | [],[],_,_=>.nil
 | v::vs,u::us,hl,h=>.cons (h 0 v u rfl rfl) (mV (by simpa using hl) λi v u a b=>h (i+1) v u (by simpa using a) (by simpa using b))
 | [],_::_,hl,_=>by cases hl
 | _::_,[],hl,_=>by cases hl
theorem mW {K:HA}{lo:Hv}:∀(l:Hg Ho),RelL K A H (l.map λ(k:Ho)=>W.int (lo+(k:Hv))) (l.map λ(k:Ho)=>V.int (lo+(k:Hv)))
 | []=>.nil
 | _::l=>.cons .int (mW l)
theorem rC {xs:Hg W}{vs:Hg V}{us:Hg Hj}{i:Ho}(rl:RelL X.K A H [.ref i] vs)(rv:Vals vs us):∃a,A[i]?=gV a/\us=[.ref a]:=by
 cases rl with
 | cons r t=>
  cases t;cases r with
  | @ref _ a ea=>
   cases rv with
   | cons ru rv=>
    cases rv;obtain rfl:_=IB a:=ru;exact#[a,ea,rfl]
theorem ox:LCall X (.type "range") qb:=by
 intro pins s σ H A S xs vs us w S' I so rl rv e;unfold qb at e;split at e
 ·rename_i j;split at e
  ·rename_i hb;cases e;cases rl with
   | cons r t=>
    cases t;cases r;cases rv with
    | cons ru rv=>
     cases rv;obtain⟨tk,rfl⟩:=ru;exact Pd (ow (dr:=s.drawn) (u:=.rng 0 j) I so (λb o e=>Hr _ e) (Hz _) #[_,_,_,HM _ rfl] λ_=>aZ)
  ·cases e
 ·cases e
theorem oy (hh:X.A.handled=td):LCall X (.type "list") lF:=by
 intro pins s σ H A S xs vs us w S' I so rl rv e;unfold lF at e;split at e
 ·rename_i i;split at e
  ·rename_i lo hi hr;split at e
   ·rename_i hb;cases e;obtain⟨a,ea,rfl⟩:=rC (xs:=[]) rl rv;obtain⟨b1,b2,b3,b4,b5⟩:=hb;have hH:H a=gV (.rng lo hi):=by
     unfold zd at hr;split at hr
     ·rename_i hx; cases hr; exact so.obj i _ a hx ea
     ·cases hr
    obtain⟨t,u,v,ho⟩:=I.hok a _ hH;have hn:Jy lo hi 1=((hi - lo).toNat:Ho):=by rw[M7]; split <;> omega
    refine call_list_range hh ho (Pa b1 b2 b3 b4) hn b5 λh' tk acc c hk hD hacc=>?_
    have hv:Vals ((HG (hi - lo).toNat).map λ(k:Ho)=>V.int (lo+(k:Hv))) acc.toList:=by
     refine mV (by rw[Hh,Ic,Ir,hacc.1]) λi v u e1 e2=>?_
     rw[Hq,Hl]at e1;obtain⟨k,e1,rfl⟩:=e1;obtain⟨hk,rfl⟩:=HD.mp e1;obtain⟨t,rfl⟩:=hacc.2 i u (by rw[<- Jp]; exact e2)
     exact#[t,by simp]
    refine ow (dr:=s.drawn) (u:=.lst ((HG (hi - lo).toNat).map λ(k:Ho)=>V.int (lo+(k:Hv)))) I so hk (Hz _) #[by simpa using b5,acc.toList,c,hv,by simpa using hD] λhn=>#[_,aZ,?_]
    exact mW _
   ·cases e
  ·exact gQ pins s σ H A S _ vs us w S' I so rl rv e
 ·exact gQ pins s σ H A S _ vs us w S' I so rl rv e
end
mutual
inductive IsT (h:IG):T->Hj->Prop
 | int {i:Hv} {t:Qe}:IsT h (.int i) (.int i t)
 | str {x:HJ} {t:Qe}:IsT h (.str x) (.str x t)
 | tup {ks:Hg T} {a:Ht} {o:Jo} {items:IC Hj} {n:Ho}:h.get? a=gV o->o.cls=.type "tuple"->o.data=.seq items n->IsTs h ks items.toList->IsT h (.tup ks) (.ref a)
inductive IsTs (h:IG):Hg T->Hg Hj->Prop
 | nil:IsTs h [] []
 | cons {k:T} {v:Hj} {ks:Hg T} {vs:Hg Hj}:IsT h k v->IsTs h ks vs->IsTs h (k::ks) (v::vs)
end
mutual
theorem IsT.inj {h:IG}:∀ {x y:T} {v:Hj},IsT h x v->IsT h y v->x=y
 | _,_,_,.int,h2=>by cases h2; rfl
 | _,_,_,.str,h2=>by cases h2; rfl
 | _,_,_,.tup a1 _ d1 t1,h2=>by
  cases h2 with
  | tup a2 _ d2 t2=>
   rw[a1]at a2; cases a2
   rw[d1]at d2; cases d2
   rw[IsTs.inj t1 t2]
theorem IsTs.inj {h:IG}:∀ {x y:Hg T} {v:Hg Hj},IsTs h x v->IsTs h y v->x=y
 | _,_,_,.nil,h2=>by cases h2; rfl
 | _,_,_,.cons a b,h2=>by
  cases h2 with
  | cons c d=>rw[IsT.inj a c,IsTs.inj b d]
end
mutual
theorem IsT.keeps {h h':IG}{d:Ht}{o:Jo}{es:IC JN}{ep:Ho}(ho:h.get? d=gV o)(hd:o.data=.dict es ep)(hs:Kc d h h'):∀ {x:T} {v:Hj},IsT h x v->IsT h' x v
 | _,_,.int=>.int
 | _,_,.str=>.str
 | _,_,.tup (a:=a) a1 c1 d1 t1=>by
  have hne:a≠d:=by
   rintro rfl;rw[a1]at ho; cases ho
   rw[d1]at hd; cases hd
  exact .tup ((hs.2 a hne).trans a1) c1 d1 (IsTs.keeps ho hd hs t1)
theorem IsTs.keeps {h h':IG}{d:Ht}{o:Jo}{es:IC JN}{ep:Ho}(ho:h.get? d=gV o)(hd:o.data=.dict es ep)(hs:Kc d h h'):∀ {x:Hg T} {v:Hg Hj},IsTs h x v->IsTs h' x v
 | _,_,.nil=>.nil
 | _,_,.cons a b=>.cons (IsT.keeps ho hd hs a) (IsTs.keeps ho hd hs b)
end
theorem IsTs.length {h:IG}:∀ {x:Hg T} {v:Hg Hj},IsTs h x v->x.length=v.length
 | _,_,.nil=>rfl
 | _,_,.cons _ b=>by simp[IsTs.length b]
theorem IsTs.get {h:IG}:∀ {x:Hg T} {v:Hg Hj},IsTs h x v->∀(j:Ho) (h1:j < x.length) (h2:j < v.length),IsT h x[j] v[j]
 | _,_,.cons a _,0,_,_=>a
 | _,_,.cons _ b,j+1,h1,h2=>IsTs.get b j (by simpa using h1) (by simpa using h2)
theorem d4:∀ {ks:Hg T} (j:Ho) (h:j < ks.length),(ks[j]).depth<=T.depths ks
 | k::ks,0,_=>by simp only[T.depths,List.getElem_cons_zero]; omega
 | k::ks,j+1,h=>by
  have:=d4 (ks:=ks) j (by simpa using h)
  simp only[T.depths,List.getElem_cons_succ]; omega
section
variable{prog:Ik}{w:Ix}{E:Hj->Hm->Prop}
mutual
theorem oz:∀(k:T) (v:Hj) (A:Iu) (s:Hm) (Q:Hv->Hm->Prop),IsT s.heap k v->A.units+k.depth < cLine->Q (oo w k) { s with toks:=s.toks+k.draws }->wpAny (model prog w) A (pyHash v) Q E s
 | .int i,_,A,s,Q,x,_,h=>by cases x; exact NY h
 | .str y,_,A,s,Q,x,_,h=>by cases x; exact NZ h
 | .tup ks,_,A,s,Q,x,hu,h=>by
  cases x with
  | @tup _ a o items n hg hc hd hw=>
   simp only[T.depth]at hu;refine PySem.W.pyHash_slot (T:="tuple") #[_,hg,hc] F.slot_tuple_hash F.entry_tuple_hash (F.args_tuple_hash_1 _) (beq_builtin_none _) (.inr ∅) ?_
   show wpAny _ _ (KG (.ref a) >>= _) _ _ s;refine Hi (wpAny_tupleItemsOf hg hd ?_);refine Hi ?_;rw[<- Nq];refine jQ ks items.toList A.in1 s #[] _ hw (by rw[be]; omega) λb hb=>?_
   show wpAny _ _ (retInt (LM b.toList)) _ _ _;rw[hb];refine Hi (Oj (Hx #[_,_,rfl,?_]))
   simpa [T.draws,O1,oo]using h
theorem jQ:∀(ks:Hg T) (vs:Hg Hj) (A:Iu) (s:Hm) (b:IC Hv) (Q:IC Hv->Hm->Prop),IsTs s.heap ks vs->A.units+T.depths ks < cLine->
  (∀b',b'.toList=b.toList++jK w ks->Q b' { s with toks:=s.toks+T.drawss ks })->
  wpAny (model prog w) A (forIn vs b λx r=>do let h <- pyHash x; pure Nr; pure (Ju (r.push h))) Q E s
 | [],_,A,s,b,Q,x,_,h=>by cases x; exact Hx (h b (by simp[jK]))
 | k::ks,_,A,s,b,Q,x,hu,h=>by
  cases x with
  | cons x1 x2=>
   simp only[T.depths]at hu;rw[My];refine Hi (Hi (oz k _ A s _ x1 ∅ ?_))
   refine Hi (Hx (Hx ?_));refine jQ ks _ A _ _ Q x2 ∅ λb' hb=>?_
   have:=h b' (by simp[hb,jK])
   simpa [T.drawss,O1]using this
end
open SeqAt in
theorem tz:∀(d:Ho) (x y:T) (u v:Hj) (B:Iu) (s:Hm),x.depth<=d->IsT s.heap x u->IsT s.heap y v->B.units+d < cLine->B.units+y.depth < cLine->EqAt B s u v (decide (x=y))
 | d,.int i,y,_,_,B,s,_,h1,h2,hu,hv=>by
  cases h1;cases h2 with
  | int=>
   rename_i j t2;have:decide (T.int i=T.int j)=(i==j):=by by_cases e:i=j <;> simp[e]
   rw[this]; exact .int_int _ _ _ _
  | str=>rw[Im (by simp)]; exact .int_str _ _ _ _
  | tup a c dd t=>rw[Im (by simp)]; exact .int_tuple _ _ #[_,a,c,_,dd] (by simp only[T.depth]at hv; omega)
 | d,.str z,y,_,_,B,s,_,h1,h2,hu,hv=>by
  cases h1;cases h2 with
  | int=>rw[Im (by simp)]; exact .str_int _ _ _ _
  | str=>
   rename_i z2 t2;have:decide (T.str z=T.str z2)=(z==z2):=by by_cases e:z=z2 <;> simp[e]
   rw[this]; exact .str_str _ _ _ _
  | tup a c dd t=>rw[Im (by simp)]; exact .str_tuple _ _ #[_,a,c,_,dd] (by simp only[T.depth]at hv; omega)
 | 0,.tup ks,y,_,_,B,s,hd,h1,h2,hu,hv=>by simp[T.depth]at hd
 | d+1,.tup ks,y,_,_,B,s,hd,h1,h2,hu,hv=>by
  have h1':=h1;cases h1 with
  | @tup _ a o items n a1 c1 d1 t1=>
   have hT:s.heap.IsTuple a items:=#[_,a1,c1,_,d1];simp only[T.depth]at hd;cases h2 with
   | int=>rw[Im (by simp)]; exact .tuple_int _ _ hT ∅
   | str=>rw[Im (by simp)]; exact .tuple_str _ _ hT ∅
   | @tup ks2 b o2 items2 n2 a2 c2 d2 t2=>
    have hT2:s.heap.IsTuple b items2:=#[_,a2,c2,_,d2]
    by_cases hab:a=b
    ·subst hab;have:T.tup ks=T.tup ks2:=h1'.inj (.tup a2 c2 d2 t2);rw[IW this];exact EqAt.same _
    ·refine EqAt.of_refs hab ?_;simp only[T.depth]at hv;have l1:items.size=ks.length:=by rw[<- Ir,t1.length]
     have l2:items2.size=ks2.length:=by rw[<- Ir,t2.length]
     let e:Ho->HU:=λj=>if h:j < ks.length/\j < ks2.length then decide (ks[j]'h.1=ks2[j]'h.2)else true
     have he:∀j (h1:j < items.size) (h2:j < items2.size),EqAt B.in1 s items[j] items2[j] (e j):=λj j1 j2=>by
      have g1:=t1.get j (l1 ▸ j1) (by simpa using j1)
      have g2:=t2.get j (l2 ▸ j2) (by simpa using j2)
      have q1:=d4 (ks:=ks) j (l1 ▸ j1);have q2:=d4 (ks:=ks2) j (l2 ▸ j2);have:=tz d _ _ _ _ B.in1 s ∅ g1 g2 (by rw[be]; omega) (by rw[be]; omega)
      show EqAt B.in1 s items[j] items2[j] (if h:j < ks.length/\j < ks2.length then decide (ks[j]'h.1=ks2[j]'h.2)else true)
      rw[PZ #[l1 ▸ j1,l2 ▸ j2]]
      simpa using this
     have:=RcAt.tuples hT hT2 ∅ he
     have hk:((HG (min items.size items2.size)).all e&&items.size==items2.size)=decide (T.tup ks=T.tup ks2):=by
      rw[l1,l2]
      by_cases hl:ks.length=ks2.length
      ·by_cases hq:ks=ks2
       ·subst hq;simp only[JU,IJ,M9,decide_true,HP,HI];intro j hj;show(if h:j < ks.length/\j < ks.length then decide (ks[j]'h.1=ks[j]'h.2)else true)=true
        rw[PZ #[hj,hj]]; simp
       ·rw[Im (by simpa using hq)]
        have:∃j,∃h:j < ks.length,ks[j]≠ks2[j]'(hl ▸ h):=by
         apply LN;intro hn;exact hq (Lm hl λj h1 h2=>LN λz=>hn #[j,h1,z])
        obtain⟨j,hj,hne⟩:=this;rw[Lh];left;rw[NP];refine#[j,by rw[HI,<- hl,JU]; exact hj,?_]
        show ¬ (if h:j < ks.length/\j < ks2.length then decide (ks[j]'h.1=ks2[j]'h.2)else true)=true
        rw[PZ #[hj,hl ▸ hj]]
        simpa using hne
      ·rw[Im (by simp; intro z; exact hl (by rw[z])),Lh]
       right
       simpa using hl
     rw[hk]at this;exact this
theorem lG {n:Ho}{v:Hj}(h:∀a,v≠.ref a):eqIsQuiet n v=pure true:=by
 cases v with
 | ref a=>exact absurd rfl (h a)
 | _=>first|rfl|simp[eqIsQuiet]|(unfold eqIsQuiet; rfl)
theorem rD:∀(d:Ho) (k:T) (v:Hj) (A:Iu) (s:Hm) (Q:HU->Hm->Prop),k.depth<=d->IsT s.heap k v->Q true s->wpAny (model prog w) A (eqIsQuiet d v) Q E s
 | d,.int i,_,A,s,Q,_,x,h=>by cases x; rw[lG (λa=>by simp)]; exact Hx h
 | d,.str i,_,A,s,Q,_,x,h=>by cases x; rw[lG (λa=>by simp)]; exact Hx h
 | 0,.tup ks,_,A,s,Q,hd,x,h=>by simp[T.depth]at hd
 | d+1,.tup ks,_,A,s,Q,hd,x,h=>by
  cases x with
  | @tup _ a o items n ho hc hdt hi=>
   simp only[T.depth]at hd;have hT:s.TypeIs (.ref a) "tuple":=#[_,ho,hc];unfold eqIsQuiet;refine Hi (wpAny_specialOf hT F.slot_tuple_eq.lookup ?_);show wpAny _ _ (isInstance (.ref a) (.type "tuple") >>= _) _ _ s;refine Hi (Ma hT isSubtype_tuple_tuple ?_);simp only[Na,Jc,Kd];refine Hi (KI ho hdt ?_);refine Hi ?_;show wpAny _ _ (forIn items _ _) _ _ s;rw[<- Nq];refine L9 _ (λcv r s'=>r.1=td/\s'=s/\∃kk,IsTs s.heap kk cv/\T.depths kk<=d) _ ?_ ?_ _ _ #[rfl,rfl,ks,hi,∅]
   ·rintro v cv r s' ⟨hr,rfl,kk,hall,hdk⟩;cases hall with
    | cons q1 q2=>
     simp only[T.depths]at hdk;refine Hi (rD d _ v _ _ _ ∅ q1 ?_)
     simp only[Na,Jc,Kd];exact Hx #[rfl,rfl,_,q2,∅]
   ·rintro⟨r1,r2⟩ s' ⟨hr,rfl,_⟩;simp only at hr;subst hr;exact Hx h
end
noncomputable def cR (prog:Ik)(w:Ix):HeapKind prog w T where
 is:=λh k a=>IsT h k (.ref a)/\k.depth<=bg
 hash:=oo w
 draws:=T.draws
 room:=λA=>A.units+bg < cLine
 inj:=λhx hy=>hx.1.inj hy.1
 keeps:=λx ho hd hs=>#[x.1.keeps ho hd hs,x.2]
 pyHash:=λhu hk h=>oz _ _ _ _ _ hk.1 (by have:=hk.2; omega) h
 eqBool:=λhu hx hy h=>tz bg _ _ _ _ _ _ hx.2 hx.1 hy.1 hu (by have:=hy.2; omega) _ _ _ _ h
 quiet:=λhk h=>rD 8 _ _ _ _ _ (by have:=hk.2; unfold bg at this; omega) hk.1 h
noncomputable def jt (S:aa)(i:Ho):Hn (Hg (T×W)):=match S[i]? with
 | some (.dic kvs)=>gV kvs
 | some (.frd kvs)=>gV kvs
 | _=>td
noncomputable def mX (S:aa)(i:Ho):Hn (Hg (T×W)):=match S[i]? with
 | some (.dic kvs)=>gV kvs
 | _=>td
noncomputable def aK (kvs:Hg (T×W))(k:T):Hn W:=(kvs.find? λp=>decide (p.1=k)).map (·.2)
noncomputable def eu (kvs:Hg (T×W))(k:T)(v:W):Hg (T×W):=
 if (kvs.any λp=>decide (p.1=k))=true then kvs.map (λp=>if p.1=k then(p.1,v)else p)else kvs++[(k,v)]
noncomputable def gB (w:W):Hn T:=match W.t w with
 | some k=>if k.isTup=true/\k.depth<=bg then gV k else td
 | none=>td
theorem dU {w:W}{k:T}(h:gB w=gV k):k.w=w/\k.isTup=true/\k.depth<=bg:=by
 unfold gB at h;split at h
 ·rename_i k' hk;split at h
  ·rename_i hc;cases h;exact#[W.t_w hk,hc.1,hc.2]
  ·cases h
 ·cases h
theorem cN (kvs:Hg (T×W))(k:T)(v:W):(eu kvs k v).length<=kvs.length+1:=by
 unfold eu;split
 ·rw[Hh]; omega
 ·rw[Hk,Iw,Jt]; omega
section
variable{X:Cx}{pins:Hg (Ht×Jo)}{σ:L2.St}{H:Hp}{s:Hm}{A:Hg Ht}{S:aa}
mutual
theorem mY (I:Inv X pins σ H s):∀(k:T) {v:V} {u:Hj},Rel X.K A H k.w v->RelV v u->IsT s.heap k u
 | .int i,_,_,r,q=>by
  cases r;obtain⟨t,rfl⟩ : ∃t,_=L7 _ t:=q;exact .int
 | .str x,_,_,r,q=>by
  cases r;obtain⟨t,rfl⟩ : ∃t,_=Li _ t:=q;exact .str
 | .tup ks,_,_,r,q=>by
  simp only[T.w]at r;cases r with
  | tup sq rl=>
   obtain⟨its,rv,⟨o,h1,h2,n,h3⟩,hz⟩:=I.tuple sq;obtain rfl:_=IB _:=q;exact .tup h1 h2 h3 (gf I ks rl (by simpa using rv))
theorem gf (I:Inv X pins σ H s):∀(ks:Hg T) {vs:Hg V} {us:Hg Hj},RelL X.K A H (T.ws ks) vs->Vals vs us->IsTs s.heap ks us
 | [],_,_,r,q=>by
  simp only[T.ws]at r;cases r; cases q; exact .nil
 | k::ks,_,_,r,q=>by
  simp only[T.ws]at r;cases r with
  | cons r1 r2=>
   cases q with
   | cons q1 q2=>exact .cons (mY I k r1 q1) (gf I ks r2 q2)
end
theorem iR (I:Inv X pins σ H s){k:T}{b:Ht}(r:Rel X.K A H k.w (.ref b))(hd:k.depth<=bg):(cR X.prog X.w).is s.heap k b:=#[mY I k r rfl,hd]
theorem ic {w:W}{k:T}{v:V}{u:Hj}(hk:gB w=gV k)(r:Rel X.K A H w v)(q:RelV v u):∃b,v=.ref b/\u=.ref b/\Rel X.K A H k.w (.ref b):=by
 obtain⟨h1,h2,h3⟩:=dU hk;subst h1;cases k with
 | tup ks=>
  simp only[T.w]at r;cases r with
  | tup a b=>exact#[_,rfl,q,by simp only[T.w]; exact .tup a b]
 | _=>cases h2
theorem KRel.is {kvs:Hg (T×W)}{xs:Hg (T×Ht×Hj)}(I:Inv X pins σ H s)(r:KRel X.K A H kvs xs):∀x∈xs,(cR X.prog X.w).is s.heap x.1 x.2.1:=by
 unfold KRel at r
 induction r with
 | nil=>intro x hx; exact nomatch hx
 | @cons p q ps qs h t ih=>
  intro x hx;rcases HW.mp hx with e|hx
  ·subst e;obtain⟨h1,h2,h3,h4,_⟩:=h;rw[h1]at h3 h4;exact iR I h4 h3
  ·exact ih x hx
theorem KRel.length {kvs:Hg (T×W)}{xs:Hg (T×Ht×Hj)}(r:KRel X.K A H kvs xs):kvs.length=xs.length:=L1 r
theorem KRel.val {kvs:Hg (T×W)}{xs:Hg (T×Ht×Hj)}(r:KRel X.K A H kvs xs)(k:T) :
  (∀w,aK kvs k=gV w->∃p v,atKey xs k=gV p/\Rel X.K A H w v/\RelV v p.2)/\(aK kvs k=td->atKey xs k=td):=by
 unfold KRel at r
 induction r with
 | nil=>exact#[λw h=>(nomatch h),λ_=>rfl]
 | @cons p q ps qs h t ih=>
  obtain⟨h1,_,_,_,v,h5,h6⟩:=h
  by_cases e:p.1=k
  ·have e':q.1=k:=h1.symm.trans e;have a1:aK (p::ps) k=gV p.2:=by simp[aK,Kv,e]
   have a2:atKey (q::qs) k=gV q.2:=by simp[atKey,Kv,e']
   rw[a1,a2];exact#[λw hw=>(by cases hw; exact#[_,v,rfl,h5,h6]),λh=>nomatch h]
  ·have e':¬ q.1=k:=λz=>e (h1.trans z)
   have a1:aK (p::ps) k=aK ps k:=by simp[aK,Kv,e]
   have a2:atKey (q::qs) k=atKey qs k:=by simp[atKey,Kv,e']
   rw[a1,a2];exact ih
theorem KRel.repl {kvs:Hg (T×W)}{xs:Hg (T×Ht×Hj)}(r:KRel X.K A H kvs xs)(k:T){w:W}{v:V}{u:Hj}(rw':Rel X.K A H w v)(rv:RelV v u) :
  KRel X.K A H (kvs.map λp=>if p.1=k then(p.1,w)else p) (xs.map (putAt k u)):=by
 unfold KRel at r ⊢
 induction r with
 | nil=>exact .nil
 | @cons p q ps qs h t ih=>
  rw[IZ,IZ];refine .cons ?_ ih;obtain⟨h1,h2,h3,h4,h5⟩:=h;unfold putAt
  by_cases e:p.1=k
  ·rw[HV e,HV (h1.symm.trans e)]; exact#[h1,h2,h3,h4,v,rw',rv]
  ·rw[Iv e,Iv (λz=>e (h1.trans z))]; exact#[h1,h2,h3,h4,h5]
theorem oA (k:T):∀kvs:Hg (T×W),(kvs.any λp=>decide (p.1=k))=(aK kvs k).isSome
 | []=>rfl
 | p::r=>by
  rw[Kh]
  by_cases e:p.1=k
  ·have a1:aK (p::r) k=gV p.2:=by simp[aK,Kv,e]
   rw[a1,IW e]; rfl
  ·have a1:aK (p::r) k=aK r k:=by simp[aK,Kv,e]
   rw[a1,Im e,Nb]; exact oA k r
theorem KRel.put {kvs:Hg (T×W)}{xs:Hg (T×Ht×Hj)}(r:KRel X.K A H kvs xs){k:T}{b:Ht}{w:W}{v:V}{u:Hj}(h1:k.isTup=true)(h2:k.depth<=bg)(h3:Rel X.K A H k.w (.ref b))(rw':Rel X.K A H w v)(rv:RelV v u) :
  KRel X.K A H (eu kvs k w) (storedH xs k b u):=by
 have e:(kvs.any λp=>decide (p.1=k))=(atKey xs k).isSome:=by
  rw[oA];cases q:aK kvs k with
  | none=>rw[(r.val k).2 q]; rfl
  | some x=>obtain⟨p,_,h,_⟩:=(r.val k).1 x q; rw[h]; rfl
 unfold eu storedH;rw[e]
 by_cases q:(atKey xs k).isSome=true
 ·rw[HV q,HV q]; exact r.repl k rw' rv
 ·rw[Iv q,Iv q]; exact Paired.snoc r #[rfl,h1,h2,h3,v,rw',rv]
theorem DicAt.of {h:IG}{a:Ht}{xs:Hg (T×Ht×Hj)}(hz:xs.length<=sizeLine)(hs:(a==sysModules)=false)(d:h.DictOfH (cR X.prog X.w) a xs):DicAt X.w a xs h:=
 let ⟨o,es,ep,h1,h2,h3,h4,_,h6⟩:=d; #[hz,hs,h6,o,es,ep,h1,h2,h3,h4]
theorem DicAt.stay {wd:Ix}{h h':IG}{a:Ht}{xs:Hg (T×Ht×Hj)}(d:DicAt wd a xs h)(k:∀o,h.get? a=gV o->h'.get? a=gV o):DicAt wd a xs h':=
 let ⟨h0,hs,hn,o,es,ep,h1,h2⟩:=d; #[h0,hs,hn,o,es,ep,k _ h1,h2]
theorem DicAt.ok {P:Ik}{h:IG}{wd:Ix}{a:Ht}{xs:Hg (T×Ht×Hj)}(d:DicAt wd a xs h):ObjOk P wd H h a (d0 wd a xs):=
 #[d,let ⟨_,_,_,o,_,_,h1,_⟩:=d; #[o,h1],λ_ _ p k=>p.stay k]
theorem cC {a:Ht}{xs:Hg (T×Ht×Hj)}(I:Inv X pins σ H s)(e:Rd H a (d0 X.w a xs)):DicAt X.w a xs s.heap:=(show ObjOk X.prog X.w H s.heap a (d0 X.w a xs)from e.ok I.hok).1
theorem DicAt.dict {kvs:Hg (T×W)}{a:Ht}{xs:Hg (T×Ht×Hj)}(d:DicAt X.w a xs s.heap)(I:Inv X pins σ H s)(r:KRel X.K A H kvs xs):s.heap.DictOfH (cR X.prog X.w) a xs:=
 let ⟨_,_,hn,o,es,ep,h1,h2,h3,h4⟩:=d; #[o,es,ep,h1,h2,h3,h4,r.is I,hn]
theorem fN {i:Ho}{kvs:Hg (T×W)}{a:Ht}(so:StoreOk X.w X.K A H S)(e:jt S i=gV kvs)(ea:A[i]?=gV a):∃xs,Rd H a (d0 X.w a xs)/\KRel X.K A H kvs xs:=by
 unfold jt at e;split at e
 ·rename_i k h;cases e;obtain⟨xs,q,r⟩:=so.obj i _ a h ea;exact#[xs,.inl q,r]
 ·rename_i k h;cases e;obtain⟨o,xs,q,r⟩:=so.obj i _ a h ea;exact#[xs,.inr #[o,q],r]
 ·cases e
theorem ie {i:Ho}{kvs:Hg (T×W)}(e:mX S i=gV kvs):S[i]?=gV (.dic kvs):=by
 unfold mX at e;split at e
 ·rename_i h; cases e; exact h
 ·cases e
theorem rE {i:Ho}{kvs:Hg (T×W)}{a:Ht}(so:StoreOk X.w X.K A H S)(e:mX S i=gV kvs)(ea:A[i]?=gV a):∃xs,H a=gV (d0 X.w a xs)/\KRel X.K A H kvs xs:=
 so.obj i _ a (ie e) ea
theorem oB {B:Iu}(hu:B.units+10 < cLine):(cR X.prog X.w).room B.in1:=by
 show B.in1.units+bg < cLine;rw[be]; unfold bg; omega
noncomputable def ju (x y:W)(S:aa):Hn (W×aa):=match x,y with
 | .ref r,.tup ks=>match jt S r,gB (.tup ks)with
  | some kvs,gV k=>(aK kvs k).map λw=>(w,S)
  | _,_=>td
 | x,y=>tj x y S
theorem F6 (hu:X.A.units+10 < cLine):LIx X ju:=by
 intro value slice pins s σ H A S x y a b u v w S' I so rx ru ry rv e hs
 by_cases hxy:∃r ks,x=.ref r/\y=.tup ks
 ·obtain⟨r,ks,rfl,rfl⟩:=hxy;simp only[ju]at e;split at e
  ·rename_i kvs k hk1 hk2;rw[Hl]at e;obtain⟨w',e1,e2⟩:=e;cases e2;cases rx with
   | ref ea=>
    obtain⟨xs,rd,kr⟩:=fN so hk1 ea;have d:=cC I rd;have dd:=d.dict I kr;obtain⟨bk,rfl,rfl,rk⟩:=ic hk2 ry rv;obtain⟨p,vv,h1,h2,h3⟩:=(kr.val k).1 _ e1;obtain rfl:u=IB _:=ru;refine Lc (x:=p.2) dd.typeIs slot_dict_getitem.lookup
     (wpAny_getItem_heap (Q:=λr s'=>r=p.2/\dG X pins σ A H S w r s') (oB hu) (iR I rk (dU hk2).2.2) dd h1 #[rfl,vv,H,A,I.tok _,h3,.refl,so,h2]) hs
  ·cases e
 ·have:ju x y S=tj x y S:=by
   cases x <;> cases y <;> first|rfl|exact absurd #[_,_,rfl,rfl] hxy
  rw[this]at e;exact G1 hu value slice pins s σ H A S x y a b u v w S' I so rx ru ry rv e hs
noncomputable def ig (o i v:W)(S:aa):Hn aa:=match o,i with
 | .ref r,.tup ks=>match mX S r,gB (.tup ks)with
  | some kvs,gV k=>if kvs.length < sizeLine then gV (S.set r (.dic (eu kvs k v)))else td
  | _,_=>td
 | o,i=>tm o i v S
theorem DZ (hu:X.A.units+10 < cLine):LSet X ig:=by
 intro pins s σ H A S o i x ao ai ax uo ui ux S' I so ro ruo ri rui rx rux e
 by_cases hxy:∃r ks,o=.ref r/\i=.tup ks
 ·obtain⟨r,ks,rfl,rfl⟩:=hxy;simp only[ig]at e;split at e
  ·rename_i kvs k hk1 hk2;split at e
   ·rename_i hl;cases e;cases ro with
    | ref ea=>
     obtain⟨xs,hH,kr⟩:=rE so hk1 ea;have d:=cC I (.inl hH);have dd:=d.dict I kr;obtain⟨bk,rfl,rfl,rk⟩:=ic hk2 ri rui;obtain⟨q1,q2,q3⟩:=dU hk2;obtain rfl:uo=IB _:=ruo;have hz:xs.length<=sizeLine:=by rw[<- kr.length]; omega
     refine wpAny_setItem_heap (hsz:=hz) (oB hu) (iR I rk q3) dd λh' dd' hs=>?_
     have kr':=kr.put q2 q3 rk rx rux;have hz':(storedH xs k bk ux).length<=sizeLine:=by
      rw[<- kr'.length];have:=cN kvs k x;omega
     have dn:DicAt X.w _ (storedH xs k bk ux) h':=.of hz' d.2.1 dd';obtain⟨so',ex⟩:=so.writeO (ie hk1) rfl ea (u:=d0 X.w _ (storedH xs k bk ux)) (n:=.dic (eu kvs k x)) #[_,aZ,kr'.mono (dj (.ext hH))];exact#[_,A,mM I (by rw[hH]; exact Ln) hs (let ⟨q,_,_,hq,_⟩:=dd'; #[q,hq]) dn.ok,ex,so']
   ·cases e
  ·cases e
 ·have:ig o i x S=tm o i x S:=by
   cases o <;> cases i <;> first|rfl|exact absurd #[_,_,rfl,rfl] hxy
  rw[this]at e;exact lset hu pins s σ H A S o i x ao ai ax uo ui ux S' I so ro ruo ri rui rx rux e
noncomputable def rF (x:W)(xs:Hg W)(S:aa):Hn (W×aa):=match x,xs with
 | .ref r,[y,z]=>match jt S r,gB y with
  | some kvs,gV k=>gV ((aK kvs k).getD z,S)
  | _,_=>td
 | _,_=>td
theorem qc (hu:X.A.units+10 < cLine):LMeth X "dict.get" rF:=by
 intro pins s σ H A S x a u xs vs us w S' I so rx ru rl rv e;cases rx with
 | ref ea=>
  cases rl with
  | nil=>cases e
  | cons r1 t1=>
   cases t1 with
   | nil=>cases e
   | cons r2 t2=>
    cases t2 with
    | cons _ _=>cases e
    | nil=>
     dsimp only[rF]at e;split at e
     ·rename_i kvs k hk1 hk2;cases e;obtain⟨xs,rd,kr⟩:=fN so hk1 ea;have d:=cC I rd;have dd:=d.dict I kr;cases rv with
      | cons v1 rv2=>
       cases rv2 with
       | cons v2 rv3=>
        cases rv3;obtain⟨bk,rfl,rfl,rk⟩:=ic hk2 r1 v1;obtain rfl:u=IB _:=ru;refine call_meetsIn ME dd.typeIs PySem.F.entry_dict_get (PySem.F.args_dict_get_3 _ _ _) (meetsH_dict_get_default (cR X.prog X.w) _ bk d.2.1 _) #[oB hu,k,xs,iR I rk (dU hk2).2.2,dd,?_];cases q:aK kvs k with
        | none=>
         rw[(kr.val k).2 q];exact#[_,H,A,I.tok _,v2,.refl,so,r2]
        | some w'=>
         obtain⟨p,vv,h1,h2,h3⟩:=(kr.val k).1 _ q;rw[h1];exact#[vv,H,A,I.tok _,h3,.refl,so,h2]
     ·cases e
 | _=>cases e
noncomputable def Fh (x:W)(i:Ho)(S:aa):Hn HU:=match W.t x,gO S i with
 | some k,gV ys=>match W.ts ys with
  | some ks=>if k.depth<=bg/\T.depths ks<=bg then gV (decide (k∈ks))else td
  | none=>td
 | _,_=>td
noncomputable def B4 (x:W)(ys:Hg W):Hn HU:=match W.t x,W.ts ys with
 | some k,gV ks=>if k.depth<=bg/\T.depths ks<=bg then gV (decide (k∈ks))else td
 | _,_=>td
theorem mZ {h:IG}:∀ {ks:Hg T} {vs:Hg Hj},IsTs h ks vs->∀v∈vs,∃k∈ks,IsT h k v
 | _,_,.cons a b,v,hv=>by
  rcases HW.mp hv with rfl|hv
  ·exact#[_,.head _,a]
  ·obtain⟨k,hk,q⟩:=mZ b v hv;exact#[k,.tail _ hk,q]
noncomputable def ym (h:IG)(k:T)(v:Hj):HU:=@decide (IsT h k v) (Pb _)
theorem qd {h:IG}{k k':T}{v:Hj}(x:IsT h k' v):ym h k v=decide (k'=k):=by
 unfold ym
 by_cases e:k'=k
 ·subst e; simp[x]
 ·have:¬ IsT h k v:=λy=>e (x.inj y)
  simp[e,this]
theorem nb {h:IG}{k:T}:∀ {ks:Hg T} {vs:Hg Hj},IsTs h ks vs->vs.any (ym h k)=decide (k∈ks)
 | _,_,.nil=>by simp
 | _,_,.cons (k:=k') a b=>by
  rw[Kh,qd a,nb b]
  by_cases e:k'=k
  ·simp[e]
  ·have:¬ k=k':=λz=>e z.symm
   simp[e,this]
theorem jR:∀ {ks:Hg T} {k:T},k∈ks->k.depth<=T.depths ks
 | x::ks,k,h=>by
  simp only[T.depths];rcases HW.mp h with rfl|h
  ·omega
  ·have:=jR h; omega
theorem vt {x:W}{i:Ho}{a b:V}{u v:Hj}{c:HU}(hu:X.A.units+10 < cLine)(I:Inv X pins σ H s)(so:StoreOk X.w X.K A H S)(rx:Rel X.K A H x a)(ru:RelV a u)(ry:Rel X.K A H (.ref i) b)(rv:RelV b v)(e:Fh x i S=gV c) :
  ∃l its k ks,v=.ref l/\s.heap.IsList l its/\(∀y,y∈its->Lj X.A.in1 s y u (ym s.heap k y))/\its.any (ym s.heap k)=c/\c=decide (k∈(ks:Hg T)):=by
 unfold Fh at e;split at e
 ·rename_i k ys h1 h2;split at e
  ·rename_i ks h3;split at e
   ·rename_i h4;cases e;cases ry with
    | ref ea=>
     obtain⟨vs,g1,g2⟩:=cH so h2 ea;obtain⟨its,rv',p,_⟩:=I.list g1;obtain rfl:v=IB _:=rv;have hT:IsTs s.heap ks its:=gf I ks ((W.ts_w h3).symm ▸ g2) rv';have hk:IsT s.heap k u:=mY I k ((W.t_w h1).symm ▸ rx) ru;refine#[_,its.toArray,k,ks,rfl,p.isList,λy hy=>?_,by rw[N8]; exact nb hT,rfl]
     obtain⟨k',hk',q⟩:=mZ hT y (by simpa using hy)
     rw[qd q];have:=jR hk';have kl:bg=6:=rfl;exact tz bg k' k _ _ _ _ ∅ q hk (by rw[be]; omega) (by rw[be]; omega)
   ·cases e
  ·cases e
 ·cases e
theorem ze {x:W}{ys:Hg W}{a b:V}{u v:Hj}{c:HU}(hu:X.A.units+10 < cLine)(I:Inv X pins σ H s)(rx:Rel X.K A H x a)(ru:RelV a u)(ry:Rel X.K A H (.tup ys) b)(rv:RelV b v)(e:B4 x ys=gV c) :
  ∃l its k,v=.ref l/\s.heap.IsTuple l its/\(∀y,y∈its->Lj X.A.in1 s y u (ym s.heap k y))/\its.any (ym s.heap k)=c:=by
 unfold B4 at e;split at e
 ·rename_i k ks h1 h3;split at e
  ·rename_i h4;cases e;cases ry with
   | @tup _ l vs g1 g2=>
    obtain⟨its,rv',p,_⟩:=I.tuple g1;obtain rfl:v=IB _:=rv;have hT:IsTs s.heap ks its:=gf I ks ((W.ts_w h3).symm ▸ g2) rv';have hk:IsT s.heap k u:=mY I k ((W.t_w h1).symm ▸ rx) ru;refine#[_,its.toArray,k,rfl,p,λy hy=>?_,by rw[N8]; exact nb hT]
    obtain⟨k',hk',q⟩:=mZ hT y (by simpa using hy)
    rw[qd q];have:=jR hk';have kl:bg=6:=rfl;exact tz bg k' k _ _ _ _ ∅ q hk (by rw[be]; omega) (by rw[be]; omega)
  ·cases e
 ·cases e
noncomputable def aL (o:COp)(x y:W)(S:aa):Hn (W×aa):=match o,y with
 | .isin,.ref i=>match jt S i with
  | some kvs=>(gB x).map λk=>(.bl (aK kvs k).isSome,S)
  | none=>match x with
   | .tup xs=>(Fh (.tup xs) i S).map λb=>(.bl (b),S)
   | x=>dJ .isin x (.ref i) S
 | .notin,.ref i=>match jt S i with
  | some kvs=>(gB x).map λk=>(.bl (!(aK kvs k).isSome),S)
  | none=>match x with
   | .tup xs=>(Fh (.tup xs) i S).map λb=>(.bl (!b),S)
   | x=>dJ .notin x (.ref i) S
 | .isin,.tup ys=>match x with
  | .tup xs=>(B4 (.tup xs) ys).map λb=>(.bl b,S)
  | x=>dJ .isin x (.tup ys) S
 | o,y=>dJ o x y S
theorem oD (hu:X.A.units+fM < cLine)(o:COp):LOp X (compareOp o.py) (aL o):=by
 intro pins s σ H A S x y a b u v w S' I so rx ru ry rv e;have get:∀ {i:Ho} {kvs:Hg (T×W)} {k:T},y=.ref i->jt S i=gV kvs->gB x=gV k->∃d c xs,v=.ref d/\u=.ref c/\(d==sysModules)=false/\(cR X.prog X.w).is s.heap k c/\s.heap.DictOfH (cR X.prog X.w) d xs/\(aK kvs k).isSome=(atKey xs k).isSome:=by
  intro i kvs k hy hk1 hk2;subst hy;cases ry with
  | ref ea=>
   obtain⟨xs,rd,kr⟩:=fN so hk1 ea;have d:=cC I rd;obtain⟨bk,rfl,rfl,rk⟩:=ic hk2 rx ru;obtain rfl:v=IB _:=rv;refine#[_,bk,xs,rfl,rfl,d.2.1,iR I rk (dU hk2).2.2,d.dict I kr,?_];cases q:aK kvs k with
   | none=>rw[(kr.val k).2 q]; rfl
   | some w'=>obtain⟨p,_,h1,_⟩:=(kr.val k).1 _ q; rw[h1]; rfl
 have old:dJ o x y S=gV (w,S')->wpAny (model X.prog X.w) X.A (compareOp o.py u v) (dG X pins σ A H S' w) X.xe s:=λh=>hJ hu o pins s σ H A S x y a b u v w S' I so rx ru ry rv h
 have hu':X.A.units+10 < cLine:=by have:fM=20:=rfl; omega
 unfold aL at e;split at e
 ·split at e
  ·rename_i kvs hk1;rw[Hl]at e;obtain⟨k,hk2,e2⟩:=e;cases e2;obtain⟨d,c,xs,rfl,rfl,q1,q2,q3,q4⟩:=get rfl hk1 hk2;rw[q4];exact wpAny_in_heap (oB hu') q2 q1 q3 #[.bl _,H,A,I.tok _,rfl,.refl,so,.bl]
  ·split at e
   ·rw[Hl]at e;obtain⟨c,hc,e⟩:=e;cases e;obtain⟨l,its,k,ks,rfl,p1,p2,p3,_⟩:=vt hu' I so rx ru ry rv hc;refine Oo (ym s.heap k) p1 p2 ?_;rw[p3];exact#[.bl _,H,A,I,rfl,.refl,so,.bl]
   ·exact old e
 ·split at e
  ·rename_i kvs hk1;rw[Hl]at e;obtain⟨k,hk2,e2⟩:=e;cases e2;obtain⟨d,c,xs,rfl,rfl,q1,q2,q3,q4⟩:=get rfl hk1 hk2;rw[q4];exact wpAny_notIn_heap (oB hu') q2 q1 q3 #[.bl _,H,A,I.tok _,rfl,.refl,so,.bl]
  ·split at e
   ·rw[Hl]at e;obtain⟨c,hc,e⟩:=e;cases e;obtain⟨l,its,k,ks,rfl,p1,p2,p3,_⟩:=vt hu' I so rx ru ry rv hc;refine Nn (ym s.heap k) p1 p2 ?_;rw[p3];exact#[.bl _,H,A,I,rfl,.refl,so,.bl]
   ·exact old e
 ·split at e
  ·rw[Hl]at e;obtain⟨c,hc,e⟩:=e;cases e;obtain⟨l,its,k,rfl,p1,p2,p3⟩:=ze hu' I rx ru ry rv hc;refine N5 (ym s.heap k) p1 p2 ?_;rw[p3];exact#[.bl _,H,A,I,rfl,.refl,so,.bl]
  ·exact old e
 ·exact old e
end
noncomputable def RawD (d:Ht)(es:IC JN)(ep:Ho)(h:IG):Prop:=∃o,h.get? d=gV o/\o.ExactDict/\o.data=.dict es ep
theorem RawD.at {d:Ht}{es:IC JN}{ep:Ho}{h h':IG}(x:RawD d es ep h)(e:∀o,h.get? d=gV o->h'.get? d=gV o):RawD d es ep h':=let ⟨o,ho,r⟩:=x; #[o,e _ ho,r]
theorem RawD.lt {d:Ht}{es:IC JN}{ep:Ho}{h:IG}(x:RawD d es ep h):d < h.objs.size:=let ⟨_,ho,_⟩:=x; HN ho
theorem RawD.type {d:Ht}{es:IC JN}{ep:Ho}{s:Hm}(x:RawD d es ep s.heap):s.TypeIs (.ref d) "dict":=let ⟨o,ho,hc,_⟩:=x; #[o,ho,hc.1]
section
variable{prog:Ik}{w:Ix}{A:Iu}{E:Hj->Hm->Prop}{s:Hm}{it d:Ht}{i ep:Ho}{es:IC JN}
theorem oE {Q:Hj->Hm->Prop}(hd:(d==sysModules)=false)(hm:RawD d es ep s.heap)
  (hQ:Q (.ref s.heap.objs.size) { s with heap:=s.heap.push { cls:=.type "dict_keyiterator",data:=.fields [.ref d,.int 0 0,.int es.size 0,.int ep 0].toArray } }):wpAny (model prog w) A (pyIter (.ref d)) Q E s:=by
 have hT:=hm.type;obtain⟨o,ho,hc,hdat⟩:=id hm;refine wpAny_pyIter_slot hT F.slot_dict_iter (Je F.slot_dict_iter hT F.entry_dict_iter ?_ (F.args_dict_iter_1 _));unfold Mm.«dict.__iter__» OS;refine Hi (Hi (wpAny_notOrdered_dict hT ?_));show wpAny _ _ (pure (IB d)) _ _ s;refine Hx ?_;show wpAny _ _ (MF d >>= _) _ _ s;unfold MF;rw[Iv (by rw[hd]; exact HK)]
 refine Hi (Hx (Hi (Ld ho hdat (Hi (Mz ho hdat ?_)))));refine Hi (IH (Hx #[_,rfl,"dict_keyiterator",_,#[_,HM _ rfl,rfl],F.slot_dict_keyiterator_next.lookup,?_]))
 simpa [rawInt]using hQ
theorem oF {Q:Hn Hj->Hm->Prop}(hit:s.heap.IsKeyIter it d i es.size ep)(hm:RawD d es ep s.heap)(hi:i < es.size)
  (hQ:∀h',h'.IsKeyIter it d (i+1) es.size ep->Kc it s.heap h'->Q (gV es[i].key) { s with heap:=h' }):wpAny (model prog w) A (pyNext (.ref it)) Q E s:=by
 obtain⟨o,ho,hc,hd⟩:=id hit;obtain⟨od,hod,hcd,hdd⟩:=id hm;unfold pyNext;refine Hi (L4 (IU (name:=JS "__next__") hit.typeIs F.slot_dict_keyiterator_next
  (Je F.slot_dict_keyiterator_next hit.typeIs F.entry_dict_keyiterator_next ?_ (F.args_dict_keyiterator_next_1 _))))
 refine Hi (Hx (Hi (Hi ?_)))
 first|refine Hi (JL hit.typeIs (Hx ?_))|refine Hi (Kj hit.typeIs (Hx ?_))
 refine Hi (OH ho hd ?_);have hown:Lu "dict_keyiterator" = false:=by decide
 simp only[hown,Jc,Kd];show wpAny _ _ (if (IB d==IK)=true then _ else _) _ _ s
 rw[Iv (show ¬ ((IB d==IK)=true)from HK)]
 refine Hi (Hx (Hi (Ld hod hdd ?_)));rw[Iv (by simp)]
 refine Hi (Hx (Hi (Mz hod hdd ?_)));rw[Iv (by simp)]
 refine Hx ?_;simp only[show ¬ ((i:Hv) < 0)from by omega,Kd,HF,KO hi]
 refine Hi ?_
 first|refine Hi (JL hit.typeIs (Hx ?_))|refine Hi (Kj hit.typeIs (Hx ?_))
 refine Hi (MG hit.typeIs ?_);show wpAny _ _ (setField (.ref it) 1 (rawInt ((i:Hv)+1)) >>= _) _ _ s;refine Hi (LH ho hd (by simp) ?_)
 have hit':(s.heap.update it (O2 (·.setIfInBounds 1 (rawInt ((i:Hv)+1))))).IsKeyIter it d (i+1) es.size ep:=
  #[_,J3 _ ho (MH (K5 hd _)),(NQ ..).trans hc,by rw[K5 hd]; simp[rawInt]]
 refine Hi (Jk ?_);refine Hi (MG (s:={ s with heap:=s.heap.update it (O2 (·.setIfInBounds 1 (rawInt ((i:Hv)+1)))) }) hit'.typeIs ?_)
 show wpAny _ _ (pure es[i].key) _ _ _;exact Hx (Hx #[_,rfl,Hx (hQ _ hit' (KQ ..))])
theorem rG {Q:Hn Hj->Hm->Prop}(hh:A.handled=td)(hit:s.heap.IsKeyIter it d i es.size ep)(hm:RawD d es ep s.heap)(hge:es.size<=i)
  (hQ:∀h',ML it s.heap h'->Q td { s with heap:=h' }):wpAny (model prog w) A (pyNext (.ref it)) Q E s:=by
 obtain⟨o,ho,hc,hd⟩:=id hit;obtain⟨od,hod,hcd,hdd⟩:=id hm;unfold pyNext;refine Hi (L4 (IU (name:=JS "__next__") hit.typeIs F.slot_dict_keyiterator_next
  (Je F.slot_dict_keyiterator_next hit.typeIs F.entry_dict_keyiterator_next ?_ (F.args_dict_keyiterator_next_1 _))))
 refine Hi (Hx (Hi (Hi ?_)))
 first|refine Hi (JL hit.typeIs (Hx ?_))|refine Hi (Kj hit.typeIs (Hx ?_))
 refine Hi (OH ho hd ?_);have hown:Lu "dict_keyiterator" = false:=by decide
 simp only[hown,Jc,Kd];show wpAny _ _ (if (IB d==IK)=true then _ else _) _ _ s
 rw[Iv (show ¬ ((IB d==IK)=true)from HK)]
 refine Hi (Hx (Hi (Ld hod hdd ?_)));rw[Iv (by simp)]
 refine Hi (Hx (Hi (Mz hod hdd ?_)));rw[Iv (by simp)]
 refine Hx ?_;simp only[show ¬ ((i:Hv) < 0)from by omega,Kd,HF,Array.getElem?_eq_none hge]
 refine Hi ?_
 first|refine Hi (JL hit.typeIs (Hx ?_))|refine Hi (Kj hit.typeIs (Hx ?_))
 show wpAny _ _ (setField (.ref it) 0 .none >>= _) _ _ s;refine Hi (LH ho hd (by simp) ?_)
 show wpAny _ _ (newExc (.type "StopIteration") [] >>= _) _ _ _;refine Hi ?_;simp only[newExc,newTuple];refine Hi (IH ?_ (by size_fits))
 refine Hi (m:=firstArgMember _ _) (MM (a:=IK) (by first|rfl|(simp only[firstArgMember]; rfl)) ?_)
 refine IH ?_ (by size_fits)
 simp only[raiseNew];refine Hi (O3 ?_);rw[show A.in1.handled=td from hh]
 refine Hi (Hx (Pw ?_));refine Hi (Ma (T:="StopIteration") (b:=true) #[_,HM _ rfl,rfl] OI ?_);exact Hx (hQ _ (((KQ ..).extBut.push _).push _))
theorem tB (hh:A.handled=td)(I d:Ht)(hne:d≠I)(es:IC JN)(ep:Ho) :
  P9 prog w A I [I,d] [I] es.size (λi v=>∃e,es[i]?=gV e/\e.key=v) (λi h=>h.IsKeyIter I d i es.size ep/\RawD d es ep h) where
 sub:=λb hb=>by simp at hb; simp[hb]
 frame:=λ_ _ _ st hk=>#[st.1.at λo e=>hk I (by simp) o e,st.2.at λo e=>hk d (by simp) o e]
 item:=λi s Q E hi st hQ=>
  oF st.1 st.2 hi λh' hit' hs'=>hQ _ h' s.toks #[es[i],by simp[hi],rfl] #[hit',st.2.at λo e=>(hs'.2 d hne).trans e] λb o hb e=>hs'.extBut b o (λh=>hb (by simp[h])) e
 done:=λs Q E st hQ=>rG hh st.1 st.2 (Hz _) λh' he'=>hQ h' s.toks λb o hb e=>he' b o (λh=>hb (by simp[h])) e
 self:=λ_ _ _ _ st hQ=>MN st.1 hQ
theorem rH (lo:(d==sysModules)=false):MO prog w "dict" d d es.size (λi v=>∃e,es[i]?=gV e/\e.key=v) (RawD d es ep) where
 type:=λ_ hm=>hm.type
 there:=λ_ hm=>#[hm.lt,hm.lt]
 keep:=λ_ _ hm hk=>hm.at λo e=>hk d (.inl rfl) o e
 notList:=by decide
 notTuple:=by decide
 hint:=λ_ _ _ _ hm hq=>PySem.W.kdl_hint_dict hm.type hq
 iter:=λ_ _ hh hm=>#[_,_,(λ_ _ hq=>oE lo hm hq),tB hh _ d (Il hm.lt) es ep,#[#[_,HM _ rfl,rfl,rfl],hm.at λo e=>Hr _ e]]
theorem vw {T:Jb}{r d S:Ht}{n:Ho}{P:Ho->Hj->Prop}{OK:IG->Prop}{R:N2->Hm->Prop}(K:MO prog w T r d n P OK)(hh:A.handled=td)(hok:OK s.heap)(hn:n<=sizeLine)(hSr:S≠r)(hSd:S≠d)
  (hS:s.heap.get? S=gV { cls:=.type "list",data:=.seq #[] 0 })
  (hR:∀h' tk acc' c',(∀b o,b≠S->s.heap.get? b=gV o->h'.get? b=gV o)->h'.get? S=gV { cls:=.type "list",dict:=td,data:=.seq acc' c',slots:=#[] }->Mo P acc' n->R (.ok (.ret (.ref S))) { s with heap:=h',toks:=tk }) :
  codeAny (model prog w) A (.builtin "list.__iadd__" #[[.ref S,.ref r],[]]) R s:=by
 refine Jv F.entry_list_iadd ?_;rw[Jj F.plain_list_iadd _];show wpAny _ A.in1 (JV (.ref S) (.ref r) (.ref S)) _ _ _;exact PySem.W.kdl_extend K hh hok S hSr hSd _ 0 hS hR hn
theorem oG {T:Jb}{r d:Ht}{n:Ho}{P:Ho->Hj->Prop}{OK:IG->Prop}{Q:Hg Hj->Hm->Prop}(K:MO prog w T r d n P OK)(hh:A.handled=td)(hok:OK s.heap)(hn:n<=sizeLine)
  (hQ:∀h' tk acc,(∀b o,s.heap.get? b=gV o->h'.get? b=gV o)->s.heap.objs.size<=h'.objs.size->Mo P acc n->Q acc.toList { s with heap:=h',toks:=tk }):wpAny (model prog w) A (collect (.ref r)) Q E s:=by
 unfold collect;refine Hi (MP (Jv F.entry_proto_collect ?_));rw[Jj F.plain_proto_collect _];show wpAny _ A.in1 (newList [] >>= λl=>again (.builtin "list.__iadd__" #[[l,.ref r],[]])) _ _ s
 refine Hi (IH ?_);have hlt:=K.there _ hok;refine Hx #[Kw F.plain_list_iadd _,vw (s:={ s with heap:=s.heap.push { cls:=.type "list",data:=.seq ([]:Hg Hj).toArray } }) K hh (K.keep _ _ hok λb _ o e=>Hr _ e) hn (Ks hlt.1) (Ks hlt.2) (HM _ rfl) λh' tk acc' c' hk hS' hacc=>?_]
 show wpAny (model prog w) A (do
   let o <- load s.heap.objs.size
   match o.data with
   | .seq xs _=>pure xs.toList
   | _=>unsupported "internal:collect") Q E { s with heap:=h',toks:=tk }
 refine Hi (Nk hS' ?_);exact Hx (hQ h' tk acc' (λb o e=>hk b o (Il (HN e)) (Hr _ e)) (La (HN hS')) hacc)
end
mutual
noncomputable def zf:T->T->Hn HU
 | .int a,.int b=>gV (decide (a < b))
 | .str a,.str b=>gV (decide (a.cps.toList < b.cps.toList))
 | .tup xs,.tup ys=>oH xs ys
 | _,_=>td
noncomputable def oH:Hg T->Hg T->Hn HU
 | [],[]=>gV false
 | [],_::_=>gV true
 | _::_,[]=>gV false
 | x::xs,y::ys=>if x=y then oH xs ys else zf x y
end
mutual
theorem IsT.kept {h h':IG}(hk:∀b o,o.cls=.type "tuple"->h.get? b=gV o->h'.get? b=gV o):∀ {x:T} {v:Hj},IsT h x v->IsT h' x v
 | _,_,.int=>.int
 | _,_,.str=>.str
 | _,_,.tup a1 c1 d1 t1=>.tup (hk _ _ c1 a1) c1 d1 (IsTs.kept hk t1)
theorem IsTs.kept {h h':IG}(hk:∀b o,o.cls=.type "tuple"->h.get? b=gV o->h'.get? b=gV o):∀ {x:Hg T} {v:Hg Hj},IsTs h x v->IsTs h' x v
 | _,_,.nil=>.nil
 | _,_,.cons a b=>.cons (IsT.kept hk a) (IsTs.kept hk b)
end
theorem D0 {B:Iu}{s:Hm}{d:Ho}(hu:B.units+d < cLine)(hl:∀(x y:T) (u v:Hj) (k:HU),x.depth<=d->y.depth<=d->IsT s.heap x u->IsT s.heap y v->zf x y=gV k->LtAt B s u v k) :
  ∀(xs ys:Hg T) (us vs:Hg Hj) (k:HU),T.depths xs<=d->T.depths ys<=d->IsTs s.heap xs us->IsTs s.heap ys vs->oH xs ys=gV k->LexR B s us vs k
 | [],[],_,_,k,_,_,h1,h2,e=>by cases h1; cases h2; cases e; exact .nn
 | [],y::ys,_,_,k,_,_,h1,h2,e=>by cases h1; cases h2; cases e; exact .nc
 | x::xs,[],_,_,k,_,_,h1,h2,e=>by cases h1; cases h2; cases e; exact .cn
 | x::xs,y::ys,_,_,k,d1,d2,h1,h2,e=>by
  simp only[T.depths]at d1 d2;cases h1 with
  | cons p1 q1=>
   cases h2 with
   | cons p2 q2=>
    have he:=tz d x y _ _ B s ∅ p1 p2 hu ∅
    simp only[oH]at e
    by_cases hxy:x=y
    ·rw[HV hxy]at e;rw[IW hxy]at he;exact .eq he (D0 hu hl xs ys _ _ k ∅ ∅ q1 q2 e)
    ·rw[Iv hxy]at e;rw[Im hxy]at he;exact .ne he (hl x y _ _ k ∅ ∅ p1 p2 e)
theorem D1:∀(d:Ho) (x y:T) (u v:Hj) (B:Iu) (s:Hm) (k:HU),x.depth<=d->y.depth<=d->IsT s.heap x u->IsT s.heap y v->B.units+d < cLine->zf x y=gV k->LtAt B s u v k:=by
 intro d
 induction d with
 | zero=>
  intro x y u v B s k d1 d2 h1 h2 hu e;cases h1 with
  | int=>cases h2 with
   | int=>cases e; exact λprog w E Q h=>(M2 h:wpAny (model prog w) B (compareOp .Lt _ _) Q E s)
   | _=>cases e
  | str=>cases h2 with
   | str=>cases e; exact λprog w E Q h=>(lt_str h:wpAny (model prog w) B (compareOp .Lt _ _) Q E s)
   | _=>cases e
  | tup _ _ _ _=>simp[T.depth]at d1
 | succ d ih=>
  intro x y u v B s k d1 d2 h1 h2 hu e;cases h1 with
  | int=>cases h2 with
   | int=>cases e; exact λprog w E Q h=>(M2 h:wpAny (model prog w) B (compareOp .Lt _ _) Q E s)
   | _=>cases e
  | str=>cases h2 with
   | str=>cases e; exact λprog w E Q h=>(lt_str h:wpAny (model prog w) B (compareOp .Lt _ _) Q E s)
   | _=>cases e
  | tup a1 c1 e1 t1=>cases h2 with
   | tup a2 c2 e2 t2=>
    simp only[T.depth]at d1 d2;have hu1:B.in1.units+d < cLine:=by rw[be]; omega
    exact LtAt.tuples #[_,a1,c1,_,e1] #[_,a2,c2,_,e2] ∅ (D0 hu1 (λx y u v k q1 q2 q3 q4 q5=>ih x y u v B.in1 s k q1 q2 q3 q4 hu1 q5) _ _ _ _ k ∅ ∅ t1 t2 e)
   | _=>cases e
section
variable{prog:Ik}{w:Ix}{A:Iu}{R:N2->Hm->Prop}{I S:Ht}{fp wr:Hg Ht}{n:Ho}{P:Ho->Hj->Prop}{St:Ho->IG->Prop}{Ok:IG->Prop}{bt:Ho->Ho->HU}
noncomputable def vx (prog:Ik)(w:Ix)(A:Iu)(P:Ho->Hj->Prop)(Ok:IG->Prop)(bt:Ho->Ho->HU):Prop:=
 ∀i j vi vj (s:Hm) (Q:Hj->Hm->Prop) (E:Hj->Hm->Prop),Ok s.heap->P i vi->P j vj->Q (.bool (bt i j)) s->wpAny (model prog w) A (richCompare .Lt vi vj) Q E s
theorem vy (W:P9 prog w A.in1 I fp wr n P St)(hcmp:vx prog w A.in1 P Ok bt)(hSf:S∉fp)(hok:∀h h',Ok h->(∀b o,b∉wr->b≠S->h.get? b=gV o->h'.get? b=gV o)->Ok h') :
  ∀(k j:Ho) (s:Hm) (vb:Hj) (c:Ho),n - (j+1)=k->j < n->St (j+1) s.heap->P (argBest bt j) vb->Ok s.heap->s.heap.get? S=gV { cls:=.type "list",dict:=td,data:=.seq [vb,vb].toArray c,slots:=#[] }->
  (∀v h' tk,P (argBest bt (n - 1)) v->(∀b o,b∉wr->b≠S->s.heap.get? b=gV o->h'.get? b=gV o)->R (.ok (.ret v)) { s with heap:=h',toks:=tk })->
  codeAny (model prog w) A (.builtin "min.loop" #[[.ref I,.none,.ref S],[]]) R s:=by
 have hSw:S∉wr:=λh=>hSf (W.sub _ h)
 have hname:(toString "min" ++ toString ".loop" : Jb) = "min.loop":=by decide
 intro k
 induction k with
 | zero=>
  intro j s vb c hk hj hst hPb hO hS hR;have hin:j+1=n:=∅
  refine Jv F.entry_min_loop ?_;rw[Jj F.plain_min_loop _];show wpAny _ A.in1 (seqItems? (.ref S) >>= _) _ _ s;refine Hi (KI hS rfl ?_);show wpAny _ A.in1 (tryCatch (pyNext (.ref I)) _ >>= _) _ _ s;refine Hi (LI (W.done s _ _ (hin ▸ hst) λh' tk hk'=>?_))
  have hS':=hk' S _ hSw hS;show wpAny _ A.in1 (updateSeq S (λ_=>#[]) >>= _) _ _ _
  refine Hi (MA hS' rfl (Hi (Lq (Hx ?_))));have e:j=n - 1:=∅
  exact hR vb _ tk (e ▸ hPb) λb o hbw hbS e=>(IN _ _ (Ne.symm hbS)).trans (hk' b o hbw e)
 | succ k ih=>
  intro j s vb c hk hj hst hPb hO hS hR;have hlt:j+1 < n:=∅
  refine Jv F.entry_min_loop ?_;rw[Jj F.plain_min_loop _];show wpAny _ A.in1 (seqItems? (.ref S) >>= _) _ _ s;refine Hi (KI hS rfl ?_);show wpAny _ A.in1 (tryCatch (pyNext (.ref I)) _ >>= _) _ _ s;refine Hi (LI (W.item (j+1) s _ _ hlt hst λv h' tk hP hst' hk'=>?_))
  have hS':=hk' S _ hSw hS;have hO':Ok h':=hok _ _ hO λb o hb _ e=>hk' b o hb e
  show wpAny _ A.in1 (tryCatch (holding [v,v] (richCompare .Lt v vb >>= _)) _ >>= _) _ _ _;refine Hi (LI (Jk (Hi (hcmp (j+1) (argBest bt j) v vb _ _ _ hO' hP hPb ?_))));refine Hi (Jk (Jg ?_));refine Hi (Lq (Hx ?_));cases hb:bt (j+1) (argBest bt j)with
  | true=>
   simp only[Km];refine Hi (MA hS' rfl (Hi (Lq ?_)));rw[hname];refine Hx #[Kw F.plain_min_loop _,ih (j+1) _ v _ ∅ hlt (W.frame _ _ _ hst' λb hbf o e=>?_) (by simp only[argBest,hb,Km]; exact hP) (hok _ _ hO' λb o _ hbS e=>(IN _ _ (Ne.symm hbS)).trans e) (J3 _ hS' rfl)
    λv' h'' tk'' hP' hk''=>?_]
   ·exact(IN _ _ (λh:S=b=>hSf (by rw[h]; exact hbf))).trans e
   ·exact hR v' h'' tk'' hP' λb o hbw hbS e=>hk'' b o hbw hbS ((IN _ _ (Ne.symm hbS)).trans (hk' b o hbw e))
  | false=>
   simp only[Jc,Kd];refine Hi (Lq ?_);rw[hname];refine Hx #[Kw F.plain_min_loop _,ih (j+1) _ vb c ∅ hlt hst' (by simp only[argBest,hb,Jc,Kd]; exact hPb) hO' hS' λv' h'' tk'' hP' hk''=>?_]
   exact hR v' h'' tk'' hP' λb o hbw hbS e=>hk'' b o hbw hbS (hk' b o hbw e)
theorem tD (W:P9 prog w A.in1 I fp wr n P St)(hcmp:vx prog w A.in1 P Ok bt)(hSf:S∉fp)(hok:∀h h',Ok h->(∀b o,b∉wr->b≠S->h.get? b=gV o->h'.get? b=gV o)->Ok h')(hn:0 < n){s:Hm}{c:Ho}(hst:St 0 s.heap)(hO:Ok s.heap)
  (hS:s.heap.get? S=gV { cls:=.type "list",dict:=td,data:=.seq #[] c,slots:=#[] })
  (hR:∀v h' tk,P (argBest bt (n - 1)) v->(∀b o,b∉wr->b≠S->s.heap.get? b=gV o->h'.get? b=gV o)->R (.ok (.ret v)) { s with heap:=h',toks:=tk }) :
  codeAny (model prog w) A (.builtin "min.loop" #[[.ref I,.none,.ref S],[]]) R s:=by
 have hSw:S∉wr:=λh=>hSf (W.sub _ h)
 have hname:(toString "min" ++ toString ".loop" : Jb) = "min.loop":=by decide
 refine Jv F.entry_min_loop ?_;rw[Jj F.plain_min_loop _];show wpAny _ A.in1 (seqItems? (.ref S) >>= _) _ _ s;refine Hi (KI hS rfl ?_);show wpAny _ A.in1 (tryCatch (pyNext (.ref I)) _ >>= _) _ _ s;refine Hi (LI (W.item 0 s _ _ hn hst λv h' tk hP hst' hk'=>?_))
 have hS':=hk' S _ hSw hS;show wpAny _ A.in1 (updateSeq S (λ_=>[v,v].toArray) >>= _) _ _ _
 refine Hi (MA hS' rfl ?_);rw[hname];have hO':Ok h':=hok _ _ hO λb o hb _ e=>hk' b o hb e
 refine Hx #[Kw F.plain_min_loop _,vy W hcmp hSf hok _ 0 _ v _ rfl hn (W.frame _ _ _ hst' λb hbf o e=>?_) hP (hok _ _ hO' λb o _ hbS e=>(IN _ _ (Ne.symm hbS)).trans e) (J3 _ hS' rfl) λv' h'' tk'' hP' hk''=>?_]
 ·exact(IN _ _ (λh:S=b=>hSf (by rw[h]; exact hbf))).trans e
 ·exact hR v' h'' tk'' hP' λb o hbw hbS e=>hk'' b o hbw hbS ((IN _ _ (Ne.symm hbS)).trans (hk' b o hbw e))
end
section
variable{prog:Ik}{w:Ix}{A:Iu}{E:Hj->Hm->Prop}{s:Hm}
theorem vz {l:Ht}{items:IC Hj}{bt:Ho->Ho->HU}{Q:Hj->Hm->Prop}(hh:A.handled=td)(hl:s.heap.IsList l items)(hn:0 < items.size)
  (hcmp:vx prog w A.in1 (λi v=>items[i]?=gV v) (λh=>∀b o,s.heap.get? b=gV o->h.get? b=gV o) bt)
  (hQ:∀v h' tk,items[argBest bt (items.size - 1)]?=gV v->(∀b o,s.heap.get? b=gV o->h'.get? b=gV o)->Q v { s with heap:=h',toks:=tk }) :
  wpAny (model prog w) A (call (.builtin "min") [.ref l]) Q E s:=by
 have hname:(toString "min" ++ toString ".loop" : Jb) = "min.loop":=by decide
 refine call_function_tree F.kind_min F.plain_min F.entry_min (F.args_min1 _) ?_;show wpAny _ A.in1 (LA "min" ["key","default"] 0 #[[],[]] >>= _) _ _ s;refine Hi (MM (show LA "min" ["key","default"] 0 #[[],[]]=pure [td,td]from rfl) ?_)
 refine Hi (Hx ?_);refine Hi (LV hl ?_);refine Hi (IH ?_);rw[hname];have hlt:l < s.heap.objs.size:=let ⟨_,ho,_⟩:=hl; HN ho
 have hne:l≠s.heap.objs.size:=Il hlt;have W:=PN (prog:=prog) (w:=w) (A:=A.in1) hh s.heap.objs.size l hne items;have hsz:∀o:Jo,(s.heap.push o).objs.size=s.heap.objs.size+1:=λo=>by simp[Heap.push]
 refine Hx #[Kw F.plain_min_loop _,tD (A:=A) (Ok:=λh=>∀b o,s.heap.get? b=gV o->h.get? b=gV o) W hcmp (λhm=>?_) (λh h' ho hk b o e=>?_) hn #[?_,?_] (λb o e=>Hr _ (Hr _ e)) (HM _ rfl) λv h' tk hv hk=>?_]
 ·rcases HW.mp hm with e|hm
  ·exact absurd (show(s.heap.push _).objs.size=s.heap.objs.size from e) (by rw[hsz]; exact Nat.succ_ne_self _)
  ·have e:(s.heap.push _).objs.size=l:=HB.mp hm;rw[hsz]at e;exact absurd hlt (by rw[<- e]; exact OJ.mpr (KH _))
 ·have hb:=HN e;refine hk b o (λz=>?_) (λz=>?_) (ho b o e)
  ·rw[HB.mp z]at hb; exact IX _ hb
  ·have z':b=(s.heap.push _).objs.size:=z;rw[hsz]at z';rw[z']at hb;exact absurd hb (OJ.mpr (KH _))
 ·exact#[_,Hr _ (HM _ rfl),rfl,rfl]
 ·obtain⟨o,ho,hc⟩:=hl;exact#[o,Hr _ (Hr _ ho),hc]
 ·refine hQ v h' tk hv λb o e=>hk b o (λz=>?_) (λz=>?_) (Hr _ (Hr _ e))
  ·have hb:=HN e;rw[HB.mp z]at hb; exact IX _ hb
  ·have hb:=HN e;have z':b=(s.heap.push _).objs.size:=z;rw[hsz]at z';rw[z']at hb;exact absurd hb (OJ.mpr (KH _))
end
open PySem.W (KasT kas_sort kas_ask kas_cmp kas_item kas_asc kas_desc kas_tail3 kas_descPart kas_count kas_place kas_bin kas_rev)
noncomputable def nh {α:Type}(lt:Ho->Ho->HU):KasT α->α
 | .ret a=>a
 | .ask i j k=>nh lt (k (lt i j))
noncomputable def OkK {α:Type}(n:Ho)(P:α->Prop):KasT α->Prop
 | .ret a=>P a
 | .ask i j k=>i < n/\j < n/\∀b,OkK n P (k b)
theorem oI {α:Type}{n:Ho}{P:α->Prop}{lt:Ho->Ho->HU}:∀(t:KasT α),OkK n P t->P (nh lt t)
 | .ret _,h=>h
 | .ask i j k,h=>oI (k (lt i j)) (h.2.2 _)
theorem nj {α:Type}{n:Ho}{P:α->Prop}{lt:Ho->Ho->HU}{t:KasT α}(h:OkK n P t):P (nh lt t):=oI t h
theorem OkK.bind {α β:Type}{n:Ho}{P:α->Prop}{P':β->Prop}{f:α->KasT β}:∀ {t:KasT α},OkK n P t->(∀a,P a->OkK n P' (f a))->OkK n P' (t.bind f)
 | .ret a,h,hf=>hf a h
 | .ask _ _ _,h,hf=>#[h.1,h.2.1,λb=>OkK.bind (h.2.2 b) hf]
theorem lH {α:Type}{n:Ho}{P:α->Prop}{lt:Ho->Ho->HU}{cmp:Ho->Ho->(HU->Hm->Prop)->Hm->Prop}{Q:α->Hm->Prop}{s:Hm}(hc:∀i j,i < n->j < n->∀C:HU->Hm->Prop,C (lt i j) s->cmp i j C s) :
  ∀ {t:KasT α},OkK n P t->Q (nh lt t) s->t.kasWp cmp Q s
 | .ret _,_,h=>h
 | .ask i j k,h,hq=>hc i j h.1 h.2.1 _ (lH hc (h.2.2 _) hq)
noncomputable def Pm (n:Ho)(p:IC Ho):Prop:=p.toList.Perm (HG n)
theorem Pm.size {n:Ho}{p:IC Ho}(h:Pm n p):p.size=n:=by rw[<- Ir,h.length_eq,Ic]
theorem Pm.lt {n:Ho}{p:IC Ho}(h:Pm n p)(hn:0 < n)(i:Ho):p.getD i 0 < n:=by
 by_cases hi:i < p.size
 ·have e:p.getD i 0=p[i]:=by simp[PP,hi]
  rw[e];have:p[i]∈p.toList:=by simp
  exact HI.mp (h.mem_iff.mp this)
 ·have e:p.getD i 0=0:=by simp[PP,hi]
  rw[e]; exact hn
theorem Pm.rev {n:Ho}{p:IC Ho}(h:Pm n p)(i j:Ho):Pm n (kas_rev p i j):=(LJ.mp (mirror_perm p i j _)).trans h
theorem Pm.bub {n:Ho}{p:IC Ho}(h:Pm n p)(i j:Ho):Pm n (bubble p i j):=(LJ.mp (bubble_perm p i j)).trans h
section
variable{n:Ho}(hn:0 < n)
include hn
theorem qe {p:IC Ho}(h:Pm n p):∀(f m:Ho),OkK n (λ_=>Ow) (kas_asc p f m)
 | 0,_=>trivial
 | f+1,m=>#[h.lt hn _,h.lt hn _,λb=>by
  show OkK n _ (if b=true then _ else _)
  split
  ·trivial
  ·exact qe h f (m+1)]
theorem jz:∀(f:Ho) (p:IC Ho) (m q:Ho),Pm n p->OkK n (λr=>Pm n r.1) (kas_desc f p m q)
 | 0,p,m,q,h=>h
 | f+1,p,m,q,h=>#[h.lt hn _,h.lt hn _,λb=>by
  show OkK n _ (if b=true then _ else _)
  split
  ·split
   ·exact jz f _ _ _ (h.rev _ _)
   ·exact jz f _ _ _ h
  ·refine#[h.lt hn _,h.lt hn _,λc=>?_]
   show OkK n _ (if c=true then _ else _)
   split
   ·exact h
   ·exact jz f _ _ _ h]
theorem rJ {p:IC Ho}(h:Pm n p)(m k:Ho):OkK n (λr=>Pm n r.2) (kas_tail3 m k p):=by
 unfold kas_tail3;exact OkK.bind (qe hn (h.rev 0 m) _ _) λa _=>h.rev 0 m
theorem jj {p:IC Ho}(h:Pm n p)(m k:Ho):OkK n (λr=>Pm n r.2) (kas_descPart m k p):=by
 unfold kas_descPart;refine OkK.bind (jz hn _ _ _ _ h) λr hr=>?_
 split
 ·exact rJ hn (hr.rev _ _) _ _
 ·exact rJ hn hr _ _
theorem vA {p:IC Ho}(h:Pm n p)(k:Ho):OkK n (λr=>Pm n r.2) (kas_count k p):=by
 unfold kas_count;refine OkK.bind (qe hn h _ _) λm _=>?_
 split
 ·exact h
 ·split
  ·refine#[h.lt hn _,h.lt hn _,λc=>?_]
   show OkK n _ (if c=true then _ else _)
   split
   ·exact h
   ·exact jj hn (h.rev _ _) _ _
  ·exact jj hn h _ _
theorem jS {p:IC Ho}(h:Pm n p)(k:Ho):∀(f l r:Ho),OkK n (λ_=>Ow) (kas_place p k f l r)
 | 0,_,_=>trivial
 | f+1,l,r=>by
  unfold kas_place;split
  ·trivial
  ·refine#[h.lt hn _,h.lt hn _,λc=>?_]
   show OkK n _ (if c=true then _ else _)
   split
   ·exact jS h k f _ _
   ·exact jS h k f _ _
theorem vB:∀(f:Ho) (p:IC Ho) (k:Ho),Pm n p->OkK n (Pm n) (kas_bin f p k)
 | 0,p,k,h=>h
 | f+1,p,k,h=>by
  unfold kas_bin;exact OkK.bind (jS hn h k _ _ _) λl _=>vB f _ _ (h.bub _ _)
theorem jA:OkK n (Pm n) (kas_sort n):=by
 unfold kas_sort;refine OkK.bind (vA hn (by unfold Pm; simp) _) λr hr=>?_
 split
 ·exact vB hn _ _ _ hr
 ·exact hr
end
section
variable{prog:Ik}{w:Ix}{A:Iu}{E:Hj->Hm->Prop}{s:Hm}{vs:Hg Hj}
noncomputable def eP (lt:Ho->Ho->HU){β:Type}(d:β)(vs:Hg β):Hg β:=if vs.length < 2 then vs else(nh lt (kas_sort vs.length)).toList.map λi=>vs.getD i d
theorem oJ {lt:Ho->Ho->HU}{β:Type}{d:β}{vs:Hg β}:(eP lt d vs).length=vs.length:=by
 unfold eP;split
 ·rfl
 ·rw[Hh,Ir,(nj (lt:=lt) (jA (n:=vs.length) ∅)).size]
theorem tF {a:Ht}{n:Ho}{lt:Ho->Ho->HU}{κ:Mb}{P:PySem.Fin->Hm->Prop}(ho:s.heap.get? a=gV (seqObj "list" vs.toArray n))(h64:vs.length < 64)
  (hkind:2<=vs.length->∀h',(∀b o,b≠a->s.heap.get? b=gV o->h'.get? b=gV o)->∀Q:Mb->Hm->Prop,Q κ { s with heap:=h' }->wpAny (model prog w) A (keyKind' vs.toArray) Q (λ_ _=>IV) { s with heap:=h' })
  (hlt:2<=vs.length->∀h',(∀b o,b≠a->s.heap.get? b=gV o->h'.get? b=gV o)->∀i j,i < vs.length->j < vs.length->∀Q:HU->Hm->Prop,Q (lt i j) { s with heap:=h' }->
   wpAny (model prog w) A (keyLt' κ (vs.getD i IK) (vs.getD j IK)) Q (λ_ _=>IV) { s with heap:=h' })
  (h:∀h' c,(∀b o,b≠a->s.heap.get? b=gV o->h'.get? b=gV o)->h'.get? a=gV (seqObj "list" (eP lt IK vs).toArray c)->P (.done (.ret .none)) { s with heap:=h' }) :
  wpAny (model prog w) A (Mm.«list.sort» #[[.ref a],[]]) P E s:=by
 have ha:a < s.heap.objs.size:=HN ho;obtain⟨e1,ho1⟩ : ∃e1,(s.heap.update a (Ji λ_=>(#[]:IC Hj))).get? a=gV (seqObj "list" #[] e1):=#[_,MB ho λ_=>#[]]
 have keep:∀b o,b≠a->s.heap.get? b=gV o->(((s.heap.update a (Ji λ_=>(#[]:IC Hj))).push (seqObj "tuple" vs.toArray 0)).push (seqObj "list" #[] 0)).get? b=gV o:=λb o hb e=>
  Hr _ (Hr _ ((KR _ _ _ _ hb).trans e))
 have ho3:(((s.heap.update a (Ji λ_=>(#[]:IC Hj))).push (seqObj "tuple" vs.toArray 0)).push (seqObj "list" #[] 0)).get? a=gV (seqObj "list" #[] e1):=Hr _ (Hr _ ho1)
 have fin:∀(out:Hg Hj),out.length=vs.length->out=eP lt IK vs->P (.done (.ret .none)) { s with heap:=(((s.heap.update a (Ji λ_=>(#[]:IC Hj))).push (seqObj "tuple" vs.toArray 0)).push (seqObj "list" #[] 0)).update a (Ji λ_=>out.toArray) }:=λout hl e=>by
  obtain⟨c2,hc2⟩ : ∃c2,((((s.heap.update a (Ji λ_=>(#[]:IC Hj))).push (seqObj "tuple" vs.toArray 0)).push (seqObj "list" #[] 0)).update a (Ji λ_=>out.toArray)).get? a=gV (seqObj "list" out.toArray c2):=#[_,MB ho3 λ_=>out.toArray]
  exact h _ c2 (λb o hb q=>(KR _ _ _ _ hb).trans (keep b o hb q)) (e ▸ hc2)
 rw[list_sort_plain];refine Hi (NR ho rfl ?_);refine Hi (L5 ho rfl ?_ (by rw[HH,IL]; omega) (JJ _))
 refine Hi (Ol ho1 rfl ?_);refine Hi (OL ?_ (by show vs.length<=_; rw[IL]; omega))
 refine Hi (Nc ?_ (JJ _));refine Jk ?_;show wpAny (model prog w) A _ P E { s with heap:=((s.heap.update a (Ji λ_=>(#[]:IC Hj))).push (seqObj "tuple" vs.toArray 0)).push (seqObj "list" #[] 0) }
 dsimp only
 by_cases h2:vs.length < 2
 ·rw[HV (by rw[HH]; exact h2),HV (by rw[HH]; exact h2)]
  refine Hi (Hx (Hi ?_));rw[StateT.run_pure];refine Hx ?_;dsimp only;refine Hi (Ol ho3 rfl ?_);have hs:((arrOf (SortSt.mk' general' (vs.toArray.zip vs.toArray) #[] 7 td)).map (·.2))=vs.toArray:=by
   show(vs.toArray.zip vs.toArray).map (·.2)=vs.toArray
   apply Array.toList_inj.mp;rw[Array.toList_map,Array.toList_zip];exact List.map_snd_zip (Hz _)
  rw[hs];refine Hi (L5 ho3 rfl ?_ (JJ _) (by rw[HH,IL]; omega))
  simp only[NS,Jc,Kd];exact Hx (fin vs rfl (by unfold eP; rw[HV h2]))
 ·have hn2:¬ vs.toArray.size < 2:=by rw[HH]; exact h2
  have h2':2<=vs.length:=∅
  rw[Iv hn2,Iv hn2];refine Hi (Jx (hkind h2' _ keep (λ(k:Mb) (s':Hm)=>k=κ/\s'={ s with heap:=((s.heap.update a (Ji λ_=>(#[]:IC Hj))).push (seqObj "tuple" vs.toArray 0)).push (seqObj "list" #[] 0) }) #[rfl,rfl]) ?_ λ_ _ x=>x.elim)
  rintro _ _ ⟨rfl,rfl⟩;refine Hi (Jx (PySem.W.kat_run (Q:=λst' s'=>∃p:IC Ho,p.size=vs.length/\arrOf st'=p.map (kas_item (vs.toArray.zip vs.toArray))/\failedOf st'=td/\p=nh lt (kas_sort vs.length)/\s'={ s with heap:=((s.heap.update a (Ji λ_=>(#[]:IC Hj))).push (seqObj "tuple" vs.toArray 0)).push (seqObj "list" #[] 0) })
   (G:=λp s'=>p=nh lt (kas_sort vs.length)/\s'={ s with heap:=((s.heap.update a (Ji λ_=>(#[]:IC Hj))).push (seqObj "tuple" vs.toArray 0)).push (seqObj "list" #[] 0) }) rfl h2' h64 (λp' st' s' a1 a2 a3 a4=>#[p',a1,a2,a3,a4])
   (lH (lt:=lt) (λi j hi hj C hC=>hlt h2' _ keep i j hi hj C hC) (jA (n:=vs.length) ∅) #[rfl,rfl])) ?_ λ_ _ e=>e)
  rintro⟨⟨⟩,st'⟩ s' ⟨p,hp,har,hf,ep,rfl⟩;dsimp only;have hout:=PySem.W.kat_snds rfl har;have hsz:(p.toList.map λi=>vs.getD i IK).length=vs.length:=by rw[Hh,Ir,hp]
  rw[hout];refine Hi (Ol ho3 rfl ?_);refine Hi (L5 ho3 rfl ?_ (JJ _) (by rw[HH,hsz,IL]; omega))
  rw[hf];simp only[NS,Jc,Kd];exact Hx (fin _ hsz (by unfold eP; rw[Iv h2,ep]))
theorem tH {x:Hj}{lt:Ho->Ho->HU}{κ:Mb}{Q:Hj->Hm->Prop}(h64:vs.length < 64)
  (hcol:∀Q':Hg Hj->Hm->Prop,(∀h' tk,(∀b o,s.heap.get? b=gV o->h'.get? b=gV o)->s.heap.objs.size<=h'.objs.size->Q' vs { s with heap:=h',toks:=tk })->wpAny (model prog w) A.in1 (collect x) Q' E s)
  (hkind:2<=vs.length->∀h' tk,(∀b o,s.heap.get? b=gV o->h'.get? b=gV o)->∀Q:Mb->Hm->Prop,Q κ { s with heap:=h',toks:=tk }->wpAny (model prog w) A.in1.in1 (keyKind' vs.toArray) Q (λ_ _=>IV) { s with heap:=h',toks:=tk })
  (hlt:2<=vs.length->∀h' tk,(∀b o,s.heap.get? b=gV o->h'.get? b=gV o)->∀i j,i < vs.length->j < vs.length->∀Q:HU->Hm->Prop,Q (lt i j) { s with heap:=h',toks:=tk }->
   wpAny (model prog w) A.in1.in1 (keyLt' κ (vs.getD i IK) (vs.getD j IK)) Q (λ_ _=>IV) { s with heap:=h',toks:=tk })
  (h:∀D h' tk c,(∀b o,s.heap.get? b=gV o->h'.get? b=gV o)->s.heap.objs.size<=D->h'.get? D=gV (seqObj "list" (eP lt IK vs).toArray c)->Q (.ref D) { s with heap:=h',toks:=tk }) :
  wpAny (model prog w) A (call (.builtin "sorted") [x]) Q E s:=by
 refine LO kind_sorted plain_sorted entry_sorted (args_sorted1 _) ?_;unfold Mm.«sorted»;refine Hi (m:=checkCount "sorted" 1 1 _) (Hx ?_);refine Hi (hcol _ λh1 tk1 hk1 hle=>?_)
 refine Hi (Nc ?_ (by rw[IL]; omega))
 have hoL:(h1.push (seqObj "list" vs.toArray 0)).get? h1.objs.size=gV (seqObj "list" vs.toArray 0):=HM _ rfl;have kp:∀b o,s.heap.get? b=gV o->(h1.push (seqObj "list" vs.toArray 0)).get? b=gV o:=λb o e=>Hr _ (hk1 b o e)
 have hne:∀b o,s.heap.get? b=gV o->b≠h1.objs.size:=λb o e=>Il (Ig (HN e) hle)
 show wpAny _ _ _ _ _ { s with heap:=h1.push (seqObj "list" vs.toArray 0),toks:=tk1 }
 refine Hi (Jk (Je slot_list_sort #[_,hoL,rfl] entry_list_sort ?_ (args_list_sort _)));refine tF (s:={ s with heap:=h1.push (seqObj "list" vs.toArray 0),toks:=tk1 }) (lt:=lt) (κ:=κ) hoL h64 (λh2 h' hk Q hq=>hkind h2 h' tk1 (λb o e=>hk b o (hne b o e) (kp b o e)) Q hq)
  (λh2 h' hk i j hi hj Q hq=>hlt h2 h' tk1 (λb o e=>hk b o (hne b o e) (kp b o e)) i j hi hj Q hq) λh' c hk hD=>?_
 exact#[_,rfl,Hx #[_,rfl,h _ h' tk1 c (λb o e=>hk b o (hne b o e) (kp b o e)) hle hD]]
end
end Mi
namespace Mi
open PySem PySem.Spec PyProof.Rows L2
noncomputable def fG:T->Jb
 | .int _=>"int"|.str _=>"str"|.tup _=>"tuple"
noncomputable def bu:T->Hn T
 | .tup (x::_)=>gV x
 | _=>td
noncomputable def zh (ks:Hg T):Hn Ho:=
 if ks.all (λk=>fG k == "int")then gV 0
 else if ks.all (λk=>fG k == "str")then gV 1
 else if ks.all (λk=>(bu k).any λf=>fG f == "int")then gV 2
 else if ks.all (λk=>(bu k).any λf=>fG f == "str")then gV 3
 else if ks.all (λk=>(bu k).any λf=>fG f == "tuple")then gV 4
 else td
noncomputable def vC:Ho->Mb
 | 0=>oneType'|1=>oneType'|2=>tuples' true|3=>tuples' true|_=>tuples' false
noncomputable def jT (ks:Hg T):HU:=ks.all λx=>ks.all λy=>(zf x y).isSome
noncomputable def AM (ks:Hg T)(i j:Ho):HU:=(zf (ks.getD i (.int 0)) (ks.getD j (.int 0))).getD false
theorem vD {ks:Hg T}(h:jT ks=true){i j:Ho}(hi:i < ks.length)(hj:j < ks.length):zf (ks[i]) (ks[j])=gV (AM ks i j):=by
 unfold jT at h;rw[HP]at h;have h1:=h ks[i] (IQ hi);rw[HP]at h1;have h2:=h1 ks[j] (IQ hj);unfold AM;rw[show ks.getD i (.int 0)=ks[i] by simp[hi],show ks.getD j (.int 0)=ks[j] by simp[hj]]
 obtain⟨b,hb⟩:=IP.mp h2;rw[hb]; rfl
noncomputable def GK (c:Ho)(x y:T):Prop:=match c with|0=>fG x = "int"/\fG y = "int"|1=>fG x = "str"/\fG y = "str"|2=>∃f g,bu x=gV f/\bu y=gV g/\fG f = "int"/\fG g = "int"|3=>∃f g,bu x=gV f/\bu y=gV g/\fG f = "str"/\fG g = "str"|_=>∃f g,bu x=gV f/\bu y=gV g
section
variable{prog:Ik}{w:Ix}{A:Iu}{E:Hj->Hm->Prop}{s:Hm}
theorem rK {h:IG}{k:T}{v:Hj}(x:IsT h k v):O4 (model prog w) h (typeOf v) (.type (fG k)):=by
 cases x with
 | int=>exact .now
 | str=>exact .now
 | tup a c d t=>exact c ▸ ((P3 a).andThen .now:O4 (model prog w) h (typeOf (.ref _)) _)
theorem IsTs.mem {h:IG}:∀ {ks:Hg T} {vs:Hg Hj},IsTs h ks vs->∀v∈vs,∃k∈ks,IsT h k v
 | _,_,.cons a b,v,hv=>by
  rcases HW.mp hv with rfl|hv
  ·exact#[_,.head _,a]
  ·obtain⟨k,hk,q⟩:=IsTs.mem b v hv;exact#[k,.tail _ hk,q]
theorem lI {h:IG}{p:T->HU}:∀ {ks:Hg T} {vs:Hg Hj},IsTs h ks vs->ks.all (λk=>(bu k).any p)=true->∃fs,PySem.W.KatTups h vs fs/\fs.length=vs.length/\∀v∈fs,∃k,p k=true/\IsT h k v
 | _,_,.nil,_=>#[[],.nil,rfl,λv hv=>nomatch hv]
 | k::ks,_,.cons a b,hp=>by
  rw[IF,Hs]at hp;obtain⟨fs,h1,h2,h3⟩:=lI b hp.2;cases a with
  | int=>simp[bu]at hp
  | str=>simp[bu]at hp
  | @tup kk ad o items n a1 c1 d1 t1=>
   cases kk with
   | nil=>simp[bu]at hp
   | cons x xs=>
    have hx:p x=true:=by simpa [bu]using hp.1
    generalize hit:items.toList=its at t1;cases t1 with
    | @cons _ u _ us q1 q2=>
     refine#[u::fs,.cons a1 c1 d1 (by rw[<- Jp,hit]; rfl) h1,by simp[h2],λv hv=>?_]
     rcases HW.mp hv with rfl|hv
     ·exact#[x,hx,q1]
     ·exact h3 v hv
theorem B5 {ks:Hg T}{vs:Hg Hj}{c:Ho}{Q:Mb->Hm->Prop}(h:IsTs s.heap ks vs)(h2:2<=vs.length)(hc:zh ks=gV c)(hq:Q (vC c) s):wpAny (model prog w) A (keyKind' vs.toArray) Q E s:=by
 have one:∀ty:Jb,(KF ty != KF "tuple")=true->ks.all (λk=>fG k==ty)=true->Q oneType' s->wpAny (model prog w) A (keyKind' vs.toArray) Q E s:=λty hty hall hq=>
  PySem.W.kas_kind (T:=.type ty) h2 (λv hv=>by
   obtain⟨k,hk,x⟩:=h.mem v hv;have:=eq_of_beq (HP.mp hall k hk);exact this ▸ rK x) hty (by simp) hq
 have tup:∀ty:Jb,ks.all (λk=>(bu k).any λf=>fG f==ty)=true->Q (tuples' (KF ty != KF "tuple")) s->wpAny (model prog w) A (keyKind' vs.toArray) Q E s:=λty hall hq=>by
  obtain⟨fs,h1,h3,h4⟩:=lI h hall;exact PySem.W.kat_kind (T:=.type ty) h1 ∅ (λv hv=>by
   obtain⟨k,hk,x⟩:=h4 v hv;have:=eq_of_beq hk;exact this ▸ rK x) (by simp) hq
 unfold zh at hc;split at hc
 ·cases hc; exact one "int" #v[] (by assumption) hq
 ·split at hc
  ·cases hc; exact one "str" #v[] (by assumption) hq
  ·split at hc
   ·cases hc; exact tup "int" (by assumption) hq
   ·split at hc
    ·cases hc; exact tup "str" (by assumption) hq
    ·split at hc
     ·cases hc; exact tup "tuple" (by assumption) hq
     ·cases hc
theorem oK {b:HU}{Q:HU->Hm->Prop}{d:Ho}(hu:A.units+d < cLine):∀(xs ys:Hg T) (us vs:Hg Hj) (i:Ho) (k:HU),T.depths xs<=d->T.depths ys<=d->IsTs s.heap xs us->IsTs s.heap ys vs->oH xs ys=gV k->
  (b=true->i=0->∀x y,xs.head?=gV x->ys.head?=gV y->(fG x = "int"/\fG y = "int")\/(fG x = "str"/\fG y = "str"))->Q k s->PySem.W.KatLex prog w A b (decide (us.length < vs.length)) Q (us.zip vs) i s
 | [],[],_,_,i,k,_,_,h1,h2,e,hb,hq=>by cases h1; cases h2; cases e; exact MC (by simpa using hq)
 | [],y::ys,_,_,i,k,_,_,h1,h2,e,hb,hq=>by cases h1; cases h2; cases e; exact MC (by simpa using hq)
 | x::xs,[],_,_,i,k,_,_,h1,h2,e,hb,hq=>by cases h1; cases h2; cases e; exact MC (by simpa using hq)
 | x::xs,y::ys,_,_,i,k,d1,d2,h1,h2,e,hb,hq=>by
  simp only[T.depths]at d1 d2;cases h1 with
  | @cons _ u _ us p1 q1=>
   cases h2 with
   | @cons _ v _ vs p2 q2=>
    have he:=tz d x y _ _ A s ∅ p1 p2 hu ∅
    rw[Kt];refine PySem.W.kat_cons (he prog w _ _ ?_);simp only[oH]at e;have hlen:decide ((u::us).length < (v::vs).length)=decide (us.length < vs.length):=by simp
    rw[hlen]
    by_cases hxy:x=y
    ·rw[HV hxy]at e;rw[IW hxy];exact PySem.W.kat_yes (oK hu xs ys us vs (i+1) k ∅ ∅ q1 q2 e (λ_ z=>absurd z (Nat.succ_ne_zero _)) hq)
    ·rw[Iv hxy]at e;rw[Im hxy];refine PySem.W.kat_no ?_
     by_cases hb0:b=true/\i=0
     ·obtain⟨rfl,rfl⟩:=hb0;rcases hb rfl rfl x y rfl rfl with⟨hx,hy⟩|⟨hx,hy⟩
      ·cases p1 with
       | int=>cases p2 with
        | int=>cases e; exact oneLt_int hq
        | _=>exact absurd hy (by simp[fG])
       | _=>exact absurd hx (by simp[fG])
      ·cases p1 with
       | str=>cases p2 with
        | str=>cases e; exact oneLt_str hq
        | _=>exact absurd hy (by simp[fG])
       | _=>exact absurd hx (by simp[fG])
     ·have hf:(b&&i==0)=false:=by
       cases b with
       | false=>rfl
       | true=>
        have:i≠0:=λz=>hb0 #[rfl,z]
        simpa using this
      rw[hf];exact PySem.W.kat_one _ _ ((D1 d x y _ _ A s k ∅ ∅ p1 p2 hu e) prog w _ _ hq)
theorem zj {c d:Ho}{x y:T}{u v:Hj}{k:HU}{Q:HU->Hm->Prop}(hu:A.units+d < cLine)(d1:x.depth<=d)(d2:y.depth<=d)(h1:IsT s.heap x u)(h2:IsT s.heap y v)(e:zf x y=gV k)
  (hc:GK c x y)
  (hq:Q k s):wpAny (model prog w) A (keyLt' (vC c) u v) Q E s:=by
 have tup:∀b:HU,(∃f g,bu x=gV f/\bu y=gV g/\(b=true->(fG f = "int"/\fG g = "int")\/(fG f = "str"/\fG g = "str")))->wpAny (model prog w) A (keyLt' (tuples' b) u v) Q E s:=by
  rintro b ⟨f,g,hf,hg,hb⟩;cases h1 with
  | int=>cases hf
  | str=>cases hf
  | @tup xs a o items n a1 c1 e1 t1=>
   cases h2 with
   | int=>cases hg
   | str=>cases hg
   | @tup ys a' o' items' n' a2 c2 e2 t2=>
    simp only[T.depth]at d1 d2;refine PySem.W.kat_lt a1 e1 a2 e2 ?_;have:=oK (prog:=prog) (w:=w) (b:=b) (Q:=Q) hu xs ys items.toList items'.toList 0 k ∅ ∅ t1 t2 e (λhb' _ p q hp hq'=>by
     cases xs with
     | nil=>cases hp
     | cons x0 xs=>cases ys with
      | nil=>cases hq'
      | cons y0 ys=>cases hp; cases hq'; cases hf; cases hg; exact hb hb') hq
    simpa using this
 match c,hc with
 | 0,#[hx,hy]=>
  cases h1 with
  | int=>cases h2 with
   | int=>cases e; exact PySem.W.kat_lt_int hq
   | _=>exact absurd hy (by simp[fG])
  | _=>exact absurd hx (by simp[fG])
 | 1,#[hx,hy]=>
  cases h1 with
  | str=>cases h2 with
   | str=>cases e; exact PySem.W.kas_lt_str hq
   | _=>exact absurd hy (by simp[fG])
  | _=>exact absurd hx (by simp[fG])
 | 2,#[f,g,h1',h2',h3,h4]=>exact tup true #[f,g,h1',h2',λ_=>.inl #[h3,h4]]
 | 3,#[f,g,h1',h2',h3,h4]=>exact tup true #[f,g,h1',h2',λ_=>.inr #[h3,h4]]
 | n+4,#[f,g,h1',h2']=>exact tup false #[f,g,h1',h2',λz=>nomatch z]
end
theorem zm {ks:Hg T}{c:Ho}(h:zh ks=gV c){x y:T}(hx:x∈ks)(hy:y∈ks) :
  GK c x y:=by
 have one:∀ {ty:Jb},ks.all (λk=>fG k==ty)=true->fG x=ty/\fG y=ty:=λha=>#[eq_of_beq (HP.mp ha x hx),eq_of_beq (HP.mp ha y hy)]
 have fst:∀ {ty:Jb},ks.all (λk=>(bu k).any λf=>fG f==ty)=true->∃f g,bu x=gV f/\bu y=gV g/\fG f=ty/\fG g=ty:=λ{ty} ha=>by
  have h1:=HP.mp ha x hx;have h2:=HP.mp ha y hy;cases e1:bu x with
  | none=>rw[e1]at h1; cases h1
  | some f=>
   cases e2:bu y with
   | none=>rw[e2]at h2; cases h2
   | some g=>
    rw[e1]at h1; rw[e2]at h2
    exact#[f,g,rfl,rfl,eq_of_beq (by simpa using h1),eq_of_beq (by simpa using h2)]
 unfold zh at h;split at h
 ·cases h; exact one (by assumption)
 ·split at h
  ·cases h; exact one (by assumption)
  ·split at h
   ·cases h; exact fst (by assumption)
   ·split at h
    ·cases h; exact fst (by assumption)
    ·split at h
     ·cases h;obtain⟨f,g,h1,h2,_⟩:=fst (by assumption)
      exact#[f,g,h1,h2]
     ·cases h
noncomputable def d6 (S:aa):W->Hn (Hg W)
 | .tup xs=>gV xs
 | .ref i=>match gO S i with
  | some xs=>gV xs
  | none=>(jt S i).map λkvs=>kvs.map λp=>p.1.w
 | _=>td
noncomputable def eA:Ho:=8
noncomputable def nk (ks:Hg T):HU:=decide (ks.length < 64)&&decide (T.depths ks<=eA)&&(decide (ks.length < 2)||((zh ks).isSome&&jT ks))
noncomputable def ii (xs:Hg W)(S:aa):Hn (W×aa):=match xs with
 | [x]=>match d6 S x with
  | some ws=>match W.ts ws with
   | some ks=>if nk ks then gV (.ref S.length,S++[.lst (eP (AM ks) .non ws)])else td
   | none=>td
  | none=>td
 | _=>td
noncomputable def lJ (xs:Hg W)(S:aa):Hn (W×aa):=match xs with
 | [.ref i]=>match jt S i with
  | some kvs=>gV (.ref S.length,S++[.lst (kvs.map λp=>p.1.w)])
  | none=>hW [.ref i] S
 | xs=>hW xs S
noncomputable def qf (xs:Hg W)(S:aa):Hn (W×aa):=match xs with
 | [.ref i]=>match jt S i with
  | some kvs=>gV (.int kvs.length,S)
  | none=>p9 [.ref i] S
 | xs=>p9 xs S
noncomputable def nq (ks:Hg T):Ho:=argBest (AM ks) (ks.length - 1)
noncomputable def zn (xs:Hg W)(S:aa):Hn (W×aa):=match xs with
 | [.ref i]=>match gO S i with
  | some ws=>match W.ts ws with
   | some ks=>if T.depths ks<=eA/\jT ks=true then(ws[nq ks]?).map λw=>(w,S)else td
   | none=>td
  | none=>td
 | _=>td
noncomputable def gR:Hg W->Hn (Hg HU)
 | []=>gV []
 | .bl b::ws=>(gR ws).map (b :: ·)
 | _::_=>td
noncomputable def B6 (xs:Hg W)(S:aa):Hn (W×aa):=match xs with
 | [.ref i]=>match gO S i with
  | some ws=>(gR ws).map λbs=>(.bl (bs.all id),S)
  | none=>td
 | _=>td
section
variable{X:Cx}{pins:Hg (Ht×Jo)}{σ:L2.St}{H:Hp}{s:Hm}{A:Hg Ht}{S:aa}
theorem RelL.pick {K:HA}{ws:Hg W}{vs:Hg V}(r:RelL K A H ws vs)(d:W)(d':V):∀(is:Hg Ho),(∀i∈is,i < ws.length)->RelL K A H (is.map λi=>ws.getD i d) (is.map λi=>vs.getD i d')
 | [],_=>.nil
 | i::is,h=>by
  have hi:=h i (.head _);obtain⟨v,h1,h2⟩:=r.get (HE hi);refine .cons ?_ (RelL.pick r d d' is λj hj=>h j (.tail _ hj))
  have e1:ws.getD i d=ws[i]:=by simp[hi]
  have e2:vs.getD i d'=v:=by simp[h1]
  show Rel K A H (ws.getD i d) (vs.getD i d');rw[e1,e2]; exact h2
theorem Vals.pick {vs:Hg V}{us:Hg Hj}(r:Vals vs us)(d:V)(d':Hj):∀(is:Hg Ho),(∀i∈is,i < vs.length)->Vals (is.map λi=>vs.getD i d) (is.map λi=>us.getD i d')
 | [],_=>.nil
 | i::is,h=>by
  have hi:=h i (.head _);obtain⟨v,h1,h2⟩:=L2.Vals.get r (HE hi);refine .cons ?_ (Vals.pick r d d' is λj hj=>h j (.tail _ hj))
  have e1:vs.getD i d=vs[i]:=by simp[hi]
  have e2:us.getD i d'=v:=by simp[h1]
  show L2.RelV (vs.getD i d) (us.getD i d');rw[e1,e2]; exact h2
theorem nr {n:Ho}{lt:Ho->Ho->HU}(hn:0 < n):∀i∈(nh lt (N9 n)).toList,i < n:=λi hi=>HI.mp ((nj (lt:=lt) (jA hn)).mem_iff.mp hi)
theorem vE {K:HA}{lt:Ho->Ho->HU}{ws:Hg W}{vs:Hg V}(r:RelL K A H ws vs):RelL K A H (eP lt .non ws) (eP lt .non vs):=by
 unfold eP;rw[r.length];split
 ·exact r
 ·exact r.pick _ _ _ λi hi=>by rw[r.length]; exact nr ∅ i hi
theorem tJ {lt:Ho->Ho->HU}{vs:Hg V}{us:Hg Hj}(r:Vals vs us):Vals (eP lt .non vs) (eP lt .none us):=by
 unfold eP;rw[L2.Vals.length r];split
 ·exact r
 ·exact Vals.pick r _ _ _ λi hi=>by rw[L2.Vals.length r]; exact nr ∅ i hi
theorem oM {prog:Ik}{w:Ix}{B:Iu}{E:Hj->Hm->Prop}{l:Ht}{vs:Hg Hj}{Q:Hg Hj->Hm->Prop}(hl:Ny s.heap l vs.toArray)(hsz:vs.length<=sizeLine)
  (h:∀h' tk,(∀b o,s.heap.get? b=gV o->h'.get? b=gV o)->s.heap.objs.size<=h'.objs.size->Q vs { s with heap:=h',toks:=tk }):wpAny (model prog w) B (collect (.ref l)) Q E s:=by
 obtain⟨o,ho,hc,n,hd⟩:=id hl;unfold collect;refine Hi (MP (Jv entry_proto_collect' ?_));show wpAny _ _ (do again (.builtin "list.__iadd__" #[[<- newList [],.ref l],[]])) _ _ s
 refine Hi (Nc (Hx #[Code.quiet_builtin _ (by decide +kernel),Jv entry_list_iadd' ?_]))
 show wpAny _ _ (JV (.ref s.heap.objs.size) (.ref l) (.ref s.heap.objs.size)) _ _ { s with heap:=s.heap.push (seqObj "list" #[] 0) }
 unfold JV;have ho':(s.heap.push (seqObj "list" #[] 0)).get? l=gV o:=Hr _ ho;refine Hi (Ly (T:="tuple") #[o,ho',hc] ?_);have ht:(KF "tuple" == KF "tuple")=true:=by rfl
 rw[HV (by rw[ht]; simp)]
 refine Hi (NR ho' hd ?_);refine Hi (NR (xs:=#[]) (n:=0) (HM _ rfl) rfl ?_);rw[Iv (by simp)]
 refine Hi (L5 (xs:=#[]) (n:=0) (HM _ rfl) rfl ?_ (JJ _) (by show(#[]++vs.toArray).size<=sizeLine+1; simp only[Array.size_append,HH,Jt]; omega))
 refine Hx ?_;show wpAny (model prog w) B (do
   let o <- load s.heap.objs.size
   match o.data with
   | .seq xs _=>pure xs.toList
   | _=>unsupported "internal:collect") Q E { s with heap:=(s.heap.push (seqObj "list" #[] 0)).update s.heap.objs.size (Ji (· ++ vs.toArray)) }
 refine Hi (Nk (MB (HM _ rfl) _) ?_);show wpAny _ _ (pure ((#[]:IC Hj)++vs.toArray).toList) Q E _;rw[show((#[]:IC Hj)++vs.toArray).toList=vs by simp]
 refine Hx (h _ s.toks (λb o' e=>(KR _ _ _ _ (Il (HN e))).trans (Hr _ e)) ?_)
 rw[Oa,size_push'];exact KH _
theorem DicAt.raw {wd:Ix}{a:Ht}{xs:Hg (T×Ht×Hj)}{h:IG}(d:DicAt wd a xs h):∃es ep,RawD a es ep h/\es.toList=xs.map (vc wd):=
 let ⟨_,_,_,o,es,ep,h1,h2,h3,h4⟩:=d; #[es,ep,#[o,h1,h2,h3],h4]
theorem KRel.keysL {kvs:Hg (T×W)}{xs:Hg (T×Ht×Hj)}(r:KRel X.K A H kvs xs):RelL X.K A H (kvs.map λp=>p.1.w) (xs.map λq=>V.ref q.2.1):=by
 unfold KRel at r
 induction r with
 | nil=>exact .nil
 | cons h t ih=>exact .cons h.2.2.2.1 ih
theorem lK (xs:Hg (T×Ht×Hj)):Vals (xs.map λq=>V.ref q.2.1) (xs.map λq=>IB q.2.1):=by
 induction xs with
 | nil=>exact .nil
 | cons x xs ih=>exact .cons rfl ih
theorem jU {wd:Ix}{es:IC JN}{xs:Hg (T×Ht×Hj)}(he:es.toList=xs.map (vc wd)){acc:IC Hj}(ha:Mo (λi v=>∃e,es[i]?=gV e/\e.key=v) acc es.size):acc.toList=xs.map λq=>IB q.2.1:=by
 have hl:es.size=xs.length:=by rw[<- Ir,he,Hh]
 apply Lm
 ·rw[Ir,ha.1,Hh,hl]
 ·intro i h1 h2;rw[Ir]at h1;obtain⟨e,q1,q2⟩:=ha.2 i acc[i] (by simp[h1])
  rw[<- Jp,he,Hq]at q1;rw[Hh]at h2;rw[HE h2]at q1;simp only[Iq,ID]at q1;subst q1;rw[List.getElem_map,Array.getElem_toList];exact q2.symm
theorem tK {x:W}{a:V}{u:Hj}{ws:Hg W}(hh:X.A.handled=td)(I:Inv X pins σ H s)(so:StoreOk X.w X.K A H S)(rx:Rel X.K A H x a)(ru:RelV a u)(e:d6 S x=gV ws):∃vs us,RelL X.K A H ws vs/\Vals vs us/\us.length<=sizeLine/\
  ∀(B:Iu) (hB:B.handled=td) (E:Hj->Hm->Prop) (Q':Hg Hj->Hm->Prop),(∀h' tk,(∀b o,s.heap.get? b=gV o->h'.get? b=gV o)->s.heap.objs.size<=h'.objs.size->Q' us { s with heap:=h',toks:=tk })->wpAny (model X.prog X.w) B (collect u) Q' E s:=by
 cases rx with
 | tup h1 r1=>
  cases e;obtain⟨its,rv,ht,hz⟩:=I.tuple h1;obtain rfl:u=IB _:=ru;exact#[_,its,r1,rv,by rw[<- L2.Vals.length rv]; exact hz,λB hB E Q' h=>oM ht (by rw[<- L2.Vals.length rv]; exact hz) h]
 | ref ea=>
  simp only[d6]at e;split at e
  ·rename_i xs hx;cases e;obtain⟨vs,h1,r1⟩:=cH so hx ea;obtain⟨its,rv,p,hz⟩:=I.list h1;obtain rfl:u=IB _:=ru;refine#[_,its,r1,rv,by rw[<- L2.Vals.length rv]; exact hz,λB hB E Q' h=>collect_list p.isList (h _ s.toks (λb o' e=>(KR _ _ _ _ (Il (HN e))).trans (Hr _ e)) ?_) (by rw[<- L2.Vals.length rv]; exact hz)]
   rw[Oa,size_push'];exact KH _
  ·rw[Hl]at e;obtain⟨kvs,hk,rfl⟩:=e;obtain⟨xs,rd,kr⟩:=fN so hk ea;have d:=cC I rd;obtain⟨es,ep,raw,he⟩:=d.raw;obtain rfl:u=IB _:=ru;have hl:es.size=xs.length:=by rw[<- Ir,he,Hh]
   refine#[_,_,kr.keysL,lK xs,by rw[Hh]; exact d.1,λB hB E Q' h=>oG (rH d.2.1) hB raw (by rw[hl]; exact d.1) λh' tk acc hk' hle ha=>?_]
   rw[jU he ha];exact h h' tk hk' hle
 | _=>cases e
theorem lL {h':IG}{tk c:Ho}{D:Ht}{ws:Hg W}{vs:Hg V}{us:Hg Hj}(I:Inv X pins σ H s)(so:StoreOk X.w X.K A H S)(r:RelL X.K A H ws vs)(rv:Vals vs us)(hz:us.length<=sizeLine)(hk:∀b o,s.heap.get? b=gV o->h'.get? b=gV o)(hD:s.heap.objs.size<=D)
  (ho:h'.get? D=gV { cls:=.type "list",data:=.seq us.toArray c }):dG X pins σ A H (S++[.lst ws]) (.ref S.length) (.ref D) { s with heap:=h',toks:=tk }:=by
 have hn:H D=td:=I.hok.fresh hD;refine#[.ref D,_,A++[D],I.laid (a:=D) (o:=.lst vs) (t':=tk) hk hD #[by rw[L2.Vals.length rv]; exact hz,us,c,rv,ho],rfl,d3 hn,so.push hn r,.ref ?_]
 rw[<- so.len]; simp
theorem nu (hh:X.A.handled=td)(hu:X.A.units+12 < cLine):LCall X (.builtin "sorted") ii:=by
 intro pins s σ H A S xs vs us w S' I so rl rv e;cases rl with
 | nil=>cases e
 | cons r t=>
  cases t with
  | cons _ _=>cases e
  | nil=>
   cases rv with
   | cons ru rv2=>
    cases rv2;simp only[ii]at e;split at e
    ·rename_i ws hw;split at e
     ·rename_i ks hk;split at e
      ·rename_i hok;cases e;obtain⟨vs',us',r1,rv1,hz,hcol⟩:=tK hh I so r ru hw;simp only[nk,Hs,Io]at hok;obtain⟨⟨h64,hd⟩,hok⟩:=hok;have hws:T.ws ks=ws:=W.ts_w hk;have hT:IsTs s.heap ks us':=gf I ks (hws ▸ r1) rv1;have hl:us'.length=ks.length:=hT.length.symm;have sk:2<=us'.length->(zh ks).isSome=true/\jT ks=true:=λh2=>by
        rcases JO _ _ ▸ hok with h|h
        ·simp only[Io]at h; omega
        ·simpa using h
       refine tH (vs:=us') (lt:=AM ks) (κ:=vC ((zh ks).getD 0)) ∅ (λQ' hQ'=>hcol X.A.in1 hh _ Q' hQ') (λh2 h' tk hk' Q hq=>?_) (λh2 h' tk hk' i j hi hj Q hq=>?_) λD h' tk c hk' hD ho=>?_
       ·obtain⟨q1,q2⟩:=sk h2;obtain⟨c,hc⟩:=IP.mp q1;rw[hc]at hq;exact B5 (s:={ s with heap:=h',toks:=tk }) (hT.kept λb o _ e=>hk' b o e) h2 hc hq
       ·obtain⟨q1,q2⟩:=sk h2;obtain⟨c,hc⟩:=IP.mp q1;rw[hc];have hi':i < ks.length:=∅
        have hj':j < ks.length:=∅
        have g:=(hT.kept (h':=h') λb o _ e=>hk' b o e)
        have e1:us'.getD i IK=us'[i]:=by simp[hi]
        have e2:us'.getD j IK=us'[j]:=by simp[hj]
        rw[e1,e2];have b1:=d4 (ks:=ks) i hi';have b2:=d4 (ks:=ks) j hj';exact zj (s:={ s with heap:=h',toks:=tk }) (d:=eA) (c:=c) (by rw[be,be]; unfold eA; omega) ∅ ∅ (g.get i hi' hi) (g.get j hj' hj) (vD q2 hi' hj') (zm hc (IQ hi') (IQ hj')) hq
       ·exact lL I so (vE r1) (tJ rv1) (by rw[oJ]; exact hz) hk' hD ho
      ·cases e
     ·cases e
    ·cases e
theorem oN (hh:X.A.handled=td):LCall X (.type "list") lJ:=by
 intro pins s σ H A S xs vs us w S' I so rl rv e
 by_cases hd:∃i kvs,xs=[.ref i]/\jt S i=gV kvs
 ·obtain⟨i,kvs,rfl,hk⟩:=hd;simp only[lJ,hk]at e;cases e;cases rl with
  | cons r t=>
   cases t;cases rv with
   | cons ru rv2=>
    cases rv2;cases r with
    | ref ea=>
     obtain⟨xs,rd,kr⟩:=fN so hk ea;have d:=cC I rd;obtain⟨es,ep,raw,he⟩:=d.raw;obtain rfl:_=IB _:=ru;have hl:es.size=xs.length:=by rw[<- Ir,he,Hh]
     refine PySem.W.kdl_call (rH d.2.1) hh raw (by rw[hl]; exact d.1) λh' tk acc' c' hk' hD ha=>?_
     have ea':=jU he ha;refine lL (us:=acc'.toList) I so kr.keysL (ea' ▸ lK xs) (by rw[ea',Hh]; exact d.1) hk' (Hz _) (c:=c') ?_
     simpa using hD
 ·have:lJ xs S=hW xs S:=by
   unfold lJ;split
   ·rename_i i;split
    ·rename_i kvs hk;exact absurd #[i,kvs,rfl,hk] hd
    ·rfl
   ·rfl
  rw[this]at e;exact gQ pins s σ H A S xs vs us w S' I so rl rv e
end
open PySem.W (KasT kas_sort kas_asc kas_desc kas_tail3 kas_descPart kas_count kas_place kas_bin kas_rev)
noncomputable def gt (p:IC Ho)(i:Ho):Ho:=p.getD i 0
end Mi
namespace Mi
open PySem PySem.Spec PyProof.Rows L2
theorem vF {α:Type}{lt:Ho->Ho->HU}{d:α}{xs:Hg α}:(eP lt d xs).Perm xs:=by
 unfold eP;split
 ·exact .refl _
 ·have p:Pm xs.length (nh lt (N9 xs.length)):=nj (jA ∅)
  refine(Qb _ p).trans ?_;have:(HG xs.length).map (λi=>xs.getD i d)=xs:=by
   apply Lm
   ·simp
   ·intro k h1 h2; simp[h2]
  rw[this]
noncomputable def jV (xs:Hg W)(S:aa):Hn (W×aa):=match xs with
 | [.ref i]=>match zd S i with
  | some (lo,hi)=>if -(2 ^ 62)<=lo/\lo < 2 ^ 62/\-(2 ^ 62)<=hi/\hi < 2 ^ 62/\(hi - lo).toNat<=sizeLine then gV (.tup (DY lo (hi - lo).toNat),S)else td
  | none=>jO [.ref i] S
 | xs=>jO xs S
section
variable{prog:Ik}{w:Ix}{A:Iu}{E:Hj->Hm->Prop}{s:Hm}
theorem kZ {Q:Hg Hj->Hm->Prop}{r:Ht}{a b c:Hv}{t u v:Qe}{n:Ho}(hh:A.handled=td)(hr:P0 s.heap r a b c t u v)(hsmall:Lw a b c=true)
  (hn:Jy a b c=n) (hlen:n<=2 ^ 24)
  (hQ:∀h' tk (acc:IC Hj),(∀b o,s.heap.get? b=gV o->h'.get? b=gV o)->s.heap.objs.size<=h'.objs.size->Mo (λi v=>∃t,v=.int (a+i*c) t) acc n->Q acc.toList { s with heap:=h',toks:=tk }):wpAny (model prog w) A (collect (.ref r)) Q E s:=by
 unfold collect;refine Hi (MP (Jv F.entry_proto_collect ?_));rw[Jj F.plain_proto_collect _];show wpAny _ A.in1 (newList [] >>= λl=>again (.builtin "list.__iadd__" #[[l,.ref r],[]])) _ _ s
 refine Hi (IH ?_);refine Hx #[Kw F.plain_list_iadd _,Jv F.entry_list_iadd ?_];rw[Jj F.plain_list_iadd _];show wpAny _ A.in1 (JV (.ref s.heap.objs.size) (.ref r) (.ref s.heap.objs.size)) _ _ _;have hS:(s.heap.push { cls:=.type "list",data:=.seq ([]:Hg Hj).toArray }).get? s.heap.objs.size=gV { cls:=.type "list",data:=.seq #[] 0 }:=HM _ rfl;have fin':∀s',(∃h' tk acc c',s'={ s with heap:=h',toks:=tk }/\(∀b o,s.heap.get? b=gV o->h'.get? b=gV o)/\h'.get? s.heap.objs.size=gV { cls:=.type "list",dict:=td,data:=.seq acc c',slots:=#[] }/\Mo (λi v=>∃t,v=.int (a+i*c) t) acc n)->wpAny (model prog w) A (do
   let o <- load s.heap.objs.size
   match o.data with
   | .seq xs _=>pure xs.toList
   | _=>unsupported "internal:collect") Q E s':=by
  rintro s' ⟨h',tk,acc,c',rfl,hk,hS',hacc⟩;exact Hi (Nk hS' (Hx (hQ h' tk acc hk (La (HN hS')) hacc)))
 refine Jx (wpAny_extend_range (A:=A) (s:={ s with heap:=s.heap.push { cls:=.type "list",data:=.seq ([]:Hg Hj).toArray } }) (R:=λr s'=>r=.ok (.ret (.ref s.heap.objs.size))/\∃h' tk acc c',s'={ s with heap:=h',toks:=tk }/\(∀b o,s.heap.get? b=gV o->h'.get? b=gV o)/\h'.get? s.heap.objs.size=gV { cls:=.type "list",dict:=td,data:=.seq acc c',slots:=#[] }/\Mo (λi v=>∃t,v=.int (a+i*c) t) acc n) hh (Hr _ hr) hsmall hn hlen _ _ 0 hS λh' tk acc' c' hk hS' hacc=>#[rfl,h',tk,acc',c',rfl,λb o e=>hk b o (Il (HN e)) (Hr _ e),hS',hacc]) (λfin s' h=>?_) (λe s' h=>?_)
 ·cases fin with
  | done f=>
   obtain⟨e,h⟩:=h;cases e;exact fin' s' h
  | again c'=>exact#[h.1,Mj h.2 λr s'' hr=>by obtain⟨rfl,hr⟩:=hr; exact fin' s'' hr]
 ·exact absurd h.1 (by simp)
theorem iS {Q₁:Hj->Hm->Prop}{r:Ht}{a b c:Hv}{t u v:Qe}{n:Ho}(hh:A.handled=td)(hr:P0 s.heap r a b c t u v)(hsmall:Lw a b c=true)
  (hn:Jy a b c=n) (hlen:n<=2 ^ 24)
  (h:∀(h':IG) (tk:Ho) (acc:IC Hj),(∀b o,s.heap.get? b=gV o->h'.get? b=gV o)->s.heap.objs.size<=h'.objs.size->Mo (λi v=>∃t,v=.int (a+i*c) t) acc n->Q₁ (.ref h'.objs.size) { s with heap:=h'.push { cls:=.type "tuple",data:=.seq acc },toks:=tk }) :
  codeAny (model prog w) A (.call (.builtin "tuple.__new__") #[[.type "tuple",.ref r],[]]) (wants Q₁ E) s:=by
 refine codeAny_of_tree ?_;show wpAny _ A.in1 (do checkBuiltinCall "tuple.__new__" #[[.type "tuple",.ref r],[]]; again (.builtin "tuple.__new__" #[[.type "tuple",.ref r],[]])) _ _ s
 refine Hi (MM (F.newCall_tuple_1 _) (Hx #[Kw F.plain_tuple_new _,Jv F.entry_tuple_new ?_]));rw[Jj F.plain_tuple_new _];have hsub:=PySem.sub_tuple_self;have hinit:=PySem.init_tuple_lookup;have hmh:=PySem.madeHere_tuple;have hTI:s.TypeIs (.ref r) "range":=#[_,hr,rfl];have hh1:A.in1.handled=td:=by simp[hh]
 wp_walk using Ly hTI,kZ (A:=A.in1) hh1 hr hsmall hn hlen
 intro h' tk acc hk hle hacc;show wpAny _ _ (Jr acc.toList.toArray >>= λv=>ret v) _ _ _
 unfold Jr;refine Hi (IH ?_ (by show acc.toList.toArray.size<=sizeLine; simp only[Array.toArray_toList]; rw[hacc.1,IL]; omega))
 refine Hx ?_;have e:acc.toList.toArray=acc:=by simp
 rw[e];exact h h' tk acc hk hle hacc
theorem iT {Q:Hj->Hm->Prop}{r:Ht}{a b c:Hv}{t u v:Qe}{n:Ho}(hh:A.handled=td)(hr:P0 s.heap r a b c t u v)(hsmall:Lw a b c=true)
  (hn:Jy a b c=n) (hlen:n<=2 ^ 24)
  (hQ:∀(h':IG) (tk:Ho) (acc:IC Hj),(∀b o,s.heap.get? b=gV o->h'.get? b=gV o)->s.heap.objs.size<=h'.objs.size->Mo (λi v=>∃t,v=.int (a+i*c) t) acc n->Q (.ref h'.objs.size) { s with heap:=h'.push { cls:=.type "tuple",data:=.seq acc },toks:=tk }) :
  wpAny (model prog w) A (call (.type "tuple") [.ref r]) Q E s:=by
 refine callType_codes (Q₁:=λobj s₁=>s₁.TypeIs obj "tuple"/\Q obj s₁) F.called_tuple (F.typeCall_tuple_1 _) F.entry_object_init
  (iS (by simp[hh]) hr hsmall hn hlen λh' tk acc hk hle hacc=>#[#[_,HM _ rfl,rfl],hQ h' tk acc hk hle hacc]) λobj s₁ h₁=>?_
 exact#[h₁.1,F.args_object_init_2 obj _,object_init_meets F.called_tuple.init.lookup F.called_tuple.made #v[] prog w A.in1 _ s₁ #[h₁.1,rfl,h₁.2]]
end
section
variable{X:Cx}{pins:Hg (Ht×Jo)}{σ:L2.St}{H:Hp}{s:Hm}{A:Hg Ht}{S:aa}
theorem nv (hh:X.A.handled=td):LCall X (.type "tuple") jV:=by
 intro pins s σ H A S xs vs us w S' I so rl rv e;unfold jV at e;split at e
 ·rename_i i;split at e
  ·rename_i lo hi hr;split at e
   ·rename_i hb;cases e;obtain⟨a,ea,rfl⟩:=rC (xs:=[]) rl rv;obtain⟨b1,b2,b3,b4,b5⟩:=hb;have hH:H a=gV (.rng lo hi):=by
     unfold zd at hr;split at hr
     ·rename_i hx; cases hr; exact so.obj i _ a hx ea
     ·cases hr
    obtain⟨t,u,v,ho⟩:=I.hok a _ hH;have hn:Jy lo hi 1=((hi - lo).toNat:Ho):=by rw[M7]; split <;> omega
    refine iT hh ho (Pa b1 b2 b3 b4) hn b5 λh' tk acc hk hle hacc=>?_
    have hv:Vals ((HG (hi - lo).toNat).map λ(k:Ho)=>V.int (lo+(k:Hv))) acc.toList:=by
     refine mV (by rw[Hh,Ic,Ir,hacc.1]) λi v u e1 e2=>?_
     rw[Hq,Hl]at e1;obtain⟨k,e1,rfl⟩:=e1;obtain⟨hk,rfl⟩:=HD.mp e1;obtain⟨t,rfl⟩:=hacc.2 i u (by rw[<- Jp]; exact e2)
     exact#[t,by simp]
    have hnn:H h'.objs.size=td:=I.hok.fresh hle;refine#[.ref h'.objs.size,_,A,I.laid (a:=h'.objs.size) (o:=.tup ((HG (hi - lo).toNat).map λ(k:Ho)=>V.int (lo+(k:Hv)))) (t':=tk) (λb o e=>Hr _ (hk b o e)) hle #[#[by simpa using b5,NoD.new _ _ _],acc.toList,hv,?_],rfl,dj (.inl hnn),so.lay hnn,.tup (.inl (.inl aZ)) (mW _)]
    exact#[_,HM _ rfl,rfl,0,by simp]
   ·cases e
  ·exact jh pins s σ H A S _ vs us w S' I so rl rv e
 ·exact jh pins s σ H A S _ vs us w S' I so rl rv e
end
section
variable{X:Cx}{pins:Hg (Ht×Jo)}{σ:L2.St}{H:Hp}{s:Hm}{A:Hg Ht}{S:aa}
theorem tL (hh:X.A.handled=td)(hu:X.A.units+12 < cLine):LCall X (.builtin "min") zn:=by
 intro pins s σ H A S xs vs us w S' I so rl rv e;cases rl with
 | nil=>cases e
 | cons r t=>
  cases t with
  | cons _ _=>cases r <;> cases e
  | nil=>
   cases rv with
   | cons ru rv2=>
    cases rv2;cases r with
    | ref ea=>
     simp only[zn]at e;split at e
     ·rename_i ws hw;split at e
      ·rename_i ks hk;split at e
       ·rename_i hc;rw[Hl]at e;obtain⟨w',e1,e2⟩:=e;cases e2;obtain⟨vs',h1,r1⟩:=cH so hw ea;obtain⟨its,rv1,p,hz⟩:=I.list h1;obtain rfl:_=IB _:=ru;have hws:T.ws ks=ws:=W.ts_w hk;have hT:IsTs s.heap ks its:=gf I ks (hws ▸ r1) rv1;have hl:its.length=ks.length:=hT.length.symm;have hlw:ws.length=ks.length:=by rw[r1.length,L2.Vals.length rv1,hl]
        have hn:0 < ks.length:=by
         have:=(HD.mp e1).1;omega
        refine vz (items:=its.toArray) (bt:=AM ks) hh p.isList (by simpa [hl]using hn) (λi j vi vj s' Q E hk' hi hj hq=>?_) λv h' tk hv hk'=>?_
        ·have hi':i < ks.length:=by
          have:=(J1.mp hi).1
          simpa [hl]using this
         have hj':j < ks.length:=by
          have:=(J1.mp hj).1
          simpa [hl]using this
         have g:=hT.kept (h':=s'.heap) λb o _ e=>hk' b o e
         have e1:vi=its[i]'∅:=by
          have:=(J1.mp hi).2
          simpa using this.symm
         have e2:vj=its[j]'∅:=by
          have:=(J1.mp hj).2
          simpa using this.symm
         subst e1 e2;have b1:=d4 (ks:=ks) i hi';have b2:=d4 (ks:=ks) j hj';exact D1 eA _ _ _ _ X.A.in1 s' _ ∅ ∅ (g.get i hi' ∅) (g.get j hj' ∅) (by rw[be]; unfold eA; omega) (vD hc.2 hi' hj') X.prog X.w _ _ hq
        ·have hv':its[nq ks]?=gV v:=by
          have:its.toArray.size=ks.length:=by simpa using hl
          rw[this]at hv
          simpa [nq]using hv
         obtain⟨v',q1,q2⟩:=r1.get e1;obtain⟨u',q3,q4⟩:=L2.Vals.get rv1 q1;rw[hv']at q3;cases q3;exact#[v',H,A,I.kept hk',q4,.refl,so,q2]
       ·cases e
      ·cases e
     ·cases e
    | _=>cases e
theorem lM:∀ {ws:Hg W} {bs:Hg HU},gR ws=gV bs->ws=bs.map W.bl
 | [],bs,h=>by cases h; rfl
 | .bl b::ws,bs,h=>by
  simp only[gR,Hl]at h;obtain⟨r,h1,h2⟩:=h;subst h2;rw[lM h1]; rfl
 | .non::_,_,h|.int _::_,_,h|.str _::_,_,h|.tup _::_,_,h|.ref _::_,_,h=>by cases h
theorem qg {bs:Hg HU}{vs:Hg V}{us:Hg Hj}(r:RelL X.K A H (bs.map W.bl) vs)(rv:Vals vs us):us=bs.map KD:=by
 induction bs generalizing vs us with
 | nil=>cases r; cases rv; rfl
 | cons b bs ih=>
  cases r with
  | cons r1 r2=>
   cases rv with
   | cons v1 v2=>
    cases r1;obtain rfl:_=KD b:=v1;rw[ih r2 v2]; rfl
theorem tM (bs:Hg HU):(HG bs.length).all (λi=>bs.getD i false)=bs.all id:=by
 induction bs with
 | nil=>rfl
 | cons b bs ih=>simp[Ml,Pg,LW]at ih ⊢; rw[ih]
theorem B7 {id:Jb}{fb:Hg HU->HU}{g:Hg W->aa->Hn (W×aa)}(hg:∀xs S,g xs S=match xs with|[.ref i]=>(match gO S i with|some ws=>(gR ws).map λbs=>(.bl (fb bs),S)|none=>td)|_=>td)
  (hcall:∀ {s:Hm} {x:Hj} {Q:Hj->Hm->Prop} {E:Hj->Hm->Prop} {bs:Hg HU},wpAny (model X.prog X.w) X.A.in1 (pyIter x) (λit s₂=>∃I fp wr P St,it=.ref I/\P9 X.prog X.w X.A.in1 I fp wr bs.length P St/\St 0 s₂.heap/\TruthOf X.prog X.w X.A.in1 P (λi=>bs.getD i false)/\
   ∀h' tk,(∀b o,b∉wr->s₂.heap.get? b=gV o->h'.get? b=gV o)->Q (.bool (fb bs)) { s₂ with heap:=h',toks:=tk }) E s->wpAny (model X.prog X.w) X.A (call (.builtin id) [x]) Q E s)
  (hh:X.A.handled=td):LCall X (.builtin id) g:=by
 intro pins s σ H A S xs vs us w S' I so rl rv e;rw[hg]at e;cases rl with
 | nil=>cases e
 | cons r t=>
  cases t with
  | cons _ _=>cases r <;> cases e
  | nil=>
   cases rv with
   | cons ru rv2=>
    cases rv2;cases r with
    | @ref ri ad ea=>
     simp only at e;split at e
     ·rename_i ws hw;rw[Hl]at e;obtain⟨bs,e1,e2⟩:=e;cases e2;obtain⟨vs',h1,r1⟩:=cH so hw ea;obtain⟨its,rv1,p,hz⟩:=I.list h1;obtain rfl:_=IB _:=ru;rw[lM e1]at r1;have hits:=qg r1 rv1;refine hcall (bs:=bs) ?_;refine LV p.isList ?_;have hlt:ad < s.heap.objs.size:=by obtain⟨_,ho,_⟩:=p.isList; exact HN ho
      have W:=PN (prog:=X.prog) (w:=X.w) (A:=X.A.in1) hh s.heap.objs.size ad (Il hlt) its.toArray;have hsz:its.toArray.size=bs.length:=by rw[HH,hits,Hh]
      rw[hsz]at W;refine#[_,_,_,_,_,rfl,W,#[#[_,HM _ rfl,rfl,rfl],?_],λi v s' Q E hi hq=>?_,λh' tk hk=>?_]
      ·obtain⟨o,ho,hc⟩:=p.isList;exact#[o,Hr _ ho,hc]
      ·have hb:bs[i]?.map KD=gV v:=by rw[<- Hq,<- hits]; simpa using hi
       cases q:bs[i]? with
       | none=>rw[q]at hb; cases hb
       | some b=>
        rw[q]at hb;cases hb;have eb:bs.getD i false=b:=by simp[q]
        have hq:Q (bs.getD i false) s':=hq;rw[eb]at hq;exact Jg hq
      ·refine#[.bl (fb bs),H,A,I.kept (λb o e=>hk b o (λz=>?_) (Hr _ e)),rfl,.refl,so,.bl]
       have hb:=HN e;rw[HB.mp z]at hb;exact IX _ hb
     ·cases e
    | _=>cases e
theorem tN (hh:X.A.handled=td):LCall X (.builtin "all") B6:=
 B7 (fb:=λbs=>bs.all id) (λxs S=>rfl) (λ{s x Q E bs} h=>call_all_walk (Jx h (λit s₂ #[I,fp,wr,P,St',a,b,c,d,f]=>#[I,fp,wr,_,P,St',_,a,b,c,d,λh' tk hk=>by rw[tM]; exact f h' tk hk]) λ_ _ e=>e)) hh
end
noncomputable abbrev FA:=Fm->aa->Hn (Hg W×aa)
noncomputable abbrev FT:=Fm->aa->Hn (HU×aa)
inductive Out where
 | nx (ρ:Fm)|rt (w:W)|bk (ρ:Fm)|ct (ρ:Fm)
noncomputable abbrev FS:=Fm->aa->Hn (Out×aa)
section
variable (X:Cx)
noncomputable def tE (f:FE):TE:=λσ H Q=>∃A ρ S w S',EnvRel X.K A H ρ σ/\StoreOk X.w X.K A H S/\f ρ S=gV (w,S')/\∀v H',EndV X.w X.K A H S' w v H'->Q v H'
noncomputable def EndB (A:Hg Ht)(H:Hp)(S':aa)(k:HU):HU->Hp->Prop:=λb H'=>b=k/\∃A',Ext X.K A H A' H'/\StoreOk X.w X.K A' H' S'
noncomputable def tT (f:FT):TT:=λσ H Q=>∃A ρ S k S',EnvRel X.K A H ρ σ/\StoreOk X.w X.K A H S/\f ρ S=gV (k,S')/\∀b H',EndB X A H S' k b H'->Q b H'
noncomputable def B8 (A:Hg Ht)(H:Hp)(S':aa)(ws:Hg W):Hg V->Hp->Prop:=λvs H'=>∃A',Ext X.K A H A' H'/\StoreOk X.w X.K A' H' S'/\RelL X.K A' H' ws vs
noncomputable def tA (f:FA):TA:=λσ H Q=>∃A ρ S ws S',EnvRel X.K A H ρ σ/\StoreOk X.w X.K A H S/\f ρ S=gV (ws,S')/\∀vs H',B8 X A H S' ws vs H'->Q vs H'
noncomputable def EndS (A:Hg Ht)(H:Hp)(o:Out)(S':aa):Ends where
 nx:=λσ' H'=>∃ρ' A',o=.nx ρ'/\Ext X.K A H A' H'/\StoreOk X.w X.K A' H' S'/\EnvRel X.K A' H' ρ' σ'
 rt:=λv H'=>∃w A',o=.rt w/\Ext X.K A H A' H'/\StoreOk X.w X.K A' H' S'/\Rel X.K A' H' w v
 bk:=λσ' H'=>∃ρ' A',o=.bk ρ'/\Ext X.K A H A' H'/\StoreOk X.w X.K A' H' S'/\EnvRel X.K A' H' ρ' σ'
 ct:=λσ' H'=>∃ρ' A',o=.ct ρ'/\Ext X.K A H A' H'/\StoreOk X.w X.K A' H' S'/\EnvRel X.K A' H' ρ' σ'
structure Imp (E D:Ends):Prop where
 nx:∀σ H,E.nx σ H->D.nx σ H
 rt:∀v H,E.rt v H->D.rt v H
 bk:∀σ H,E.bk σ H->D.bk σ H
 ct:∀σ H,E.ct σ H->D.ct σ H
noncomputable def tS (f:FS):TS:=λD σ H=>∃A ρ S o S',EnvRel X.K A H ρ σ/\StoreOk X.w X.K A H S/\f ρ S=gV (o,S')/\Imp (EndS X A H o S') D
noncomputable abbrev GE (e:HS)(f:FE):Prop:=PE X e (tE X f)
noncomputable abbrev GT (e:HS)(f:FT):Prop:=PT X e (tT X f)
noncomputable abbrev GW (e:HS)(f:FT):Prop:=PW X e (tT X f)
noncomputable abbrev GA (es:Hg HS)(f:FA):Prop:=PA X es (tA X f)
noncomputable abbrev GS (st:Kk)(f:FS):Prop:=PS X st (tS X f)
noncomputable abbrev GSs (sts:Hg Kk)(f:FS):Prop:=PSs X sts (tS X f)
end
theorem Imp.trans {E D F:Ends}(a:Imp E D)(b:Imp D F):Imp E F:=#[λ_ _ h=>b.nx _ _ (a.nx _ _ h),λ_ _ h=>b.rt _ _ (a.rt _ _ h),λ_ _ h=>b.bk _ _ (a.bk _ _ h),λ_ _ h=>b.ct _ _ (a.ct _ _ h)]
section
variable{X:Cx}
theorem GE.of {e:HS}{t:TE}{f:FE}(h:PE X e t)(hf:∀(σ:L2.St) (H:Hp) (A:Hg Ht) (ρ:Fm) (S:aa) (w:W) (S':aa),EnvRel X.K A H ρ σ->StoreOk X.w X.K A H S->f ρ S=gV (w,S')->∀Q:VK,(∀v H',EndV X.w X.K A H S' w v H'->Q v H')->t σ H Q):GE X e f:=
 λpins s σ H Q I #[A,ρ,S,w,S',er,so,e1,hq]=>h pins s σ H Q I (hf σ H A ρ S w S' er so e1 Q hq)
theorem GT.of {e:HS}{t:TT}{f:FT}(h:PT X e t)(hf:∀(σ:L2.St) (H:Hp) (A:Hg Ht) (ρ:Fm) (S:aa) (k:HU) (S':aa),EnvRel X.K A H ρ σ->StoreOk X.w X.K A H S->f ρ S=gV (k,S')->∀Q:HU->Hp->Prop,(∀b H',EndB X A H S' k b H'->Q b H')->t σ H Q):GT X e f:=
 λpins s σ H Q I #[A,ρ,S,w,S',er,so,e1,hq]=>h pins s σ H Q I (hf σ H A ρ S w S' er so e1 Q hq)
theorem GW.of {e:HS}{t:TT}{f:FT}(h:PW X e t)(hf:∀(σ:L2.St) (H:Hp) (A:Hg Ht) (ρ:Fm) (S:aa) (k:HU) (S':aa),EnvRel X.K A H ρ σ->StoreOk X.w X.K A H S->f ρ S=gV (k,S')->∀Q:HU->Hp->Prop,(∀b H',EndB X A H S' k b H'->Q b H')->t σ H Q):GW X e f:=
 λwh pins s σ H Q I #[A,ρ,S,w,S',er,so,e1,hq]=>h wh pins s σ H Q I (hf σ H A ρ S w S' er so e1 Q hq)
theorem GA.of {es:Hg HS}{t:TA}{f:FA}(h:PA X es t)(hf:∀(σ:L2.St) (H:Hp) (A:Hg Ht) (ρ:Fm) (S:aa) (ws:Hg W) (S':aa),EnvRel X.K A H ρ σ->StoreOk X.w X.K A H S->f ρ S=gV (ws,S')->∀Q:Hg V->Hp->Prop,(∀vs H',B8 X A H S' ws vs H'->Q vs H')->t σ H Q):GA X es f:=
 λpos pins s σ H Q I #[A,ρ,S,w,S',er,so,e1,hq]=>h pos pins s σ H Q I (hf σ H A ρ S w S' er so e1 Q hq)
theorem GS.of {st:Kk}{t:TS}{f:FS}(h:PS X st t)(hf:∀(σ:L2.St) (H:Hp) (A:Hg Ht) (ρ:Fm) (S:aa) (o:Out) (S':aa),EnvRel X.K A H ρ σ->StoreOk X.w X.K A H S->f ρ S=gV (o,S')->∀D:Ends,Imp (EndS X A H o S') D->t D σ H):GS X st f:=
 λpins s σ H D I #[A,ρ,S,o,S',er,so,e1,hq]=>h pins s σ H D I (hf σ H A ρ S o S' er so e1 D hq)
theorem GSs.of {st:Hg Kk}{t:TS}{f:FS}(h:PSs X st t)(hf:∀(σ:L2.St) (H:Hp) (A:Hg Ht) (ρ:Fm) (S:aa) (o:Out) (S':aa),EnvRel X.K A H ρ σ->StoreOk X.w X.K A H S->f ρ S=gV (o,S')->∀D:Ends,Imp (EndS X A H o S') D->t D σ H):GSs X st f:=
 λpins s σ H D I #[A,ρ,S,o,S',er,so,e1,hq]=>h pins s σ H D I (hf σ H A ρ S o S' er so e1 D hq)
theorem EndV.after {A A1:Hg Ht}{H H1:Hp}{S':aa}{w:W}{v:V}{H':Hp}(e:Ext X.K A H A1 H1)(h:EndV X.w X.K A1 H1 S' w v H'):EndV X.w X.K A H S' w v H':=by
 obtain⟨A',x,y,z⟩:=h;exact#[A',e.trans x,y,z]
theorem EndB.after {A A1:Hg Ht}{H H1:Hp}{S':aa}{k b:HU}{H':Hp}(e:Ext X.K A H A1 H1)(h:EndB X A1 H1 S' k b H'):EndB X A H S' k b H':=by
 obtain⟨h1,A',x,y⟩:=h;exact#[h1,A',e.trans x,y]
theorem EndS.after {A A1:Hg Ht}{H H1:Hp}{S':aa}{o:Out}(e:Ext X.K A H A1 H1):Imp (EndS X A1 H1 o S') (EndS X A H o S'):=
 #[λ_ _ #[ρ',A',a,b,c,d]=>#[ρ',A',a,e.trans b,c,d],λ_ _ #[ρ',A',a,b,c,d]=>#[ρ',A',a,e.trans b,c,d],λ_ _ #[ρ',A',a,b,c,d]=>#[ρ',A',a,e.trans b,c,d],λ_ _ #[ρ',A',a,b,c,d]=>#[ρ',A',a,e.trans b,c,d]]
noncomputable def fC (w:W):FE:=λ_ S=>gV (w,S)
noncomputable def fV (i:Ho):FE:=λρ S=>match ρ[i]? with
 | some (gV w)=>gV (w,S)
 | _=>td
theorem oO {e:HS}{v:V}{w:W}(h:PE X e (tC v))(r:∀A H,Rel X.K A H w v):GE X e (fC w):=
 GE.of h λσ H A ρ S w' S' er so e Q hq=>by cases e; exact hq _ _ (.here so (r A H))
theorem F7 {i:Ho}{e:HS}(h:PE X e (Dr i)):GE X e (fV i):=GE.of h λσ H A ρ S w S' er so e Q hq=>by
 unfold fV at e;split at e
 ·rename_i w' hw;cases e;obtain⟨v,h1,h2⟩:=er.2 i _ hw;exact#[v,h1,hq _ _ (.here so h2)]
 ·cases e
noncomputable def zo (g:W->W->aa->Hn (W×aa))(fa fb:FE):FE:=λρ S=>match fa ρ S with
 | some (x,S1)=>match fb ρ S1 with
  | some (y,S2)=>g x y S2
  | none=>td
 | none=>td
theorem Fi {fa fb:FE}{g:W->W->aa->Hn (W×aa)}{ρ:Fm}{S:aa}{r:W×aa}(e:zo g fa fb ρ S=gV r):∃x S1 y S2,fa ρ S=gV (x,S1)/\fb ρ S1=gV (y,S2)/\g x y S2=gV r:=by
 unfold zo at e;split at e
 ·rename_i x S1 h1;split at e
  ·rename_i y S2 h2;exact#[x,S1,y,S2,h1,h2,e]
  ·cases e
 ·cases e
theorem fO {fa fb:FE}{ρ:Fm}{S S1 S2:aa}{x y:W}{σ:L2.St}{H:Hp}{A:Hg Ht}{R:V->V->Hp->Prop}(er:EnvRel X.K A H ρ σ)(so:StoreOk X.w X.K A H S)(h1:fa ρ S=gV (x,S1))(h2:fb ρ S1=gV (y,S2))
  (h:∀a b H2 A2,Ext X.K A H A2 H2->StoreOk X.w X.K A2 H2 S2->Rel X.K A2 H2 x a->Rel X.K A2 H2 y b->R a b H2):tE X fa σ H λa H1=>tE X fb σ H1 λb H2=>R a b H2:=by
 refine#[A,ρ,S,x,S1,er,so,h1,λa H1 #[A1,e1,o1,r1]=>?_]
 refine#[A1,ρ,S1,y,S2,er.mono e1,o1,h2,λb H2 #[A2,e2,o2,r2]=>?_]
 exact h a b H2 A2 (e1.trans e2) o2 (r1.mono e2) r2
theorem LOp.opr {f:Hj->Hj->Pk Hj}{g:W->W->aa->Hn (W×aa)}(h:LOp X f g):OpR X f (λa b H Q=>∃A S x y w S',StoreOk X.w X.K A H S/\Rel X.K A H x a/\Rel X.K A H y b/\g x y S=gV (w,S')/\∀v H',EndV X.w X.K A H S' w v H'->Q v H'):=by
 intro pins s σ H a b u v Q I ru rv ⟨A,S,x,y,w,S',so,rx,ry,e,hq⟩;exact bo (h pins s σ H A S x y a b u v w S' I so rx ru ry rv e) λu' s' #[v',H',A',I',r',e1,o1,z1]=>#[v',H',I',r',hq v' H' #[A',e1,o1,z1]]
theorem AN {a b:HS}{op:NC}{pos:JY}{fa fb:FE}{g:W->W->aa->Hn (W×aa)}(ho:LOp X (binaryOp op) g)(ha:GE X a fa)(hb:GE X b fb):GE X (.BinOp a op b pos) (zo g fa fb):=
 GE.of (DH ho.opr ha hb) λσ H A ρ S w S' er so e Q hq=>by
  obtain⟨x,S1,y,S2,h1,h2,h3⟩:=Fi e;exact fO er so h1 h2 λa b H2 A2 e2 o2 r1 r2=>#[A2,S2,x,y,w,S',o2,r1,r2,h3,λv H' z=>hq v H' (z.after e2)]
noncomputable def vG (fa:FE):FE:=λρ S=>match fa ρ S with
 | some (.int i,S1)=>gV (.int (-i),S1)
 | _=>td
theorem vH {a:HS}{pos:JY}{fa:FE}(ha:GE X a fa):GE X (.UnaryOp .USub a pos) (vG fa):=
 GE.of (DI BP ha) λσ H A ρ S w S' er so e Q hq=>by
  unfold vG at e;split at e
  ·rename_i i S1 h1;cases e;refine#[A,ρ,S,_,_,er,so,h1,λv H1 #[A1,e1,o1,r1]=>?_]
   cases r1;exact#[_,rfl,hq _ _ #[A1,e1,o1,.int]]
  ·cases e
noncomputable def zp (o:COp)(fa fb:FE):FE:=zo (aL o) fa fb
theorem B9 {a b:HS}{o:COp}{pos:JY}{fa fb:FE}(hu:X.A.units+fM < cLine)(ha:GE X a fa)(hb:GE X b fb)(hm:behindInMarks o.py b=false):GE X (.Compare a [o.py] [b] pos) (zp o fa fb):=
 GE.of (yC (oD hu o).opr ha hb hm) λσ H A ρ S w S' er so e Q hq=>by
  obtain⟨x,S1,y,S2,h1,h2,h3⟩:=Fi e;exact fO er so h1 h2 λa b H2 A2 e2 o2 r1 r2=>#[A2,S2,x,y,w,S',o2,r1,r2,h3,λv H' z=>hq v H' (z.after e2)]
noncomputable def oP (f:FE):FT:=λρ S=>match f ρ S with
 | some (.bl k,S')=>gV (k,S')
 | _=>td
theorem Cb {a b:HS}{o:COp}{pos:JY}{fa fb:FE}(hu:X.A.units+fM < cLine)(ha:GE X a fa)(hb:GE X b fb)(hm:behindInMarks o.py b=false):GT X (.Compare a [o.py] [b] pos) (oP (zp o fa fb)):=
 GT.of (yD (oD hu o).opr ha hb hm) λσ H A ρ S k S' er so e Q hq=>by
  unfold oP at e;split at e
  ·rename_i k' S'' h0;cases e;obtain⟨x,S1,y,S2,h1,h2,h3⟩:=Fi h0;refine fO er so h1 h2 λa b H2 A2 e2 o2 r1 r2=>#[A2,S2,x,y,_,_,o2,r1,r2,h3,λv H' #[A',z1,z2,z3]=>?_]
   cases z3;exact#[k,rfl,hq _ _ #[rfl,A',e2.trans z1,z2]]
  ·cases e
noncomputable def fP (o o':COp)(fa fb fc:FE):FE:=λρ S=>match fa ρ S with
 | some (x,S1)=>match fb ρ S1 with
  | some (y,S2)=>match uF o x y S2 with
   | some true=>match fc ρ S2 with
    | some (z,S3)=>dJ o' y z S3
    | none=>td
   | some false=>gV (.bl false,S2)
   | none=>td
  | none=>td
 | none=>td
theorem jW {o o':COp}{fa fb fc:FE}{σ:L2.St}{H:Hp}{A:Hg Ht}{ρ:Fm}{S:aa}{w:W}{S':aa}(er:EnvRel X.K A H ρ σ)(so:StoreOk X.w X.K A H S)(e:fP o o' fa fb fc ρ S=gV (w,S'))(Q:VK)(hq:∀v H',EndV X.w X.K A H S' w v H'->Q v H') :
  pT (λa b H Q=>∃A S x y w S',StoreOk X.w X.K A H S/\Rel X.K A H x a/\Rel X.K A H y b/\dJ o x y S=gV (w,S')/\∀v H',EndV X.w X.K A H S' w v H'->Q v H')
   (λa b H Q=>∃A S x y w S',StoreOk X.w X.K A H S/\Rel X.K A H x a/\Rel X.K A H y b/\dJ o' x y S=gV (w,S')/\∀v H',EndV X.w X.K A H S' w v H'->Q v H') (tE X fa) (tE X fb) (tE X fc) σ H Q:=by
 unfold fP at e;split at e
 ·rename_i x S1 h1;split at e
  ·rename_i y S2 h2;refine fO er so h1 h2 λa b H2 A2 e2 o2 r1 r2=>?_
   split at e
   ·rename_i hc;split at e
    ·rename_i z S3 h3;refine#[A2,S2,x,y,.bl true,S2,o2,r1,r2,by simp[dJ,hc],λv H3 #[A3,z1,z2,z3]=>?_]
     cases z3;refine#[true,rfl,?_];rw[HV rfl];refine#[A3,ρ,S2,z,S3,er.mono (e2.trans z1),z2,h3,λc H4 #[A4,y1,y2,y3]=>?_]
     exact#[A4,S3,y,z,w,S',y2,(r2.mono z1).mono y1,y3,e,λv H' q=>hq v H' (q.after ((e2.trans z1).trans y1))]
    ·cases e
   ·rename_i hc;cases e;refine#[A2,S',x,y,.bl false,S',o2,r1,r2,by simp[dJ,hc],λv H3 #[A3,z1,z2,z3]=>?_]
    cases z3;refine#[false,rfl,?_];rw[Iv HK];exact hq _ _ #[A3,e2.trans z1,z2,.bl]
   ·cases e
  ·cases e
 ·cases e
theorem vI {a b c:HS}{o o':COp}{pos:JY}{fa fb fc:FE}(hu:X.A.units+fM < cLine)(ha:GE X a fa)(hb:GE X b fb)(hc:GE X c fc)(hm:lastMarks [o.py,o'.py] [b,c]=false):GE X (.Compare a [o.py,o'.py] [b,c] pos) (fP o o' fa fb fc):=
 GE.of (uR (hJ hu o).opr (hJ hu o').opr ha hb hc hm) λσ H A ρ S w S' er so e Q hq=>jW er so e Q hq
theorem vJ {a b c:HS}{o o':COp}{pos:JY}{fa fb fc:FE}(hu:X.A.units+fM < cLine)(ha:GE X a fa)(hb:GE X b fb)(hc:GE X c fc)(hm:lastMarks [o.py,o'.py] [b,c]=false):GT X (.Compare a [o.py,o'.py] [b,c] pos) (oP (fP o o' fa fb fc)):=
 GT.of (uS (hJ hu o).opr (hJ hu o').opr ha hb hc hm) λσ H A ρ S k S' er so e Q hq=>by
  unfold oP at e;split at e
  ·rename_i k' S'' h0;cases e;refine jW er so h0 (λx H'=>∃k,x=.bl k/\Q k H') λv H' #[A',z1,z2,z3]=>?_
   cases z3;exact#[_,rfl,hq _ _ #[rfl,A',z1,z2]]
  ·cases e
noncomputable def gC (f:FE):FT:=λρ S=>match f ρ S with
 | some (w,S')=>(cw S' w).map λk=>(k,S')
 | none=>td
theorem cJ {e:HS}{f:FE}(h:GE X e f)(he:∀whole,isTrue e X.env whole=(do let v <- whole; standAt e.pos; holding [v] (truthy v))):GT X e (gC f):=by
 intro pins s σ H Q I ⟨A,ρ,S,k,S',er,so,e1,hq⟩;unfold gC at e1;split at e1
 ·rename_i w S1 h1;rw[Hl]at e1;obtain⟨k',ek,e2⟩:=e1;cases e2;refine isTrue_plain (bo (h pins s σ H (EndV X.w X.K A H _ w) I #[A,ρ,S,w,_,er,so,h1,λ_ _ z=>z]) λv s1 #[x,H1,I1,r1,A1,e1,o1,z1]=>?_) (he _)
  exact F5 I1 o1 z1 r1 ek λs' I'=>#[H1,I',hq _ _ #[rfl,A1,e1,o1]]
 ·cases e1
noncomputable def vK (f g:FT):FT:=λρ S=>match f ρ S with
 | some (true,S1)=>g ρ S1
 | some (false,S1)=>gV (false,S1)
 | none=>td
noncomputable def D2 (f g:FT):FT:=λρ S=>match f ρ S with
 | some (true,S1)=>gV (true,S1)
 | some (false,S1)=>g ρ S1
 | none=>td
noncomputable def zq (f:FT):FT:=λρ S=>match f ρ S with
 | some (k,S1)=>gV (!k,S1)
 | none=>td
theorem vL {f g:FT}{σ:L2.St}{H:Hp}{A:Hg Ht}{ρ:Fm}{S:aa}{k:HU}{S':aa}(er:EnvRel X.K A H ρ σ)(so:StoreOk X.w X.K A H S)(e:vK f g ρ S=gV (k,S'))(Q:HU->Hp->Prop)(hq:∀b H',EndB X A H S' k b H'->Q b H') :
  Ds (tT X f) (tT X g) σ H Q:=by
 unfold vK at e;split at e
 ·rename_i S1 h1;refine#[A,ρ,S,true,S1,er,so,h1,λb H1 #[z0,A1,z1,z2]=>?_]
  subst z0;rw[HV rfl];exact#[A1,ρ,S1,k,S',er.mono z1,z2,e,λb H' q=>hq b H' (q.after z1)]
 ·rename_i S1 h1;cases e;refine#[A,ρ,S,false,_,er,so,h1,λb H1 #[z0,A1,z1,z2]=>?_]
  subst z0;rw[Iv HK];exact hq _ _ #[rfl,A1,z1,z2]
 ·cases e
theorem zr {f g:FT}{σ:L2.St}{H:Hp}{A:Hg Ht}{ρ:Fm}{S:aa}{k:HU}{S':aa}(er:EnvRel X.K A H ρ σ)(so:StoreOk X.w X.K A H S)(e:D2 f g ρ S=gV (k,S'))(Q:HU->Hp->Prop)(hq:∀b H',EndB X A H S' k b H'->Q b H') :
  GH (tT X f) (tT X g) σ H Q:=by
 unfold D2 at e;split at e
 ·rename_i S1 h1;cases e;refine#[A,ρ,S,true,_,er,so,h1,λb H1 #[z0,A1,z1,z2]=>?_]
  subst z0;rw[HV rfl];exact hq _ _ #[rfl,A1,z1,z2]
 ·rename_i S1 h1;refine#[A,ρ,S,false,S1,er,so,h1,λb H1 #[z0,A1,z1,z2]=>?_]
  subst z0;rw[Iv HK];exact#[A1,ρ,S1,k,S',er.mono z1,z2,e,λb H' q=>hq b H' (q.after z1)]
 ·cases e
theorem zt {a:HS}{pos:JY}{f:FT}(h:GT X a f):GW X (.BoolOp .And [a] pos) f:=yr h
theorem Cc {a:HS}{pos:JY}{f:FT}(h:GT X a f):GW X (.BoolOp .Or [a] pos) f:=Bq h
theorem Cd {a b:HS}{r:Hg HS}{pos:JY}{f g:FT}(h:GT X a f)(h2:GW X (.BoolOp .And (b::r) pos) g):GW X (.BoolOp .And (a::b::r) pos) (vK f g):=
 GW.of (Br h h2) λσ H A ρ S k S' er so e Q hq=>vL er so e Q hq
theorem D3 {a b:HS}{r:Hg HS}{pos:JY}{f g:FT}(h:GT X a f)(h2:GW X (.BoolOp .Or (b::r) pos) g):GW X (.BoolOp .Or (a::b::r) pos) (D2 f g):=
 GW.of (Dt h h2) λσ H A ρ S k S' er so e Q hq=>zr er so e Q hq
theorem Ce {a:HS}{pos:JY}{f:FT}(h:GT X a f):GT X (.UnaryOp .Not a pos) (zq f):=
 GT.of (Bs h) λσ H A ρ S k S' er so e Q hq=>by
  unfold zq at e;split at e
  ·rename_i k1 S1 h1;cases e;refine#[A,ρ,S,k1,_,er,so,h1,λb H1 #[z0,A1,z1,z2]=>?_]
   subst z0;exact hq _ _ #[rfl,A1,z1,z2]
  ·cases e
noncomputable def rL (f g:FE):FE:=λρ S=>match f ρ S with
 | some (.bl true,S1)=>g ρ S1
 | some (.bl false,S1)=>gV (.bl false,S1)
 | _=>td
noncomputable def zu (f g:FE):FE:=λρ S=>match f ρ S with
 | some (.bl true,S1)=>gV (.bl true,S1)
 | some (.bl false,S1)=>g ρ S1
 | _=>td
noncomputable def rM (f:FE):FE:=λρ S=>match f ρ S with
 | some (.bl k,S1)=>gV (.bl (!k),S1)
 | _=>td
theorem Cg {a:HS}{op:PQ}{pos:JY}{f:FE}(h:GE X a f):GE X (.BoolOp op [a] pos) f:=Bt h
theorem Ch {a b:HS}{r:Hg HS}{pos:JY}{f g:FE}(h:GE X a f)(h2:GE X (.BoolOp .And (b::r) pos) g):GE X (.BoolOp .And (a::b::r) pos) (rL f g):=
 GE.of (Bu h h2) λσ H A ρ S w S' er so e Q hq=>by
  unfold rL at e;split at e
  ·rename_i S1 h1;refine#[A,ρ,S,_,S1,er,so,h1,λv H1 #[A1,z1,z2,z3]=>?_]
   cases z3;refine#[true,rfl,?_];rw[HV rfl];exact#[A1,ρ,S1,w,S',er.mono z1,z2,e,λb H' q=>hq b H' (q.after z1)]
  ·rename_i S1 h1;cases e;refine#[A,ρ,S,_,_,er,so,h1,λv H1 #[A1,z1,z2,z3]=>?_]
   cases z3;refine#[false,rfl,?_];rw[Iv HK];exact hq _ _ #[A1,z1,z2,.bl]
  ·cases e
theorem D4 {a b:HS}{r:Hg HS}{pos:JY}{f g:FE}(h:GE X a f)(h2:GE X (.BoolOp .Or (b::r) pos) g):GE X (.BoolOp .Or (a::b::r) pos) (zu f g):=
 GE.of (Dw h h2) λσ H A ρ S w S' er so e Q hq=>by
  unfold zu at e;split at e
  ·rename_i S1 h1;cases e;refine#[A,ρ,S,_,_,er,so,h1,λv H1 #[A1,z1,z2,z3]=>?_]
   cases z3;refine#[true,rfl,?_];rw[HV rfl];exact hq _ _ #[A1,z1,z2,.bl]
  ·rename_i S1 h1;refine#[A,ρ,S,_,S1,er,so,h1,λv H1 #[A1,z1,z2,z3]=>?_]
   cases z3;refine#[false,rfl,?_];rw[Iv HK];exact#[A1,ρ,S1,w,S',er.mono z1,z2,e,λb H' q=>hq b H' (q.after z1)]
  ·cases e
theorem Ci {a:HS}{pos:JY}{f:FE}(h:GE X a f):GE X (.UnaryOp .Not a pos) (rM f):=
 GE.of (Bv h) λσ H A ρ S w S' er so e Q hq=>by
  unfold rM at e;split at e
  ·rename_i k1 S1 h1;cases e;refine#[A,ρ,S,_,_,er,so,h1,λb H1 #[A1,z1,z2,z3]=>?_]
   cases z3;exact#[_,rfl,hq _ _ #[A1,z1,z2,.bl]]
  ·cases e
noncomputable def zv (c:FT)(f g:FE):FE:=λρ S=>match c ρ S with
 | some (true,S1)=>f ρ S1
 | some (false,S1)=>g ρ S1
 | none=>td
theorem Cj {c a b:HS}{pos:JY}{fc:FT}{f g:FE}(hc:GT X c fc)(ha:GE X a f)(hb:GE X b g):GE X (.IfExp c a b pos) (zv fc f g):=
 GE.of (uK hc ha hb) λσ H A ρ S w S' er so e Q hq=>by
  unfold zv at e;split at e
  ·rename_i S1 h1;refine#[A,ρ,S,_,S1,er,so,h1,λb H1 #[z0,A1,z1,z2]=>?_]
   subst z0;rw[HV rfl];exact#[A1,ρ,S1,w,S',er.mono z1,z2,e,λb H' q=>hq b H' (q.after z1)]
  ·rename_i S1 h1;refine#[A,ρ,S,_,S1,er,so,h1,λb H1 #[z0,A1,z1,z2]=>?_]
   subst z0;rw[Iv HK];exact#[A1,ρ,S1,w,S',er.mono z1,z2,e,λb H' q=>hq b H' (q.after z1)]
  ·cases e
noncomputable def ik:FA:=λ_ S=>gV ([],S)
noncomputable def dH (f:FE)(g:FA):FA:=λρ S=>match f ρ S with
 | some (w,S1)=>match g ρ S1 with
  | some (ws,S2)=>gV (w::ws,S2)
  | none=>td
 | none=>td
theorem Ck:GA X [] ik:=GA.of uT λσ H A ρ S ws S' er so e Q hq=>by cases e; exact hq _ _ #[A,.refl,so,.nil]
theorem zw {e:HS}{es:Hg HS}{f:FE}{g:FA}(h:GE X e f)(h2:GA X es g)(hs:starEach (e::es) X.env=(false,eval e X.env)::starEach es X.env):GA X (e::es) (dH f g):=
 GA.of (mF h h2 hs) λσ H A ρ S ws S' er so e Q hq=>by
  unfold dH at e;split at e
  ·rename_i w S1 h1;split at e
   ·rename_i ws2 S2 h2;cases e;refine#[A,ρ,S,w,S1,er,so,h1,λv H1 #[A1,z1,z2,z3]=>?_]
    refine#[A1,ρ,S1,ws2,_,er.mono z1,z2,h2,λvs H2 #[A2,y1,y2,y3]=>?_]
    exact hq _ _ #[A2,z1.trans y1,y2,.cons (z3.mono y1) y3]
   ·cases e
  ·cases e
noncomputable def vM (f:FA):FE:=λρ S=>match f ρ S with
 | some (ws,S1)=>p7 S1 ws
 | none=>td
noncomputable def vN (f:FA):FE:=λρ S=>match f ρ S with
 | some (ws,S1)=>kX S1 ws
 | none=>td
theorem vO {es:Hg HS}{k:Ho}{pos:JY}{f:FA}(h:GA X es f):GE X (.Tuple es k pos) (vM f):=
 GE.of (BS h) λσ H A ρ S w S' er so e Q hq=>by
  unfold vM at e;split at e
  ·rename_i ws S1 h1;obtain⟨hl,rfl,rfl⟩:=rm e;refine#[A,ρ,S,ws,_,er,so,h1,λvs H1 #[A1,z1,z2,z3]=>#[by rw[<- z3.length]; exact hl,λp hp=>?_]]
   exact hq _ _ (EndV.after z1 (.tup z2 z3 hp))
  ·cases e
theorem vP {es:Hg HS}{pos:JY}{f:FA}(h:GA X es f):GE X (.List es pos) (vN f):=
 GE.of (BU h) λσ H A ρ S w S' er so e Q hq=>by
  unfold vN at e;split at e
  ·rename_i ws S1 h1;obtain⟨hl,rfl,rfl⟩:=jy e;refine#[A,ρ,S,ws,_,er,so,h1,λvs H1 #[A1,z1,z2,z3]=>#[by rw[<- z3.length]; exact hl,λp hp=>?_]]
   exact hq _ _ (EndV.after z1 (.lst z2 z3 hp))
  ·cases e
noncomputable def jk (g:Hg W->aa->Hn (W×aa))(f:FA):FE:=λρ S=>match f ρ S with
 | some (ws,S1)=>g ws S1
 | none=>td
theorem LCall.callr {v:Hj}{g:Hg W->aa->Hn (W×aa)}(h:LCall X v g):CallR X v (λvs H Q=>∃A S ws w S',StoreOk X.w X.K A H S/\RelL X.K A H ws vs/\g ws S=gV (w,S')/\∀v H',EndV X.w X.K A H S' w v H'->Q v H'):=by
 intro pins s σ H vs us Q I rv ⟨A,S,ws,w,S',so,rl,e,hq⟩;exact bo (h pins s σ H A S ws vs us w S' I so rl rv e) λu' s' #[v',H',A',I',r',e1,o1,z1]=>#[v',H',I',r',hq v' H' #[A',e1,o1,z1]]
theorem lN {g:Hg W->aa->Hn (W×aa)}{f:FA}{σ:L2.St}{H:Hp}{A:Hg Ht}{ρ:Fm}{S:aa}{w:W}{S':aa}(er:EnvRel X.K A H ρ σ)(so:StoreOk X.w X.K A H S)(e:jk g f ρ S=gV (w,S'))(Q:VK)(hq:∀v H',EndV X.w X.K A H S' w v H'->Q v H') :
  tA X f σ H λvs H1=>∃A S ws w S',StoreOk X.w X.K A H1 S/\RelL X.K A H1 ws vs/\g ws S=gV (w,S')/\∀v H',EndV X.w X.K A H1 S' w v H'->Q v H':=by
 unfold jk at e;split at e
 ·rename_i ws S1 h1;exact#[A,ρ,S,ws,S1,er,so,h1,λvs H1 #[A1,z1,z2,z3]=>#[A1,S1,ws,w,S',z2,z3,e,λv H' q=>hq v H' (q.after z1)]]
 ·cases e
theorem rN {id:Jb}{x:HJ}{e:HS}{es:Hg HS}{p pos:JY}{f:FA}{g:Hg W->aa->Hn (W×aa)}(hc:LCall X (.builtin id) g)(hg:Gl X x)(hm:X.mg x=td)(hv:bootBuiltins x=gV (.builtin id))(ha:GA X (e::es) f)
  (hn:x≠"__name__") (hdb:(x==("__debug__" : HJ))=false) (hs:starEach (e::es) X.env=(false,eval e X.env)::starEach es X.env) (hpl:(backTo pos (starEach es X.env)).any (·.1)=false):GE X (.Call (.Name x p) (e::es) [] pos) (jk g f):=
 GE.of (oh hc.callr hg hm hv ha hn hdb hs hpl) λσ H A ρ S w S' er so e Q hq=>lN er so e Q hq
theorem rO {id:Jb}{x:HJ}{e:HS}{es:Hg HS}{p pos:JY}{f:FA}{g:Hg W->aa->Hn (W×aa)}(hc:LCall X (.type id) g)(hg:Gl X x)(hm:X.mg x=td)(hv:bootBuiltins x=gV (.type id))(ha:GA X (e::es) f)
  (hn:x≠"__name__") (hdb:(x==("__debug__" : HJ))=false) (hs:starEach (e::es) X.env=(false,eval e X.env)::starEach es X.env) (hpl:(backTo pos (starEach es X.env)).any (·.1)=false):GE X (.Call (.Name x p) (e::es) [] pos) (jk g f):=
 GE.of (sU hc.callr hg hm hv ha hn hdb hs hpl) λσ H A ρ S w S' er so e Q hq=>lN er so e Q hq
end
noncomputable def tyOk (T:Jb)(S:aa):W->HU
 | .str _=>T == "str"
 | .tup _=>T == "tuple"
 | .ref i=>(T == "list" && (gO S i).isSome)||(T == "dict" && (jt S i).isSome)
 | _=>false
noncomputable def Dk (T:Jb)(g:W->Hg W->aa->Hn (W×aa))(fo:FE)(f:FA):FE:=λρ S=>match fo ρ S with
 | some (x,S1)=>if tyOk T S1 x then match f ρ S1 with
  | some (ws,S2)=>g x ws S2
  | none=>td
  else td
 | none=>td
noncomputable def F8 (fa fb:FE):FE:=zo ju fa fb
noncomputable abbrev FO:=Fm->aa->Hn (Hn Hv×aa)
noncomputable def Cm:FO:=λ_ S=>gV (td,S)
noncomputable def rP (f:FE):FO:=λρ S=>match f ρ S with
 | some (.int i,S1)=>gV (gV i,S1)
 | _=>td
noncomputable def D5 (fa:FE)(fl fh:FO):FE:=λρ S=>match fa ρ S with
 | some (x,S1)=>match fl ρ S1 with
  | some (lo,S2)=>match fh ρ S2 with
   | some (hi,S3)=>jg x lo hi S3
   | none=>td
  | none=>td
 | none=>td
section
variable{X:Cx}
theorem LMeth.mtr {id:Jb}{g:W->Hg W->aa->Hn (W×aa)}(h:LMeth X id g):MtR X id (λa vs H Q=>∃A S x ws w S',StoreOk X.w X.K A H S/\Rel X.K A H x a/\RelL X.K A H ws vs/\g x ws S=gV (w,S')/\∀v H',EndV X.w X.K A H S' w v H'->Q v H'):=by
 intro pins s σ H a vs u us Q I ru rv ⟨A,S,x,ws,w,S',so,rx,rl,e,hq⟩;exact bo (h pins s σ H A S x a u ws vs us w S' I so rx ru rl rv e) λu' s' #[v',H',A',I',r',e1,o1,z1]=>#[v',H',I',r',hq v' H' #[A',e1,o1,z1]]
theorem Cn {pins:Hg (Ht×Jo)}{σ:L2.St}{s:Hm}{H:Hp}{a:Ht}{xs:Hg V}(I:Inv X pins σ H s)(h:SqT X.K H a xs):s.TypeIs (.ref a) "tuple"/\∃o,s.heap.get? a=gV o/\o.dict=td:=by
 rcases h with h|⟨o,its,n,hk,hc,hd,_⟩
 ·obtain⟨z,its,r,p⟩:=h.ok I.hok;exact#[p.typeIs,z.2]
 ·exact#[#[o,I.kIn a o hk,hc],o,I.kIn a o hk,hd]
theorem tyOk.is {pins:Hg (Ht×Jo)}{σ:L2.St}{s:Hm}{A:Hg Ht}{H:Hp}{S:aa}{T:Jb}{x:W}{a:V}{v:Hj}(I:Inv X pins σ H s)(so:StoreOk X.w X.K A H S)(r:Rel X.K A H x a)(rv:RelV a v)(h:tyOk T S x=true) :
  s.TypeIs v T/\∀b,v=.ref b->∃ob,s.heap.get? b=gV ob/\ob.dict=td:=by
 cases r with
 | str=>exact u5 I rv (show F1 X.K T (.str _) H from eq_of_beq h)
 | tup hq r1=>
  obtain⟨h1,h2⟩:=Cn I hq;have e:=eq_of_beq (show(T == "tuple")=true from h)
  subst e;obtain rfl:v=IB _:=rv;exact#[h1,λb e=>by cases e; exact h2]
 | ref ea=>
  simp only[tyOk,JO,Hs]at h;rcases h with⟨h1,h2⟩|⟨h1,h2⟩
  ·obtain⟨xs,hx⟩:=IP.mp h2;obtain⟨vs,h3,_⟩:=cH so hx ea;exact u5 I rv (show F1 X.K T (.ref _) H from .inl #[eq_of_beq h1,vs,h3])
  ·obtain⟨kvs,hx⟩:=IP.mp h2;obtain⟨xs,rd,_⟩:=fN so hx ea;obtain⟨_,_,_,o,es,ep,q1,q2,q3,q4⟩:=cC I rd;have e:=eq_of_beq h1;subst e;obtain rfl:v=IB _:=rv;exact#[#[o,q1,q2.1],λb e=>by cases e; exact#[o,q1,q2.2.1]]
 | _=>cases h
theorem lO {o e:HS}{es:Hg HS}{name:HJ}{apos cpos:JY}{T id:Jb}{g:W->Hg W->aa->Hn (W×aa)}{fo:FE}{f:FA}(pa:PlainAttrs T)(slot:Slot T name id)(hty:typeOf (.builtin id)=pure (.type "method_descriptor"))(hm:LMeth X id g)
  (ho:GE X o fo) (ha:GA X (e::es) f) (hbase:attributeBase o name X.env (eval o X.env)=eval o X.env)
  (hfew:((backTo cpos (starEach (e::es) X.env)).all (λx=>!x.1)&&(backToKw cpos (keywordEach [] X.env)).all (λx=>x.1.isSome)
   && decide ((e::es).length+([]:Hg Ou).length+(if ([]:Hg Ou).isEmpty then 0 else 1) < 30))=true)
  (hline:(apos.endLine==cpos.line)=true) (hs:starEach (e::es) X.env=(false,eval e X.env)::starEach es X.env) (hplain:(backTo cpos (starEach es X.env)).any (·.1)=false) :
  GE X (.Call (.Attribute o name apos) (e::es) [] cpos) (Dk T g fo f):=by
 intro pins s σ H Q I ⟨A,ρ,S,w,S',er,so,e,hq⟩;unfold Dk at e;split at e
 ·rename_i x S1 h1;split at e
  ·rename_i ht;split at e
   ·rename_i ws S2 h2;refine wpAny_Call_method_late hbase hfew hline rfl (bo (ho pins s σ H (EndV X.w X.K A H S1 x) I #[A,ρ,S,_,_,er,so,h1,λ_ _ z=>z]) λv s1 #[a,H1,I1,r1,A1,e1,o1,z1]=>?_)
    obtain⟨t1,t2⟩:=tyOk.is I1 o1 z1 r1 ht;refine#[T,id,pa,slot,hty,t1,t2,?_];have hA:=ha cpos pins s1 σ H1 (B8 X A1 H1 S2 ws) I1 #[A1,ρ,S1,ws,S2,er.mono e1,o1,h2,λ_ _ z=>z]
    rw[hs]at hA ⊢;refine Calls.callWith_builtin (by show(false||(backTo cpos (starEach es X.env)).any (·.1))=false; rw[hplain] <;> rfl) (Calls.evalArgs_plain ?_)
    refine bo hA λus s2 #[vs,H2,I2,r2,A2,e2,o2,z2]=>?_
    refine bo (hm pins s2 σ H2 A2 S2 x a v ws vs us w S' I2 o2 (z1.mono e2) r1 z2 r2 e) λu' s' #[v',H',A',I',r',e3,o3,z3]=>?_
    exact#[v',H',I',r',hq v' H' #[A',(e1.trans e2).trans e3,o3,z3]]
   ·cases e
  ·cases e
 ·cases e
theorem LIx.ixr {g:W->W->aa->Hn (W×aa)}(h:LIx X g):IxR X (λa b H Q=>∃A S x y w S',StoreOk X.w X.K A H S/\Rel X.K A H x a/\Rel X.K A H y b/\g x y S=gV (w,S')/\∀v H',EndV X.w X.K A H S' w v H'->Q v H'):=by
 intro value slice pins s σ H a b u v Q I ru rv ⟨A,S,x,y,w,S',so,rx,ry,e,hq⟩ hs;exact bo (h value slice pins s σ H A S x y a b u v w S' I so rx ru ry rv e hs) λu' s' #[v',H',A',I',r',e1,o1,z1]=>#[v',H',I',r',hq v' H' #[A',e1,o1,z1]]
theorem D6 {a b:HS}{pos:JY}{fa fb:FE}(hu:X.A.units+10 < cLine)(ha:GE X a fa)(hb:GE X b fb)(hs:mI b):GE X (.Subscript a b pos) (F8 fa fb):=
 GE.of (DT (F6 hu).ixr ha hb hs) λσ H A ρ S w S' er so e Q hq=>by
  obtain⟨x,S1,y,S2,h1,h2,h3⟩:=Fi e;exact fO er so h1 h2 λa b H2 A2 e2 o2 r1 r2=>#[A2,S2,x,y,w,S',o2,r1,r2,h3,λv H' z=>hq v H' (z.after e2)]
noncomputable def tO (X:Cx)(f:FO):TO:=λσ H Q=>∃A ρ S k S',EnvRel X.K A H ρ σ/\StoreOk X.w X.K A H S/\f ρ S=gV (k,S')/\∀H' A',Ext X.K A H A' H'->StoreOk X.w X.K A' H' S'->Q k H'
noncomputable abbrev GO (X:Cx)(e:Hn HS)(f:FO):Prop:=PO X e (tO X f)
theorem zx:GO X td Cm:=λpins s σ H Q I #[A,ρ,S,k,S',er,so,e,hq]=>by
 cases e;exact yH pins s σ H Q I (hq H A .refl so)
theorem zy {e:HS}{f:FE}(h:GE X e f):GO X (gV e) (rP f):=λpins s σ H Q I #[A,ρ,S,k,S',er,so,e,hq]=>by
 unfold rP at e;split at e
 ·rename_i i S1 h1;cases e;refine yI h pins s σ H Q I #[A,ρ,S,_,_,er,so,h1,λv H1 #[A1,z1,z2,z3]=>?_]
  cases z3;exact#[i,rfl,hq H1 A1 z1 z2]
 ·cases e
theorem LSl.slr {g:W->Hn Hv->Hn Hv->aa->Hn (W×aa)}(h:LSl X g):DS X (λa lo hi H Q=>∃A S x w S',StoreOk X.w X.K A H S/\Rel X.K A H x a/\g x lo hi S=gV (w,S')/\∀v H',EndV X.w X.K A H S' w v H'->Q v H'):=by
 intro pins s σ H a v vl vu lo hi sl Q I rv hs pl pu ⟨A,S,x,w,S',so,rx,e,hq⟩;obtain⟨T,id,h1,h2,h3⟩:=h pins s σ H A S x a v vl vu lo hi sl w S' I so rx rv hs pl pu e;exact#[T,id,h1,h2,bo h3 λu' s' #[v',H',A',I',r',e1,o1,z1]=>#[v',H',I',r',hq v' H' #[A',e1,o1,z1]]]
theorem D7 {a:HS}{lo hi:Hn HS}{p2 pos:JY}{fa:FE}{fl fh:FO}(ha:GE X a fa)(hl:GO X lo fl)(hh:GO X hi fh):GE X (.Subscript a (.Slice lo hi td p2) pos) (D5 fa fl fh):=
 GE.of (uZ G2.slr ha hl hh) λσ H A ρ S w S' er so e Q hq=>by
  unfold D5 at e;split at e
  ·rename_i x S1 h1;split at e
   ·rename_i l S2 h2;split at e
    ·rename_i h S3 h3;refine#[A,ρ,S,x,S1,er,so,h1,λv H1 #[A1,z1,z2,z3]=>?_]
     refine#[A1,ρ,S1,l,S2,er.mono z1,z2,h2,λH2 A2 y1 y2=>?_]
     refine#[A2,ρ,S2,h,S3,er.mono (z1.trans y1),y2,h3,λH3 A3 x1 x2=>?_]
     exact#[A3,S3,x,w,S',x2,(z3.mono y1).mono x1,e,λv H' q=>hq v H' (q.after ((z1.trans y1).trans x1))]
    ·cases e
   ·cases e
  ·cases e
noncomputable abbrev FF:=Hg W->aa->Hn (W×aa)
noncomputable def vQ (wd:Ix)(K:HA)(n:Ho)(g:FF):Sp:=λvs H Q _=>∃A S ws w S',StoreOk wd K A H S/\RelL K A H ws vs/\ws.length=n/\g ws S=gV (w,S')/\∀v H',EndV wd K A H S' w v H'->Q v H'
noncomputable def oQ (n:Ho)(g:FF)(f:FA):FE:=λρ S=>match f ρ S with
 | some (ws,S1)=>if ws.length=n then g ws S1 else td
 | none=>td
theorem oR {n:Ho}{g:FF}{f:FA}{σ:L2.St}{H:Hp}{A:Hg Ht}{ρ:Fm}{S:aa}{w:W}{S':aa}{E:XK}(er:EnvRel X.K A H ρ σ)(so:StoreOk X.w X.K A H S)(e:oQ n g f ρ S=gV (w,S'))(Q:VK)(hq:∀v H',EndV X.w X.K A H S' w v H'->Q v H') :
  uV (vQ X.w X.K n g) [] E (tA X f) σ H Q:=by
 unfold oQ at e;split at e
 ·rename_i ws S1 h1;split at e
  ·rename_i hl;refine#[A,ρ,S,ws,S1,er,so,h1,λvs H1 #[A1,z1,z2,z3]=>?_]
   show vQ X.w X.K n g (vs++[]) H1 Q E;rw[Jl];exact#[A1,S1,ws,w,S',z2,z3,hl,e,λv H' q=>hq v H' (q.after z1)]
  ·cases e
 ·cases e
theorem Co {k n:Ho}{fa:Ht}{fd:J0}{ps:Hg HJ}{g:FF}{x:HJ}{e:HS}{es:Hg HS}{p pos:JY}{f:FA}(F:FnOk X.prog X.w X.K X.mg X.base uE k fa fd ps (vQ X.w X.K n g))(hr:Room k X.A)(hg:Gl X x)(hm:X.mg x=gV (.ref fa))(hk:Jd X.K (.ref fa)=true)
  (hb:Binds X.K fd ps []) (ha:GA X (e::es) f) (hdb:(x==("__debug__" : HJ))=false) (he:starEach (e::es) X.env=(false,eval e X.env)::starEach es X.env) (hpl:(backTo pos (starEach es X.env)).any (·.1)=false) :
  GE X (.Call (.Name x p) (e::es) [] pos) (oQ n g f):=
 GE.of (yE F hr hg hm hk hb .nil AJ ha hdb he hpl) λσ H A ρ S w S' er so e Q hq=>oR er so e Q hq
theorem zz {k n:Ho}{fa:Ht}{fd:J0}{ps:Hg HJ}{g:FF}{x:HJ}{p pos:JY}(F:FnOk X.prog X.w X.K X.mg X.base uE k fa fd ps (vQ X.w X.K n g))(hr:Room k X.A)(hg:Gl X x)(hm:X.mg x=gV (.ref fa))(hk:Jd X.K (.ref fa)=true)
  (hb:Binds X.K fd ps []) (hdb:(x==("__debug__" : HJ))=false):GE X (.Call (.Name x p) [] [] pos) (oQ n g ik):=
 GE.of (uX F hr hg hm hk hb .nil AJ hdb) λσ H A ρ S w S' er so e Q hq=>by
  obtain⟨A1,S1,ws,w1,S1',a1,a2,a3,a4,a5⟩:=oR (f:=ik) (E:=E0) er so e Q hq |> λ#[A,ρ,S,ws,S',b1,b2,b3,b4]=>b4 [] H (by cases b3; exact#[A,.refl,b2,.nil])
  exact#[A1,S1,ws,w1,S1',a1,a2,a3,a4,a5]
theorem zA:GSs X [] (λρ S=>gV (.nx ρ,S)):=GSs.of yt λσ H A ρ S o S' er so e D hd=>by cases e; exact hd.nx _ _ #[ρ,A,rfl,.refl,so,er]
noncomputable def zB (f g:FS):FS:=λρ S=>match f ρ S with
 | some (.nx ρ',S1)=>g ρ' S1
 | some (.rt w,S1)=>gV (.rt w,S1)
 | some (.bk ρ',S1)=>gV (.bk ρ',S1)
 | some (.ct ρ',S1)=>gV (.ct ρ',S1)
 | none=>td
theorem vR {st:Kk}{sts:Hg Kk}{f g:FS}(h:GS X st f)(h2:GSs X sts g):GSs X (st::sts) (zB f g):=GSs.of (uM h h2) λσ H A ρ S o S' er so e D hd=>by
 unfold zB at e;split at e
 ·rename_i ρ1 S1 h1;refine#[A,ρ,S,_,_,er,so,h1,#[λσ' H' #[ρ',A',e1,e2,e3,e4]=>?_,λv H' #[w,A',e1,_]=>(by cases e1),λv H' #[w,A',e1,_]=>(by cases e1),λv H' #[w,A',e1,_]=>(by cases e1)]]
  cases e1;exact#[A',_,S1,o,S',e4,e3,e,(EndS.after e2).trans hd]
 ·rename_i w S1 h1;cases e;exact#[A,ρ,S,_,_,er,so,h1,#[λσ' H' #[w,A',e1,_]=>(by cases e1),hd.rt,hd.bk,hd.ct]]
 ·rename_i w S1 h1;cases e;exact#[A,ρ,S,_,_,er,so,h1,#[λσ' H' #[w,A',e1,_]=>(by cases e1),hd.rt,hd.bk,hd.ct]]
 ·rename_i w S1 h1;cases e;exact#[A,ρ,S,_,_,er,so,h1,#[λσ' H' #[w,A',e1,_]=>(by cases e1),hd.rt,hd.bk,hd.ct]]
 ·cases e
noncomputable def zC (f:FE):FS:=λρ S=>match f ρ S with
 | some (_,S1)=>gV (.nx ρ,S1)
 | none=>td
theorem D8 {e:HS}{pos:JY}{f:FE}(h:GE X e f)(hs:swapsWith e td pos.line X.env=pure false):GS X (.Expr e pos) (zC f):=GS.of (yv h hs) λσ H A ρ S o S' er so e D hd=>by
 unfold zC at e;split at e
 ·rename_i w S1 h1;cases e;exact#[A,ρ,S,w,_,er,so,h1,λv H1 #[A1,z1,z2,z3]=>hd.nx _ _ #[ρ,A1,rfl,z1,z2,er.mono z1]]
 ·cases e
noncomputable def vS:FS:=λρ S=>gV (.nx ρ,S)
theorem Cp {x:HJ}{j:Ho}{pos pos':JY}:GS X (.Expr (.Constant (.str x) j pos) pos') vS:=GS.of Bx λσ H A ρ S o S' er so e D hd=>by cases e; exact hd.nx _ _ #[ρ,A,rfl,.refl,so,er]
theorem zD {pos:JY}:GS X (.Pass pos) vS:=GS.of yu λσ H A ρ S o S' er so e D hd=>by cases e; exact hd.nx _ _ #[ρ,A,rfl,.refl,so,er]
theorem vT {pos:JY}:GS X (.Break pos) (λρ S=>gV (.bk ρ,S)):=GS.of uN λσ H A ρ S o S' er so e D hd=>by cases e; exact hd.bk _ _ #[ρ,A,rfl,.refl,so,er]
theorem zE {pos:JY}:GS X (.Continue pos) (λρ S=>gV (.ct ρ,S)):=GS.of n6 λσ H A ρ S o S' er so e D hd=>by cases e; exact hd.ct _ _ #[ρ,A,rfl,.refl,so,er]
noncomputable def zF (f:FE):FS:=λρ S=>match f ρ S with
 | some (w,S1)=>gV (.rt w,S1)
 | none=>td
theorem Cq {e:HS}{pos:JY}{f:FE}(h:GE X e f):GS X (.Return (gV e) pos) (zF f):=GS.of (By h) λσ H A ρ S o S' er so e D hd=>by
 unfold zF at e;split at e
 ·rename_i w S1 h1;cases e;exact#[A,ρ,S,w,_,er,so,h1,λv H1 #[A1,z1,z2,z3]=>hd.rt _ _ #[w,A1,rfl,z1,z2,z3]]
 ·cases e
theorem zG {pos:JY}:GS X (.Return td pos) (λρ S=>gV (.rt .non,S)):=GS.of yw λσ H A ρ S o S' er so e D hd=>by cases e; exact hd.rt _ _ #[_,A,rfl,.refl,so,.non]
noncomputable def zH (c:FT)(f g:FS):FS:=λρ S=>match c ρ S with
 | some (true,S1)=>f ρ S1
 | some (false,S1)=>g ρ S1
 | none=>td
theorem D9 {c:HS}{a b:Hg Kk}{pos:JY}{fc:FT}{f g:FS}(hc:GT X c fc)(ha:GSs X a f)(hb:GSs X b g):GS X (.If c a b pos) (zH fc f g):=GS.of (DA hc ha hb) λσ H A ρ S o S' er so e D hd=>by
 unfold zH at e;split at e
 ·rename_i S1 h1;refine#[A,ρ,S,_,S1,er,so,h1,λb H1 #[z0,A1,z1,z2]=>?_]
  subst z0;rw[HV rfl];exact#[A1,ρ,S1,o,S',er.mono z1,z2,e,(EndS.after z1).trans hd]
 ·rename_i S1 h1;refine#[A,ρ,S,_,S1,er,so,h1,λb H1 #[z0,A1,z1,z2]=>?_]
  subst z0;rw[Iv HK];exact#[A1,ρ,S1,o,S',er.mono z1,z2,e,(EndS.after z1).trans hd]
 ·cases e
noncomputable abbrev FG:=W->Fm->aa->Hn (Fm×aa)
noncomputable def tG (X:Cx)(f:FG):TG:=λv σ H Q=>∃A ρ S w ρ' S',EnvRel X.K A H ρ σ/\StoreOk X.w X.K A H S/\Rel X.K A H w v/\f w ρ S=gV (ρ',S')/\∀σ' H' A',Ext X.K A H A' H'->StoreOk X.w X.K A' H' S'->EnvRel X.K A' H' ρ' σ'->Q σ' H'
noncomputable abbrev GG (X:Cx)(tg:HS)(f:FG):Prop:=PG X tg (tG X f)
noncomputable def zI (i:Ho):FG:=λw ρ S=>gV (ρ.set i (gV w),S)
theorem rQ {i:Ho}{x:HJ}{pos:JY}(hN:X.N.Nodup)(hi:X.N[i]?=gV x)(hx:yp X.env.scope x)(hf:X.fn x=true\/X.env.scope.names.lookup x=gV .local):GG X (.Name x pos) (zI i):=by
 intro pins s σ H v u Q I r ⟨A,ρ,S,w,ρ',S',er,so,rw',e,hq⟩;cases e;exact q8 hN hi hx hf pins s σ H v u Q I r (hq _ _ A .refl so (er.set rw' i))
noncomputable def cK:Hg Ho->Hg W->Fm->Hn Fm
 | [],[],ρ=>gV ρ
 | i::is,w::ws,ρ=>cK is ws (ρ.set i (gV w))
 | _,_,_=>td
noncomputable def Dl (is:Hg Ho):FG:=λw ρ S=>match w with
 | .tup ws=>(cK is ws ρ).map λρ'=>(ρ',S)
 | _=>td
theorem tP:∀ {ts:Hg HS} {is:Hg Ho},(∀x∈ts,∃y p,x=.Name y p)->Mg (λ(t:HS) (i:Ho)=>∃x p,t=M0 x p/\X.N[i]?=gV x/\yp X.env.scope x/\(X.fn x=true\/X.env.scope.names.lookup x=gV .local)) ts is->X.N.Nodup->
  DB X ts (λvs σ H Q=>∃A ρ ws ρ' S,EnvRel X.K A H ρ σ/\StoreOk X.w X.K A H S/\RelL X.K A H ws vs/\cK is ws ρ=gV ρ'/\∀σ',EnvRel X.K A H ρ' σ'->Q σ' H):=by
 intro ts
 induction ts with
 | nil=>
  intro is _ h hN;cases h;intro pins s σ H vs us Q I r ⟨A,ρ,ws,ρ',S,er,so,rl,e,hq⟩;cases rl with
  | nil=>cases e; exact yy pins s σ H [] us Q I r #[rfl,hq _ er]
  | cons _ _=>cases e
 | cons t ts ih=>
  intro is hs h hN;cases h with
  | cons h1 h2=>
   obtain⟨x,p,rfl,hi,hl,hf⟩:=h1;have:=ih (λy hy=>hs y (II _ hy)) h2 hN
   intro pins s σ H vs us Q I r ⟨A,ρ,ws,ρ',S,er,so,rl,e,hq⟩;cases rl with
   | nil=>cases e
   | cons r1 r2=>
    refine uO (q8 hN hi hl hf) this rfl pins s σ H _ us Q I r #[_,_,rfl,?_];exact#[A,_,_,ρ',S,er.set r1 _,so,r2,e,hq]
theorem Cr {ts:Hg HS}{is:Hg Ho}{k:Ho}{pos:JY}(hc:X.calm=true)(hs:∀x∈ts,∃y p,x=.Name y p)(h:Mg (λ(t:HS) (i:Ho)=>∃x p,t=M0 x p/\X.N[i]?=gV x/\yp X.env.scope x/\(X.fn x=true\/X.env.scope.names.lookup x=gV .local)) ts is)(hN:X.N.Nodup)
  (hn:(assignEach ts X.env).length=ts.length) (hst:(assignEach ts X.env).findIdx? (·.1)=td):GG X (.Tuple ts k pos) (Dl is):=by
 intro pins s σ H v u Q I r ⟨A,ρ,S,w,ρ',S',er,so,rw',e,hq⟩;unfold Dl at e;split at e
 ·rw[Hl]at e;obtain⟨ρ1,e1,e2⟩:=e;cases e2;cases rw' with
  | tup h1 r1=>
   have hl:∀(is:Hg Ho) (ws:Hg W) (ρ ρ':Fm),cK is ws ρ=gV ρ'->is.length=ws.length:=by
    intro is
    induction is with
    | nil=>intro ws ρ ρ' e; cases ws <;> first|rfl|cases e
    | cons i is ih=>intro ws ρ ρ' e; cases ws <;> first|cases e|(simp; exact ih _ _ _ e)
   exact BC hc (tP hs h hN) hn hst pins s σ H _ u Q I r #[_,_,rfl,h1,by rw[<- r1.length,<- hl _ _ _ _ e1,<- L1 h],A,ρ,_,_,_,er,so,r1,e1,λσ' z=>hq _ _ A .refl so z]
 ·cases e
noncomputable def zJ (fo fi:FE):FG:=λw ρ S=>match fo ρ S with
 | some (o,S1)=>match fi ρ S1 with
  | some (i,S2)=>match ig o i w S2 with
   | some S3=>gV (ρ,S3)
   | none=>td
  | none=>td
 | none=>td
theorem LSet.pset {g:W->W->W->aa->Hn aa}(h:LSet X g):BB X (λao ai av H Q=>∃A S o i w S',StoreOk X.w X.K A H S/\Rel X.K A H o ao/\Rel X.K A H i ai/\Rel X.K A H w av/\g o i w S=gV S'/\∀H' A',Ext X.K A H A' H'->StoreOk X.w X.K A' H' S'->Q H'):=by
 intro pins s σ H ao ai av uo ui uv Q I ro ri rv ⟨A,S,o,i,w,S',so,r1,r2,r3,e,hq⟩;exact bo (h pins s σ H A S o i w ao ai av uo ui uv S' I so r1 ro r2 ri r3 rv e) λ_ s' #[H',A',I',e1,o1]=>#[H',I',hq H' A' e1 o1]
theorem Cs {o i:HS}{pos:JY}{fo fi:FE}(hu:X.A.units+10 < cLine)(ho:GE X o fo)(hi:GE X i fi)(ha:∀v,assign (.Subscript o i pos) X.env v=(do
   let ov <- holding [v] (eval o X.env)
   let iv <- holding [v,ov] (eval i X.env)
   standAt pos
   holding [v,ov,iv] (setItem ov iv v)
   release [v,ov,iv] [])):GG X (.Subscript o i pos) (zJ fo fi):=by
 intro pins s σ H v u Q I r ⟨A,ρ,S,w,ρ',S',er,so,rw',e,hq⟩;unfold zJ at e;split at e
 ·rename_i o' S1 h1;split at e
  ·rename_i i' S2 h2;split at e
   ·rename_i S3 h3;cases e;refine BE ho hi (DZ hu).pset ha pins s σ H v u Q I r ?_;refine#[A,ρ,S,o',S1,er,so,h1,λa H1 #[A1,e1,o1,r1]=>?_]
    refine#[A1,ρ,S1,i',S2,er.mono e1,o1,h2,λb H2 #[A2,e2,o2,r2]=>?_]
    exact#[A2,S2,o',i',w,_,o2,r1.mono e2,r2,rw'.mono (e1.trans e2),h3,λH' A' z1 z2=>hq σ H' A' ((e1.trans e2).trans z1) z2 (er.mono ((e1.trans e2).trans z1))]
   ·cases e
  ·cases e
 ·cases e
noncomputable def jX (f:FE)(g:FG):FS:=λρ S=>match f ρ S with
 | some (w,S1)=>match g w ρ S1 with
  | some (ρ',S2)=>gV (.nx ρ',S2)
  | none=>td
 | none=>td
theorem qh {tg e:HS}{pos:JY}{f:FE}{g:FG}(h:GE X e f)(hg:GG X tg g)(hs:swapsWithSole [tg] e pos.line X.env=pure false)(hw:swappedStores [tg] e X.env=pure td)(h1:(assignEach [tg] X.env).map (·.2)=[assign tg X.env]) :
  GS X (.Assign [tg] e pos) (jX f g):=GS.of (BF h hg hs hw h1) λσ H A ρ S o S' er so e D hd=>by
 unfold jX at e;split at e
 ·rename_i w S1 h1;split at e
  ·rename_i ρ1 S2 h2;cases e;refine#[A,ρ,S,w,S1,er,so,h1,λv H1 #[A1,z1,z2,z3]=>?_]
   exact#[A1,ρ,S1,w,ρ1,_,er.mono z1,z2,z3,h2,λσ' H' A' y1 y2 y3=>hd.nx _ _ #[ρ1,A',rfl,z1.trans y1,y2,y3]]
  ·cases e
 ·cases e
noncomputable def zK (i j:Ho)(f:FA):FS:=λρ S=>match f ρ S with
 | some ([x,y],S1)=>gV (.nx ((ρ.set i (gV x)).set j (gV y)),S1)
 | _=>td
theorem Ct {i j:Ho}{x y:HJ}{a b:HS}{f:FA}{px py pt pos:JY}{kt k2:Ho}{pt2:JY}(hc:X.calm=true)(hN:X.N.Nodup)(hi:X.N[i]?=gV x)(hj:X.N[j]?=gV y)(hij:i≠j)
  (hx:X.env.scope.names.lookup x=gV .local) (hy:X.env.scope.names.lookup y=gV .local) (ha:GA X [a,b] f)
  (hw:swappedStores [.Tuple [.Name x px,.Name y py] kt pt] (.Tuple [a,b] k2 pt2) X.env=pure (gV [x,y]))
  (hs:swapsWithSole [.Tuple [.Name x px,.Name y py] kt pt] (.Tuple [a,b] k2 pt2) pos.line X.env=pure false) :
  GS X (.Assign [.Tuple [.Name x px,.Name y py] kt pt] (.Tuple [a,b] k2 pt2) pos) (zK i j f):=GS.of (BG hc hN hi hj hij hx hy ha hw hs) λσ H A ρ S o S' er so e D hd=>by
 unfold zK at e;split at e
 ·rename_i x y S1 h1;cases e;refine#[A,ρ,S,_,_,er,so,h1,λvs H1 #[A1,z1,z2,z3]=>?_]
  cases z3 with
  | cons r1 t=>
   cases t with
   | cons r2 t=>
    cases t;exact#[_,_,rfl,hd.nx _ _ #[_,A1,rfl,z1,z2,((er.mono z1).set r1 i).set r2 j]]
 ·cases e
noncomputable def nw (c:FT)(b:FS):Ho->FS
 | 0,_,_=>td
 | n+1,ρ,S=>match c ρ S with
  | some (true,S1)=>match b ρ S1 with
   | some (.nx ρ',S2)=>nw c b n ρ' S2
   | some (.ct ρ',S2)=>nw c b n ρ' S2
   | some (.bk ρ',S2)=>gV (.nx ρ',S2)
   | some (.rt w,S2)=>gV (.rt w,S2)
   | none=>td
  | some (false,S1)=>gV (.nx ρ,S1)
  | none=>td
theorem vU {c:HS}{body:Hg Kk}{pos:JY}{fc:FT}{fb:FS}(n:Ho)(hp:MZ (model X.prog X.w) X.A X.env X.xe)(hc:GT X c fc)(hb:GSs X body fb):GS X (.While c body [] pos) (nw fc fb n):=GS.of (uP hp hc hb) λσ H A ρ S o S' er so e D hd=>by
 refine#[λm σ1 H1=>∃A1 ρ1 S1,Ext X.K A H A1 H1/\EnvRel X.K A1 H1 ρ1 σ1/\StoreOk X.w X.K A1 H1 S1/\nw fc fb m ρ1 S1=gV (o,S'),#[n,A,ρ,S,.refl,er,so,e],?_]
 rintro m σ1 H1 ⟨A1,ρ1,S1,e1,er1,so1,w1⟩;cases m with
 | zero=>cases w1
 | succ m=>
  simp only[nw]at w1;split at w1
  ·rename_i S2 h1;refine#[A1,ρ1,S1,_,S2,er1,so1,h1,λb H2 #[z0,A2,z1,z2]=>?_]
   subst z0;rw[HV rfl];refine#[λσ3 H3=>∃A3 ρ3 S3,Ext X.K A H A3 H3/\EnvRel X.K A3 H3 ρ3 σ3/\StoreOk X.w X.K A3 H3 S3/\nw fc fb m ρ3 S3=gV (o,S'),λσ' H' h=>#[m,JE _,h],?_]
   split at w1
   ·rename_i ρ3 S3 h3;refine#[A2,ρ1,S2,_,S3,er1.mono z1,z2,h3,#[λσ' H' #[ρ',A',y0,y1,y2,y3]=>?_,λv H' #[w,A',y0,_]=>(by cases y0),λv H' #[w,A',y0,_]=>(by cases y0),λv H' #[w,A',y0,_]=>(by cases y0)]]
    cases y0;exact#[A',_,S3,(e1.trans z1).trans y1,y3,y2,w1]
   ·rename_i ρ3 S3 h3;refine#[A2,ρ1,S2,_,S3,er1.mono z1,z2,h3,#[λv H' #[w,A',y0,_]=>(by cases y0),λv H' #[w,A',y0,_]=>(by cases y0),λv H' #[w,A',y0,_]=>(by cases y0),λσ' H' #[ρ',A',y0,y1,y2,y3]=>?_]]
    cases y0;exact#[A',_,S3,(e1.trans z1).trans y1,y3,y2,w1]
   ·rename_i ρ3 S3 h3;cases w1;refine#[A2,ρ1,S2,_,_,er1.mono z1,z2,h3,#[λv H' #[w,A',y0,_]=>(by cases y0),λv H' #[w,A',y0,_]=>(by cases y0),λσ' H' #[ρ',A',y0,y1,y2,y3]=>?_,λv H' #[w,A',y0,_]=>(by cases y0)]]
    cases y0;exact hd.nx _ _ #[_,A',rfl,(e1.trans z1).trans y1,y2,y3]
   ·rename_i w3 S3 h3;cases w1;refine#[A2,ρ1,S2,_,_,er1.mono z1,z2,h3,#[λv H' #[w,A',y0,_]=>(by cases y0),λv H' #[w,A',y0,y1,y2,y3]=>?_,λv H' #[w,A',y0,_]=>(by cases y0),λv H' #[w,A',y0,_]=>(by cases y0)]]
    cases y0;exact hd.rt _ _ #[_,A',rfl,(e1.trans z1).trans y1,y2,y3]
   ·cases w1
  ·rename_i S2 h1;cases w1;refine#[A1,ρ1,S1,_,_,er1,so1,h1,λb H2 #[z0,A2,z1,z2]=>?_]
   subst z0;rw[Iv HK];exact hd.nx _ _ #[_,A2,rfl,e1.trans z1,z2,er1.mono z1]
  ·cases w1
end
inductive MI where
 | its (ws:Hg W)
 | live (r:Ho)
 | zl (r q:Ho)
noncomputable def Ea (xs ys:Hg W):Hg W:=Hy (λx y=>.tup [x,y]) xs ys
noncomputable def MI.at (S:aa)(i:Ho):MI->Hn (Hn W)
 | .its ws=>gV ws[i]?
 | .live r=>match gO S r with
  | some xs=>gV xs[i]?
  | none=>td
 | .zl r q=>match gO S r,gO S q with
  | some xs,gV ys=>gV (Ea xs ys)[i]?
  | _,_=>td
noncomputable def MI.len (S:aa):MI->Hn Ho
 | .its ws=>gV ws.length
 | .live r=>(gO S r).map (·.length)
 | .zl r q=>match gO S r,gO S q with
  | some xs,gV ys=>gV (Ea xs ys).length
  | _,_=>td
noncomputable abbrev FI:=Fm->aa->Hn (MI×aa)
structure MIt (wd:Ix)(K:HA)(mi:MI)(J:It)(A0:Hg Ht)(H0:Hp):Prop where
 go:∀A H S i w,Ext K A0 H0 A H->StoreOk wd K A H S->mi.at S i=gV (gV w)->J.go i H/\∀x H',J.yld i H x H'->Ext K A H A H'/\StoreOk wd K A H' S/\Rel K A H' w x
 stop:∀A H S i,Ext K A0 H0 A H->StoreOk wd K A H S->mi.at S i=gV td->J.stop i H
noncomputable def tI (X:Cx)(f:FI):TI:=λσ H R=>∃A ρ S mi S',EnvRel X.K A H ρ σ/\StoreOk X.w X.K A H S/\f ρ S=gV (mi,S')/\∀J H' A',Ext X.K A H A' H'->StoreOk X.w X.K A' H' S'->MIt X.w X.K mi J A' H'->R J H'
noncomputable abbrev GI (X:Cx)(tg iter:HS)(f:FI):Prop:=PI X tg iter (tI X f)
noncomputable def zL (f:FE):FI:=λρ S=>match f ρ S with
 | some (.tup ws,S1)=>gV (.its ws,S1)
 | some (.ref r,S1)=>match gO S1 r with
  | some _=>gV (.live r,S1)
  | none=>td
 | _=>td
noncomputable def da (lo:Hv)(n:Ho):Hg W:=(HG n).map λ(k:Ho)=>.int (lo+(k:Hv))
noncomputable def qi (f:FA):FI:=λρ S=>match f ρ S with
 | some ([.int j],S1)=>if -(2 ^ 62)<=j/\j < 2 ^ 62 then gV (.its (da 0 j.toNat),S1)else td
 | _=>td
noncomputable def iRng2 (f:FA):FI:=λρ S=>match f ρ S with
 | some ([.int i,.int j],S1)=>if -(2 ^ 62)<=i/\i < 2 ^ 62/\-(2 ^ 62)<=j/\j < 2 ^ 62 then gV (.its (da i (j - i).toNat),S1)else td
 | _=>td
noncomputable def fQ (mi:MI)(g:FG)(b:FS):Ho->Ho->FS
 | 0,i,ρ,S=>match mi.at S i with
  | some td=>gV (.nx ρ,S)
  | _=>td
 | n+1,i,ρ,S=>match mi.at S i with
  | some (gV w)=>match g w ρ S with
   | some (ρ1,S1)=>match b ρ1 S1 with
    | some (.nx ρ2,S2)=>fQ mi g b n (i+1) ρ2 S2
    | some (.ct ρ2,S2)=>fQ mi g b n (i+1) ρ2 S2
    | some (.bk ρ2,S2)=>gV (.nx ρ2,S2)
    | some (.rt w,S2)=>gV (.rt w,S2)
    | none=>td
   | none=>td
  | _=>td
noncomputable def vV (fi:FI)(g:FG)(b:FS):FS:=λρ S=>match fi ρ S with
 | some (mi,S1)=>match mi.len S1 with
  | some n=>fQ mi g b n 0 ρ S1
  | none=>td
 | none=>td
section
variable{X:Cx}
theorem zM {A:Hg Ht}{H:Hp}{ws:Hg W}{a:Ht}{vs:Hg V}(h:SqT X.K H a vs)(r:RelL X.K A H ws vs):MIt X.w X.K (.its ws) (Di X.K a) A H:=by
 refine#[λA' H' S i w e so hi=>?_,λA' H' S i e so hi=>?_]
 ·simp only[MI.at,ID]at hi;obtain⟨v,h1,h2⟩:=(r.mono e).get hi;refine#[#[vs,v,e.tp _ _ h,h1],λx H2 #[z1,z2]=>?_]
  subst z1;have:=z2 vs (e.tp _ _ h);rw[h1]at this; cases this
  exact#[.refl,so,h2]
 ·simp only[MI.at,ID]at hi;refine#[vs,e.tp _ _ h,?_];rw[<- r.length];exact JD.mp hi
theorem zN {A:Hg Ht}{H:Hp}{r:Ho}{a:Ht}(ea:A[r]?=gV a):MIt X.w X.K (.live r) (FH X.K a) A H:=by
 refine#[λA' H' S i w e so hi=>?_,λA' H' S i e so hi=>?_]
 ·simp only[MI.at]at hi;split at hi
  ·rename_i xs hx;simp only[ID]at hi;obtain⟨vs,h1,r1⟩:=cH so hx (e.ad _ _ ea);obtain⟨v,h2,h3⟩:=r1.get hi;refine#[#[vs,v,h1,h2],λx H2 #[z1,z2]=>?_]
   subst z1;have:=z2 vs h1;rw[h2]at this; cases this
   exact#[.refl,so,h3]
  ·cases hi
 ·simp only[MI.at]at hi;split at hi
  ·rename_i xs hx;simp only[ID]at hi;obtain⟨vs,h1,r1⟩:=cH so hx (e.ad _ _ ea);refine#[vs,h1,?_];rw[<- r1.length];exact JD.mp hi
  ·cases hi
theorem d7 {lo:Hv}{n i:Ho}:(da lo n)[i]?=if i < n then gV (.int (lo+i))else td:=by
 unfold da;rw[Hq]
 by_cases h:i < n
 ·rw[HV h,JP h]; rfl
 ·rw[Iv h,JD.mpr (by simp; omega)]; rfl
theorem rR {A:Hg Ht}{H:Hp}{lo:Hv}{n:Ho}:MIt X.w X.K (.its (da lo n)) (DE lo n) A H:=by
 refine#[λA' H' S i w e so hi=>?_,λA' H' S i e so hi=>?_]
 ·simp only[MI.at,ID]at hi;rw[d7]at hi;split at hi
  ·cases hi;refine#[by assumption,λx H2 #[z1,z2]=>?_]
   subst z1 z2;exact#[.refl,so,.int]
  ·cases hi
 ·simp only[MI.at,ID]at hi;rw[d7]at hi;split at hi
  ·cases hi
  ·show n<=i;omega
theorem oS {tg:HS}{pins:Hg (Ht×Jo)}{σ:L2.St}{H1:Hp}{s1:Hm}{R:It->Hp->Prop}{a:Ht}{xs:Hg V}{v:Hj}(I1:Inv X pins σ H1 s1)(r1:RelV (.ref a) v)(hq:SqL X.K H1 a xs)(q:R (FH X.K a) H1) :
  wpAny (model X.prog X.w) X.A (pyIter v) (Fd X pins σ tg R) X.xe s1:=by
 cases r1;obtain⟨its,rv,p,hz⟩:=I1.list hq;refine LV p.isList ?_;refine#[s1.heap.objs.size,[s1.heap.objs.size],_,_,H1,rfl,I1.kept (t':=s1.toks) λb o e=>Hr _ e,sP a _,#[_,HM _ rfl,rfl,rfl],λb hb=>?_,q]
 have e:b=s1.heap.objs.size:=by simpa using hb
 subst e;exact I1.fpOk (Hz _) (I1.hok.fresh (Hz _))
theorem qj {tg:HS}{pins:Hg (Ht×Jo)}{σ:L2.St}{H1:Hp}{s1:Hm}{R:It->Hp->Prop}{a:Ht}{xs:Hg V}{v:Hj}(I1:Inv X pins σ H1 s1)(r1:RelV (.ref a) v)(hq:SqT X.K H1 a xs)(q:R (Di X.K a) H1) :
  wpAny (model X.prog X.w) X.A (pyIter v) (Fd X pins σ tg R) X.xe s1:=by
 cases r1;obtain⟨its,rv,p,hz⟩:=I1.tuple hq;refine Nt (show s1.heap.IsTuple a its.toArray from p) ?_
 refine#[s1.heap.objs.size,[s1.heap.objs.size],_,_,H1,rfl,I1.kept (t':=s1.toks) λb o e=>Hr _ e,pR a _,#[_,HM _ rfl,rfl,rfl],λb hb=>?_,q]
 have e:b=s1.heap.objs.size:=by simpa using hb
 subst e;exact I1.fpOk (Hz _) (I1.hok.fresh (Hz _))
theorem zO {tg a:HS}{f:FA}{p pos:JY}(hg:Gl X "range")(hm:X.mg "range" = td)(ha:GA X [a] f)(hs:starEach [a] X.env=[(false,eval a X.env)]):GI X tg (.Call (.Name "range" p) [a] [] pos) (qi f):=by
 intro pins s σ H R I ⟨A,ρ,S,mi,S',er,so,e,hq⟩;unfold qi at e;split at e
 ·rename_i j S1 h1;split at e
  ·rename_i hj;cases e;refine sQ hg hm ha hs pins s σ H R I #[A,ρ,S,_,_,er,so,h1,λvs H1 #[A1,z1,z2,z3]=>?_]
   cases z3 with
   | cons r1 t=>
    cases t;cases r1;exact#[j,rfl,hj.1,hj.2,hq _ _ A1 z1 z2 rR]
  ·cases e
 ·cases e
theorem zP {tg a b:HS}{f:FA}{p pos:JY}(hg:Gl X "range")(hm:X.mg "range" = td)(ha:GA X [a,b] f)(hs:starEach [a,b] X.env=[(false,eval a X.env),(false,eval b X.env)])(hs2:starEach [b] X.env=[(false,eval b X.env)]):GI X tg (.Call (.Name "range" p) [a,b] [] pos) (iRng2 f):=by
 intro pins s σ H R I ⟨A,ρ,S,mi,S',er,so,e,hq⟩;unfold iRng2 at e;split at e
 ·rename_i i j S1 h1;split at e
  ·rename_i hj;cases e;refine sR hg hm ha hs hs2 pins s σ H R I #[A,ρ,S,_,_,er,so,h1,λvs H1 #[A1,z1,z2,z3]=>?_]
   cases z3 with
   | cons r1 t=>
    cases t with
    | cons r2 t=>
     cases t;cases r1;cases r2;exact#[i,j,rfl,hj,hq _ _ A1 z1 z2 rR]
  ·cases e
 ·cases e
theorem Cu {tg l:HS}{f:FE}(h:GE X l f):GI X tg l (zL f):=by
 intro pins s σ H R I ⟨A,ρ,S,mi,S',er,so,e,hq⟩;unfold zL at e;split at e
 ·rename_i ws S1 h1;cases e;refine bo (h pins s σ H (EndV X.w X.K A H _ (.tup ws)) I #[A,ρ,S,_,_,er,so,h1,λ_ _ z=>z]) λv s1 #[x,H1,I1,r1,A1,e1,o1,z1]=>?_
  cases z1 with
  | tup hq1 rl=>
   refine qj I1 r1 hq1 (hq _ _ A1 e1 o1 (zM hq1 rl))
 ·rename_i r S1 h1;split at e
  ·rename_i ys hy;cases e;refine bo (h pins s σ H (EndV X.w X.K A H _ (.ref r)) I #[A,ρ,S,_,_,er,so,h1,λ_ _ z=>z]) λv s1 #[x,H1,I1,r1,A1,e1,o1,z1]=>?_
   cases z1 with
   | ref ea=>
    obtain⟨vs,hl,_⟩:=cH o1 hy ea;exact oS I1 r1 hl (hq _ _ A1 e1 o1 (zN ea))
  ·cases e
 ·cases e
theorem Cv {tg iter:HS}{body:Hg Kk}{pos:JY}{fi:FI}{g:FG}{fb:FS}(hp:MZ (model X.prog X.w) X.A X.env X.xe)(hc:X.calm=true)(hi:GI X tg iter fi)(hg:GG X tg g)(hb:GSs X body fb)
  (hs:∀x,foldedSetIterable iter X.env x=pure x):GS X (.For tg iter body [] pos) (vV fi g fb):=GS.of (BI hp hc hi hg hb hs) λσ H A ρ S o S' er so e D hd=>by
 unfold vV at e;split at e
 ·rename_i mi S1 h1;split at e
  ·rename_i n hn;refine#[A,ρ,S,mi,S1,er,so,h1,λJ H1 A1 z1 z2 mit=>?_]
   refine#[λi m σ2 H2=>∃A2 ρ2 S2,Ext X.K A1 H1 A2 H2/\EnvRel X.K A2 H2 ρ2 σ2/\StoreOk X.w X.K A2 H2 S2/\fQ mi g fb m i ρ2 S2=gV (o,S'),#[n,A1,ρ,S1,.refl,er.mono z1,z2,e],?_]
   rintro i m σ2 H2 ⟨A2,ρ2,S2,e2,er2,so2,w2⟩;cases m with
   | zero=>
    dsimp only[fQ]at w2;split at w2
    ·rename_i hs;cases w2;exact .inl #[mit.stop A2 H2 _ i e2 so2 hs,hd.nx _ _ #[_,A2,rfl,z1.trans e2,so2,er2]]
    ·cases w2
   | succ m=>
    dsimp only[fQ]at w2;split at w2
    ·rename_i w hw;obtain⟨go,yl⟩:=mit.go A2 H2 S2 i w e2 so2 hw;refine .inr #[go,λσ3 H3=>∃A3 ρ3 S3,Ext X.K A1 H1 A3 H3/\EnvRel X.K A3 H3 ρ3 σ3/\StoreOk X.w X.K A3 H3 S3/\fQ mi g fb m (i+1) ρ3 S3=gV (o,S'),λσ' H' h=>#[m,JE _,h],λx H3 hy=>?_]
     obtain⟨x1,x2,x3⟩:=yl x H3 hy;split at w2
     ·rename_i ρ3 S3 h3;refine#[A2,ρ2,S2,w,ρ3,S3,er2.mono x1,x2,x3,h3,λσ4 H4 A4 y1 y2 y3=>?_]
      have ex:Ext X.K A1 H1 A4 H4:=(e2.trans x1).trans y1;split at w2
      ·rename_i ρ5 S5 h5;refine#[A4,ρ3,S3,_,S5,y3,y2,h5,#[λσ' H' #[ρ',A',u0,u1,u2,u3]=>?_,λv H' #[w,A',y0,_]=>(by cases y0),λv H' #[w,A',y0,_]=>(by cases y0),λv H' #[w,A',y0,_]=>(by cases y0)]]
       cases u0;exact#[A',_,S5,ex.trans u1,u3,u2,w2]
      ·rename_i ρ5 S5 h5;refine#[A4,ρ3,S3,_,S5,y3,y2,h5,#[λv H' #[w,A',y0,_]=>(by cases y0),λv H' #[w,A',y0,_]=>(by cases y0),λv H' #[w,A',y0,_]=>(by cases y0),λσ' H' #[ρ',A',u0,u1,u2,u3]=>?_]]
       cases u0;exact#[A',_,S5,ex.trans u1,u3,u2,w2]
      ·rename_i ρ5 S5 h5;cases w2;refine#[A4,ρ3,S3,_,_,y3,y2,h5,#[λv H' #[w,A',y0,_]=>(by cases y0),λv H' #[w,A',y0,_]=>(by cases y0),λσ' H' #[ρ',A',u0,u1,u2,u3]=>?_,λv H' #[w,A',y0,_]=>(by cases y0)]]
       cases u0;exact hd.nx _ _ #[_,A',rfl,(z1.trans ex).trans u1,u2,u3]
      ·rename_i w5 S5 h5;cases w2;refine#[A4,ρ3,S3,_,_,y3,y2,h5,#[λv H' #[w,A',y0,_]=>(by cases y0),λv H' #[w,A',u0,u1,u2,u3]=>?_,λv H' #[w,A',y0,_]=>(by cases y0),λv H' #[w,A',y0,_]=>(by cases y0)]]
       cases u0;exact hd.rt _ _ #[_,A',rfl,(z1.trans ex).trans u1,u2,u3]
      ·cases w2
     ·cases w2
    ·cases w2
  ·cases e
 ·cases e
end
section
variable{prog:Ik}{w:Ix}{B:Iu}{E:Hj->Hm->Prop}{s:Hm}
theorem zQ {d:Ht}{es:IC JN}{ep:Ho}{Q:Hj->Hm->Prop}(hd:(d==sysModules)=false)(hm:RawD d es ep s.heap)(hfit:(es.size:Hv) < 2 ^ 63)
  (h:Q (.int es.size (s.toks+1)) { s with toks:=s.toks+1+1 }):wpAny (model prog w) B (call (.builtin "len") [.ref d]) Q E s:=by
 have hT:=hm.type;obtain⟨o,ho,hc,hdat⟩:=id hm;refine LO kind_len plain_len entry_len (args_len1 _) ?_;unfold Mm.«len»;refine Hi (m:=oneArg "len" _) (Hx ?_);refine Hi (m:=callSpecial? (.ref d) (JS "__len__")) (IU (name:=JS "__len__") hT F.slot_dict_len (Je F.slot_dict_len hT F.entry_dict_len ?_ (F.args_dict_len_1 _)));show wpAny _ _ (dictSize d >>= _) _ _ s;unfold dictSize;refine Hi (Hi (Ld ho hdat (Hx ?_)));show wpAny _ _ (OT d >>= _) _ _ s;refine Hi (wpAny_pendingCount_other hd ?_);refine wpAny_ret_mkInt ?_;rw[Nat.add_zero];show wpAny _ _ _ _ _ { s with toks:=s.toks+1 }
 refine Hi (Jk (Hx ?_));refine Hi (Lq ?_);show wpAny _ _ (if ((es.size:Ho):Hv) < 0 then _ else _) _ _ _
 rw[Iv ∅]
 show wpAny _ _ (if ((es.size:Ho):Hv)>=2 ^ 63 then _ else _) _ _ _
 rw[Iv ∅]
 exact Hi (Oj (Hx #[_,rfl,h]))
end
section
variable{X:Cx}{pins:Hg (Ht×Jo)}{σ:L2.St}{H:Hp}{s:Hm}{A:Hg Ht}{S:aa}
theorem qk:LCall X (.builtin "len") qf:=by
 intro pins s σ H A S xs vs us w S' I so rl rv e
 by_cases hd:∃i kvs,xs=[.ref i]/\jt S i=gV kvs
 ·obtain⟨i,kvs,rfl,hk⟩:=hd;simp only[qf,hk]at e;cases e;cases rl with
  | cons r t=>
   cases t;cases rv with
   | cons ru rv2=>
    cases rv2;cases r with
    | ref ea=>
     obtain⟨xs,rd,kr⟩:=fN so hk ea;have d:=cC I rd;obtain⟨es,ep,raw,he⟩:=d.raw;obtain rfl:_=IB _:=ru;have hl:es.size=xs.length:=by rw[<- Ir,he,Hh]
     have hz:=d.1;have hs:sizeLine=16777216:=IL;refine zQ d.2.1 raw ∅ #[.int kvs.length,H,A,I.tok _,#[_,by rw[kr.length,hl]],.refl,so,.int]
 ·have:qf xs S=p9 xs S:=by
   unfold qf;split
   ·rename_i i;split
    ·rename_i kvs hk;exact absurd #[i,kvs,rfl,hk] hd
    ·rfl
   ·rfl
  rw[this]at e;exact tq pins s σ H A S xs vs us w S' I so rl rv e
noncomputable def GL (S:aa):W->Hn Jb
 | .non=>gV "NoneType"|.bl _=>gV "bool"|.int _=>gV "int"|.str _=>gV "str"|.tup _=>gV "tuple"
 | .ref i=>match gO S i with
  | some _=>gV "list"
  | none=>(jt S i).map λ_=>"dict"
noncomputable def rS:Hg Jb:=["bool","int","str","tuple","list","dict"]
noncomputable def ny (S:aa)(x:W)(c:Jb):Hn HU:=match GL S x with
 | some t=>if rS.contains c then gV (t==c||(t == "bool" && c == "int"))else td
 | none=>td
theorem gS {K:HA}{t c:Jb}(ht:t∈["NoneType","bool","int","str","tuple","list","dict"])(hc:c∈rS):PySem.W.kitOne K (.type t) (.type c)=gV (t==c||(t == "bool" && c == "int")):=by
 simp only[rS,HW,IR,Kr]at ht hc;rcases ht with rfl|rfl|rfl|rfl|rfl|rfl|rfl <;> rcases hc with rfl|rfl|rfl|rfl|rfl|rfl <;> rfl
theorem vW:CallR X (.builtin "isinstance") (λvs H Q=>∃A S x v c b,vs=[v,.ty c]/\StoreOk X.w X.K A H S/\Rel X.K A H x v/\ny S x c=gV b/\Q (.bl b) H):=by
 intro pins s σ H vs us Q I rv ⟨A,S,x,v,c,b,e1,so,rx,e2,hq⟩;subst e1;cases rv with
 | cons r1 rv2=>cases rv2 with
  | cons r2 rv3=>
   cases rv3;obtain rfl:_=KF c:=r2;unfold ny at e2;split at e2
   ·rename_i t ht;split at e2
    ·rename_i hc;cases e2;have hc':c∈rS:=by simpa using hc
     have fin:∀tk,EP X pins σ Q (.bool (t==c||(t == "bool" && c == "int"))) { s with toks:=tk }:=λtk=>#[.bl _,H,I.tok _,rfl,hq]
     cases rx with
     | non=>cases ht; cases(show _=IK from r1); exact J8 PySem.W.kitx_none I.kIn Ln (gS (by simp) hc') (λz=>nomatch z) fin
     | bl=>cases ht; cases(show _=KD _ from r1); exact J8 PySem.W.kitx_bool I.kIn Ln (gS (by simp) hc') (λz=>nomatch z) fin
     | int=>cases ht; obtain⟨t',q⟩:=(show ∃t,_=L7 _ t from r1); cases q; exact J8 PySem.W.kitx_int I.kIn Ln (gS (by simp) hc') (λz=>nomatch z) fin
     | str=>cases ht; obtain⟨t',q⟩:=(show ∃t,_=Li _ t from r1); cases q; exact J8 PySem.W.kitx_str I.kIn Ln (gS (by simp) hc') (λz=>nomatch z) fin
     | tup h1 r1'=>
      cases ht;obtain⟨its,rv,⟨o,q1,q2,_⟩,hz⟩:=I.tuple h1;cases(show _=IB _ from r1)
      exact J8 PySem.W.kitx_tuple I.kIn #[o,q1,q2] (gS (by simp) hc') (λz=>nomatch z) fin
     | ref ea=>
      cases(show _=IB _ from r1)
      simp only[GL]at ht;split at ht
      ·rename_i ws hw;cases ht;obtain⟨vs,h1,_⟩:=cH so hw ea;obtain⟨its,rv,p,hz⟩:=I.list h1;obtain⟨o,q1,q2,_⟩:=p.isList;exact J8 PySem.W.kitx_list I.kIn #[o,q1,q2] (gS (by simp) hc') (λz=>nomatch z) fin
      ·rw[Hl]at ht;obtain⟨kvs,hk,rfl⟩:=ht;obtain⟨xs,rd,kr⟩:=fN so hk ea;obtain⟨es,ep,⟨o,q1,q2,_⟩,he⟩:=(cC I rd).raw;exact J8 PySem.W.kitx_dict I.kIn #[o,q1,q2.1] (gS (by simp) hc') (λz=>nomatch z) fin
    ·cases e2
   ·cases e2
noncomputable def vX (c:Jb)(f:FE):FE:=λρ S=>match f ρ S with
 | some (x,S1)=>(ny S1 x c).map λb=>(.bl b,S1)
 | none=>td
theorem Cw {cn:HJ}{c:Jb}{e:HS}{p p2 pos:JY}{f:FE}(hg:Gl X "isinstance")(hm:X.mg "isinstance" = td)(hg2:Gl X cn)(hm2:X.mg cn=td)(hv2:bootBuiltins cn=gV (.type c))(hn2:cn≠"__name__")(hd2:(cn==("__debug__" : HJ))=false)
  (he:GE X e f) (hs:starEach [e,.Name cn p2] X.env=(false,eval e X.env)::starEach [.Name cn p2] X.env):GE X (.Call (.Name "isinstance" p) [e,.Name cn p2] [] pos) (vX c f):=
 GE.of (oh (vW) hg hm rfl (mF he (mF (yq (v:=.ty c) hg2 hm2 hv2 rfl hn2 hd2) uT) hs) #v[] #v[] hs rfl) λσ H A ρ S w S' er so e Q hq=>by
  unfold vX at e;split at e
  ·rename_i x1 S1 h1;rw[Hl]at e;obtain⟨b,e1,e2⟩:=e;cases e2;exact#[A,ρ,S,x1,_,er,so,h1,λv H1 #[A1,z1,z2,z3]=>#[A1,_,x1,v,c,b,rfl,z2,z3,e1,hq _ _ #[A1,z1,z2,.bl]]]
  ·cases e
end
noncomputable def dD:Hg (T×W)->Hg W->Hn (Hg (T×W))
 | kvs,[]=>gV kvs
 | kvs,k::v::ws=>match gB k with
  | some t=>dD (eu kvs t v) ws
  | none=>td
 | _,[_]=>td
noncomputable def AO:FE:=λ_ S=>gV (.ref S.length,S++[.dic []])
noncomputable def oT (f:FA):FE:=λρ S=>match f ρ (S++[.dic []])with
 | some (ws,S1)=>match S1[S.length]? with
  | some (.dic [])=>match dD [] ws with
   | some kvs=>gV (.ref S.length,S1.set S.length (.dic kvs))
   | none=>td
  | _=>td
 | none=>td
section
variable (K:HA) (A:Hg Ht) (H:Hp)
inductive RelP:Hg W->Hg (V×V)->Prop
 | nil:RelP [] []
 | cons {k v:W} {a b:V} {ws:Hg W} {ps:Hg (V×V)}:Rel K A H k a->Rel K A H v b->RelP ws ps->RelP (k::v::ws) ((a,b)::ps)
end
theorem RelP.mono {K:HA}{A A':Hg Ht}{H H':Hp}(e:Ext K A H A' H'){ws:Hg W}{ps:Hg (V×V)}(h:RelP K A H ws ps):RelP K A' H' ws ps:=by
 induction h with
 | nil=>exact .nil
 | cons a b c ih=>exact .cons (a.mono e) (b.mono e) ih
section
variable{X:Cx}{pins:Hg (Ht×Jo)}{σ:L2.St}{H:Hp}{s:Hm}{A:Hg Ht}{S:aa}
noncomputable def F9 (X:Cx)(A:Hg Ht)(H:Hp)(S':aa)(ws:Hg W):Hg (V×V)->Hp->Prop:=λps H'=>∃A',Ext X.K A H A' H'/\StoreOk X.w X.K A' H' S'/\RelP X.K A' H' ws ps
noncomputable def Eb (X:Cx)(pos:JY)(keys:Hg (Hn HS))(values:Hg HS)(f:FA):Prop:=
 ∀(pins:Hg (Ht×Jo)) (s:Hm) (σ:L2.St) (H:Hp) (A:Hg Ht) (ρ:Fm) (S:aa) (ws:Hg W) (S':aa),Inv X pins σ H s->EnvRel X.K A H ρ σ->StoreOk X.w X.K A H S->f ρ S=gV (ws,S')->
  wpAny (model X.prog X.w) X.A (evalPairs (pairTrees keys values X.env pos)) (λvs s'=>∃ps H',Inv X pins σ H' s'/\VV ps vs/\F9 X A H S' ws ps H') X.xe s
theorem zR {pos:JY}:Eb X pos [] [] ik:=λpins s σ H A ρ S ws S' I er so e=>by
 cases e;exact pairTrees_nil_walk #[[],H,I,.nil,A,.refl,so,.nil]
theorem vY {pos:JY}{k v:HS}{ks:Hg (Hn HS)}{vs:Hg HS}{fk fv:FE}{f:FA}(hk:GE X k fk)(hv:GE X v fv)(hr:Eb X pos ks vs f):Eb X pos (gV k::ks) (v::vs) (dH fk (dH fv f)):=λpins s σ H A ρ S ws S' I er so e=>by
 unfold dH at e;split at e
 ·rename_i w1 S1 h1;split at e
  ·rename_i w2 S2 h2;cases e;split at h2
   ·rename_i w3 S3 h3;split at h2
    ·rename_i w4 S4 h4;cases h2;refine pairTrees_cons_walk (bo (hk pins s σ H (EndV X.w X.K A H S1 w1) I #[A,ρ,S,_,_,er,so,h1,λ_ _ z=>z]) λu s1 #[x,H1,I1,r1,A1,e1,o1,z1]=>
      bo (hv pins s1 σ H1 (EndV X.w X.K A1 H1 S3 w3) I1 #[A1,ρ,S1,_,_,er.mono e1,o1,h3,λ_ _ z=>z]) λu2 s2 #[x2,H2,I2,r2,A2,e2,o2,z2]=>
      bo (hr pins s2 σ H2 A2 ρ S3 _ _ I2 (er.mono (e1.trans e2)) o2 h4) λvs' s3 #[ps,H3,I3,rel,A3,e3,o3,z3]=>?_)
     exact#[(x,x2)::ps,H3,I3,.cons #[r1,r2] rel,A3,e1.trans (e2.trans e3),o3,.cons (z1.mono (e2.trans e3)) (z2.mono e3) z3]
    ·cases h2
   ·cases h2
  ·cases e
 ·cases e
theorem lP {r:Ho}{d:Ht}{E:Hj->Hm->Prop}(hu:X.A.units+10 < cLine):∀(vs:Hg (Hj×Hj)) (ps:Hg (V×V)) (ws:Hg W) (kvs kvs':Hg (T×W)) (s:Hm) (H:Hp) (S:aa) (Q:PUnit->Hm->Prop),
  Inv X pins σ H s->StoreOk X.w X.K A H S->mX S r=gV kvs->A[r]?=gV d->RelP X.K A H ws ps->VV ps vs->dD kvs ws=gV kvs'->kvs.length+vs.length<=30->
  (∀s' H',Inv X pins σ H' s'->Ext X.K A H A H'->StoreOk X.w X.K A H' (S.set r (.dic kvs'))->Q Nr s')->
  wpAny (model X.prog X.w) X.A (forIn vs Nr λ(x:Hj×Hj) (_:PUnit)=>(do dictSet d x.1 x.2; pure (Ju Nr):Pk (ForInStep PUnit))) Q E s
 | [],_,_,kvs,kvs',s,H,S,Q,I,so,hr,ea,rp,vv,e,hl,hq=>by
  cases vv;cases rp;cases e;rw[OM];refine Hx (hq s H I .refl ?_);have hS:=ie hr;have:S.set r (.dic kvs)=S:=by
   apply LX;intro j;rw[JA];split
   ·rename_i e; subst e
    split
    ·exact hS.symm
    ·rename_i h; exact absurd (HD.mp hS).1 h
   ·rfl
  rw[this]; exact so
 | (ku,vu)::vs,_,_,kvs,kvs',s,H,S,Q,I,so,hr,ea,rp,vv,e,hl,hq=>by
  cases vv with
  | cons hv vv2=>
   cases rp with
   | @cons wk wv va vb ws2 ps2 rk rv' rp2=>
    simp only[dD]at e;split at e
    ·rename_i t ht;rw[My];obtain⟨xs,hH,kr⟩:=rE so hr ea;have dd0:=cC I (.inl hH);have dd:=dd0.dict I kr;obtain⟨bk,e1,e2,rkk⟩:=ic ht rk hv.1;have e2:ku=IB bk:=e2;subst e2;obtain⟨q1,q2,q3⟩:=dU ht;rw[Iw]at hl;have hz:xs.length<=sizeLine:=dd0.1;refine Hi (Hi (wpAny_dictSet_heap (hsz:=hz) (show X.A.units+bg < cLine by unfold bg; omega) (iR I rkk q3) dd λh' dd' hs=>Hx ?_))
     have kr':=kr.put q2 q3 rkk rv' hv.2;have hz':(storedH xs t bk vu).length<=sizeLine:=by
      rw[<- kr'.length];have h2:=cN kvs t wv;rw[IL];omega
     have dn:DicAt X.w d (storedH xs t bk vu) h':=.of hz' dd0.2.1 dd';obtain⟨so',ex⟩:=so.writeO (ie hr) rfl ea (u:=d0 X.w d (storedH xs t bk vu)) (n:=.dic (eu kvs t wv)) #[_,aZ,kr'.mono (dj (.ext hH))];have I':Inv X pins σ (bQ H d (d0 X.w d (storedH xs t bk vu))) { s with heap:=h',toks:=s.toks+(cR X.prog X.w).draws t }:=mM I (by rw[hH]; exact Ln) hs (let ⟨q,_,_,hq,_⟩:=dd'; #[q,hq]) dn.ok
     have hl':(S.set r (.dic (eu kvs t wv)))[r]?=gV (.dic (eu kvs t wv)):=by
      rw[JA,HV rfl,HV (HD.mp (ie hr)).1]
     refine lP hu vs _ _ (eu kvs t wv) kvs' _ _ _ Q I' so' (by unfold mX; rw[hl']) ea (rp2.mono ex) vv2 e (by have:=cN kvs t wv; omega) λs' H' I2 ex2 so2=>?_
     rw[List.set_set]at so2;exact hq s' H' I2 (ex.trans ex2) so2
    ·cases e
theorem zS {pos:JY}:GE X (.Dict [] [] pos) AO:=λpins s σ H Q I #[A,ρ,S,w,S',er,so,e,hq]=>by
 cases e;have hn:=I.hok.fresh (Hz s.heap.objs.size);have dn:DicAt X.w s.heap.objs.size [] (s.heap.push { cls:=.type "dict",data:=.dict #[] }):=#[JJ _,Lv.mpr (Ne.symm (Il I.big)),MQ,_,#[],0,HM _ rfl,#[rfl,rfl,rfl],rfl,rfl];refine wpAny_Dict_empty #[.ref s.heap.objs.size,_,I.laid (a:=s.heap.objs.size) (o:=d0 X.w s.heap.objs.size []) (t':=s.toks) (λ_ _ q=>Hr _ q) (Hz _) dn.ok,rfl,hq _ _ #[A++[s.heap.objs.size],d3 hn,so.pushO hn #[[],aZ,.nil],.ref ?_]]
 rw[<- so.len]; simp
theorem zT {pos:JY}{keys:Hg (Hn HS)}{values:Hg HS}{f:FA}(hu:X.A.units+10 < cLine)(h:Eb X pos keys values f)(hall:keys.all (·.isSome)=true)(hl:keys.length=values.length)(h0:keys≠[])(h15:keys.length<=15):GE X (.Dict keys values pos) (oT f):=by
 intro pins s σ H Q I ⟨A,ρ,S,w,S',er,so,e,hq⟩;unfold oT at e;split at e
 ·rename_i ws S1 h1;split at e
  ·rename_i hS1;split at e
   ·rename_i kvs hp;cases e;have hn:=I.hok.fresh (Hz s.heap.objs.size);have dn:DicAt X.w s.heap.objs.size [] (s.heap.push { cls:=.type "dict",data:=.dict #[] }):=#[JJ _,Lv.mpr (Ne.symm (Il I.big)),MQ,_,#[],0,HM _ rfl,#[rfl,rfl,rfl],rfl,rfl];have I1:=I.laid (a:=s.heap.objs.size) (o:=d0 X.w s.heap.objs.size []) (h':=s.heap.push { cls:=.type "dict",data:=.dict #[] }) (t':=s.toks) (λ_ _ q=>Hr _ q) (Hz _) dn.ok
    have ex0:Ext X.K A H (A++[s.heap.objs.size]) (bQ H s.heap.objs.size (d0 X.w s.heap.objs.size [])):=d3 hn;have so0:StoreOk X.w X.K (A++[s.heap.objs.size]) (bQ H s.heap.objs.size (d0 X.w s.heap.objs.size [])) (S++[.dic []]):=so.pushO hn #[[],aZ,.nil];have hlen:=pairTrees_length keys values X.env pos hall hl;have hne:pairTrees keys values X.env pos≠[]:=λhe=>by
     rw[he]at hlen;exact h0 (K8.mp hlen.symm)
    rw[arm_eval_Dict,zip_pairTrees keys values X.env pos hall hl,dictDisplay_pairs _ hne ∅]
    refine Hi (Lp (Hi ?_));unfold subDict;refine Hi (wpAny_alloc ?_);refine Hi (Jk ?_);rw[HV ∅]
    refine Hi (Jx (wpAny_evalPairs_len (h pins _ σ _ _ ρ _ _ _ I1 (er.mono ex0) so0 h1)) (λvs s₁ h₁=>?_) λ_ _ e=>e)
    obtain⟨hvl,ps,H2,I2,vv,A2,ex2,so2,rp⟩:=h₁;refine Jk ?_;have ea:A2[S.length]?=gV s.heap.objs.size:=ex2.ad _ _ (by rw[<- so.len]; simp)
    refine Hi (lP hu vs ps ws [] kvs s₁ H2 S1 _ I2 so2 (by unfold mX; rw[hS1]) ea rp vv hp (by rw[Jt]; omega) λs' H' I3 ex3 so3=>?_)
    exact Hx (Hx (Hx #[.ref s.heap.objs.size,H',I3,rfl,hq _ _ #[A2,ex0.trans (ex2.trans ex3),so3,.ref ea]]))
   ·cases e
  ·cases e
 ·cases e
end
noncomputable def GM (wd:Ix)(a:Ht)(o:Jo)(xs:Hg (T×Ht×Hj)):It:=
 #[λi H=>H a=gV (.frz o (d0 wd a xs))/\i < xs.length,λi H x H'=>H'=H/\∃q,xs[i]?=gV q/\x=.ref q.2.1,λi H=>H a=gV (.frz o (d0 wd a xs))/\xs.length<=i]
theorem tQ {P:Ik}{w:Ix}{K:HA}{tg:HS}(a it:Ht){o:Jo}{es:IC JN}{ep:Ho}{xs:Hg (T×Ht×Hj)}(hx:o.ExactDict)(hd:o.data=.dict es ep)(he:es.toList=xs.map (vc w)) :
  Turn P w K tg (GM w a o xs) [it] it (λi h=>h.IsKeyIter it a i es.size ep) where
 mem:=by simp
 obj:=λi h st b hb=>by
  have e:b=it:=by simpa using hb
  subst e;obtain⟨o,e,c,d⟩:=st;exact#[o,e,λv z=>by rw[d]at z; cases z]
 keep:=λi h h' st k=>st.at λo e=>k it (by simp) o e
 item:=by
  intro X hP hw hK hc i pins s σ H E I hf st hg;subst hP hw hK;obtain⟨hH,hi⟩:=hg;have ho:s.heap.get? a=gV o:=(show ObjOk X.prog X.w H s.heap a (.frz o (d0 X.w a xs))from I.hok a _ hH).1
  have hl:es.size=xs.length:=by rw[<- Ir,he,Hh]
  have hi':i < es.size:=∅
  obtain⟨f0,f1,f2,f3,f4,f5⟩:=hf it (by simp)
  have hk:es[i].key=.ref (xs[i]).2.1:=by
   have:es.toList[i]?=gV (vc X.w xs[i]):=by rw[he,Hq,HE hi]; rfl
   rw[Jp,KO hi']at this;have:=IS this;rw[this]; rfl
  refine oF st #[o,ho,hx,hd] hi' λh' st' sb=>?_
  have I1:Inv X pins σ H { s with heap:=h' }:=I.turned (t':=s.toks) (λb o hb e=>(sb.2 b hb).trans e) f0 f1 f3 f4 f5
  obtain⟨o',e,c,d⟩:=id st';exact#[_,rfl,rc (s:={ s with heap:=h' }) e c d #v[] #[.ref (xs[i]).2.1,H,I1,hk,#[rfl,xs[i],HE hi,rfl],st',λb hb=>(hf b hb).1]]
 done:=by
  intro X hP hw hK hc i pins s σ H E I hf st hg;subst hP hw hK;obtain⟨hH,hi⟩:=hg;have ho:s.heap.get? a=gV o:=(show ObjOk X.prog X.w H s.heap a (.frz o (d0 X.w a xs))from I.hok a _ hH).1
  have hl:es.size=xs.length:=by rw[<- Ir,he,Hh]
  obtain⟨f0,f1,f2,f3,f4,f5⟩:=hf it (by simp)
  exact rG (I.ok.hd hc) st #[o,ho,hx,hd] ∅ λh' eb=>#[rfl,I.turned (t':=s.toks) (λb o hb e=>eb b o hb e) f0 f1 f3 f4 f5]
 self:=λ_ _ _ _ _ st h=>MN st h
noncomputable def eQ (f:FE):FI:=λρ S=>match f ρ S with
 | some (.tup ws,S1)=>gV (.its ws,S1)
 | some (.ref r,S1)=>match gO S1 r with
  | some _=>gV (.live r,S1)
  | none=>match jt S1 r with
   | some kvs=>gV (.its (kvs.map λp=>p.1.w),S1.set r (.frd kvs))
   | none=>td
 | _=>td
section
variable{X:Cx}{pins:Hg (Ht×Jo)}{σ:L2.St}{H:Hp}{s:Hm}{A:Hg Ht}{S:aa}
theorem vZ {a:Ht}{o:Jo}{kvs:Hg (T×W)}{xs:Hg (T×Ht×Hj)}(hH:H a=gV (.frz o (d0 X.w a xs)))(kr:KRel X.K A H kvs xs):MIt X.w X.K (.its (kvs.map λp=>p.1.w)) (GM X.w a o xs) A H:=by
 refine#[λA' H' S i w e so hi=>?_,λA' H' S i e so hi=>?_]
 ·simp only[MI.at,ID]at hi;obtain⟨v,h1,h2⟩:=((kr.mono e).keysL).get hi;rw[Hq,Hl]at h1;obtain⟨q,q1,q2⟩:=h1;refine#[#[e.fz _ _ _ hH,(HD.mp q1).1],λx H2 #[z1,q',z2,z3]=>?_]
  subst z1 z3;rw[q1]at z2; cases z2
  exact#[.refl,so,by rw[q2]; exact h2]
 ·simp only[MI.at,ID]at hi;refine#[e.fz _ _ _ hH,?_];have:=JD.mp hi;rw[Hh,kr.length]at this;exact this
theorem zU {tg l:HS}{f:FE}(h:GE X l f):GI X tg l (eQ f):=by
 intro pins s σ H R I ⟨A,ρ,S,mi,S',er,so,e,hq⟩
 by_cases hd:∃r S1 kvs,f ρ S=gV (.ref r,S1)/\gO S1 r=td/\jt S1 r=gV kvs
 ·obtain⟨r,S1,kvs,h1,h2,h3⟩:=hd;simp only[eQ,h1,h2,h3]at e;cases e;refine bo (h pins s σ H (EndV X.w X.K A H S1 (.ref r)) I #[A,ρ,S,_,_,er,so,h1,λ_ _ z=>z]) λv s1 #[x,H1,I1,r1,A1,e1,o1,z1]=>?_
  cases z1 with
  | @ref _ a ea=>
   obtain rfl:v=IB a:=r1;have fz:∃o xs H2,Inv X pins σ H2 s1/\Ext X.K A1 H1 A1 H2/\StoreOk X.w X.K A1 H2 (S1.set r (.frd kvs))/\H2 a=gV (.frz o (d0 X.w a xs))/\KRel X.K A1 H2 kvs xs:=by
    unfold jt at h3;split at h3
    ·rename_i k hk;cases h3;obtain⟨xs,hH,kr⟩:=o1.obj r _ a hk ea;have d:=cC I1 (.inl hH);obtain⟨_,_,_,o,es,ep,q1,q2,q3,q4⟩:=id d;obtain⟨so',ex⟩:=o1.writeO hk rfl ea (u:=.frz o (d0 X.w a xs)) (n:=.frd kvs) #[o,xs,aZ,kr.mono (dj (.ext hH))];exact#[o,xs,_,mM (h':=s1.heap) (t':=s1.toks) (ob:=.frz o (d0 X.w a xs)) I1 (by rw[hH]; exact Ln) (P1 _ _) #[o,q1] #[q1,d.ok],ex,so',aZ,kr.mono ex]
    ·rename_i k hk;cases h3;obtain⟨o,xs,hH,kr⟩:=o1.obj r _ a hk ea;have:S1.set r (.frd kvs)=S1:=by
      apply LX;intro j;rw[JA];split
      ·rename_i e; subst e
       split
       ·exact hk.symm
       ·rename_i h; exact absurd (HD.mp hk).1 h
      ·rfl
     rw[this];exact#[o,xs,H1,I1,.refl,o1,hH,kr]
    ·cases h3
   obtain⟨o,xs,H2,I2,ex,so2,hH,kr⟩:=fz;have d:=cC I2 (.inr #[o,hH]);have ho:s1.heap.get? a=gV o:=(show ObjOk X.prog X.w H2 s1.heap a (.frz o (d0 X.w a xs))from I2.hok a _ hH).1
   obtain⟨_,hsm,_,o',es,ep,q1,q2,q3,q4⟩:=id d;rw[ho]at q1;cases q1;refine oE hsm #[o,ho,q2,q3] ?_;refine#[s1.heap.objs.size,[s1.heap.objs.size],_,_,H2,rfl,I2.kept (t':=s1.toks) λb o e=>Hr _ e,tQ a _ q2 q3 q4,#[_,HM _ rfl,rfl,rfl],λb hb=>?_,hq _ _ A1 (e1.trans ex) so2 (vZ hH kr)]
   have e:b=s1.heap.objs.size:=by simpa using hb
   subst e;exact I2.fpOk (Hz _) (I2.hok.fresh (Hz _))
 ·have:eQ f ρ S=zL f ρ S:=by
   unfold eQ zL;cases hf:f ρ S with
   | none=>rfl
   | some p=>
    obtain⟨w,S1⟩:=p;cases w with
    | ref r=>
     cases h2:gO S1 r with
     | some _=>simp only[h2]
     | none=>
      cases h3:jt S1 r with
      | none=>simp only[h2,h3]
      | some kvs=>exact absurd #[r,S1,kvs,hf,h2,h3] hd
    | _=>rfl
  rw[this]at e;exact Cu h pins s σ H R I #[A,ρ,S,mi,S',er,so,e,hq]
end
noncomputable def bL (mi:MI)(g:FG)(c:FT)(f:FE):Ho->Ho->Fm->aa->Hn (Hg W×aa)
 | 0,i,_,S=>match mi.at S i with
  | some td=>gV ([],S)
  | _=>td
 | n+1,i,ρ,S=>match mi.at S i with
  | some (gV w)=>match g w ρ S with
   | some (ρ1,S1)=>match c ρ1 S1 with
    | some (true,S2)=>match f ρ1 S2 with
     | some (y,S3)=>match bL mi g c f n (i+1) ρ1 S3 with
      | some (ys,S4)=>gV (y::ys,S4)
      | none=>td
     | none=>td
    | some (false,S2)=>bL mi g c f n (i+1) ρ1 S2
    | none=>td
   | none=>td
  | _=>td
noncomputable def eZ (cap:Hg (Hn Ho))(ρ:Fm):Fm:=cap.map λo=>match o with
 | some j=>(ρ[j]?).join
 | none=>td
noncomputable def jY (fi:FI)(g:FG)(c:FT)(f:FE)(cap:Hg (Hn Ho)):FE:=λρ S=>match fi ρ S with
 | some (mi,S1)=>match mi.len S1 with
  | some n=>match bL mi g c f n 0 (eZ cap ρ) S1 with
   | some (ys,S2)=>kX S2 ys
   | none=>td
  | none=>td
 | none=>td
noncomputable def AQ:FT:=λ_ S=>gV (true,S)
noncomputable def kU (X:Cx)(scope:Kz)(cl:Hg (HJ×Ht))(C:Ht)(N:Hg HJ)(s0:Hm)(H0:Hp)(ex:Hg Ht):Cx:=
 { X with env:=compEnvC scope cl C X.env,N:=N,s₀:=s0,H₀:=H0,outer:=X.stack,stack:=X.stack,ex:=ex,fn:=λ_=>false,pn:=[],xe:=λ_ _=>IV }
structure CompOk (X:Cx)(scope:Kz)(cl:Hg (HJ×Ht))(N:Hg HJ)(cap:Hg (Hn Ho)):Prop where
 clos:closureFor scope X.env=pure cl
 kind:scope.kind=.function
 names:∀y∈scope.names,y.2=.local->scope.names.lookup y.1=gV .local
 nocell:∀y∈scope.names,y.2≠.cell
 sub:∀x c,cl.lookup x=gV c->X.env.cells.lookup x=gV c
 has:∀x,((relabel scope X.env).names.lookup x=gV .cell\/(relabel scope X.env).names.lookup x=gV .free)->∃c,cl.lookup x=gV c
 len:cap.length=N.length
 cap:∀(i j:Ho) (x:HJ),cap[i]?=gV (gV j)->N[i]?=gV x->X.N[j]?=gV x/\(X.env.kindOf x=gV .cell\/X.env.kindOf x=gV .free)/\((relabel scope X.env).names.lookup x=gV .cell\/(relabel scope X.env).names.lookup x=gV .free)
theorem gD {prog:Ik}{w:Ix}{A:Iu}{R:N2->Hm->Prop}{s:Hm}{elt target iter:HS}{ifs:Hg HS}{scope:Kz}{pos:JY}{it acc:Hj}{env:Nz}(I:Ho->Hm->Prop)
    (turn:∀n s,I n s->wpAny (model prog w) A (pyNext it) (λr s₁=>match r with
      | none=>R (.ok .next) s₁
      | some v=>wpAny (model prog w) A (letOwnedTupleGo target it v) (λ_ s₁=>wpAny (model prog w) A (assign target env v) (λ_ s₂=>
          wpAny (model prog w) A (forIn ifs true λc r=>if r=true then do let ok <- isTrue c env (eval c env); pure (Ju ok)else pure (Ju r)) (λok s₃=>
            if ok=true then wpAny (model prog w) A (eval elt env) (λx s₄=>
              wpAny (model prog w) A (call (.builtin "list.append") [acc,x]) (λ_ s₅=>∃m,m < n/\I m s₅) (λ_ _=>IV) s₄) (λ_ _=>IV) s₃
            else ∃m,m < n/\I m s₃) (λ_ _=>IV) s₂) (λ_ _=>IV) s₁) (λ_ _=>IV) s₁) (λ_ _=>IV) s)
    (n:Ho) (h:I n s) :
    codeAny (model prog w) A (.compLoop (.ListComp elt [#[target,iter,ifs,0]] scope pos) 0 it acc env) R s:=by
  refine codeAny_loop rfl I (λn s hI=>?_) n h
  show wpAny _ A ((compTurn (.ListComp elt [#[target,iter,ifs,0]] scope pos) 0 it acc env).onRaise (λx=>do noteFrame x env; theTreesLotGoes x)) _ _ s
  refine wpAny_noted ?_;rw[compTurn_list];refine Hi (Lp (Hi (Jx (turn n s hI) (λr s₁ h₁=>?_) λ_ _ h'=>h'.elim)))
  cases r with
  | none=>exact Hx h₁
  | some v=>
    refine Hi (Jx h₁ (λ_ s₁ h₁=>?_) λ_ _ h'=>h'.elim)
    refine Hi (Jx h₁ (λ_ s₂ h₂=>Hi (Jx h₂ (λok s₃ h₃=>?_) λ_ _ h'=>h'.elim)) λ_ _ h'=>h'.elim)
    cases ok with
    | false=>exact Hx #[rfl,h₃]
    | true=>
      exact Hi (Hi (Jx h₃ (λx s₄ h₄=>Hi (Jx h₄ (λ_ s₅ h₅=>Hx (Hx #[rfl,h₅])) λ_ _ h'=>h'.elim)) λ_ _ h'=>h'.elim))
section
variable{X:Cx}{pins:Hg (Ht×Jo)}{σ:L2.St}{H:Hp}{s:Hm}
theorem Inv.adopt {D:Ht}{o:HO}(I:Inv X pins σ H s)(hn:H D=td)(h1:D∈X.ex\/X.s₀.heap.objs.size<=D)(hL:D≠X.env.locals)(h2:∀x c,X.env.cells.lookup x=gV c->c≠D)(h3:∀p∈X.pn++pins,p.1≠D)
  (new:ObjOk X.prog X.w (bQ H D o) s.heap D o):Inv X pins σ (bQ H D o) s:=by
 have nit:∀b u,H b=gV u->b≠D:=λb u e z=>by rw[z,hn]at e; cases e
 have key:Inv X pins σ (bQ H D o) { s with heap:=s.heap,gens:=s.gens,drawn:=s.drawn,toks:=s.toks }:=by
  refine I.step (g':=s.gens) (d':=s.drawn) (t':=s.toks) (h':=s.heap) (ch:=[D]) (λb hb=>?_) (λb o _ _ hc e _=>e) (λb o _ _ hc e _=>#[o.slots,e]) (λb o hc e n=>?_)
   (λb o hc e=>#[o,e]) (λb xs e=>?_) (λb o xs e=>?_) (λb ps e=>#[#[],?_]) (λm hm=>hm) (λb u e=>?_) I.bare
  ·have e:b=D:=by simpa using hb
   subst e;exact#[h1,hL,h2,h3]
  ·rw[aH (λz=>hc (by simp[z]))]; exact n
  ·rw[aH (nit b _ e)]; exact e
  ·rw[aH (nit b _ e)]; exact e
  ·rw[aH (nit b _ e),e]; simp
  ·by_cases hb:b=D
   ·subst hb; rw[aZ]at e; cases e; exact new
   ·rw[aH hb]at e;refine(I.hok b u e).stay (λc v hc q=>q) (λc q=>?_) λc xs q=>?_
    ·rw[aH (nit c _ q)]; exact q
    ·rw[aH (nit c _ q)]; exact q
 exact key
theorem Cy {scope:Kz}{cl:Hg (HJ×Ht)}{N:Hg HJ}{cap:Hg (Hn Ho)}{C:Ht}{s0:Hm}{ex:Hg Ht}(I:Inv X pins σ H s)(ck:CompOk X scope cl N cap)(hs:s.heap.objs.size<=s0.heap.objs.size)(hC:s0.heap.objs.size<=C)
  (hk:∀b o,s.heap.get? b=gV o->s0.heap.get? b=gV o) (hex:∀b∈ex,(b≠C)/\(∀x c,X.env.cells.lookup x=gV c->c≠b)/\(∀o,X.base.get? b≠gV o)/\b∉pQ X.stack) :
  (kU X scope cl C N s0 H ex).Ok where
 mod:=I.ok.mod
 kind:=ck.kind
 glob:=I.ok.glob
 blt:=I.ok.blt
 above:=hC
 inj:=λx y c h1 h2=>I.ok.inj x y c (ck.sub x c h1) (ck.sub y c h2)
 has:=λx h=>ck.has x h
 cab:=λx c h=>by cases h
 hd:=I.ok.hd
 frames:=I.ok.frames
 stk:=.inl rfl
 exf:=λb hb=>#[(hex b hb).1,λx c h=>(hex b hb).2.1 x c (ck.sub x c h)]
 bs:=λb o e=>#[hk b o (I.bk b o e),(I.bs b o e).2]
 bsz:=HZ (HZ I.ok.bsz I.sz) hs
 noex:=λb o e hb=>(hex b hb).2.2.1 o e
 exfs:=λb hb=>(hex b hb).2.2.2
 funs:=I.stack.of_keeps λb o e _=>#[o,hk b o e,rfl]
 frf:=I.stkFree
structure BlockOk (X:Cx)(scope:Kz)(cl:Hg (HJ×Ht))(N:Hg HJ)(tg elt:HS)(ifs:Hg HS)(g:FG)(c:FT)(f:FE):Prop where
 tgt:∀C s0 H0 ex,GG (kU X scope cl C N s0 H0 ex) tg g
 tst:∀C s0 H0 ex pins s σ H Q,Inv (kU X scope cl C N s0 H0 ex) pins σ H s->tT (kU X scope cl C N s0 H0 ex) c σ H Q->
  wpAny (model X.prog X.w) X.A (forIn ifs true λc r=>if r=true then do let ok <- isTrue c (compEnvC scope cl C X.env) (eval c (compEnvC scope cl C X.env)); pure (Ju ok)else pure (Ju r)) (TP (kU X scope cl C N s0 H0 ex) pins σ Q) (λ_ _=>IV) s
 elt:∀C s0 H0 ex,GE (kU X scope cl C N s0 H0 ex) elt f
theorem nz {prog:Ik}{w:Ix}{B:Iu}{s:Hm}{E:Hj->Hm->Prop}{Q:Hj->Hm->Prop}{D:Ht}{its:Hg Hj}{n:Ho}{u:Hj}(e:s.heap.get? D=gV { cls:=.type "list",data:=.seq its.toArray n })(hz:its.length < sizeLine)
  (h:∀h' n',h'.get? D=gV { cls:=.type "list",data:=.seq (its++[u]).toArray n' }->(∀b o,b≠D->s.heap.get? b=gV o->h'.get? b=gV o)->Q .none { s with heap:=h' }) :
  wpAny (model prog w) B (call (.builtin "list.append") [.ref D,u]) Q E s:=by
 refine Ll F.slot_list_append #[_,e,rfl] F.entry_list_append (F.args_list_append_2 _ _) (NJ D its.toArray n u (by rw[HH]; omega)) #[e,?_]
 have q:=N6 e (λa=>a.push u)
 have e2:its.toArray.push u=(its++[u]).toArray:=by simp
 rw[e2]at q;exact h _ _ q (λb o hb ho=>(IN s.heap (Ji λa=>a.push u) (Ne.symm hb)).trans ho)
theorem lQ {scope:Kz}{cl:Hg (HJ×Ht)}{N:Hg HJ}{cap:Hg (Hn Ho)}{tg elt iter:HS}{ifs:Hg HS}{g:FG}{c:FT}{f:FE}{pos:JY}{A:Hg Ht}{ρ:Fm}{S S':aa}{mi:MI}{n:Ho}{ws:Hg W}{E:Hj->Hm->Prop}
  {it:Ht} {fp:Hg Ht} {tn:Ho->IG->Prop} {J:It} {RR:Hj->Ht->N2->Hm->Prop}
  (I:Inv X pins σ H s) (hc:X.calm=true) (er:EnvRel X.K A H ρ σ) (so:StoreOk X.w X.K A H S) (ck:CompOk X scope cl N cap) (bk:BlockOk X scope cl N tg elt ifs g c f)
  (T:Turn X.prog X.w X.K tg J fp it tn) (t0:tn 0 s.heap) (hfp:∀b∈fp,iL X pins H b) (mit:MIt X.w X.K mi J A H) (e:bL mi g c f n 0 (eZ cap ρ) S=gV (ws,S')) (hz:ws.length<=sizeLine)
  (fin:∀D C s' H' A' vs m,s'.heap.Ns C m->H' D=td->D≠C->C≠X.env.locals->C∉X.fs->H' C=td->X.s₀.heap.objs.size<=C->(∀x c,X.env.cells.lookup x=gV c->c≠C)->(∀p∈X.pn++pins,p.1≠C)->
   Inv X pins σ (bQ H' D (.lst vs)) s'->Ext X.K A H A' H'->StoreOk X.w X.K A' H' S'->RelL X.K A' H' ws vs->RR (.ref D) C (.ok .next) s') :
  wpAny (model X.prog X.w) X.A (newList []) (λacc s₃=>wpAny (model X.prog X.w) X.A (newFunctionEnv scope X.env.globals cl [] X.env.qual td .none (gV X.env)) (λcenv s₄=>
   codeAny (model X.prog X.w) X.A (.compStart (.ListComp elt [#[tg,iter,ifs,0]] scope pos) 0 (.ref it) acc { cenv with scope:=relabel scope X.env }) (RR acc cenv.locals) s₄) E s₃) E s:=by
 refine IH (wpAny_newFunctionEnv ck.nocell (by intro y hy; simp at hy) (λh₁ hns₁ hsb₁=>?_) ck.kind)
 dsimp only at hns₁ hsb₁ ⊢;generalize hH2:s.heap.push { cls:=.type "list",dict:=td,data:=.seq ([]:Hg Hj).toArray }=h2 at hns₁ hsb₁ ⊢;have hCs:h2.objs.size=s.heap.objs.size+1:=by rw[<- hH2,ON]
 have k2:∀b o,s.heap.get? b=gV o->h2.get? b=gV o:=λb o z=>hH2 ▸ Hr _ z
 have lt2:∀b o,h2.get? b=gV o->b < h2.objs.size:=λb o z=>HN z
 have k1:∀b o,h2.get? b=gV o->h₁.get? b=gV o:=λb o z=>hsb₁.extBut b o (Il (lt2 b o z)) (Hr _ z)
 have hD2:h2.get? s.heap.objs.size=gV { cls:=.type "list",data:=.seq ([]:Hg Hj).toArray }:=hH2 ▸ HM _ rfl;have hDC:s.heap.objs.size≠h2.objs.size:=by rw[hCs]; omega
 have fresh:∀a,s.heap.objs.size<=a->H a=td:=λa ha=>I.hok.fresh ha
 have cellLt:∀x c,X.env.cells.lookup x=gV c->c < s.heap.objs.size:=λx c z=>let ⟨_,q⟩:=I.cell x c z; q.lt
 have fpLt:∀b∈fp,b < s.heap.objs.size:=λb hb=>let ⟨_,q,_⟩:=T.obj 0 s.heap t0 b hb; HN q
 have stkLt:∀b∈pQ X.stack,b < s.heap.objs.size:=λb hb=>let ⟨_,o,q,_⟩:=I.stack.mem hb; HN q
 have baseLt:∀b o,X.base.get? b=gV o->b < s.heap.objs.size:=λb o z=>HN (I.bk b o z)
 have fpStk:∀b∈fp,b∉pQ X.stack:=λb hb z=>by
  rcases HW.mp (I.stkSub b z)with q|q
  ·exact(hfp b hb).2.1 q
  ·exact(hfp b hb).2.2.1 q
 have fpBase:∀b∈fp,∀o,X.base.get? b≠gV o:=λb hb o z=>by
  rcases(hfp b hb).2.2.2.1 with q|q
  ·exact I.ok.noex b o z q
  ·exact absurd (Ig (HN (I.ok.bs b o z).1) q) (IX _)
 have ltC:∀ {b:Ht},b < s.heap.objs.size->b≠h2.objs.size:=λhb=>by rw[hCs]; exact Il (Nat.lt_succ_of_lt hb)
 let s3:Hm:={ s with heap:=h2 }
 have ok':(kU X scope cl h2.objs.size N s3 H (fp++[s.heap.objs.size])).Ok:=by
  refine Cy I ck (show s.heap.objs.size<=h2.objs.size by rw[hCs]; omega) (Hz _) k2 λb hb=>?_
  rcases HY.mp hb with hb|hb
  ·exact#[ltC (fpLt b hb),(hfp b hb).2.2.2.2.1,fpBase b hb,fpStk b hb]
  ·have eb:b=s.heap.objs.size:=by simpa using hb
   subst eb;exact#[hDC,λx c z=>Il (cellLt x c z),λo z=>IX _ (baseLt _ o z),λz=>IX _ (stkLt _ z)]
 obtain⟨m0,hn0,hl0⟩:=I.loc;have I0:Inv (kU X scope cl h2.objs.size N s3 H (fp++[s.heap.objs.size])) [] (cap.map λo=>match o with|some j=>(σ[j]?).join|none=>td) H { s3 with heap:=h₁,toks:=s3.toks+([]:Hg (HJ×Hj)).length }:=by
  refine#[ok',rfl,I.bare,Un.kept k1,#[_,hns₁,λi x v e1 e2 e3=>?_],λx cc z=>?_,fresh _ (show s.heap.objs.size<=h2.objs.size by rw[hCs]; exact KH _),λx cc z=>I.freeC x cc (ck.sub x cc z),λp hp=>absurd hp (by simp[kU]),(I.hok.kept k2).kept k1,by rw[Hh]; exact ck.len]
  ·rw[Hq]at e2;cases q:cap[i]? with
   | none=>rw[q]at e2; cases e2
   | some oj=>
    rw[q]at e2;cases oj with
    | none=>cases e2
    | some j=>
     obtain⟨z1,z2,z3⟩:=ck.cap i j x q e1;have e2':(σ[j]?).join=gV v:=by simpa using e2
     have e2'':σ[j]?=gV (gV v):=by
      cases r:σ[j]? with
      | none=>rw[r]at e2'; cases e2'
      | some y=>rw[r]at e2'; exact congrArg gV e2'
     obtain⟨u,ru,lk⟩:=hl0 j x v z1 e2'' (by
      rcases z2 with z|z
      ·exact .inr (.inl z)
      ·exact .inr (.inr z))
     refine#[u,ru,?_];rcases lk with⟨zk,_⟩|⟨_,cc,zc,zi⟩
     ·rcases z2 with z|z <;> (rw[zk]at z; cases z)
     ·obtain⟨c2,hc2⟩:=ck.has x z3;have:=ck.sub x c2 hc2;rw[zc]at this; cases this
      refine .inr #[z3,cc,hc2,?_];obtain⟨o,ho,hd⟩:=zi;exact#[o,k1 _ _ (k2 _ _ ho),hd]
  ·obtain⟨v,o,ho,hd⟩:=I.cell x cc (ck.sub x cc z);exact#[v,o,k1 _ _ (k2 _ _ ho),hd]
 have er0:EnvRel X.K A H (eZ cap ρ) (cap.map λo=>match o with|some j=>(σ[j]?).join|none=>td):=by
  refine#[by simp[eZ],λi w q=>?_]
  unfold eZ at q;rw[Hq]at q ⊢;cases r:cap[i]? with
  | none=>rw[r]at q; cases q
  | some oj=>
   rw[r]at q;cases oj with
   | none=>cases q
   | some j=>
    have q':(ρ[j]?).join=gV w:=by simpa using q
    have q'':ρ[j]?=gV (gV w):=by
     cases z:ρ[j]? with
     | none=>rw[z]at q'; cases q'
     | some y=>rw[z]at q'; exact congrArg gV q'
    obtain⟨v,z1,z2⟩:=er.2 j w q'';exact#[v,by simp[z1],z2]
 have t1:tn 0 h₁:=T.keep 0 s.heap h₁ t0 λb hb o z=>k1 b o (k2 b o z)
 have fpOk':∀ {H':Hp} {pp:Hg (Ht×Jo)},(∀b∈fp,H' b=td)->(∀p∈pp,p.1=s.heap.objs.size)->∀b∈fp,iL (kU X scope cl h2.objs.size N s3 H (fp++[s.heap.objs.size])) pp H' b:=λhn hp b hb=>
  #[hn b hb,ltC (fpLt b hb),fpStk b hb,.inl (JI _ hb),λx cc z=>(hfp b hb).2.2.2.2.1 x cc (ck.sub x cc z),λp hpp=>by
   rw[hp p (by simpa [kU]using hpp)]
   exact(Il (fpLt b hb)).symm]
 have DinEx:s.heap.objs.size∈fp++[s.heap.objs.size]:=Ip _ (by simp)
 have cellD:∀x c,cl.lookup x=gV c->c≠s.heap.objs.size:=λx cc z=>Il (cellLt x cc (ck.sub x cc z))
 have fpD:∀b∈fp,b≠s.heap.objs.size:=λb hb=>Il (fpLt b hb)
 have theEnd:∀s' σ' H' A' vs its nn,Inv (kU X scope cl h2.objs.size N s3 H (fp++[s.heap.objs.size])) [] σ' H' s'->s'.heap.get? s.heap.objs.size=gV { cls:=.type "list",data:=.seq its nn }->∀(hits:∃l:Hg Hj,its=l.toArray/\Vals vs l),H' s.heap.objs.size=td->Ext X.K A H A' H'->StoreOk X.w X.K A' H' S'->RelL X.K A' H' ws vs->
   RR (.ref s.heap.objs.size) h2.objs.size (.ok .next) s':=by
  intro s' σ' H' A' vs its nn I' hD hits hDn ex so' rl;obtain⟨l,rfl,rv⟩:=hits;obtain⟨m,hn,_⟩:=id I'.loc;have un:Un (pQ X.stack) (fp++[s.heap.objs.size]) H H' s.heap s'.heap:=(Un.kept k2).trans I'.base;have hch:∀b∈fp++[s.heap.objs.size],(b∈X.ex\/X.s₀.heap.objs.size<=b)/\b≠X.env.locals/\(∀x c,X.env.cells.lookup x=gV c->c≠b)/\∀p∈X.pn++pins,p.1≠b:=λb hb=>by
   rcases HY.mp hb with hb|hb
   ·exact#[(hfp b hb).2.2.2.1,(hfp b hb).2.1,(hfp b hb).2.2.2.2.1,(hfp b hb).2.2.2.2.2]
   ·have eb:b=s.heap.objs.size:=by simpa using hb
    subst eb;exact#[.inr I.sz,(Il I.lt).symm,λx cc z=>Il (cellLt x cc z),λp hp=>Il (HN (I.pin p hp).1)]
  have I2:Inv X pins σ H' s':=I.call' (show s'.os=s.os from I'.os) un I'.hok I'.bare hch
  have I3:Inv X pins σ (bQ H' s.heap.objs.size (.lst vs)) s':=Inv.adopt I2 hDn (hch _ DinEx).1 (hch _ DinEx).2.1 (hch _ DinEx).2.2.1 (hch _ DinEx).2.2.2 #[by rw[<- rl.length]; exact hz,l,nn,rv,hD]
  have hCle:s.heap.objs.size<=h2.objs.size:=by rw[hCs]; exact KH _
  exact fin _ _ s' H' A' vs m hn hDn hDC (Ks (Ig I.lt hCle)) (I.nofs hCle) I'.free (HZ I.sz hCle) (λx cc z=>Il (Ig (cellLt x cc z) hCle))
   (λp hp=>Il (Ig (HN (I.pin p hp).1) hCle)) I3 ex so' rl
 have loop:∀s4:Hm,s4={ s3 with heap:=h₁,toks:=s3.toks+([]:Hg (HJ×Hj)).length }->
   codeAny (model X.prog X.w) X.A (.compLoop (.ListComp elt [#[tg,iter,ifs,0]] scope pos) 0 (.ref it) (.ref s.heap.objs.size) (compEnvC scope cl h2.objs.size X.env)) (RR (.ref s.heap.objs.size) h2.objs.size) s4:=by
  rintro s4 rfl;refine gD (λk s5=>∃i σ5 H5 A5 ρ5 S5 done its nn vs ys,Inv (kU X scope cl h2.objs.size N s3 H (fp++[s.heap.objs.size])) [] σ5 H5 s5/\tn i s5.heap/\(∀b∈fp,H5 b=td)/\s5.heap.get? s.heap.objs.size=gV { cls:=.type "list",data:=.seq (its:Hg Hj).toArray nn }/\H5 s.heap.objs.size=td/\Vals vs its/\
   Ext X.K A H A5 H5/\EnvRel X.K A5 H5 ρ5 σ5/\StoreOk X.w X.K A5 H5 S5/\RelL X.K A5 H5 done vs/\ws=done++ys/\bL mi g c f k i ρ5 S5=gV (ys,S')) ?_ n
   #[0,_,H,A,_,S,[],[],0,[],ws,I0,t1,λb hb=>(hfp b hb).1,k1 _ _ hD2,fresh _ (Hz _),.nil,.refl,er0,so,.nil,rfl,e]
  rintro k s5 ⟨i,σ5,H5,A5,ρ5,S5,done,its,nn,vs,ys,I5,t5,f5,d5,n5,v5,e5,er5,so5,rl5,hw5,w5⟩;have pinD:Inv (kU X scope cl h2.objs.size N s3 H (fp++[s.heap.objs.size])) [(s.heap.objs.size,{ cls:=.type "list",data:=.seq its.toArray nn })] σ5 H5 s5:=I5.pins_of λp hp=>by
   have hp':p=(s.heap.objs.size,{ cls:=.type "list",data:=.seq its.toArray nn }):=by simpa using hp
   subst hp';exact#[d5,n5,hDC,λz=>IX _ (stkLt _ z),λv z=>by cases z]
  have oneD:∀p∈[(s.heap.objs.size,({ cls:=.type "list",data:=.seq its.toArray nn }:Jo))],p.1=s.heap.objs.size:=λp hp=>by
   have hp':p=(s.heap.objs.size,{ cls:=.type "list",data:=.seq its.toArray nn }):=by simpa using hp
   rw[hp']
  cases k with
  | zero=>
   dsimp only[bL]at w5;split at w5
   ·rename_i hst;cases w5;rw[Jl]at hw5;subst hw5;refine bo (T.done (kU X scope cl h2.objs.size N s3 H (fp++[s.heap.objs.size])) rfl rfl rfl hc i _ s5 σ5 H5 _ pinD (fpOk' f5 oneD) t5 (mit.stop A5 H5 _ i e5 so5 hst)) λr s6 #[hr,I6]=>?_
    subst hr;have p6:=I6.pin _ (Ip _ (HB.mpr rfl));exact theEnd s6 σ5 H5 A5 vs _ nn (I6.pins_of λp hp=>absurd hp (by simp)) p6.1 #[its,rfl,v5] n5 e5 so5 rl5
   ·cases w5
  | succ k=>
   dsimp only[bL]at w5;split at w5
   ·rename_i w hw;obtain⟨go,yl⟩:=mit.go A5 H5 S5 i w e5 so5 hw;refine bo (T.item (kU X scope cl h2.objs.size N s3 H (fp++[s.heap.objs.size])) rfl rfl rfl hc i _ s5 σ5 H5 _ pinD (fpOk' f5 oneD) t5 go) λr s6 #[u,hr,h6]=>?_
    subst hr;refine bo h6 λ_ s7 #[x,H7,I7,r7,y7,t7,f7]=>?_
    obtain⟨x1,x2,x3⟩:=yl x H7 y7;have I7':=I7.pinned (fpOk' f7 oneD) (T.obj _ _ t7);split at w5
    ·rename_i ρ8 S8 h8;refine bo (bk.tgt _ _ _ _ _ s7 σ5 H7 x u (λσ' H'=>∃A',Ext X.K A5 H5 A' H'/\StoreOk X.w X.K A' H' S8/\EnvRel X.K A' H' ρ8 σ') I7' r7 #[A5,ρ5,S5,w,ρ8,S8,er5.mono x1,x2,x3,h8,λσ' H' A' q1 q2 q3=>#[A',x1.trans q1,q2,q3]]) λ_ s8 #[σ8,H8,I8,A8,e58,so8,er8]=>?_
     have e8:Ext X.K A H A8 H8:=e5.trans e58;have pD:∀ {σ':L2.St} {H':Hp} {s':Hm},Inv (kU X scope cl h2.objs.size N s3 H (fp++[s.heap.objs.size])) ([(s.heap.objs.size,{ cls:=.type "list",data:=.seq its.toArray nn })]++iM fp s7.heap) σ' H' s'->s'.heap.get? s.heap.objs.size=gV { cls:=.type "list",data:=.seq its.toArray nn }/\H' s.heap.objs.size=td:=λI'=>
      let q:=I'.pin _ (Ip _ (JI _ (HB.mpr rfl)))
      #[q.1,q.2.1]
     have pF:∀ {σ':L2.St} {H':Hp} {s':Hm},Inv (kU X scope cl h2.objs.size N s3 H (fp++[s.heap.objs.size])) ([(s.heap.objs.size,{ cls:=.type "list",data:=.seq its.toArray nn })]++iM fp s7.heap) σ' H' s'->(∀b∈fp,H' b=td)/\∀b∈fp,∀o,s7.heap.get? b=gV o->s'.heap.get? b=gV o:=λI'=>
      #[λb hb=>by
       obtain⟨o,eo,_⟩:=T.obj _ _ t7 b hb;exact(I'.pin (b,o) (Ip _ (Ip _ (eY hb eo)))).2.1,
       λb hb o eo=>(I'.pin (b,o) (Ip _ (Ip _ (eY hb eo)))).1]
     split at w5
     ·rename_i S9 h9;refine bo (bk.tst _ _ _ _ _ s8 σ8 H8 (λb H'=>b=true/\∃A',Ext X.K A8 H8 A' H'/\StoreOk X.w X.K A' H' S9) I8 #[A8,ρ8,S8,true,S9,er8,so8,h9,λb H' #[z0,A',z1,z2]=>#[z0,A',z1,z2]]) λb s9 #[H9,I9,z0,A9,e9,so9]=>?_
      subst z0;rw[HV rfl];split at w5
      ·rename_i y S10 h10;split at w5
       ·rename_i ys' S4 h11;cases w5;refine bo (bk.elt _ _ _ _ _ s9 σ8 H9 (EndV X.w X.K A9 H9 S10 y) I9 #[A9,ρ8,S9,y,S10,er8.mono e9,so9,h10,λ_ _ z=>z]) λu10 s10 #[v10,H10,I10,r10,A10,e10,so10,rl10]=>?_
        obtain⟨d10,n10⟩:=pD I10;obtain⟨f10,k10⟩:=pF I10;have hlen:its.length < sizeLine:=by
         have l1:=v5.length;have l2:=rl5.length;rw[hw5,Hk,Iw]at hz;omega
        refine nz d10 hlen λh' n' hd' hk'=>?_
        have Ib:Inv (kU X scope cl h2.objs.size N s3 H (fp++[s.heap.objs.size])) [] σ8 H10 { s10 with heap:=h' }:=by
         have Ia:Inv (kU X scope cl h2.objs.size N s3 H (fp++[s.heap.objs.size])) [] σ8 H10 s10:=I10.pins_of λp hp=>absurd hp (by simp)
         exact Ia.turned (t':=s10.toks) (it:=s.heap.objs.size) hk' n10 hDC (.inl DinEx) cellD (λp hp=>absurd hp (by simp[kU]))
        refine#[k,JE k,i+1,σ8,H10,A10,ρ8,S10,done++[y],its++[u10],n',vs++[v10],ys',Ib,?_,f10,hd',n10,v5.append #v[r10],(e8.trans e9).trans e10,(er8.mono e9).mono e10,so10,?_,?_,h11]
        ·exact T.keep (i+1) s7.heap h' t7 λb hb o eo=>hk' b o (fpD b hb) (k10 b hb o eo)
        ·exact(rl5.mono ((e58.trans e9).trans e10)).append #v[rl10]
        ·rw[hw5,KA]; rfl
       ·cases w5
      ·cases w5
     ·rename_i S9 h9;refine bo (bk.tst _ _ _ _ _ s8 σ8 H8 (λb H'=>b=false/\∃A',Ext X.K A8 H8 A' H'/\StoreOk X.w X.K A' H' S9) I8 #[A8,ρ8,S8,false,S9,er8,so8,h9,λb H' #[z0,A',z1,z2]=>#[z0,A',z1,z2]]) λb s9 #[H9,I9,z0,A9,e9,so9]=>?_
      subst z0;rw[Iv HK];obtain⟨d9,n9⟩:=pD I9;obtain⟨f9,k9⟩:=pF I9;refine#[k,JE k,i+1,σ8,H9,A9,ρ8,S9,done,its,nn,vs,ys,I9.pins_of λp hp=>absurd hp (by simp),T.keep (i+1) s7.heap _ t7 k9,f9,d9,n9,v5,e8.trans e9,er8.mono e9,so9,rl5.mono (e58.trans e9),hw5,w5]
     ·cases w5
    ·cases w5
   ·cases w5
 exact codeAny_compStart_list (loop _ rfl) (T.self X.A 0 _ _ _ t1 (loop _ rfl))
theorem oU {fi:FI}{g:FG}{c:FT}{f:FE}{cap:Hg (Hn Ho)}{ρ:Fm}{S:aa}{w:W}{S':aa}(e:jY fi g c f cap ρ S=gV (w,S')) :
  ∃mi S1 n ys S2,fi ρ S=gV (mi,S1)/\mi.len S1=gV n/\bL mi g c f n 0 (eZ cap ρ) S1=gV (ys,S2)/\ys.length<=sizeLine/\w=.ref S2.length/\S'=S2++[.lst ys]:=by
 unfold jY at e;split at e
 ·rename_i mi S1 h1;split at e
  ·rename_i n h2;split at e
   ·rename_i ys S2 h3;obtain⟨h4,h5,h6⟩:=jy e;exact#[mi,S1,n,ys,S2,h1,h2,h3,h4,h5,h6]
   ·cases e
  ·cases e
 ·cases e
theorem zV {scope:Kz}{N:Hg HJ}{cap:Hg (Hn Ho)}{tg elt iter:HS}{ifs:Hg HS}{fi:FI}{g:FG}{c:FT}{f:FE}{pos:JY}(hc:X.calm=true)(hi:GI X tg iter fi)(hck:X.Ok->∃cl,CompOk X scope cl N cap/\BlockOk X scope cl N tg elt ifs g c f)
  (hs:∀x,foldedSetIterable iter X.env x=pure x):GE X (.ListComp elt [#[tg,iter,ifs,0]] scope pos) (jY fi g c f cap):=by
 intro pins s σ H Q I ⟨A,ρ,S,w,S',er,so,e,hq⟩;obtain⟨mi,S1,n,ys,S2,h1,h2,h3,h4,rfl,rfl⟩:=oU e;obtain⟨cl,ck,bk⟩:=hck I.ok;rw[eval_ListComp];refine L6 (use:=td) rfl hs ck.clos ck.kind ck.names (bo (hi pins s σ H (λJ H'=>∃A',Ext X.K A H A' H'/\StoreOk X.w X.K A' H' S1/\MIt X.w X.K mi J A' H') I #[A,ρ,S,mi,S1,er,so,h1,λJ H' A' z1 z2 z3=>#[A',z1,z2,z3]]) λv s1 q1=>bo q1 λitv s2 q2=>?_)
 obtain⟨it,fp,tn,J,H2,rfl,I2,T,t0,hfp,A2,e2,so2,mit⟩:=q2;refine lQ (RR:=λacc C=>compPost (model X.prog X.w) X.A X.xe td (EP X pins σ Q) acc C) I2 hc (er.mono e2) so2 ck bk T t0 hfp mit h3 h4 ?_
 intro D C s' H' A' vs m hn hDn hDC hCL hCf hCn hCs hCc hCp I3 ex so3 rl;refine#[m,hn,λh' hs'=>?_]
 have I4:Inv X pins σ (bQ H' D (.lst vs)) { s' with heap:=h' }:=I3.turned (t':=s'.toks) (it:=C) (λb o hb eo=>hs'.extBut b o hb eo) (by rw[aH (Ne.symm hDC)]; exact hCn) hCL (.inr hCs) hCc hCp
 exact#[.ref D,_,I4,rfl,hq _ _ (EndV.after (e2.trans ex) (.lst so3 rl hDn))]
theorem ql {scope:Kz}{N:Hg HJ}{cap:Hg (Hn Ho)}{tg elt iter:HS}{ifs:Hg HS}{fi:FI}{g:FG}{c:FT}{f:FE}{pos py spos:JY}{y:HJ}{i:Ho}(hc:X.calm=true)(hi:GI X tg iter fi)(hck:X.Ok->∃cl,CompOk X scope cl N cap/\BlockOk X scope cl N tg elt ifs g c f)
  (hs:∀x,foldedSetIterable iter X.env x=pure x) (hsw:swapsWith (.ListComp elt [#[tg,iter,ifs,0]] scope pos) (gV (.Name y py)) spos.line X.env=pure true) (hN:X.N.Nodup) (hy:X.N[i]?=gV y) (hl:X.env.scope.names.lookup y=gV .local) :
  GS X (.Assign [.Name y py] (.ListComp elt [#[tg,iter,ifs,0]] scope pos) spos) (jX (jY fi g c f cap) (zI i)):=by
 intro pins s σ H Dd I ⟨A,ρ,S,o,S',er,so,e,hd⟩;unfold jX at e;split at e
 ·rename_i w S0 h0;simp only[zI]at e;cases e;obtain⟨mi,S1,n,ys,S2,h1,h2,h3,h4,rfl,rfl⟩:=oU h0;obtain⟨cl,ck,bk⟩:=hck I.ok;rw[exec_Assign_Name_used _ _ _ _ hsw];refine Hi (Lp (Hi ?_));show wpAny _ X.A (do let _ <- comprehension (.ListComp elt [⟨tg,iter,ifs,0⟩] scope pos) scope X.env _ (newList []) false (eval iter X.env) (gV (assign (.Name y py) X.env))) _ _ s
  refine Hi (Jx (L6 (use:=gV (assign (.Name y py) X.env)) (Q:=λ_ s'=>SP X pins Dd .next s') rfl hs ck.clos ck.kind ck.names
   (bo (hi pins s σ H (λJ H'=>∃A',Ext X.K A H A' H'/\StoreOk X.w X.K A' H' S1/\MIt X.w X.K mi J A' H') I #[A,ρ,S,mi,S1,er,so,h1,λJ H' A' z1 z2 z3=>#[A',z1,z2,z3]]) λv s1 q1=>bo q1 λitv s2 q2=>?_)) (λ_ s' hq=>Hx (Hx hq)) λ_ _ e=>e)
  obtain⟨it,fp,tn,J,H2,rfl,I2,T,t0,hfp,A2,e2,so2,mit⟩:=q2;refine lQ (RR:=λacc C=>compPost (model X.prog X.w) X.A X.xe (gV (assign (.Name y py) X.env)) (λ_ s'=>SP X pins Dd .next s') acc C) I2 hc (er.mono e2) so2 ck bk T t0 hfp mit h3 h4 ?_
  intro D C s' H' A' vs m hn hDn hDC hCL hCf hCn hCs hCc hCp I3 ex so3 rl;obtain⟨oC,esC,epC,hoC,hdC,hrC⟩:=id hn;have I3':Inv X (pins++[(C,oC)]) σ (bQ H' D (.lst vs)) s':=I3.pins_of λp hp=>by
   rcases HY.mp hp with hp|hp
   ·exact I3.pin p (Ip _ hp)
   ·have hp':p=(C,oC):=by simpa using hp
    subst hp';exact#[hoC,by rw[aH (Ne.symm hDC)]; exact hCn,hCL,hCf,λv z=>by rw[hdC]at z; cases z]
  show wpAny _ X.A (assign (.Name y py) X.env (.ref D)) _ _ _;refine NA (g7 I3' hN hy (.inl hl) (v:=.ref D) rfl (λs4 I4=>?_) (.inr hl))
  have pC:=I4.pin (C,oC) (Ip _ (Ip _ (HB.mpr rfl)));refine#[m,#[oC,esC,epC,pC.1,hdC,hrC],λh' hs'=>?_]
  have I5:Inv X pins (σ.set i (gV (.ref D))) (bQ H' D (.lst vs)) s4:=I4.pins_of λp hp=>I4.pin p (Ip _ (JI _ hp))
  have I6:Inv X pins (σ.set i (gV (.ref D))) (bQ H' D (.lst vs)) { s4 with heap:=h' }:=I5.turned (t':=s4.toks) (it:=C) (λb o hb eo=>hs'.extBut b o hb eo) (by rw[aH (Ne.symm hDC)]; exact hCn) hCL (.inr hCs) hCc hCp
  obtain⟨Af,f1,f2,f3⟩:=EndV.after (e2.trans ex) (EndV.lst so3 rl hDn);exact#[_,_,I6,hd.nx _ _ #[_,Af,rfl,f1,f2,(er.mono f1).set f3 i]]
 ·cases e
end
open PySem.Builtin.SmallTypes (nextOf)
section
variable{prog:Ik}{w:Ix}
structure Zit (prog:Ik)(w:Ix)(it:Ht)(T:Ho->IG->Prop)(C:IG->Prop)(i:Ho)(U:Hn (Hj->Prop)):Prop where
 keep:∀j h h',T j h->(∀o,h.get? it=gV o->h'.get? it=gV o)->T j h'
 next:∀V,U=gV V->∀(B:Iu) (s:Hm) (Q:Hj->Hm->Prop) (E:Hj->Hm->Prop),T i s.heap->C s.heap->(∀u h' tk,V u->T (i+1) h'->Kc it s.heap h'->Q u { s with heap:=h',toks:=tk })->wpAny (model prog w) B (nextOf (.ref it)) Q E s
 stop:U=td->∀(B:Iu) (s:Hm) (Q:Hj->Hm->Prop) (E:Hj->Hm->Prop),B.handled=td->T i s.heap->C s.heap->(∀h' e,ML it s.heap h'->(∃o,h'.get? e=gV o/\o.cls=.type "StopIteration")->E (.ref e) { s with heap:=h' })->wpAny (model prog w) B (nextOf (.ref it)) Q E s
variable{B:Iu}{E:Hj->Hm->Prop}{s:Hm}{z p q i1 i2:Ht}{T1 T2:Ho->IG->Prop}{C1 C2:IG->Prop}{i:Ho}{a b:Hj}
noncomputable def Zc (z q i1 i2:Ht)(C:IG->Prop):Prop:=∀h h',C h->(∀c o,c≠z->c≠q->c≠i1->c≠i2->h.get? c=gV o->h'.get? c=gV o)->C h'
end
end Mi
namespace Mi
open PySem PySem.Spec PyProof.Rows L2
open PySem.Builtin.SmallTypes (nextOf)
noncomputable def qm (prog:Ik)(w:Ix)(v:Hj)(o:Jo)(C:IG->Prop):Prop:=∀(B:Iu) (s:Hm) (Q:Hj->Hm->Prop) (E:Hj->Hm->Prop),C s.heap->Q (.ref s.heap.objs.size) { s with heap:=s.heap.push o }->wpAny (model prog w) B (pyIter v) Q E s
end Mi
namespace Mi
open PySem PySem.Spec PyProof.Rows L2
open PySem.Builtin.SmallTypes (nextOf)
section
variable{prog:Ik}{w:Ix}{A:Iu}{E:Hj->Hm->Prop}{s:Hm}
theorem Ec {it t:Ht}{i:Ho}{items:IC Hj}{x:Hj}{Q:Hj->Hm->Prop}(hit:s.heap.IsTupleIter it t i)(ht:s.heap.IsTuple t items)(hx:items[i]?=gV x)
  (hQ:∀h',h'.IsTupleIter it t (i+1)->Kc it s.heap h'->Q x { s with heap:=h' }):wpAny (model prog w) A (nextOf (.ref it)) Q E s:=by
 obtain⟨o,ho,hc,hd⟩:=id hit;obtain⟨ot,hot,_,nt,hdt⟩:=ht;unfold LP;refine Hi (IU (name:=JS "__next__") hit.typeIs F.slot_tuple_iterator_next (Je F.slot_tuple_iterator_next hit.typeIs F.entry_tuple_iterator_next ?_ (F.args_tuple_iterator_next_1 _)));show wpAny _ _ (field (.ref it) 0 >>= _) _ _ s;refine Hi (JK ho hd (x:=.ref t) rfl ?_);show wpAny _ _ (if (IB t==IK)=true then _ else _) _ _ s
 rw[Iv (show ¬ ((IB t==IK)=true)from HK)]
 show wpAny _ _ (field (.ref it) 1 >>= _) _ _ s;refine Hi (JK ho hd (x:=.int i 0) rfl (Hi (KI hot hdt ?_)));simp only[HF,hx];refine Hi (LH ho hd (by simp) (Hx #[x,rfl,Hx (hQ _ #[_,J3 _ ho (MH (K5 hd _)),(NQ ..).trans hc,?_] (KQ ..))]))
 rw[K5 hd]; simp[rawInt]
theorem Ed {it t:Ht}{i:Ho}{items:IC Hj}{Q:Hj->Hm->Prop}(hh:A.handled=td)(hit:s.heap.IsTupleIter it t i)(ht:s.heap.IsTuple t items)(hx:items[i]?=td)
  (hE:∀h' e,ML it s.heap h'->(∃o,h'.get? e=gV o/\o.cls=.type "StopIteration")->E (.ref e) { s with heap:=h' }):wpAny (model prog w) A (nextOf (.ref it)) Q E s:=by
 obtain⟨o,ho,hc,hd⟩:=id hit;obtain⟨ot,hot,_,nt,hdt⟩:=ht;unfold LP;refine Hi (IU (name:=JS "__next__") hit.typeIs F.slot_tuple_iterator_next (Je F.slot_tuple_iterator_next hit.typeIs F.entry_tuple_iterator_next ?_ (F.args_tuple_iterator_next_1 _)));show wpAny _ _ (field (.ref it) 0 >>= _) _ _ s;refine Hi (JK ho hd (x:=.ref t) rfl ?_);show wpAny _ _ (if (IB t==IK)=true then _ else _) _ _ s
 rw[Iv (show ¬ ((IB t==IK)=true)from HK)]
 show wpAny _ _ (field (.ref it) 1 >>= _) _ _ s;refine Hi (JK ho hd (x:=.int i 0) rfl (Hi (KI hot hdt ?_)));simp only[HF,hx];refine Hi (Nj (Hi (LH ho hd (by simp) ?_)))
 show wpAny _ _ (newExc (.type "StopIteration") [] >>= _) _ _ _;refine Hi ?_;simp only[newExc,newTuple];refine Hi (IH ?_ (by size_fits))
 refine Hi (m:=firstArgMember _ _) (MM (a:=IK) (by first|rfl|(simp only[firstArgMember]; rfl)) (IH ?_ (by size_fits)))
 simp only[raiseNew];refine Hi (O3 ?_)
 first|rw[show A.in1.handled=td from hh]|rw[hh]
 exact Hi (Hx (Pw (hE _ _ (((KQ ..).extBut.push _).push _) #[_,HM _ rfl,rfl])))
end
inductive Zs where|tup (a:Ht)|lst (a:Ht)|txt (x:HJ)
noncomputable def Zs.T (it:Ht):Zs->Ho->IG->Prop
 | .tup a,i,h=>h.IsTupleIter it a i
 | .lst a,i,h=>h.IsListIter it a i
 | .txt x,i,h=>∃t,h.IsStrIter it "str_ascii_iterator" x t i\/h.IsStrIter it "str_iterator" x t i
noncomputable def Zs.at (K:HA)(H:Hp)(i:Ho)(v:V):Zs->Prop
 | .tup a=>∃xs,SqT K H a xs/\xs[i]?=gV v
 | .lst a=>∃xs,SqL K H a xs/\xs[i]?=gV v
 | .txt x=>∃c,x.cps[i]?=gV c/\v=.str #[[c].toArray]
noncomputable def Zs.out (K:HA)(H:Hp)(i:Ho):Zs->Prop
 | .tup a=>∃xs,SqT K H a xs/\xs.length<=i
 | .lst a=>∃xs,SqL K H a xs/\xs.length<=i
 | .txt x=>x.cps.size<=i
theorem Zs.keep {S:Zs}{it:Ht}{j:Ho}{h h':IG}(t:S.T it j h)(k:∀o,h.get? it=gV o->h'.get? it=gV o):S.T it j h':=by
 cases S with
 | tup a=>exact t.at k
 | lst a=>exact t.at k
 | txt x=>
  obtain⟨tk,t⟩:=t;exact#[tk,t.imp (λ#[o,e,r]=>#[o,k _ e,r]) λ#[o,e,r]=>#[o,k _ e,r]]
section
variable{X:Cx}{pins:Hg (Ht×Jo)}{σ:L2.St}{H:Hp}{s:Hm}
theorem v6 (I:Inv X pins σ H s){a b:Ht}{o:Jo}(h:X.K.lookup a=gV o)(f:iL X pins H b):a≠b:=λz=>by
 subst z;have hb:=I.ok.mod.kin a o h;rcases f.2.2.2.1 with q|q
 ·exact I.ok.noex a o hb q
 ·exact absurd (Ig (HN (I.ok.bs a o hb).1) q) (IX _)
end
end Mi
namespace Mi
open PySem PySem.Spec PyProof.Rows L2
open PySem.Builtin.SmallTypes (nextOf)
section
variable{X:Cx}{pins:Hg (Ht×Jo)}{σ:L2.St}{H:Hp}{s:Hm}{h':IG}
theorem v8 {a b:Ht}{u:HO}(h:Rd H a u)(f:H b=td):a≠b:=λz=>by
 subst z;rcases h with h|⟨o,h⟩ <;> (rw[f]at h; cases h)
theorem Inv.turnedL {t':Ho}{ch:Hg Ht}(I:Inv X pins σ H s)(k:∀b o,b∉ch->s.heap.get? b=gV o->h'.get? b=gV o)(hf:∀b∈ch,iL X pins H b):Inv X pins σ H { s with heap:=h',toks:=t' }:=by
 have nit:∀b u,H b=gV u->b∉ch:=λb u e z=>by have:=(hf b z).1; rw[e]at this; cases this
 refine I.step (g':=s.gens) (d':=s.drawn) (ch:=ch) (λb hb=>?_) (λb o _ _ hc e _=>k b o hc e) (λb o _ _ hc e _=>#[o.slots,k b o hc e]) (λ_ _ _ _ n=>n) (λb o hc e=>#[o,k b o hc e]) (λ_ _ e=>e) (λ_ _ _ e=>e) (λb ps e=>#[#[],by rw[e]; simp]) (λm hm=>?_) (λb u e=>?_) I.bare
 ·obtain⟨_,f1,_,f3,f4,f5⟩:=hf b hb;exact#[f3,f1,f4,f5]
 ·obtain⟨o,es,ep,ho,r⟩:=hm;exact#[o,es,ep,k _ o (λz=>(hf _ z).2.1 rfl) ho,r]
 ·refine(I.hok b u e).stay (λc v hc q=>k c v ?_ q) (λ_ q=>q) λ_ _ q=>q
  rcases hc with z|z
  ·rw[z]; exact nit b u e
  ·exact nit c _ z
theorem Zs.zit {S:Zs}{it z q i1 i2:Ht}{i:Ho}{U:Hn V}(I:Inv X pins σ H s)(hf:∀b∈[z,q,i1,i2],iL X pins H b)(g:match U with|some v=>S.at X.K H i v|none=>S.out X.K H i) :
  ∃C,Zit X.prog X.w it (S.T it) C i (U.map λv u=>RelV v u)/\C s.heap/\Zc z q i1 i2 C:=by
 have zc:∀(a:Ht) (P:IG->Prop),(∀h h',P h->(∀o,h.get? a=gV o->h'.get? a=gV o)->P h')->(∀b∈[z,q,i1,i2],a≠b)->Zc z q i1 i2 P:=λa P hP hn h h' p k=>
  hP h h' p λo e=>k a o (hn z (by simp)) (hn q (by simp)) (hn i1 (by simp)) (hn i2 (by simp)) e
 have sep:∀ {a:Ht} {u:HO} {o:Jo} {b:Ht},(Rd H a u\/X.K.lookup a=gV o)->b∈[z,q,i1,i2]->a≠b:=λh hb=>h.elim (λr=>v8 r (hf _ hb).1) λr=>v6 I r (hf _ hb)
 cases S with
 | tup a=>
  obtain⟨xs,hq,hx⟩ : ∃xs,SqT X.K H a xs/\(match U with|some v=>xs[i]?=gV v|none=>xs.length<=i):=by
   cases U <;> exact g
  obtain⟨its,rv,p,_⟩:=I.tuple hq;have hne:∀b∈[z,q,i1,i2],a≠b:=λb hb=>by
   rcases hq with r|⟨o,_,_,r,_⟩
   ·exact v8 r (hf b hb).1
   ·exact v6 I r (hf b hb)
  refine#[λh=>h.IsTuple a its.toArray,#[λj h h' t k=>Zs.keep (S:=.tup a) t k,λV hV B s2 Q E t c hQ=>?_,λhU B s2 Q E hh t c hE=>?_],p,zc a _ (λh h' #[o,e,r] k=>#[o,k _ e,r]) hne]
  ·cases U with
   | none=>cases hV
   | some v=>
    cases hV;obtain⟨u,hu,ru⟩:=rv.get hx;exact Ec t c (x:=u) (by simpa using hu) λh' t' sb=>hQ u h' s2.toks ru t' sb
  ·cases U with
   | some v=>cases hU
   | none=>
    have:=L2.Vals.length rv;have hx':xs.length<=i:=hx;exact Ed hh t c (by simp; omega) hE
 | lst a=>
  obtain⟨xs,hq,hx⟩ : ∃xs,SqL X.K H a xs/\(match U with|some v=>xs[i]?=gV v|none=>xs.length<=i):=by
   cases U <;> exact g
  obtain⟨its,rv,p,_⟩:=I.list hq;have hne:∀b∈[z,q,i1,i2],a≠b:=λb hb=>by
   rcases hq with r|⟨o,_,_,r,_⟩
   ·exact v8 r (hf b hb).1
   ·exact v6 I r (hf b hb)
  refine#[λh=>h.IsList a its.toArray,#[λj h h' t k=>Zs.keep (S:=.lst a) t k,λV hV B s2 Q E t c hQ=>?_,λhU B s2 Q E hh t c hE=>?_],p.isList,zc a _ (λh h' #[o,e,r] k=>#[o,k _ e,r]) hne]
  ·cases U with
   | none=>cases hV
   | some v=>
    cases hV;obtain⟨u,hu,ru⟩:=rv.get hx;exact wpAny_nextOf_list_item t c (x:=u) (by simpa using hu) λh' t' sb=>hQ u h' s2.toks ru t' sb
  ·cases U with
   | some v=>cases hU
   | none=>
    have:=L2.Vals.length rv;have hx':xs.length<=i:=hx;exact wpAny_nextOf_list_end hh t c (by simp; omega) hE
 | txt x=>
  refine#[λ_=>Ow,#[λj h h' t k=>Zs.keep (S:=.txt x) t k,λV hV B s2 Q E t _ hQ=>?_,λhU B s2 Q E hh t _ hE=>?_],trivial,λ_ _ _ _=>trivial]
  ·cases U with
   | none=>cases hV
   | some v=>
    cases hV;obtain⟨c,hc,rfl⟩ : ∃c,x.cps[i]?=gV c/\v=.str #[[c].toArray]:=g;obtain⟨tk,t|t⟩:=t
    ·exact wpAny_nextOf_ascii_item t hc λh' t' sb=>hQ _ h' _ #[_,rfl] #[tk,.inl t'] sb
    ·exact wpAny_nextOf_wide_item t hc λh' t' sb=>hQ _ h' _ #[_,rfl] #[tk,.inr t'] sb
  ·cases U with
   | some v=>cases hU
   | none=>
    have hx:x.cps[i]?=td:=by simpa using(show x.cps.size<=i from g)
    obtain⟨tk,t|t⟩:=t
    ·exact wpAny_nextOf_ascii_end hh t hx hE
    ·exact wpAny_nextOf_wide_end hh t hx hE
end
noncomputable def Zs.is (K:HA)(H:Hp)(i:Ho)(v:V):Zs->Prop
 | .tup a=>∀xs,SqT K H a xs->xs[i]?=gV v
 | .lst a=>∀xs,SqL K H a xs->xs[i]?=gV v
 | .txt x=>∃c,x.cps[i]?=gV c/\v=.str #[[c].toArray]
theorem Zs.at_is {S:Zs}{X:Cx}{pins:Hg (Ht×Jo)}{σ:L2.St}{H:Hp}{s:Hm}{i:Ho}{v:V}(I:Inv X pins σ H s)(h:S.at X.K H i v):S.is X.K H i v:=by
 cases S with
 | tup a=>obtain⟨xs,hq,hx⟩:=h; exact λys hy=>by rw[I.tuple_inj hy hq]; exact hx
 | lst a=>obtain⟨xs,hq,hx⟩:=h; exact λys hy=>by rw[I.list_inj hy hq]; exact hx
 | txt x=>exact h
end Mi
namespace Mi
open PySem PySem.Spec PyProof.Rows L2
noncomputable def Fj:W->Hn (Hg W)
 | .tup xs=>gV xs
 | .str x=>gV (x.cps.toList.map λc=>.str #[[c].toArray])
 | _=>td
section
variable{X:Cx}{pins:Hg (Ht×Jo)}{σ:L2.St}{H:Hp}{s:Hm}{A:Hg Ht}
noncomputable def ZRel (K:HA)(A:Hg Ht)(H:Hp)(xs:Hg W):Zs->Prop
 | .tup a=>∃vs,SqT K H a vs/\RelL K A H xs vs
 | .lst a=>IV
 | .txt x=>xs=x.cps.toList.map λc=>.str #[[c].toArray]
theorem ZRel.mono {K:HA}{A A':Hg Ht}{H H':Hp}{xs:Hg W}{S:Zs}(e:Ext K A H A' H')(h:ZRel K A H xs S):ZRel K A' H' xs S:=by
 cases S with
 | tup a=>obtain⟨vs,h1,h2⟩:=h; exact#[vs,e.tp _ _ h1,h2.mono e]
 | lst a=>exact h
 | txt x=>exact h
theorem ZRel.at {K:HA}{xs:Hg W}{S:Zs}{i:Ho}{w:W}(h:ZRel K A H xs S)(hi:xs[i]?=gV w):∃v,S.at K H i v/\Rel K A H w v:=by
 cases S with
 | tup a=>obtain⟨vs,h1,h2⟩:=h; obtain⟨v,h3,h4⟩:=h2.get hi; exact#[v,#[vs,h1,h3],h4]
 | lst a=>exact h.elim
 | txt x=>
  have h:xs=x.cps.toList.map λc=>.str #[[c].toArray]:=h
  subst h;rw[Hq,Hl]at hi;obtain⟨c,hc,rfl⟩:=hi;exact#[.str #[[c].toArray],#[c,by rw[<- Jp]; exact hc,rfl],.str]
theorem ZRel.is {K:HA}{xs:Hg W}{S:Zs}{i:Ho}{w:W}{v:V}(h:ZRel K A H xs S)(hi:xs[i]?=gV w)(z:S.is K H i v):Rel K A H w v:=by
 obtain⟨v',h1,h2⟩:=h.at hi;cases S with
 | tup a=>
  obtain⟨vs,q,e⟩:=h1;have:=z vs q;rw[e]at this; cases this
  exact h2
 | lst a=>exact h.elim
 | txt x=>
  obtain⟨c,e,rfl⟩:=h1;obtain⟨c',e',rfl⟩:=z;rw[e]at e'; cases e'
  exact h2
theorem ZRel.out {K:HA}{xs:Hg W}{S:Zs}{i:Ho}(h:ZRel K A H xs S)(hi:xs.length<=i):S.out K H i:=by
 cases S with
 | tup a=>obtain⟨vs,h1,h2⟩:=h; exact#[vs,h1,by rw[<- h2.length]; exact hi]
 | lst a=>exact h.elim
 | txt x=>
  have h:xs=x.cps.toList.map λc=>.str #[[c].toArray]:=h
  subst h;show x.cps.size<=i
  simpa using hi
theorem zW {x:W}{v:V}{u:Hj}{xs:Hg W}(I:Inv X pins σ H s)(r:Rel X.K A H x v)(ru:RelV v u)(e:Fj x=gV xs) :
  ∃(S:Zs) (o:Jo) (C:IG->Prop),ZRel X.K A H xs S/\qm X.prog X.w u o C/\C s.heap/\(∀h o,C h->C (h.push o))/\o.isFreed=false/\∀it h,h.get? it=gV o->S.T it 0 h:=by
 cases r with
 | @tup ws a vs hq rl=>
  cases e;obtain⟨its,rv,p,_⟩:=I.tuple hq;obtain rfl:u=IB a:=ru;exact#[.tup a,{ cls:=.type "tuple_iterator",data:=.fields [.ref a,.int 0 0].toArray },λh=>h.IsTuple a its.toArray,#[vs,hq,rl],λB s Q E c hQ=>Nt c hQ,p,λh o #[ot,e,r]=>#[ot,Hr _ e,r],rfl,λit h e=>#[_,e,rfl,rfl]]
 | @str x=>
  cases e;obtain⟨t,rfl⟩:=ru;cases ha:x.cps.all (· < 128)with
  | false=>exact#[.txt x,{ cls:=.type "str_iterator",data:=.fields [.str x t,.int 0 0].toArray },λ_=>Ow,rfl,λB s Q E _ hQ=>wpAny_pyIter_wide ha hQ,trivial,λ_ _ _=>trivial,rfl,λit h e=>#[t,.inr #[_,e,rfl,rfl]]]
  | true=>exact#[.txt x,{ cls:=.type "str_ascii_iterator",data:=.fields [.str x t,.int 0 0].toArray },λ_=>Ow,rfl,λB s Q E _ hQ=>wpAny_pyIter_ascii ha hQ,trivial,λ_ _ _=>trivial,rfl,λit h e=>#[t,.inl #[_,e,rfl,rfl]]]
 | _=>cases e
end
open PySem.Builtin.SmallTypes (nextOf)
section
variable{prog:Ik}{w:Ix}{B:Iu}{E:Hj->Hm->Prop}{s:Hm}{e it:Ht}{T:Ho->IG->Prop}{C:IG->Prop}{i:Ho}{old:Hj}
structure EnAt (h0 h:IG)(e it:Ht)(fs:IC Hj)(T:IG->Prop):Prop where
 here:h.get? e=gV { cls:=.type "enumerate",dict:=td,data:=.fields fs,slots:=#[] }
 turn:T h
 kept:∀b o,b≠e->b≠it->h0.get? b=gV o->h.get? b=gV o
theorem EnAt.put {h0:IG}{fs:IC Hj}{T:IG->Prop}{k:Ho}{v:Hj}{Q:Unit->Hm->Prop}(x:EnAt h0 s.heap e it fs T)(hne:e≠it)(kT:∀h h',T h->(∀o,h.get? it=gV o->h'.get? it=gV o)->T h')(hk:k < fs.size)
  (q:∀h',EnAt h0 h' e it (fs.setIfInBounds k v) T->Kc e s.heap h'->Q () { s with heap:=h' }):wpAny (model prog w) B (setField (.ref e) k v) Q E s:=
 wpAny_setField_rec x.here hk λh' y sb=>q h' #[y,kT _ _ x.turn λo z=>sb.extBut _ _ (Ne.symm hne) z,λb o h1 h2 z=>sb.extBut b o h1 (x.kept b o h1 h2 z)] sb
theorem lR {U:Hn (Hj->Prop)}{Q:Hj->Hm->Prop}(Z:Zit prog w it T C i U)(hh:B.handled=td)(he:PR s.heap e it (i:Hv) old)(t:T i s.heap)(c:C s.heap)(hne:e≠it)
  (hI:∀V,U=gV V->∀u h' tk tk0,V u->IsEnumOut h' e it ((i:Hv)+1) u s.heap.objs.size->T (i+1) h'->h'.get? s.heap.objs.size=gV { cls:=.type "tuple",data:=.seq [.int i tk0,u].toArray }->
   (∀b o,b≠e->b≠it->s.heap.get? b=gV o->h'.get? b=gV o)->Q (.ref s.heap.objs.size) { s with heap:=h',toks:=tk })
  (hE:U=td->∀h' x,ML it s.heap h'->(∃o,h'.get? x=gV o/\o.cls=.type "StopIteration")->E (.ref x) { s with heap:=h' }) :
  wpAny (model prog w) B (Mm.«enumerate.__next__» #[[.ref e],[]]) (λfin s'=>∃v,fin=.done (.ret v)/\Q v s') E s:=by
 obtain⟨hp,g,d,tk,os⟩:=s;show wpAny _ _ (field (.ref e) 2 >>= _) _ _ _;refine Hi (JK he rfl (x:=.ref it) rfl (Hi ?_));cases U with
 | none=>exact Z.stop rfl _ _ _ _ hh t c λh' x a b=>hE rfl h' x a b
 | some V=>
  refine Z.next V rfl _ _ _ _ t c λu ha tka hu ta sba=>?_
  have kT:=Z.keep (i+1);have xa:EnAt hp ha e it [.none,.bool false,.ref it,rawInt i,.none,old].toArray (T (i+1)):=#[(sba.2 e hne).trans he,ta,λb o _ h2 z=>sba.extBut b o h2 z]
  have za:ha.objs.size=hp.objs.size:=sba.1;clear sba ta;show wpAny _ _ (field (.ref e) 3 >>= _) _ _ #[ha,g,d,tka,os];refine Hi (JK xa.here rfl (x:=rawInt i) rfl ?_);show wpAny _ _ (field (.ref e) 4 >>= _) _ _ #[ha,g,d,tka,os];refine Hi (JK xa.here rfl (x:=.none) rfl ?_);show wpAny _ _ (mkInt i >>= _) _ _ #[ha,g,d,tka,os];refine Hi (Oj (Hi (xa.put (s:=#[ha,g,d,tka+1,os]) hne kT (by simp) λhb xb sb1=>Hi (xb.put (s:=#[hb,g,d,tka+1,os]) hne kT (by simp) λhc xc sb2=>Hi (OL ?_)))))
  have zc:hc.objs.size=hp.objs.size:=by rw[sb2.1,<- za]; exact sb1.1
  have hel:hp.objs.size≠e:=Ks (HN he);have new:=HM hc (o:={ cls:=.type "tuple",data:=.seq [.int i tka,u].toArray }) rfl;have xd:EnAt hp (hc.push { cls:=.type "tuple",data:=.seq [.int i tka,u].toArray }) e it [.none,.bool false,.ref it,rawInt ((i:Hv)+1),.none,old].toArray (T (i+1)):=#[Hr _ xc.here,kT _ _ xc.turn λo z=>Hr _ z,λb o h1 h2 z=>Hr _ (xc.kept b o h1 h2 z)]
  rw[zc]at new;show wpAny _ _ (KU (.ref e) >>= _) _ _ #[hc.push _,g,d,tka+1,os];rw[zc];generalize hc.push { cls:=.type "tuple",data:=.seq [.int i tka,u].toArray }=hd at new xd ⊢;clear zc sb2 xc sb1 xb hb xa za;refine Hi ?_;unfold KU;refine Hi (JK xd.here rfl (x:=.none) rfl (Hx ?_));simp only[Km];refine Hi (Nj (Hi (JK xd.here rfl (x:=old) rfl (Hi (xd.put (s:=#[hd,g,d,tka+1,os]) hne kT (by simp) λh1 x1 s1=>Hi ?_)))))
  unfold M3;refine Hi (x1.put (s:=#[h1,g,d,tka+1,os]) hne kT (by simp) λh2 x2 s2=>x2.put (s:=#[h2,g,d,tka+1,os]) hne kT (by simp) λh3 x3 s3=>Hi (Lq (Hx #[_,rfl,hI V rfl u h3 (tka+1) tka hu x3.here x3.turn ?_ x3.kept])))
  exact s3.extBut _ _ hel (s2.extBut _ _ hel (s1.extBut _ _ hel new))
variable{v:Hj}{o:Jo}
theorem oV (h1:qm prog w v o C) :
  MeetsIn prog w (Mm.«enumerate.__new__» #[[.type "enumerate",v],[]]) (λ_ R s=>C s.heap/\R (.ok (.ret (.ref (s.heap.push o).objs.size))) { s with heap:=(s.heap.push o).push { cls:=.type "enumerate",data:=.fields [.none,.bool false,.ref s.heap.objs.size,rawInt 0,.none,.none].toArray } }):=
 .of_wp λA R s h=>by
  obtain⟨hp,g,d,tk,os⟩:=s;obtain⟨c,h⟩:=h;have hsub:=sub_enumerate;have d1:∀(B:Iu) (Q:Hj->Hm->Prop) (E:Hj->Hm->Prop),Q (.ref hp.objs.size) #[hp.push o,g,d,tk,os]->wpAny (model prog w) B (pyIter v) Q E #[hp,g,d,tk,os]:=λB Q E q=>h1 B #[hp,g,d,tk,os] Q E c q
  wp_walk
  refine wpAny_stack_any λst=>Hx ?_
  split
  ·rename_i c _ _ _ _ _;cases(c==KF "enumerate")
   ·wp_walk using d1 _ _ _
    exact#[_,rfl,h]
   ·wp_walk using d1 _ _ _
    exact#[_,rfl,h]
  ·wp_walk using d1 _ _ _
   exact#[_,rfl,h]
theorem tR {Q:Hj->Hm->Prop}(h1:qm prog w v o C)(c:C s.heap)(n1:o.isFreed=false)
  (h:∀h',PR h' (s.heap.objs.size+1) s.heap.objs.size 0 .none->h'.get? s.heap.objs.size=gV o->(∀b o,s.heap.get? b=gV o->h'.get? b=gV o)->Q (.ref (s.heap.objs.size+1)) { s with heap:=h' }) :
  wpAny (model prog w) B (call (.type "enumerate") [v]) Q E s:=by
 refine callType_newIn F.called_enumerate #v[] (F.typeCall_enumerate_1 _) (F.newCall_enumerate_1 _) (λobj=>F.args_object_init_2 obj _) F.entry_enumerate_new (oV h1) #[c,?_]
 have hz:(s.heap.push o).objs.size=s.heap.objs.size+1:=ON ..;show _/\_;rw[hz];have he:PR ((s.heap.push o).push { cls:=.type "enumerate",data:=.fields [.none,.bool false,.ref s.heap.objs.size,rawInt 0,.none,.none].toArray }) (s.heap.objs.size+1) s.heap.objs.size 0 .none:=by
  have:=HM (s.heap.push o) (o:={ cls:=.type "enumerate",data:=.fields [.none,.bool false,.ref s.heap.objs.size,rawInt 0,.none,.none].toArray }) rfl;rw[hz]at this; exact this
 exact#[#[_,he,rfl],h _ he (Hr _ (HM _ n1)) λb o x=>Hr _ (Hr _ x)]
end
noncomputable def GN (K:HA)(S1:Zs):It:=
 #[λi H=>∃x,S1.at K H i x,λi H v H'=>∃p x,S1.is K H i x/\v=.ref p/\H p=td/\H'=bQ H p (.tup [.int i,x]),λi H=>S1.out K H i]
theorem tU {P:Ik}{w:Ix}{K:HA}{els:Hg HS}{k0:Ho}{tp:JY}{S1:Zs}{z i1:Ht}(D:z≠i1) :
  Turn P w K (.Tuple els k0 tp) (GN K S1) [z,i1] z (λi h=>(∃old,PR h z i1 i old)/\S1.T i1 i h) where
 mem:=by simp
 obj:=λi h #[#[old,a],d] b' hb=>by
  have it:∀ {S:Zs} {it:Ht},S.T it i h->∃o,h.get? it=gV o/\∀v,o.data≠.cell v:=λ{S it} t=>by
   cases S with
   | tup a=>obtain⟨o,e,_,d⟩:=t; exact#[o,e,λv z=>by rw[d]at z; cases z]
   | lst a=>obtain⟨o,e,_,d⟩:=t; exact#[o,e,λv z=>by rw[d]at z; cases z]
   | txt x=>obtain⟨tk,⟨o,e,_,d⟩|⟨o,e,_,d⟩⟩:=t <;> exact#[o,e,λv z=>by rw[d]at z; cases z]
  simp only[HW,IR,Kr]at hb;rcases hb with rfl|rfl
  ·exact#[_,a,λv z=>by cases z]
  ·exact it d
 keep:=λi h h' #[#[old,a],d] k=>#[#[old,k z (by simp) _ a],Zs.keep d (k i1 (by simp))]
 item:=by
  intro X hP hw hK hc i pins s σ H E I hf st hg;subst hP hw hK;obtain⟨x,g1⟩:=hg;obtain⟨⟨old,a⟩,d⟩:=st;have hf4:∀b∈[z,z,i1,i1],iL X pins H b:=λb hb=>hf b (by simp only[HW,IR,Kr]at hb ⊢; rcases hb with h|h|h|h <;> simp[h])
  obtain⟨C1,Z1,c1,k1⟩:=Zs.zit (it:=i1) (U:=gV x) I hf4 g1;have hT:s.TypeIs (.ref z) "enumerate":=#[_,a,rfl];unfold pyNext;refine Hi (L4 (IU (name:=JS "__next__") hT F.slot_enumerate_next (Je F.slot_enumerate_next hT F.entry_enumerate_next ?_ (F.args_enumerate_next_1 _))));refine lR Z1 (I.ok.hd hc) a d c1 D (λV e1 u g tk tk0 r1 zg t1 ng kp=>?_) (λz=>by cases z)
  cases e1;refine Hx #[_,rfl,?_];refine wpAny_letOwnedTupleGo_enum (s:={ s with heap:=g,toks:=tk }) zg λg' zg' sb=>?_
  have N0:H s.heap.objs.size=td:=I.hok.fresh (Hz _);have lt:∀ {b:Ht},b∈[z,i1]->s.heap.objs.size≠b:=λ{b} hb=>by
   have:∃o,s.heap.get? b=gV o:=by
    have it:∀ {S:Zs} {it:Ht},S.T it i s.heap->∃o,s.heap.get? it=gV o:=λ{S it} t=>by
     cases S with
     | tup a=>obtain⟨o,e,_⟩:=t; exact#[o,e]
     | lst a=>obtain⟨o,e,_⟩:=t; exact#[o,e]
     | txt x=>obtain⟨tk,⟨o,e,_⟩|⟨o,e,_⟩⟩:=t <;> exact#[o,e]
    simp only[HW,IR,Kr]at hb;rcases hb with rfl|rfl
    ·exact#[_,a]
    ·exact it d
   obtain⟨o,e⟩:=this;exact Ks (HN e)
  have up:∀b o,b∉[z,i1]->s.heap.get? b=gV o->g'.get? b=gV o:=λb o hb e=>by
   simp only[HW,IR,Kr,Ph]at hb;exact sb.extBut _ _ hb.1 (kp b o hb.1 hb.2 e)
  have I1:Inv X pins σ H { s with heap:=g',toks:=tk }:=Mi.Inv.turnedL I up hf
  have ng':g'.get? s.heap.objs.size=gV { cls:=.type "tuple",data:=.seq [.int i tk0,u].toArray }:=sb.extBut _ _ (lt (by simp)) ng
  have I2:Inv X pins σ (bQ H s.heap.objs.size (.tup [.int i,x])) { s with heap:=g',toks:=tk }:=by
   refine Mi.Inv.adopt I1 N0 (.inr I.sz) (Ks I.lt) (λw c e=>?_) (λp hp=>?_) #[#[by show 2<=sizeLine; decide,#[_,ng',rfl]],[.int i tk0,u],.cons #[_,rfl] #v[r1],#[_,ng',rfl,0,rfl]]
   ·obtain⟨v,q⟩:=I.cell w c e;exact Il q.lt
   ·exact Il (HN (I.pin p hp).1)
  refine#[.ref s.heap.objs.size,_,I2,rfl,#[s.heap.objs.size,x,Zs.at_is I g1,rfl,N0,rfl],#[#[_,zg'],Zs.keep t1 λo e=>sb.extBut _ _ (Ne.symm D) e],λb hb=>?_]
  rw[aH (Ne.symm (lt hb))];exact(hf b hb).1
 done:=by
  intro X hP hw hK hc i pins s σ H E I hf st hg;subst hP hw hK;obtain⟨⟨old,a⟩,d⟩:=st;have hf4:∀b∈[z,z,i1,i1],iL X pins H b:=λb hb=>hf b (by simp only[HW,IR,Kr]at hb ⊢; rcases hb with h|h|h|h <;> simp[h])
  obtain⟨C1,Z1,c1,k1⟩:=Zs.zit (it:=i1) (U:=td) I hf4 hg;have hT:s.TypeIs (.ref z) "enumerate":=#[_,a,rfl];unfold pyNext;refine Hi (L4 (IU (name:=JS "__next__") hT F.slot_enumerate_next (Je F.slot_enumerate_next hT F.entry_enumerate_next ?_ (F.args_enumerate_next_1 _))));refine lR Z1 (I.ok.hd hc) a d c1 D (λV e1=>by cases e1) λ_ h' e k #[o,ho,hc]=>?_
  exact Hi (Ma (T:="StopIteration") (b:=true) #[o,ho,hc] OI (Hx #[rfl,Mi.Inv.turnedL (t':=s.toks) I (λb o hb e=>by
    simp only[HW,IR,Kr,Ph]at hb;exact k b o hb.2 e) hf]))
 self:=λ_ _ _ _ _ st h=>by obtain⟨⟨old,a⟩,_⟩:=st; exact NT a h
noncomputable def iU (xs:Hg W):Hg W:=xs.zipIdx.map λp=>.tup [.int (p.2:Ho),p.1]
theorem jZ {xs:Hg W}{i:Ho}{w:W}(h:(iU xs)[i]?=gV w):∃x,xs[i]?=gV x/\w=.tup [.int i,x]:=by
 unfold iU at h;rw[Hq,List.getElem?_zipIdx,Option.map_map,Hl]at h;obtain⟨x,h1,rfl⟩:=h;exact#[x,h1,by simp]
noncomputable def wa (f:FA):FI:=λρ S=>match f ρ S with
 | some ([x],S1)=>match Fj x with
  | some xs=>gV (.its (iU xs),S1)
  | none=>td
 | _=>td
section
variable{X:Cx}{pins:Hg (Ht×Jo)}{σ:L2.St}{H:Hp}{s:Hm}{A:Hg Ht}
theorem wb {S1:Zs}{xs:Hg W}(z1:ZRel X.K A H xs S1):MIt X.w X.K (.its (iU xs)) (GN X.K S1) A H:=by
 refine#[λA' H' S i w e so hi=>?_,λA' H' S i e so hi=>?_]
 ·simp only[MI.at,ID]at hi;obtain⟨x,e1,rfl⟩:=jZ hi;obtain⟨v,g1,r1⟩:=(z1.mono e).at e1;refine#[#[v,g1],λp H2 #[a,v',q1,hp,hn,hH]=>?_]
  subst hp hH;have ex:Ext X.K A' H' A' (bQ H' a (.tup [.int i,v'])):=dj (.inl hn);exact#[ex,so.lay hn,.tup (.of aZ) #v[.int,((z1.mono e).is e1 q1).mono ex]]
 ·simp only[MI.at,ID,JD,iU,Hh,List.length_zipIdx]at hi;exact(z1.mono e).out hi
theorem tV:bootBuiltins "enumerate" = gV (.type "enumerate"):=rfl
theorem zX {els:Hg HS}{k0:Ho}{tp:JY}{a:HS}{f:FA}{p pos:JY}(hg:Gl X "enumerate")(hm:X.mg "enumerate" = td)(ha:GA X [a] f)(hs:starEach [a] X.env=[(false,eval a X.env)]) :
  GI X (.Tuple els k0 tp) (.Call (.Name "enumerate" p) [a] [] pos) (wa f):=by
 intro pins s σ H R I ⟨A,ρ,S,mi,S',er,so,e,hq⟩;unfold wa at e;split at e
 ·rename_i x S1 h1;split at e
  ·rename_i xs e1;cases e;refine Call_ (iK I hg hm tV (JR (bo (ha pos pins s σ H _ I #[A,ρ,S,_,_,er,so,h1,λ_ _ z=>z]) λus s1 #[vs,H1,I1,r1,A1,z1,z2,z3]=>?_) (by rw[hs]; rfl) (by rfl)))
   cases z3 with
   | cons ra t=>
    cases t;cases r1 with
    | cons ua t=>
     cases t;obtain⟨Sa,oa,Ca,za,ia,ca,ka,na,ta⟩:=zW I1 ra ua e1;refine tR ia ca na λh' hz g1 kp=>?_
     have I2:Inv X pins σ H1 { s1 with heap:=h' }:=I1.kept (t':=s1.toks) kp
     refine NT (s:={ s1 with heap:=h' }) hz ?_
     refine#[s1.heap.objs.size+1,_,_,_,H1,rfl,I2,tU (S1:=Sa) (i1:=s1.heap.objs.size) (by simp),#[#[_,hz],ta _ _ g1],λb hb=>?_,hq _ _ A1 z1 z2 (wb za)]
     have hb':s1.heap.objs.size<=b:=by
      simp only[HW,IR,Kr]at hb;rcases hb with rfl|rfl
      ·exact Nat.le_add_right _ _
      ·exact Hz _
     exact I1.fpOk hb' (I1.hok.fresh hb')
  ·cases e
 ·cases e
end
end Mi
namespace Mi
open PySem PySem.Spec PyProof.Rows L2
noncomputable def Ee (g1 g2:Hg W->aa->Hn (W×aa))(xs:Hg W)(S:aa):Hn (W×aa):=match g1 xs S with
 | some r=>gV r
 | none=>g2 xs S
theorem wc {X:Cx}{f:Hj}{g1 g2:Hg W->aa->Hn (W×aa)}(h1:LCall X f g1)(h2:LCall X f g2):LCall X f (Ee g1 g2):=by
 intro pins s σ H A S xs vs us w S' I so rl rv e;unfold Ee at e;split at e
 ·rename_i r hr;cases e;exact h1 pins s σ H A S xs vs us w S' I so rl rv hr
 ·exact h2 pins s σ H A S xs vs us w S' I so rl rv e
inductive Bi where|len|list|tuple|int|sorted|range|all|min
 deriving KC
noncomputable def Bi.fn:Bi->Hg W->aa->Hn (W×aa)
 | .len=>qf|.list=>Ee lF lJ|.tuple=>jV|.int=>DX|.sorted=>ii|.range=>qb|.all=>B6|.min=>zn
noncomputable def Bi.name:Bi->HJ
 | .len=>"len"|.list=>"list"|.tuple=>"tuple"|.int=>"int"|.sorted=>"sorted"|.range=>"range"|.all=>"all"|.min=>"min"
inductive Me where|append|extend|join|pop|get|index
 deriving KC
noncomputable def Me.fn:Me->W->Hg W->aa->Hn (W×aa)
 | .append=>hX|.extend=>hZ|.join=>vp|.pop=>B3|.get=>rF|.index=>ib
noncomputable def Me.name:Me->HJ
 | .append=>"append"|.extend=>"extend"|.join=>"join"|.pop=>"pop"|.get=>"get"|.index=>"index"
noncomputable def Me.ty:Me->Jb
 | .append=>"list"|.extend=>"list"|.join=>"str"|.pop=>"list"|.get=>"dict"|.index=>"tuple"
inductive Tg where
 | nm (i:Ho)|tp (is:Hg Ho)
set_option genSizeOf false in
set_option genInjectivity false in
mutual
inductive E where
 | c (w:W)|v (i:Ho)
 | op (o:BOp) (a b:E)
 | cmp (o:COp) (a b:E)
 | and (a b:E)|or (a b:E)|not (a:E)
 | own (f:HJ) (n:Ho) (es:Es)|bi (b:Bi) (es:Es)|me (m:Me) (o:E) (es:Es)
 | ix (a b:E)|sl (a:E) (lo hi:Ep)|tup (es:Es)|lst (es:Es)
 | isi (c:Jb) (a:E)
 | neg (a:E)|dnew|disp (es:Es)|chn (o o':COp) (a b d:E)|ite (t a b:E)
 | comp (elt:E) (tg:Tg) (it:Ie) (cs:Es) (cap:Hg (Hn Ho))
inductive Es where
 | nil|cons (e:E) (es:Es)
inductive Ep where
 | no|yes (e:E)
inductive Ie where
 | seq (e:E)|rng (es:Es)|rng2 (es:Es)|enu (es:Es)
end
set_option genSizeOf false in
set_option genInjectivity false in
mutual
inductive Sm where
 | set (i:Ho) (e:E)|asg (is:Hg Ho) (e:E)|par (i j:Ho) (es:Es)|put (o k e:E)
 | ex (e:E)|ret (e:E)|retN|pass|brk|cont|bad
 | ite (t:E) (a b:Ss)|whl (t:E) (b:Ss)|loop (tg:Tg) (it:Ie) (b:Ss)
inductive Ss where
 | nil|cons (s:Sm) (ss:Ss)
end
noncomputable def eL:Tg->FG
 | .nm i=>zI i
 | .tp is=>Dl is
section
variable (Φ:HJ->FF)
mutual
noncomputable def az:E->FE
 | .c w=>fC w
 | .v i=>fV i
 | .op o a b=>zo (hG o) (az a) (az b)
 | .cmp o a b=>zp o (az a) (az b)
 | .and a b=>rL (az a) (az b)
 | .or a b=>zu (az a) (az b)
 | .not a=>rM (az a)
 | .own f n es=>oQ n (Φ f) (db es)
 | .bi b es=>jk b.fn (db es)
 | .me m o es=>Dk m.ty m.fn (az o) (db es)
 | .ix a b=>F8 (az a) (az b)
 | .sl a lo hi=>D5 (az a) (rT lo) (rT hi)
 | .tup es=>vM (db es)
 | .lst es=>vN (db es)
 | .isi c a=>vX c (az a)
 | .neg a=>vG (az a)
 | .dnew=>AO
 | .disp es=>oT (db es)
 | .chn o o' a b d=>fP o o' (az a) (az b) (az d)
 | .ite t a b=>zv (cU t) (az a) (az b)
 | .comp elt tg it cs cap=>jY (jv it) (eL tg) (zY cs) (az elt) cap
noncomputable def cU:E->FT
 | .cmp o a b=>oP (zp o (az a) (az b))
 | .and a b=>vK (cU a) (cU b)
 | .or a b=>D2 (cU a) (cU b)
 | .not a=>zq (cU a)
 | .c w=>gC (fC w)
 | .v i=>gC (fV i)
 | .op o a b=>gC (zo (hG o) (az a) (az b))
 | .own f n es=>gC (oQ n (Φ f) (db es))
 | .bi b es=>gC (jk b.fn (db es))
 | .me m o es=>gC (Dk m.ty m.fn (az o) (db es))
 | .ix a b=>gC (F8 (az a) (az b))
 | .sl a lo hi=>gC (D5 (az a) (rT lo) (rT hi))
 | .tup es=>gC (vM (db es))
 | .lst es=>gC (vN (db es))
 | .isi c a=>gC (vX c (az a))
 | .neg a=>gC (vG (az a))
 | .dnew=>λ_ _=>td
 | .disp _=>λ_ _=>td
 | .chn o o' a b d=>oP (fP o o' (az a) (az b) (az d))
 | .ite _ _ _=>λ_ _=>td
 | .comp _ _ _ _ _=>λ_ _=>td
noncomputable def db:Es->FA
 | .nil=>ik
 | .cons e es=>dH (az e) (db es)
noncomputable def zY:Es->FT
 | .nil=>AQ
 | .cons e .nil=>cU e
 | .cons _ (.cons _ _)=>λ_ _=>td
noncomputable def rT:Ep->FO
 | .no=>Cm
 | .yes e=>rP (az e)
noncomputable def jv:Ie->FI
 | .seq e=>eQ (az e)
 | .rng es=>qi (db es)
 | .rng2 es=>iRng2 (db es)
 | .enu es=>wa (db es)
end
variable (fuel:Ho)
mutual
noncomputable def fJ:Sm->FS
 | .set i e=>jX (az Φ e) (zI i)
 | .asg is e=>jX (az Φ e) (Dl is)
 | .par i j es=>zK i j (db Φ es)
 | .put o k e=>jX (az Φ e) (zJ (az Φ o) (az Φ k))
 | .ex e=>zC (az Φ e)
 | .ret e=>zF (az Φ e)
 | .retN=>λ_ S=>gV (.rt .non,S)
 | .pass=>vS
 | .brk=>λρ S=>gV (.bk ρ,S)
 | .cont=>λρ S=>gV (.ct ρ,S)
 | .bad=>λ_ _=>td
 | .ite t a b=>zH (cU Φ t) (fR a) (fR b)
 | .whl t b=>nw (cU Φ t) (fR b) fuel
 | .loop tg it b=>vV (jv Φ it) (eL tg) (fR b)
noncomputable def fR:Ss->FS
 | .nil=>λρ S=>gV (.nx ρ,S)
 | .cons s ss=>zB (fJ s) (fR ss)
end
end
structure Gam where
 sc:Hg (HJ×Jz)
 N:Hg HJ
 fns:Hg (HJ×Ho)
 blt:Hg HJ
 dfn:HU
noncomputable def Cz:Hn Jz->HU
 | some .local=>true|some .cell=>true|some .free=>true|_=>false
noncomputable def zZ:Hn Jz->HU
 | some .cell=>true|some .free=>true|_=>false
noncomputable def fS (names outer:Hg (HJ×Jz)):Hg (HJ×Jz):=names.map λ(n,k)=>if (k==.free&&outer.lookup n==gV .cell)then(n,.cell)else(n,k)
noncomputable def slot (Γ:Gam)(x:HJ):Hn Ho:=if Cz (Γ.sc.lookup x) && !(x==("__debug__" : HJ)) && !(x==("__classdict__" : HJ))then Γ.N.findIdx? (· == x)else td
noncomputable def rV:NC->Hn BOp
 | .Add=>gV .add|.Sub=>gV .sub|.Mult=>gV .mul|.FloorDiv=>gV .fdiv|.Mod=>gV .mod|.Pow=>gV .pow|_=>td
noncomputable def jl:Oh->Hn COp
 | .Eq=>gV .eq|.NotEq=>gV .ne|.Lt=>gV .lt|.LtE=>gV .le|.Gt=>gV .gt|.GtE=>gV .ge|.In=>gV .isin|.NotIn=>gV .notin|.Is=>gV .is|.IsNot=>gV .isnot
noncomputable def z5 (x:HJ):Hn Bi:=[Bi.len,.list,.tuple,.int,.sorted,.range,.all,.min].find? λb=>b.name==x
noncomputable def z6 (x:HJ):Hn Me:=[Me.append,.extend,.join,.pop,.get,.index].find? λb=>b.name==x
noncomputable def Ef (Γ:Gam)(x:HJ):HU:=Γ.sc.lookup x==gV .globalImplicit && !(x==("__debug__" : HJ))
noncomputable def we (x:HJ):Hn Jb:=if x==("bool" : HJ)then gV "bool" else if x==("int" : HJ)then gV "int" else if x==("str" : HJ)then gV "str" else if x==("tuple" : HJ)then gV "tuple" else if x==("list" : HJ)then gV "list" else if x==("dict" : HJ)then gV "dict" else td
noncomputable def rW:Hg (Hn HS)->Hg HS->Hg HS
 | some k::ks,v::vs=>k::v::rW ks vs
 | _,_=>[]
noncomputable def z7 (Γ:Gam)(f:HS->Hn E):Hg HS->Hn E
 | [a,.Name c _]=>if Ef Γ c&&Γ.blt.contains c then match we c,f a with
  | some cs,gV a'=>gV (.isi cs a')
  | _,_=>td
  else td
 | _=>td
noncomputable def gk:HS->HU
 | .Name _ _=>true|.Constant _ _ _=>true|.Subscript _ _ _=>true|_=>false
noncomputable def lc (Γ:Gam)(x:HJ):HU:=Γ.sc.lookup x==gV .globalImplicit && !(x==("__debug__" : HJ))
noncomputable def dc (Γ:Gam)(x:HJ):Hn Ho:=if (Γ.sc.lookup x==gV .local)||(Γ.dfn&&Γ.sc.lookup x==gV .cell)then Γ.N.findIdx? (· == x)else td
noncomputable def cA (f:HS->Hn E)(es:Hg HS):Hn Es:=es.foldr (λe acc=>match f e,acc with|some e',gV es'=>gV (.cons e' es')|_,_=>td) (gV .nil)
noncomputable def cB (f:HS->Hn E)(op:PQ):Hg HS->Hn E
 | []=>td
 | [a]=>f a
 | a::b::cv=>match f a,cB f op (b::cv)with
  | some a',gV b'=>gV (match op with|.And=>.and a' b'|.Or=>.or a' b')
  | _,_=>td
noncomputable def cP (f:HS->Hn E):Hn HS->Hn Ep
 | none=>gV .no
 | some e=>(f e).map .yes
noncomputable def isTup:HS->HU
 | .Tuple _ _ _=>true
 | _=>false
noncomputable def cI (Γ:Gam)(f:HS->Hn E)(tg:HS):HS->Hn Ie
 | .Call (.Name x p) [a] [] q=>if x==("range" : HJ)&&lc Γ x&&Γ.blt.contains x then(cA f [a]).map .rng else if x==("enumerate" : HJ)&&lc Γ x&&Γ.blt.contains x&&isTup tg then(cA f [a]).map .enu else(f (.Call (.Name x p) [a] [] q)).map .seq
 | .Call (.Name x p) [a,b] [] q=>if x==("range" : HJ)&&lc Γ x&&Γ.blt.contains x then(cA f [a,b]).map .rng2 else(f (.Call (.Name x p) [a,b] [] q)).map .seq
 | e=>(f e).map .seq
noncomputable def Dm (Γ:Gam):Hg HS->Hn (Hg Ho)
 | []=>gV []
 | .Name x _::ts=>match dc Γ x,Dm Γ ts with
  | some i,gV is=>gV (i::is)
  | _,_=>td
 | _::_=>td
noncomputable def cT (Γ:Gam):HS->Hn Tg
 | .Name x _=>(dc Γ x).map .nm
 | .Tuple ts _ _=>(Dm Γ ts).map .tp
 | _=>td
noncomputable def gI (names:Hg (HJ×Jz)):Hg HJ:=(names.filter λp=>p.2==.local||p.2==.free).map (·.1)
noncomputable def gw (Γ:Gam)(names:Hg (HJ×Jz)):Hg (Hn Ho):=(gI names).map λx=>if names.lookup x==gV .local then td else Γ.N.findIdx? (· == x)
noncomputable def wf (Γ:Gam)(scope:Kz):HU:=
 (scope.kind==.function)&&scope.names.all (λy=>!(y.2==.local)||scope.names.lookup y.1==gV .local)&&scope.names.all (λy=>!(y.2==.cell)) &&
 scope.names.all (λy=>!(y.2==.free)||(zZ (Γ.sc.lookup y.1)&&scope.names.lookup y.1==gV .free&&(Γ.N.findIdx? (· == y.1)).isSome))&&decide (gI scope.names).Nodup
noncomputable def gJ (Γ:Gam)(scope:Kz):Gam:={ Γ with sc:=fS scope.names Γ.sc,N:=gI scope.names,dfn:=false }
noncomputable def wg (f:HS->Hn E)(keys:Hg (Hn HS))(values:Hg HS):Hn E:=
 if keys.isEmpty&&values.isEmpty then gV .dnew
 else if keys.all (·.isSome)&&decide (keys.length=values.length)&&decide (keys.length<=15)then(cA f (rW keys values)).map .disp else td
noncomputable def cE:Ho->Gam->HS->Hn E
 | 0,_,_=>td
 | n+1,Γ,e=>match e with
  | .Constant (.int i) _ _=>gV (.c (.int i))
  | .Constant (.str x) _ _=>gV (.c (.str x))
  | .Constant (.bool b) _ _=>gV (.c (.bl b))
  | .Constant .none _ _=>gV (.c .non)
  | .Name x _=>match slot Γ x with
   | some i=>gV (.v i)
   | none=>td
  | .BinOp a op b _=>match rV op,cE n Γ a,cE n Γ b with
   | some o,gV a',gV b'=>gV (.op o a' b')
   | _,_,_=>td
  | .UnaryOp .Not a _=>(cE n Γ a).map .not
  | .UnaryOp .USub a _=>(cE n Γ a).map .neg
  | .BoolOp op vs _=>cB (cE n Γ) op vs
  | .Compare a [op] [b] _=>match jl op,cE n Γ a,cE n Γ b with
   | some o,gV a',gV b'=>gV (.cmp o a' b')
   | _,_,_=>td
  | .Compare a [op,op'] [b,d] _=>match jl op,jl op',cE n Γ a,cE n Γ b,cE n Γ d with
   | some o,gV o',gV a',gV b',gV d'=>gV (.chn o o' a' b' d')
   | _,_,_,_,_=>td
  | .IfExp t a b _=>match cE n Γ t,cE n Γ a,cE n Γ b with
   | some t',gV a',gV b'=>gV (.ite t' a' b')
   | _,_,_=>td
  | .Call (.Name f _) args [] _=>if lc Γ f then match Γ.fns.lookup f with
    | some k=>(cA (cE n Γ) args).map (.own f k)
    | none=>if f==("isinstance" : HJ)then(if Γ.blt.contains f then z7 Γ (cE n Γ) args else td)else match z5 f,args with
     | some b,a::as=>if Γ.blt.contains f then(cA (cE n Γ) (a::as)).map (.bi b)else td
     | _,_=>td
   else td
  | .Call (.Attribute o m apos) (a::as) [] cpos=>match z6 m,cE n Γ o,cA (cE n Γ) (a::as)with
   | some m',gV o',gV es=>if gk o&&(apos.endLine==cpos.line)&&decide ((a::as).length < 29)then gV (.me m' o' es)else td
   | _,_,_=>td
  | .Subscript a (.Slice lo hi td _) _=>match cE n Γ a,cP (cE n Γ) lo,cP (cE n Γ) hi with
   | some a',gV lo',gV hi'=>gV (.sl a' lo' hi')
   | _,_,_=>td
  | .Subscript a b _=>match cE n Γ a,cE n Γ b with
   | some a',gV b'=>gV (.ix a' b')
   | _,_=>td
  | .Tuple es _ _=>(cA (cE n Γ) es).map .tup
  | .List es _=>(cA (cE n Γ) es).map .lst
  | .Dict keys values _=>wg (cE n Γ) keys values
  | .ListComp elt [#[tg,iter,ifs,asy]] scope _=>if (asy==0)&&(wf Γ scope&&decide (ifs.length<=1))then
    match cI Γ (cE n Γ) tg iter,cT (gJ Γ scope) tg,cA (cE n (gJ Γ scope)) ifs,cE n (gJ Γ scope) elt with
    | some it,gV t,gV cs,gV el=>gV (.comp el t it cs (gw Γ scope.names))
    | _,_,_,_=>td
   else td
  | _=>td
structure CtxOk (Φ:HJ->FF)(X:Cx)(Γ:Gam):Prop where
 names:X.env.scope.names=Γ.sc
 kind:X.env.scope.kind=.function
 N:X.N=Γ.N
 nd:Γ.N.Nodup
 calm:X.calm=true
 xe:X.xe=λ_ _=>IV
 un:X.A.units+fM < cLine
 dfn:Γ.dfn=true->∀x,X.fn x=true
 blt:∀x∈Γ.blt,X.mg x=td
 fns:∀f n,Γ.fns.lookup f=gV n->∃k fa fd ps,FnOk X.prog X.w X.K X.mg X.base uE k fa fd ps (vQ X.w X.K n (Φ f))/\Room k X.A/\X.mg f=gV (.ref fa)/\Jd X.K (.ref fa)=true/\Binds X.K fd ps []
theorem aI {α:Type}{x:α}{P:Prop}(h:(td:Hn α)=gV x):P:=nomatch h
noncomputable def gT:HS->HU
 | .Starred _ _=>false
 | _=>true
theorem aA {e:HS}{es:Hg HS}{env:Nz}(h:gT e=true):starEach (e::es) env=(false,eval e env)::starEach es env:=by
 cases e <;> first|rfl|cases h
theorem ba {env:Nz}{pos:JY}:∀ {es:Hg HS},es.all gT=true->(backTo pos (starEach es env)).any (·.1)=false
 | [],_=>rfl
 | e::es,h=>by
  rw[IF,Hs]at h;rw[aA h.1];show(false||(backTo pos (starEach es env)).any (·.1))=false
  rw[ba h.2];rfl
theorem oW {env:Nz}{pos:JY}:∀ {es:Hg HS},es.all gT=true->(backTo pos (starEach es env)).all (λx=>!x.1)=true
 | [],_=>rfl
 | e::es,h=>by
  rw[IF,Hs]at h;rw[aA h.1];show(true&&(backTo pos (starEach es env)).all (λx=>!x.1))=true
  rw[oW h.2];rfl
theorem iV {n:Ho}{Γ:Gam}{e:HS}{e':E}(h:cE n Γ e=gV e'):gT e=true:=by
 cases n with
 | zero=>cases h
 | succ n=>cases e <;> first|rfl|(exact aI h)
theorem io {f:HS->Hn E}{e:HS}{es:Hg HS}{r:Es}(h:cA f (e::es)=gV r):∃e' es',f e=gV e'/\cA f es=gV es'/\r=.cons e' es':=by
 simp only[cA,Oq]at h;split at h
 ·rename_i e' es' h1 h2;cases h;exact#[e',es',h1,h2,rfl]
 ·cases h
theorem cO {n:Ho}{Γ:Gam}:∀ {es:Hg HS} {r:Es},cA (cE n Γ) es=gV r->es.all gT=true
 | [],_,_=>rfl
 | e::es,r,h=>by
  obtain⟨e',es',h1,h2,_⟩:=io h;rw[IF,iV h1,cO h2];rfl
theorem dt {N:Hg HJ}{x:HJ}{i:Ho}(h:N.findIdx? (· == x)=gV i):N[i]?=gV x:=by
 obtain⟨hl,h1,_⟩:=J5.mp h;rw[HE hl];exact congrArg gV (eq_of_beq h1)
section
variable{Φ:HJ->FF}{X:Cx}{Γ:Gam}
theorem jB {e:HS}:GT X e (λ_ _=>td):=λpins s σ H Q I #[A,ρ,S,k,S',er,so,e1,hq]=>by cases e1
theorem wj {x:HJ}(h:Cz (X.env.scope.names.lookup x)=true):Fp X.env.scope x:=by
 unfold Cz at h;split at h
 ·exact .inl (by assumption)
 ·exact .inr (.inl (by assumption))
 ·exact .inr (.inr (by assumption))
 ·cases h
theorem wm (K:CtxOk Φ X Γ){x:HJ}{pos:JY}{i:Ho}(h:slot Γ x=gV i):GE X (.Name x pos) (fV i):=by
 unfold slot at h;split at h
 ·rename_i hc;rw[Hs,Hs]at hc;obtain⟨⟨h1,h2⟩,h3⟩:=hc;refine F7 (Bp (by rw[K.N]; exact dt h) (wj (by rw[K.names]; exact h1)) (by simpa using h2) (by simpa using h3))
 ·cases h
theorem j3 (K:CtxOk Φ X Γ){x:HJ}(h:lc Γ x=true):Gl X x/\(x==("__debug__" : HJ))=false:=by
 unfold lc at h;rw[Hs]at h;refine#[?_,by simpa using h.2]
 show X.env.scope.names.lookup x=_;rw[K.names];exact eq_of_beq h.1
theorem j4 {o:Oh}{c:COp}(h:jl o=gV c):c.py=o:=by
 cases o <;> (simp only[jl,ID]at h; subst h; rfl)
theorem wn {o:NC}{c:BOp}(h:rV o=gV c):c.py=o:=by
 cases o <;> simp only[rV,ID]at h <;> first|(subst h; rfl)|cases h
theorem tW {x:HJ}{b:Bi}(h:z5 x=gV b):b.name=x:=by
 have:=MD h;exact eq_of_beq this
theorem tX {x:HJ}{b:Me}(h:z6 x=gV b):b.name=x:=by
 have:=MD h;exact eq_of_beq this
theorem dE {n:Ho}(ih:∀ {e:HS} {e':E},cE n Γ e=gV e'->GE X e (az Φ e')):∀ {es:Hg HS} {r:Es},cA (cE n Γ) es=gV r->GA X es (db Φ r)
 | [],r,h=>by cases h; exact Ck
 | e::es,r,h=>by
  obtain⟨e',es',h1,h2,rfl⟩:=io h;exact zw (ih h1) (dE ih h2) (aA (iV h1))
theorem Eg (K:CtxOk Φ X Γ){n:Ho}{f:HJ}{p pos:JY}{args:Hg HS}{k:Ho}{r:Es}(hg:lc Γ f=true)(hf:Γ.fns.lookup f=gV k)(ha:cA (cE n Γ) args=gV r)(h:GA X args (db Φ r)):GE X (.Call (.Name f p) args [] pos) (oQ k (Φ f) (db Φ r)):=by
 obtain⟨d,fa,fd,ps,F,hr,hm,hk,hb⟩:=K.fns f k hf;obtain⟨g1,g2⟩:=j3 K hg;cases args with
 | nil=>cases ha; exact zz F hr g1 hm hk hb g2
 | cons a as=>
  have ns:=cO ha;rw[IF,Hs]at ns;exact Co F hr g1 hm hk hb h g2 (aA ns.1) (ba ns.2)
theorem Ga (K:CtxOk Φ X Γ){n:Ho}{f:HJ}{p pos:JY}{a:HS}{as:Hg HS}{b:Bi}{r:Es}(hg:lc Γ f=true)(hb:z5 f=gV b)(hc:Γ.blt.contains f=true)(ha:cA (cE n Γ) (a::as)=gV r)(h:GA X (a::as) (db Φ r)):GE X (.Call (.Name f p) (a::as) [] pos) (jk b.fn (db Φ r)):=by
 obtain⟨g1,g2⟩:=j3 K hg;have hm:X.mg f=td:=K.blt f (by simpa using hc)
 have ns:=cO ha;rw[IF,Hs]at ns;have e:=tW hb;subst e;have hu:X.A.units+12 < cLine:=by have:=K.un; have:fM=20:=rfl; omega
 have calm:∀ {f:Hj} {g:Hg W->aa->Hn (W×aa)},(X.A.handled=td->LCall X f g)->LCall X f g:=λh pins s σ H A S xs vs us w S' I=>h (I.ok.hd K.calm) pins s σ H A S xs vs us w S' I
 cases b with
 | len=>exact rN qk g1 hm PySem.boot_len h #v[] g2 (aA ns.1) (ba ns.2)
 | list=>exact rO (calm λhh=>wc (oy hh) (oN hh)) g1 hm rfl h #v[] g2 (aA ns.1) (ba ns.2)
 | tuple=>exact rO (calm nv) g1 hm rfl h #v[] g2 (aA ns.1) (ba ns.2)
 | int=>exact rO tt g1 hm rfl h #v[] g2 (aA ns.1) (ba ns.2)
 | sorted=>exact rN (calm λhh=>nu hh hu) g1 hm rfl h #v[] g2 (aA ns.1) (ba ns.2)
 | range=>exact rO ox g1 hm rfl h #v[] g2 (aA ns.1) (ba ns.2)
 | all=>exact rN (calm tN) g1 hm rfl h #v[] g2 (aA ns.1) (ba ns.2)
 | min=>exact rN (calm λhh=>tL hh hu) g1 hm rfl h #v[] g2 (aA ns.1) (ba ns.2)
theorem wo {x:HJ}{c:Jb}(h:we x=gV c):bootBuiltins x=gV (.type c)/\x≠"__name__":=by
 unfold we at h;split at h
 ·rename_i e; cases h; rw[eq_of_beq e]; exact#[rfl,#v[]]
 ·split at h
  ·rename_i e; cases h; rw[eq_of_beq e]; exact#[rfl,#v[]]
  ·split at h
   ·rename_i e; cases h; rw[eq_of_beq e]; exact#[rfl,#v[]]
   ·split at h
    ·rename_i e; cases h; rw[eq_of_beq e]; exact#[rfl,#v[]]
    ·split at h
     ·rename_i e; cases h; rw[eq_of_beq e]; exact#[rfl,#v[]]
     ·split at h
      ·rename_i e; cases h; rw[eq_of_beq e]; exact#[rfl,#v[]]
      ·cases h
theorem Eh (K:CtxOk Φ X Γ){n:Ho}{f:HJ}{p pos:JY}{args:Hg HS}{r:E}(hg:lc Γ f=true)(hb:(f==("isinstance" : HJ))=true)(hc:Γ.blt.contains f=true)(ih:∀ {e:HS} {e':E},cE n Γ e=gV e'->GE X e (az Φ e'))(h:z7 Γ (cE n Γ) args=gV r) :
  GE X (.Call (.Name f p) args [] pos) (az Φ r)/\∃a c,r=.isi c a:=by
 obtain⟨g1,g2⟩:=j3 K hg;have hm:X.mg f=td:=K.blt f (by simpa using hc)
 have e:=eq_of_beq hb;subst e;unfold z7 at h;split at h
 ·rename_i a c q;split at h
  ·rename_i hcc;rw[Hs]at hcc;obtain⟨g3,g4⟩:=j3 K (x:=c) hcc.1;have hm2:X.mg c=td:=K.blt c (by simpa using hcc.2)
   split at h
   ·rename_i cs a' h1 h2;cases h;obtain⟨b1,b2⟩:=wo h1;exact#[Cw g1 hm g3 hm2 b1 b2 g4 (ih h2) (aA (iV h2)),a',cs,rfl]
   ·cases h
  ·cases h
 ·cases h
theorem dW {o:HS}{name:HJ}{env:Nz}(h:gk o=true):attributeBase o name env (eval o env)=eval o env:=by
 cases o <;> first|rfl|cases h
theorem rX {n:Ho}{pos:JY}(ih:∀ {e:HS} {e':E},cE n Γ e=gV e'->GE X e (az Φ e')):∀(keys:Hg (Hn HS)) (values:Hg HS) {r:Es},keys.all (·.isSome)=true->keys.length=values.length->cA (cE n Γ) (rW keys values)=gV r->Eb X pos keys values (db Φ r)
 | [],[],r,_,_,h=>by cases h; exact zR
 | [],_::_,r,_,hl,_=>by cases hl
 | _::_,[],r,_,hl,_=>by cases hl
 | none::_,_::_,r,ha,_,_=>by cases ha
 | some k::ks,v::vs,r,ha,hl,h=>by
  dsimp only[rW]at h;obtain⟨e1,es1,h1,h2,rfl⟩:=io h;obtain⟨e2,es2,h3,h4,rfl⟩:=io h2;rw[IF,Hs]at ha;exact vY (ih h1) (ih h3) (rX ih ks vs ha.2 (by simpa using hl) h4)
theorem Gb (K:CtxOk Φ X Γ){n:Ho}{m:HJ}{apos cpos:JY}{o a:HS}{as:Hg HS}{b:Me}{o':E}{r:Es}(hm:z6 m=gV b)(hr:gk o=true)(hl:(apos.endLine==cpos.line)=true)(hn:(a::as).length < 29)(ho:GE X o (az Φ o'))(ha:cA (cE n Γ) (a::as)=gV r)(h:GA X (a::as) (db Φ r)) :
  GE X (.Call (.Attribute o m apos) (a::as) [] cpos) (Dk b.ty b.fn (az Φ o') (db Φ r)):=by
 have ns:=cO ha;have ns':=ns;rw[IF,Hs]at ns;have ki:((backTo cpos (starEach (a::as) X.env)).all (λx=>!x.1)&&(backToKw cpos (keywordEach [] X.env)).all (λx=>x.1.isSome)&&decide ((a::as).length+([]:Hg Ou).length+(if ([]:Hg Ou).isEmpty then 0 else 1) < 30))=true:=by
  rw[oW ns',KW,Hs];exact#[rfl,IW (by simp only[Jt,List.isEmpty_nil,Km]; omega)]
 have e:=tX hm;subst e;cases b with
 | append=>exact lO K9 PySem.F.slot_list_append PySem.F.type_list_append mR ho h (dW hr) ki hl (aA ns.1) (ba ns.2)
 | extend=>exact lO K9 PySem.F.slot_list_extend PySem.F.type_list_extend mS ho h (dW hr) ki hl (aA ns.1) (ba ns.2)
 | join=>exact lO PySem.F.plainAttrs_str PySem.F.slot_str_join PySem.F.type_str_join qa ho h (dW hr) ki hl (aA ns.1) (ba ns.2)
 | pop=>exact lO K9 PySem.F.slot_list_pop PySem.F.type_list_pop tu ho h (dW hr) ki hl (aA ns.1) (ba ns.2)
 | get=>exact lO PySem.F.plainAttrs_dict ME PySem.F.type_dict_get (qc (by have:=K.un; have:fM=20:=rfl; omega)) ho h (dW hr) ki hl (aA ns.1) (ba ns.2)
 | index=>exact lO PySem.F.plainAttrs_tuple L3 PySem.F.type_tuple_index ou ho h (dW hr) ki hl (aA ns.1) (ba ns.2)
theorem iq {n:Ho}{Γ:Gam}{e:HS}{e':E}{op:Oh}(h:cE n Γ e=gV e'):behindInMarks op e=false:=by
 cases n with
 | zero=>cases h
 | succ n=>cases e <;> first|rfl|(exact aI h)
theorem qo {n:Ho}{Γ:Gam}{e:HS}{e':E}(h:cE n Γ e=gV e'):mI e:=by
 cases n with
 | zero=>cases h
 | succ n=>cases e <;> first|(intro o i; rfl)|(exact aI h)
theorem nA {n:Ho}{Γ:Gam}{f:HS->Hn E}{e:HS}{i:Ie}{env:Nz}{tg:HS}(hf:∀el k p,f (.Set el k p)=td)(h:cI Γ f tg e=gV i):∀x,foldedSetIterable e env x=pure x:=by
 intro x;cases e <;> first|rfl|(simp[cI,hf]at h)
theorem nB {n:Ho}{op:PQ}{pos:JY}(ih:∀ {e:HS} {e':E},cE n Γ e=gV e'->GE X e (az Φ e')):∀ {vs:Hg HS} {r:E},cB (cE n Γ) op vs=gV r->GE X (.BoolOp op vs pos) (az Φ r)
 | [],r,h=>by cases h
 | [a],r,h=>Cg (ih h)
 | a::b::cv,r,h=>by
  simp only[cB]at h;split at h
  ·rename_i a' b' h1 h2;cases h;cases op with
   | And=>exact Ch (ih h1) (nB ih h2)
   | Or=>exact D4 (ih h1) (nB ih h2)
  ·cases h
theorem nC {n:Ho}{op:PQ}{pos:JY}(ih:∀ {e:HS} {e':E},cE n Γ e=gV e'->GT X e (cU Φ e')):∀ {vs:Hg HS} {r:E},cB (cE n Γ) op vs=gV r->GW X (.BoolOp op vs pos) (cU Φ r)
 | [],r,h=>by cases h
 | [a],r,h=>by
  cases op with
  | And=>exact zt (ih h)
  | Or=>exact Cc (ih h)
 | a::b::cv,r,h=>by
  simp only[cB]at h;split at h
  ·rename_i a' b' h1 h2;cases h;cases op with
   | And=>exact Cd (ih h1) (nC ih h2)
   | Or=>exact D3 (ih h1) (nC ih h2)
  ·cases h
theorem wp {n:Ho}(ih:∀ {e:HS} {e':E},cE n Γ e=gV e'->GE X e (az Φ e')){o:Hn HS}{p:Ep}(h:cP (cE n Γ) o=gV p):GO X o (rT Φ p):=by
 cases o with
 | none=>cases h; exact zx
 | some e=>
  simp only[cP,Hl]at h;obtain⟨e',h1,rfl⟩:=h;exact zy (ih h1)
theorem qp (K:CtxOk Φ X Γ){n:Ho}(ih:∀ {e:HS} {e':E},cE n Γ e=gV e'->GE X e (az Φ e')){tg e:HS}{i:Ie}(h:cI Γ (cE n Γ) tg e=gV i):GI X tg e (jv Φ i):=by
 have gen:(cE n Γ e).map Ie.seq=gV i->GI X tg e (jv Φ i):=λh=>by
  rw[Hl]at h;obtain⟨e',h1,rfl⟩:=h;exact zU (ih h1)
 unfold cI at h;split at h
 ·rename_i x p a pos;split at h
  ·rename_i hc;rw[Hs,Hs]at hc;obtain⟨⟨h1,h2⟩,h3⟩:=hc;have hx:=eq_of_beq h1;subst hx;rw[Hl]at h;obtain⟨r,hr,rfl⟩:=h;have ns:=cO hr;rw[IF,Hs]at ns;exact zO (j3 K h2).1 (K.blt _ (by simpa using h3)) (dE ih hr) (aA ns.1)
  ·split at h
   ·rename_i hc;rw[Hs,Hs,Hs]at hc;obtain⟨⟨⟨h1,h2⟩,h3⟩,h4⟩:=hc;have hx:=eq_of_beq h1;subst hx;rw[Hl]at h;obtain⟨r,hr,rfl⟩:=h;have ns:=cO hr;rw[IF,Hs]at ns;cases tg with
    | Tuple els k0 tp=>exact zX (j3 K h2).1 (K.blt _ (by simpa using h3)) (dE ih hr) (aA ns.1)
    | _=>cases h4
   ·exact gen h
 ·rename_i x p a b pos;split at h
  ·rename_i hc;rw[Hs,Hs]at hc;obtain⟨⟨h1,h2⟩,h3⟩:=hc;have hx:=eq_of_beq h1;subst hx;rw[Hl]at h;obtain⟨r,hr,rfl⟩:=h;have ns:=cO hr;rw[IF,IF,Hs,Hs]at ns;exact zP (j3 K h2).1 (K.blt _ (by simpa using h3)) (dE ih hr) (by rw[aA ns.1,aA ns.2.1]; rfl) (aA ns.2.1)
  ·exact gen h
 ·exact gen h
theorem nD (K:CtxOk Φ X Γ){x:HJ}{i:Ho}(h:dc Γ x=gV i):X.N[i]?=gV x/\yp X.env.scope x/\(X.fn x=true\/X.env.scope.names.lookup x=gV .local):=by
 unfold dc at h;split at h
 ·rename_i hc;refine#[by rw[K.N]; exact dt h,?_]
  unfold L2.yp;rw[K.names];rw[JO,Hs]at hc;rcases hc with hc|⟨hd,hc⟩
  ·have:=eq_of_beq hc;exact#[.inl this,.inr this]
  ·exact#[.inr (eq_of_beq hc),.inl (K.dfn hd x)]
 ·cases h
theorem oX (K:CtxOk Φ X Γ):∀ {ts:Hg HS} {is:Hg Ho},Dm Γ ts=gV is->(∀x∈ts,∃y p,x=M0 y p)/\Mg (λ(t:HS) (i:Ho)=>∃x p,t=M0 x p/\X.N[i]?=gV x/\yp X.env.scope x/\(X.fn x=true\/X.env.scope.names.lookup x=gV .local)) ts is
 | [],is,h=>by cases h; exact#[λx hx=>by simp at hx,.nil]
 | t::ts,is,h=>by
  cases t with
  | Name x p=>
   dsimp only[Dm]at h;split at h
   ·rename_i i is' h1 h2;cases h;obtain⟨a,b⟩:=oX K h2;exact#[λy hy=>(HW.mp hy).elim (λe=>#[x,p,e]) (a y),.cons #[x,p,rfl,nD K h1] b]
   ·cases h
  | _=>cases h
theorem gU {env:Nz}:∀ {ts:Hg HS},(∀x∈ts,∃y p,x=M0 y p)->(assignEach ts env).length=ts.length/\(assignEach ts env).findIdx? (·.1)=td
 | [],_=>#[rfl,rfl]
 | t::ts,h=>by
  obtain⟨y,p,rfl⟩:=h t Jh;obtain⟨a,b⟩:=gU (env:=env) λx hx=>h x (II _ hx)
  refine#[by show(assignEach ts env).length+1=ts.length+1; rw[a],?_]
  show List.findIdx? (·.1) ((false,assign (.Name y p) env)::assignEach ts env)=td
  rw[List.findIdx?_cons,b];rfl
theorem rY (K:CtxOk Φ X Γ){tg:HS}{t:Tg}(h:cT Γ tg=gV t):GG X tg (eL t):=by
 have hN:X.N.Nodup:=by rw[K.N]; exact K.nd
 cases tg with
 | Name x p=>
  dsimp only[cT]at h; simp only[Hl]at h
  obtain⟨i,h1,rfl⟩:=h;obtain⟨a,b,c⟩:=nD K h1;exact rQ hN a b c
 | Tuple ts k p=>
  dsimp only[cT]at h; simp only[Hl]at h
  obtain⟨is,h1,rfl⟩:=h;obtain⟨a,b⟩:=oX K h1;exact Cr K.calm a b hN (gU a).1 (gU a).2
 | _=>cases h
end
noncomputable def eI (env:Nz):Hg (HJ×Jz)->Hg (HJ×Ht)->Hg (HJ×Ht)
 | [],cs=>cs
 | (n,k)::r,cs=>eI env r (if k==.free then(n,(env.cells.lookup n).getD 0)::cs else cs)
theorem iW {env:Nz}:∀(names:Hg (HJ×Jz)) (cs:Hg (HJ×Ht)),(∀y∈names,y.2=.free->(env.cells.lookup y.1).isSome=true)->
  (forIn names cs λx r=>match x with|(name,kind)=>if (kind==KY)=true then do let a <- cellOf env name; pure (Ju ((name,a)::r))else pure (Ju r):Pk (Hg (HJ×Ht)))=pure (eI env names cs)
 | [],cs,_=>by rw[OM]; rfl
 | (n,k)::r,cs,h=>by
  rw[My];have hr:=λy hy=>h y (II _ hy)
  by_cases hk:(k==KY)=true
  ·obtain⟨c,hc⟩:=IP.mp (h (n,k) Jh (eq_of_beq hk));have e1:cellOf env n=pure c:=by unfold cellOf; rw[hc]
   simp only[hk,Km,e1,pure_bind];rw[iW r _ hr];simp only[eI,hk,Km,hc,Ob]
  ·have hk':(k==KY)=false:=by simpa using hk
   simp only[hk',Jc,Kd,pure_bind];rw[iW r _ hr];simp only[eI,hk',Jc,Kd]
theorem jw {scope:Kz}{env:Nz}(h:∀y∈scope.names,y.2=.free->(env.cells.lookup y.1).isSome=true):closureFor scope env=pure (eI env scope.names []):=by
 have:=iW scope.names [] h;unfold closureFor;simp only[this,pure_bind]
theorem j5 {env:Nz}:∀(names:Hg (HJ×Jz)) (cs:Hg (HJ×Ht)),(∀y∈names,y.2=.free->(env.cells.lookup y.1).isSome=true)->(∀x c,cs.lookup x=gV c->env.cells.lookup x=gV c)->
  ∀x c,(eI env names cs).lookup x=gV c->env.cells.lookup x=gV c
 | [],cs,_,h,x,c,e=>h x c e
 | (n,k)::r,cs,hn,h,x,c,e=>by
  refine j5 r _ (λy hy=>hn y (II _ hy)) (λx c e=>?_) x c e
  split at e
  ·rename_i hk;rw[Jm]at e;split at e
   ·rename_i hx;cases e;have:=eq_of_beq hx;subst this;obtain⟨c,hc⟩:=IP.mp (hn (x,k) Jh (eq_of_beq hk));rw[hc]; rfl
   ·exact h x c e
  ·exact h x c e
theorem jm {env:Nz}{x:HJ}:∀(names:Hg (HJ×Jz)) (cs:Hg (HJ×Ht)),(∃c,cs.lookup x=gV c)->∃c,(eI env names cs).lookup x=gV c
 | [],cs,h=>h
 | (n,k)::r,cs,h=>by
  refine jm r _ ?_;split
  ·rw[Jm];split
   ·exact#[_,rfl]
   ·exact h
  ·exact h
theorem j6 {env:Nz}{x:HJ}:∀(names:Hg (HJ×Jz)) (cs:Hg (HJ×Ht)),(x,KY)∈names->∃c,(eI env names cs).lookup x=gV c
 | [],cs,h=>by simp at h
 | (n,k)::r,cs,h=>by
  rcases HW.mp h with e|h
  ·cases e;refine jm r _ ?_;simp[Jm]
  ·exact j6 r _ h
theorem j7 {x:HJ}{k:Jz}:∀ {l:Hg (HJ×Jz)},l.lookup x=gV k->(x,k)∈l
 | [],h=>by simp at h
 | (n,j)::r,h=>by
  rw[Jm]at h;split at h
  ·rename_i hx;cases h;have:=eq_of_beq hx;subst this;exact Jh
  ·exact II _ (j7 h)
theorem eJ {X:Cx}{Φ:HJ->FF}{Γ:Gam}(K:CtxOk Φ X Γ)(scope:Kz):(relabel scope X.env).names=fS scope.names Γ.sc:=by
 unfold relabel fS Mp;rw[K.kind,K.names];refine IM λ#[n,k] _=>?_
 have e:(Nu==Nu)=true:=rfl;simp only[e,M9]
theorem d8 {outer:Hg (HJ×Jz)}{x:HJ}:∀ {names:Hg (HJ×Jz)},(fS names outer).lookup x=(names.lookup x).map λk=>if (k==.free&&outer.lookup x==gV .cell)then .cell else k
 | []=>rfl
 | (n,k)::r=>by
  have ih:=d8 (outer:=outer) (x:=x) (names:=r);show List.lookup x ((if (k==KY&&outer.lookup n==gV .cell)=true then(n,Qc)else(n,k))::fS r outer)=_
  cases hx:x==n with
  | true=>
   have:=eq_of_beq hx;subst this;simp only[Jm,IJ,Iq];split <;> simp[Jm]
  | false=>
   simp only[Jm,hx];split <;> (simp only[Jm,hx]; exact ih)
section
variable{Φ:HJ->FF}{X:Cx}{Γ:Gam}
structure ScOk (Γ:Gam)(scope:Kz):Prop where
 kind:scope.kind=.function
 names:∀y∈scope.names,y.2=.local->scope.names.lookup y.1=gV .local
 nocell:∀y∈scope.names,y.2≠.cell
 free:∀y∈scope.names,y.2=.free->zZ (Γ.sc.lookup y.1)=true/\scope.names.lookup y.1=gV .free/\(Γ.N.findIdx? (· == y.1)).isSome=true
 nd:(gI scope.names).Nodup
theorem rZ {scope:Kz}(h:wf Γ scope=true):ScOk Γ scope:=by
 unfold wf at h;rw[Hs,Hs,Hs,Hs]at h;obtain⟨⟨⟨⟨h1,h2⟩,h3⟩,h4⟩,h5⟩:=h;refine#[eq_of_beq h1,λy hy e=>?_,λy hy e=>?_,λy hy e=>?_,IT h5]
 ·have:=HP.mp h2 y hy;rw[e]at this
  simpa using this
 ·have:=HP.mp h3 y hy;rw[e]at this;simp at this
 ·have:=HP.mp h4 y hy;rw[e]at this;simp only[IJ,Na,Nb,Hs]at this;exact#[this.1.1,eq_of_beq this.1.2,this.2]
theorem r0 {o:Hn Jz}(h:zZ o=true):o=gV .cell\/o=gV .free:=by
 unfold zZ at h;split at h
 ·exact .inl rfl
 ·exact .inr rfl
 ·cases h
theorem lS (K:CtxOk Φ X Γ)(ok:X.Ok){scope:Kz}(sc:ScOk Γ scope):CompOk X scope (eI X.env scope.names []) (gI scope.names) (gw Γ scope.names):=by
 have cells:∀y∈scope.names,y.2=.free->(X.env.cells.lookup y.1).isSome=true:=λy hy e=>by
  have hk:=r0 (sc.free y hy e).1;obtain⟨c,hc⟩:=ok.has y.1 (by unfold Mp; rw[K.names]; exact hk)
  rw[hc]; rfl
 have relab:∀x,((relabel scope X.env).names.lookup x=gV .cell\/(relabel scope X.env).names.lookup x=gV .free)->(x,KY)∈scope.names:=λx h=>by
  rw[eJ K,d8]at h;cases q:scope.names.lookup x with
  | none=>rw[q]at h; rcases h with h|h <;> cases h
  | some k=>
   rw[q]at h;have hm:=j7 q;cases k with
   | free=>exact hm
   | cell=>exact absurd rfl (sc.nocell _ hm)
   | _=>rcases h with h|h <;> simp at h
 refine#[jw cells,sc.kind,sc.names,sc.nocell,j5 _ _ cells (λx c e=>by cases e),λx h=>j6 _ _ (relab x h),by simp[gw],λi j x hi hx=>?_]
 unfold gw at hi;rw[Hq,hx]at hi;simp only[Iq,ID]at hi;split at hi
 ·cases hi
 ·rename_i hl;have hx2:x∈gI scope.names:=HC hx;unfold gI at hx2;obtain⟨⟨x',k⟩,hf,e⟩:=HQ.mp hx2;obtain⟨hm,hk⟩:=JB.mp hf;have e':x'=x:=e;subst e';have hkf:k=.free:=by
   simp only[JO]at hk;rcases hk with hk|hk
   ·have:k=.local:=eq_of_beq hk;subst this;have:=sc.names (x',.local) hm rfl;rw[this]at hl;simp at hl
   ·exact eq_of_beq hk
  subst hkf;obtain⟨f1,f2,f3⟩:=sc.free _ hm rfl;refine#[by rw[K.N]; exact dt hi,by unfold Mp; rw[K.names]; exact r0 f1,?_]
  rw[eJ K,d8,f2];simp only[Iq,ID,IJ,KW];split
  ·exact .inl rfl
  ·exact .inr rfl
theorem eR (K:CtxOk Φ X Γ){scope:Kz}(sc:ScOk Γ scope)(C:Ht)(s0:Hm)(H0:Hp)(ex:Hg Ht):CtxOk Φ (kU X scope (eI X.env scope.names []) C (gI scope.names) s0 H0 ex) (gJ Γ scope) where
 names:=eJ K scope
 kind:=sc.kind
 N:=rfl
 nd:=sc.nd
 calm:=K.calm
 xe:=rfl
 un:=K.un
 dfn:=λh=>by cases h
 blt:=K.blt
 fns:=K.fns
theorem oY {cs:Es}{n:Ho}{ifs:Hg HS}{Γ:Gam}(hl:ifs.length<=1)(hc:cA (cE n Γ) ifs=gV cs){Y:Cx}(ih:∀ {e:HS} {e':E},cE n Γ e=gV e'->GT Y e (cU Φ e'))(hx:Y.xe=λ_ _=>IV) :
  ∀pins s σ H Q,Inv Y pins σ H s->tT Y (zY Φ cs) σ H Q->
  wpAny (model Y.prog Y.w) Y.A (forIn ifs true λc r=>if r=true then do let ok <- isTrue c Y.env (eval c Y.env); pure (Ju ok)else pure (Ju r)) (TP Y pins σ Q) (λ_ _=>IV) s:=by
 intro pins s σ H Q I h
 match ifs,hl,hc with
 | [],_,hc=>
  cases hc;obtain⟨A,ρ,S,k,S',er,so,e,hq⟩:=h;cases e;exact wpAny_tests_nil #[H,I,hq _ _ #[rfl,A,.refl,so]]
 | [c],_,hc=>
  obtain⟨e',es',h1,h2,rfl⟩:=io hc;cases h2;have:=ih h1 pins s σ H Q I h;rw[hx]at this;exact wpAny_tests_one this
theorem bY:∀(n:Ho) {Γ:Gam} {X:Cx} {e:HS} {e':E},CtxOk Φ X Γ->cE n Γ e=gV e'->GE X e (az Φ e')/\GT X e (cU Φ e'):=by
 intro n
 induction n with
 | zero=>intro Γ X e e' K h; cases h
 | succ n ih=>
  intro Γ X e e' K h;have ihE:∀ {e:HS} {e':E},cE n Γ e=gV e'->GE X e (az Φ e'):=λq=>(ih K q).1
  have ihT:∀ {e:HS} {e':E},cE n Γ e=gV e'->GT X e (cU Φ e'):=λq=>(ih K q).2
  have hu10:X.A.units+10 < cLine:=by have:=K.un; have:fM=20:=rfl; omega
  cases e with
  | Constant c k p=>
   cases c <;> cases h
   all_goals first
    | exact#[oO uI (λ_ _=>.non),cJ (oO uI (λ_ _=>.non)) λ_=>rfl]
    | exact#[oO AG (λ_ _=>.bl),cJ (oO AG (λ_ _=>.bl)) λ_=>rfl]
    | exact#[oO uH (λ_ _=>.int),cJ (oO uH (λ_ _=>.int)) λ_=>rfl]
    | exact#[oO uJ (λ_ _=>.str),cJ (oO uJ (λ_ _=>.str)) λ_=>rfl]
  | Name x p=>
   replace h:(match slot Γ x with|some i=>gV (E.v i)|none=>td)=gV e':=h
   split at h
   ·rename_i i h1;cases h;exact#[wm K h1,cJ (wm K h1) λ_=>rfl]
   ·cases h
  | BinOp a op b p=>
   replace h:(match rV op,cE n Γ a,cE n Γ b with|some o,gV a',gV b'=>gV (E.op o a' b')|_,_,_=>td)=gV e':=h
   split at h
   ·rename_i o a' b' h1 h2 h3;cases h;have e:=wn h1;subst e;exact#[AN (rn o) (ihE h2) (ihE h3),cJ (AN (rn o) (ihE h2) (ihE h3)) λ_=>rfl]
   ·cases h
  | UnaryOp op a p=>
   cases op with
   | Not=>
    replace h:(cE n Γ a).map E.not=gV e':=h;rw[Hl]at h;obtain⟨a',h1,rfl⟩:=h;exact#[Ci (ihE h1),Ce (ihT h1)]
   | USub=>
    replace h:(cE n Γ a).map E.neg=gV e':=h;rw[Hl]at h;obtain⟨a',h1,rfl⟩:=h;exact#[vH (ihE h1),cJ (vH (ihE h1)) λ_=>rfl]
   | _=>exact aI h
  | BoolOp op vs p=>
   replace h:cB (cE n Γ) op vs=gV e':=h;exact#[nB ihE h,(nC ihT h).pt]
  | Compare a ops cs p=>
   match ops,cs,h with
   | [op],[b],h=>
    replace h:(match jl op,cE n Γ a,cE n Γ b with|some o,gV a',gV b'=>gV (E.cmp o a' b')|_,_,_=>td)=gV e':=h
    split at h
    ·rename_i o a' b' h1 h2 h3;cases h;have e:=j4 h1;subst e;exact#[B9 K.un (ihE h2) (ihE h3) (iq h3),Cb K.un (ihE h2) (ihE h3) (iq h3)]
    ·cases h
   | [],_,h=>exact aI h
   | [_],[],h=>exact aI h
   | [_],_::_::_,h=>exact aI h
   | [op,op'],[b,d],h=>
    replace h:(match jl op,jl op',cE n Γ a,cE n Γ b,cE n Γ d with|some o,gV o',gV a',gV b',gV d'=>gV (E.chn o o' a' b' d')|_,_,_,_,_=>td)=gV e':=h
    split at h
    ·rename_i o o' a' b' d' h1 h2 h3 h4 h5;cases h;have e:=j4 h1;subst e;have e:=j4 h2;subst e;exact#[vI K.un (ihE h3) (ihE h4) (ihE h5) (iq h5),vJ K.un (ihE h3) (ihE h4) (ihE h5) (iq h5)]
    ·cases h
   | [_,_],[],h=>exact aI h
   | [_,_],[_],h=>exact aI h
   | [_,_],_::_::_::_,h=>exact aI h
   | _::_::_::_,_,h=>exact aI h
  | IfExp t a b p=>
   replace h:(match cE n Γ t,cE n Γ a,cE n Γ b with|some t',gV a',gV b'=>gV (E.ite t' a' b')|_,_,_=>td)=gV e':=h
   split at h
   ·rename_i t' a' b' h1 h2 h3;cases h;exact#[Cj (ihT h1) (ihE h2) (ihE h3),jB]
   ·cases h
  | Call f args kws p=>
   cases kws with
   | cons _ _=>cases f <;> first|(exact aI h)|(cases args <;> (exact aI h))
   | nil=>
    cases f with
    | Name x q=>
     replace h:(if lc Γ x then match Γ.fns.lookup x with|some k=>(cA (cE n Γ) args).map (E.own x k)|none=>if x==("isinstance" : HJ)then(if Γ.blt.contains x then z7 Γ (cE n Γ) args else td)else match (generalizing:=false) z5 x,args with|some b,a::as=>if Γ.blt.contains x then(cA (cE n Γ) (a::as)).map (E.bi b)else td|_,_=>td else td)=gV e':=h
     split at h
     ·rename_i hg;split at h
      ·rename_i k hk;rw[Hl]at h;obtain⟨r,hr,rfl⟩:=h;have g:=Eg (pos:=p) (p:=q) K hg hk hr (dE ihE hr);exact#[g,cJ g λ_=>rfl]
      ·split at h
       ·rename_i his;split at h
        ·rename_i hc;obtain⟨g,a',c',rfl⟩:=Eh (pos:=p) (p:=q) K hg his hc ihE h;exact#[g,cJ g λ_=>rfl]
        ·cases h
       ·split at h
        ·rename_i bb a as hb;split at h
         ·rename_i hc;rw[Hl]at h;obtain⟨r,hr,rfl⟩:=h;have g:=Ga (pos:=p) (p:=q) K hg hb hc hr (dE ihE hr);exact#[g,cJ g λ_=>rfl]
         ·cases h
        ·cases h
     ·cases h
    | Attribute o m q=>
     cases args with
     | nil=>exact aI h
     | cons a as=>
      replace h:(match z6 m,cE n Γ o,cA (cE n Γ) (a::as)with|some m',gV o',gV es=>if gk o&&(q.endLine==p.line)&&decide ((a::as).length < 29)then gV (E.me m' o' es)else td|_,_,_=>td)=gV e':=h
      split at h
      ·rename_i m' o' es h1 h2 h3;split at h
       ·rename_i hc;rw[Hs,Hs,Io]at hc;cases h;have g:=Gb K (cpos:=p) (apos:=q) h1 hc.1.1 hc.1.2 hc.2 (ihE h2) h3 (dE ihE h3);exact#[g,cJ g λ_=>rfl]
       ·cases h
      ·cases h
    | _=>exact aI h
  | Subscript a b p=>
   have plain:(match cE n Γ a,cE n Γ b with|some a',gV b'=>gV (E.ix a' b')|_,_=>td)=gV e'->GE X (.Subscript a b p) (az Φ e')/\GT X (.Subscript a b p) (cU Φ e'):=λh=>by
    split at h
    ·rename_i a' b' h1 h2;cases h;have g:=D6 (pos:=p) hu10 (ihE h1) (ihE h2) (qo h2);exact#[g,cJ g λ_=>rfl]
    ·cases h
   cases b with
   | Slice lo hi st q=>
    cases st with
    | none=>
     replace h:(match cE n Γ a,cP (cE n Γ) lo,cP (cE n Γ) hi with|some a',gV lo',gV hi'=>gV (E.sl a' lo' hi')|_,_,_=>td)=gV e':=h
     split at h
     ·rename_i a' lo' hi' h1 h2 h3;cases h;have g:=D7 (pos:=p) (p2:=q) (ihE h1) (wp ihE h2) (wp ihE h3);exact#[g,cJ g λ_=>rfl]
     ·cases h
    | some z=>exact plain h
   | _=>exact plain h
  | Tuple es k p=>
   replace h:(cA (cE n Γ) es).map E.tup=gV e':=h;rw[Hl]at h;obtain⟨r,h1,rfl⟩:=h;exact#[vO (dE ihE h1),cJ (vO (dE ihE h1)) λ_=>rfl]
  | List es p=>
   replace h:(cA (cE n Γ) es).map E.lst=gV e':=h;rw[Hl]at h;obtain⟨r,h1,rfl⟩:=h;exact#[vP (dE ihE h1),cJ (vP (dE ihE h1)) λ_=>rfl]
  | Dict keys values p=>
   replace h:wg (cE n Γ) keys values=gV e':=h;unfold wg at h;split at h
   ·rename_i hc;cases h;rw[Hs]at hc;have k0:keys=[]:=Lo.mp hc.1;have v0:values=[]:=Lo.mp hc.2;subst k0 v0;exact#[zS,jB]
   ·rename_i hc0;split at h
    ·rename_i hc;rw[Hs,Hs,Io,Io]at hc;rw[Hl]at h;obtain⟨r,hr,rfl⟩:=h;have h0:keys≠[]:=λz=>by
      subst z;have v0:values=[]:=K8.mp hc.1.2.symm;subst v0;exact hc0 rfl
     exact#[zT (pos:=p) hu10 (rX ihE keys values hc.1.1 hc.1.2 hr) hc.1.1 hc.1.2 h0 hc.2,jB]
    ·cases h
  | ListComp elt gens scope p=>
   match gens,h with
   | [#[tg,iter,ifs,asy]],h=>
    replace h:(if (asy==0)&&(wf Γ scope&&decide (ifs.length<=1))then match cI Γ (cE n Γ) tg iter,cT (gJ Γ scope) tg,cA (cE n (gJ Γ scope)) ifs,cE n (gJ Γ scope) elt with|some it,gV t,gV cs,gV el=>gV (E.comp el t it cs (gw Γ scope.names))|_,_,_,_=>td else td)=gV e':=h
    split at h
    ·rename_i hc;rw[Hs,Hs,Io]at hc;have e0:asy=0:=eq_of_beq hc.1;subst e0;replace hc:=hc.2;split at h
     ·rename_i it t cs el h1 h2 h3 h4;cases h;have sc:=rZ hc.1;refine#[zV K.calm (qp K ihE h1) (λok=>#[_,lS K ok sc,?_]) (nA (n:=n) (λel k p=>by cases n <;> rfl) h1),jB]
      refine#[λC s0 H0 ex=>rY (eR K sc C s0 H0 ex) h2,λC s0 H0 ex pins s σ H Q I q=>?_,λC s0 H0 ex=>(ih (eR K sc C s0 H0 ex) h4).1]
      exact oY hc.2 h3 (λz=>(ih (eR K sc C s0 H0 ex) z).2) rfl pins s σ H Q I q
     ·cases h
    ·cases h
   | [],h=>exact aI h
   | #[_,_,_,_]::_::_,h=>exact aI h
  | _=>exact aI h
end
noncomputable abbrev bZ:Ho:=30
noncomputable def AR:HS->HU
 | .Constant (.str _) _ _=>true
 | _=>false
noncomputable def iX:HS->HU
 | .ListComp _ _ _ _=>true
 | _=>false
noncomputable def r6:HS->HU
 | .Slice _ _ _ _=>true
 | _=>false
noncomputable def r8 (f:Kk->Hn Sm)(ss:Hg Kk):Hn Ss:=ss.foldr (λs acc=>match f s,acc with|some s',gV ss'=>gV (.cons s' ss')|_,_=>td) (gV .nil)
noncomputable def CA (Γ:Gam):Hg HS->HS->Hn Sm
 | [.Name x px,.Name y py],.Tuple [a,b] _ _=>match Γ.N.findIdx? (· == x),Γ.N.findIdx? (· == y),cA (cE bZ Γ) [a,b]with
  | some i,gV j,gV es=>if !(i==j)&&(Γ.sc.lookup x==gV .local)&&(Γ.sc.lookup y==gV .local)&&(py.line==px.line) && !([a,b].all (foldedForSure 8)) && !([a,b].all (constantsAlone 8))then gV (.par i j es)else td
  | _,_,_=>td
 | _,_=>td
noncomputable def cS:Ho->Gam->Kk->Hn Sm
 | 0,_,_=>td
 | n+1,Γ,st=>match st with
  | .Assign [.Name x _] e _=>match dc Γ x,cE bZ Γ e with
   | some i,gV e'=>gV (.set i e')
   | _,_=>td
  | .Assign [.Tuple ts _ _] e _=>if isTup e then CA Γ ts e else if iX e then td else match Dm Γ ts,cE bZ Γ e with
   | some is,gV e'=>gV (.asg is e')
   | _,_=>td
  | .Assign [.Subscript o k _] e _=>if r6 k then td else match cE bZ Γ o,cE bZ Γ k,cE bZ Γ e with
   | some o',gV k',gV e'=>gV (.put o' k' e')
   | _,_,_=>td
  | .Expr e _=>if AR e then gV .pass else if iX e then td else(cE bZ Γ e).map .ex
  | .Return (gV e) _=>(cE bZ Γ e).map .ret
  | .Return td _=>gV .retN
  | .Pass _=>gV .pass
  | .Raise _ _ _=>gV .bad
  | .Break _=>gV .brk
  | .Continue _=>gV .cont
  | .If t a b _=>match cE bZ Γ t,r8 (cS n Γ) a,r8 (cS n Γ) b with
   | some t',gV a',gV b'=>gV (.ite t' a' b')
   | _,_,_=>td
  | .While t b [] _=>match cE bZ Γ t,r8 (cS n Γ) b with
   | some t',gV b'=>gV (.whl t' b')
   | _,_=>td
  | .For tg it b [] _=>match cT Γ tg,cI Γ (cE bZ Γ) tg it,r8 (cS n Γ) b with
   | some t,gV i,gV b'=>gV (.loop t i b')
   | _,_,_=>td
  | _=>td
section
variable{Φ:HJ->FF}{X:Cx}{Γ:Gam}{fuel:Ho}
theorem wq {f:Kk->Hn Sm}{s:Kk}{ss:Hg Kk}{r:Ss}(h:r8 f (s::ss)=gV r):∃s' ss',f s=gV s'/\r8 f ss=gV ss'/\r=.cons s' ss':=by
 simp only[r8,Oq]at h;split at h
 ·rename_i e' es' h1 h2;cases h;exact#[e',es',h1,h2,rfl]
 ·cases h
theorem gx {n:Ho}(ih:∀ {st:Kk} {s':Sm},cS n Γ st=gV s'->GS X st (fJ Φ fuel s')):∀ {ss:Hg Kk} {r:Ss},r8 (cS n Γ) ss=gV r->GSs X ss (fR Φ fuel r)
 | [],r,h=>by cases h; exact zA
 | s::ss,r,h=>by
  obtain⟨s',ss',h1,h2,rfl⟩:=wq h;exact vR (ih h1) (gx ih h2)
theorem j8 {e:HS}{t:Hn HS}{l:Ho}{env:Nz}(h:iX e=false)(n:Ho){Γ:Gam}{e':E}(hc:cE n Γ e=gV e'):swapsWith e t l env=pure false:=by
 cases n with
 | zero=>cases hc
 | succ n=>cases e <;> first|(exfalso; exact aI hc)|rfl|cases h
theorem qr (K:CtxOk Φ X Γ){n:Ho}{elt:HS}{gens:Hg Comprehension}{scope:Kz}{p:JY}{e':E}(h:cE (n+1) Γ (.ListComp elt gens scope p)=gV e') :
  ∃tg iter ifs fi g c f cap,gens=[#[tg,iter,ifs,0]]/\az Φ e'=jY fi g c f cap/\GI X tg iter fi/\(X.Ok->∃cl,CompOk X scope cl (gI scope.names) cap/\BlockOk X scope cl (gI scope.names) tg elt ifs g c f)/\∀x,foldedSetIterable iter X.env x=pure x:=by
 match gens,h with
 | [#[tg,iter,ifs,asy]],h=>
  replace h:(if (asy==0)&&(wf Γ scope&&decide (ifs.length<=1))then match cI Γ (cE n Γ) tg iter,cT (gJ Γ scope) tg,cA (cE n (gJ Γ scope)) ifs,cE n (gJ Γ scope) elt with|some it,gV t,gV cs,gV el=>gV (E.comp el t it cs (gw Γ scope.names))|_,_,_,_=>td else td)=gV e':=h
  split at h
  ·rename_i hc;rw[Hs,Hs,Io]at hc;have e0:asy=0:=eq_of_beq hc.1;subst e0;replace hc:=hc.2;split at h
   ·rename_i it t cs el h1 h2 h3 h4;cases h;have sc:=rZ hc.1;refine#[tg,iter,ifs,_,_,_,_,_,rfl,rfl,qp K (λz=>(bY n K z).1) h1,λok=>#[_,lS K ok sc,?_],nA (n:=n) (λel k p=>by cases n <;> rfl) h1]
    refine#[λC s0 H0 ex=>rY (eR K sc C s0 H0 ex) h2,λC s0 H0 ex pins s σ H Q I q=>?_,λC s0 H0 ex=>(bY n (eR K sc C s0 H0 ex) h4).1]
    exact oY hc.2 h3 (λz=>(bY n (eR K sc C s0 H0 ex) z).2) rfl pins s σ H Q I q
   ·cases h
  ·cases h
 | [],h=>exact aI h
 | #[_,_,_,_]::_::_,h=>exact aI h
theorem Ei (K:CtxOk Φ X Γ){x:HJ}{px pos:JY}{e:HS}{i:Ho}{e':E}(hi:dc Γ x=gV i)(he:cE bZ Γ e=gV e'):GS X (.Assign [.Name x px] e pos) (jX (az Φ e') (zI i)):=by
 obtain⟨a,b,c⟩:=nD K hi;have hN:X.N.Nodup:=by rw[K.N]; exact K.nd
 have plain:swapsWith e (gV (.Name x px)) pos.line X.env=pure false->GS X (.Assign [.Name x px] e pos) (jX (az Φ e') (zI i)):=λhs=>qh (bY _ K he).1 (rQ hN a b c) hs (by cases e <;> rfl) rfl
 cases hc:iX e with
 | false=>exact plain (j8 hc _ he)
 | true=>
  cases e with
  | ListComp elt gens scope p=>
   cases hsw:(X.env.blockKind==.function&&X.env.kindOf x==gV .local&&px.line==p.line && !(scope.names.any λ(n,k)=>n==x&&(k==.local||k==.cell)))with
   | false=>
    refine plain ?_;show(pure (X.env.blockKind==.function&&X.env.kindOf x==gV .local&&px.line==p.line && !(scope.names.any λ(n,k)=>n==x&&(k==.local||k==.cell))):Pk HU)=pure false
    rw[hsw]
   | true=>
    have hsw':swapsWith (.ListComp elt gens scope p) (gV (.Name x px)) pos.line X.env=pure true:=by
     show(pure (X.env.blockKind==.function&&X.env.kindOf x==gV .local&&px.line==p.line && !(scope.names.any λ(n,k)=>n==x&&(k==.local||k==.cell))):Pk HU)=pure true
     rw[hsw]
    rw[Hs,Hs,Hs]at hsw;have hl:X.env.scope.names.lookup x=gV .local:=eq_of_beq hsw.1.1.2;obtain⟨tg,iter,ifs,fi,g,c',f,cap,rfl,e2,gi,hck,hs⟩:=qr K he;rw[e2];exact ql K.calm gi hck hs hsw' hN a hl
  | _=>cases hc
theorem oZ (K:CtxOk Φ X Γ){x y:HJ}{px py pt pt2:JY}{kt k2:Ho}{a b:HS}(hxy:x≠y)(hx:Γ.sc.lookup x=gV .local)(hy:Γ.sc.lookup y=gV .local)(hl:(py.line==px.line)=true)(h1:[a,b].all (foldedForSure 8)=false)(h2:[a,b].all (constantsAlone 8)=false)(hs:gT a=true)(hs2:gT b=true) :
  swappedStores [.Tuple [.Name x px,.Name y py] kt pt] (.Tuple [a,b] k2 pt2) X.env=pure (gV [x,y]):=by
 have kx:(X.env.kindOf x==gV .local)=true:=by unfold Mp; rw[K.names,hx]; rfl
 have ky:(X.env.kindOf y==gV .local)=true:=by unfold Mp; rw[K.names,hy]; rfl
 have bk:(X.env.blockKind != .function)=false:=by
  unfold Env.blockKind;rw[K.kind];rfl
 have hp:(px.line==px.line)=true:=by simp
 have ed:([x,y].eraseDups.length != [x,y].length)=false:=by
  have:(y==x)=false:=by simpa using Ne.symm hxy
  simp[M4,this]
 have kx':X.env.kindOf x=gV .local:=eq_of_beq kx;have ky':X.env.kindOf y=gV .local:=eq_of_beq ky;have hl':py.line=px.line:=eq_of_beq hl;have bk':X.env.blockKind=.function:=by simpa using bk
 have yx:(y==x)=false:=by simpa using Ne.symm hxy
 have h1':(foldedForSure 8 a&&foldedForSure 8 b)=false:=by simpa using h1
 have h2':(constantsAlone 8 a&&constantsAlone 8 b)=false:=by simpa using h2
 unfold swappedStores;simp only[Kh,List.any_nil,OX,KP,List.filterMap_nil,kx',ky',bk',List.head?_cons,Iq,Ob,Iw,Jt,IF,List.all_nil,M9,h1',h2'];refine Eq.trans (Iv ?_) (Eq.trans (Iv ?_) ?_)
 ·decide
 ·rw[JO];rintro(hh|hh)
  ·clear h1 h2 h1' h2';cases a <;> first|(cases hh; done)|(cases hs; done)
  ·clear h1 h2 h1' h2';cases b <;> first|(cases hh; done)|(cases hs2; done)
 ·dsimp only[Expr.pos]; simp[hl',yx,M4]
theorem z8 (fuel:Ho)(K:CtxOk Φ X Γ):∀(n:Ho) {st:Kk} {s':Sm},cS n Γ st=gV s'->GS X st (fJ Φ fuel s'):=by
 have hN:X.N.Nodup:=by rw[K.N]; exact K.nd
 have own:MZ (model X.prog X.w) X.A X.env X.xe:=by rw[K.xe]; exact P6
 intro n
 induction n with
 | zero=>intro st s' h; cases h
 | succ n ih=>
  intro st s' h;cases st with
  | Expr e p=>
   replace h:(if AR e then gV Sm.pass else if iX e then td else(cE bZ Γ e).map Sm.ex)=gV s':=h
   split at h
   ·rename_i hd;cases h;cases e with
    | Constant c k q=>
     cases c with
     | str x=>exact Cp
     | _=>cases hd
    | _=>cases hd
   ·split at h
    ·cases h
    ·rename_i hd hc;rw[Hl]at h;obtain⟨e',h1,rfl⟩:=h;exact D8 (bY _ K h1).1 (j8 (by simpa using hc) _ h1)
  | Return o p=>
   cases o with
   | none=>cases h; exact zG
   | some e=>
    replace h:(cE bZ Γ e).map Sm.ret=gV s':=h;rw[Hl]at h;obtain⟨e',h1,rfl⟩:=h;exact Cq (bY _ K h1).1
  | Pass p=>cases h; exact zD
  | Raise exc cause pos=>cases h; exact λpins s D σ H I #[A,ρ,S,o,S',er,so,e,hq]=>nomatch e
  | Break p=>cases h; exact vT
  | Continue p=>cases h; exact zE
  | If t a b p=>
   replace h:(match cE bZ Γ t,r8 (cS n Γ) a,r8 (cS n Γ) b with|some t',gV a',gV b'=>gV (Sm.ite t' a' b')|_,_,_=>td)=gV s':=h
   split at h
   ·rename_i t' a' b' h1 h2 h3;cases h;exact D9 (bY _ K h1).2 (gx ih h2) (gx ih h3)
   ·cases h
  | While t b o p=>
   cases o with
   | cons _ _=>exact aI h
   | nil=>
    replace h:(match cE bZ Γ t,r8 (cS n Γ) b with|some t',gV b'=>gV (Sm.whl t' b')|_,_=>td)=gV s':=h
    split at h
    ·rename_i t' b' h1 h2;cases h;exact vU fuel own (bY _ K h1).2 (gx ih h2)
    ·cases h
  | For tg it b o p=>
   cases o with
   | cons _ _=>exact aI h
   | nil=>
    replace h:(match cT Γ tg,cI Γ (cE bZ Γ) tg it,r8 (cS n Γ) b with|some t,gV i,gV b'=>gV (Sm.loop t i b')|_,_,_=>td)=gV s':=h
    split at h
    ·rename_i t i b' h1 h2 h3;cases h;exact Cv own K.calm (qp K (λz=>(bY _ K z).1) h2) (rY K h1) (gx ih h3) (nA (n:=bZ) (λel k p=>rfl) h2)
    ·cases h
  | Assign ts e p=>
   match ts,h with
   | [],h=>exact aI h
   | a::_::_,h=>cases a <;> exact aI h
   | [t],h=>
    cases t with
    | Name x px=>
     replace h:(match dc Γ x,cE bZ Γ e with|some i,gV e'=>gV (Sm.set i e')|_,_=>td)=gV s':=h
     split at h
     ·rename_i i e' h1 h2;cases h;exact Ei K h1 h2
     ·cases h
    | Subscript o k q=>
     replace h:(if r6 k then td else match cE bZ Γ o,cE bZ Γ k,cE bZ Γ e with|some o',gV k',gV e'=>gV (Sm.put o' k' e')|_,_,_=>td)=gV s':=h
     split at h
     ·cases h
     ·rename_i hc;split at h
      ·rename_i o' k' e' h1 h2 h3;cases h;refine qh (bY _ K h3).1 (Cs (by have:=K.un; have:fM=20:=rfl; omega) (bY _ K h1).1 (bY _ K h2).1 ?_) (by cases e <;> rfl) (by cases e <;> rfl) rfl
       intro v;cases k <;> first|rfl|exact absurd rfl hc
      ·cases h
    | Tuple ts' k q=>
     have par:∀ {x y:HJ} {px py:JY} {a b:PySem.Expr} {k2:Ho} {q2:JY},(match Γ.N.findIdx? (· == x),Γ.N.findIdx? (· == y),cA (cE bZ Γ) [a,b]with
       | some i,gV j,gV es=>if !(i==j)&&(Γ.sc.lookup x==gV .local)&&(Γ.sc.lookup y==gV .local)&&(py.line==px.line) && !([a,b].all (foldedForSure 8)) && !([a,b].all (constantsAlone 8))then gV (Sm.par i j es)else td
       | _,_,_=>td)=gV s'->GS X (.Assign [.Tuple [.Name x px,.Name y py] k q] (.Tuple [a,b] k2 q2) p) (fJ Φ fuel s'):=λ{x y px py a b k2 q2} h=>by
      split at h
      ·rename_i i j es h1 h2 h3;split at h
       ·rename_i hc;cases h;rw[Hs,Hs,Hs,Hs,Hs]at hc;obtain⟨⟨⟨⟨⟨c1,c2⟩,c3⟩,c4⟩,c5⟩,c6⟩:=hc;have hij:i≠j:=by simpa using c1
        have ns:=cO h3;rw[IF,IF,Hs,Hs]at ns;have hi:X.N[i]?=gV x:=by rw[K.N]; exact dt h1
        have hj:X.N[j]?=gV y:=by rw[K.N]; exact dt h2
        refine Ct K.calm hN hi hj hij (by rw[K.names]; exact eq_of_beq c2) (by rw[K.names]; exact eq_of_beq c3) (dE (λz=>(bY _ K z).1) h3) (oZ K ?_ (eq_of_beq c2) (eq_of_beq c3) c4 (by rw[<- Kf]; exact c5) (by rw[<- Kf]; exact c6) ns.1 ns.2.1) rfl
        rintro rfl;rw[h1]at h2;cases h2;exact hij rfl
       ·cases h
      ·cases h
     replace h:(if isTup e then CA Γ ts' e else if iX e then td else match Dm Γ ts',cE bZ Γ e with|some is,gV e'=>gV (Sm.asg is e')|_,_=>td)=gV s':=h
     split at h
     ·unfold CA at h;split at h
      ·exact par h
      ·cases h
     ·split at h
      ·cases h
      ·rename_i hc1 hc2;split at h
       ·rename_i is e' h1 h2;cases h;refine qh (bY _ K h2).1 (rY (tg:=.Tuple ts' k q) (t:=.tp is) K (by simp[cT,h1])) (j8 (t:=gV (.Tuple ts' k q)) (l:=p.line) (env:=X.env) (by simpa using hc2) _ h2) ?_ rfl
        cases e <;> first|rfl|exact absurd rfl hc1
       ·cases h
    | _=>exact aI h
  | _=>exact aI h
end
structure Df where
 ps:Hg HJ
 N:Hg HJ
 body:Ss
noncomputable def ff (N:Hg HJ)(ws:Hg W):Fm:=ws.map gV++Ih (N.length - ws.length) td
noncomputable def ak (defs:Hg (HJ×Df))(fuel:Ho):Ho->HJ->FF
 | 0,_,_,_=>td
 | d+1,f,ws,S=>match defs.lookup f with
  | some df=>if ws.length=df.ps.length then match fR (ak defs fuel d) fuel df.body (ff df.N ws) S with
    | some (.rt w,S')=>gV (w,S')
    | some (.nx _,S')=>gV (.non,S')
    | _=>td
   else td
  | none=>td
structure Md where
 fns:Hg (HJ×Ho)
 blt:Hg HJ
noncomputable def wt (M:Md)(st:Kk)(N:Hg HJ):Gam:={ sc:=(aS st).names,N:=N,fns:=M.fns,blt:=M.blt,dfn:=true }
noncomputable def Ej (M:Md)(st:Kk)(df:Df):Prop:=r8 (cS 20 (wt M st df.N)) (cz st)=gV df.body
theorem lT {K:HA}{A:Hg Ht}{H:Hp}{ws:Hg W}{vs:Hg V}{N:Hg HJ}(r:RelL K A H ws vs):EnvRel K A H (ff N ws) (fK N vs):=by
 refine#[by simp[ff,L2.fK,r.length],λi w h=>?_]
 unfold ff at h;unfold L2.fK
 by_cases hi:i < ws.length
 ·rw[Ii (by simpa using hi),Hq]at h
  rw[Ii (by rw[Hh,<- r.length]; exact hi),Hq]
  cases q:ws[i]? with
  | none=>rw[q]at h; cases h
  | some w'=>
   rw[q]at h;simp only[Iq,ID]at h;subst h;obtain⟨v,h1,h2⟩:=r.get q;exact#[v,by rw[h1]; rfl,h2]
 ·rw[IA (by simpa using hi)]at h
  have:=HC h;simp at this
section
variable{P:Ik}{w:Ix}{K:HA}{mg:HJ->Hn Hj}{base:IG}
noncomputable def AS (P:Ik)(w:Ix)(K:HA)(mg:HJ->Hn Hj)(base:IG)(M:Md)(defs:Hg (HJ×Df))(fuel d:Ho):Prop:=
 ∀f n,M.fns.lookup f=gV n->∃fa fd ps,FnOk P w K mg base uE d fa fd ps (vQ w K n (ak defs fuel d f))/\mg f=gV (.ref fa)/\Jd K (.ref fa)=true/\Binds K fd ps []
structure MdOk (w:Ix)(K:HA)(mg:HJ->Hn Hj)(M:Md):Prop where
 blt:∀y∈M.blt,mg y=td
theorem AT {M:Md}{defs:Hg (HJ×Df)}{fuel d:Ho}{x qual:HJ}{st:Kk}{f:Ht}{fd:J0}{df:Df}(F:Fun K x qual st f fd)(S:FnScope df.N df.ps (aS st))(hd:defs.lookup x=gV df)(hc:Ej M st df)
  (hb:MdOk w K mg M) (prev:AS P w K mg base M defs fuel d):FnOk P w K mg base uE (d+1) f fd df.ps (vQ w K df.ps.length (ak defs fuel (d+1) x)):=by
 refine F.ok S (λvs H Q E h=>?_) (λcdv A outer s H vs Q E hr h=>?_)
 ·obtain⟨A,S,ws,w',S',_,rl,hl,_⟩:=h;rw[<- rl.length]; exact hl
 ·obtain⟨A',St,ws,w',S',so,rl,hl,e,hq⟩:=h;have K':CtxOk (ak defs fuel d) (pW uE P w K mg base df.N qual (aS st) f cdv A outer s H E).nox (wt M st df.N):=by
   refine#[rfl,S.kind,rfl,S.nd,rfl,rfl,?_,λ_ _=>rfl,hb.blt,λg n hg=>?_]
   ·have:=hr.un;show(A.deeper _).units+20 < cLine;omega
   ·obtain⟨fa,fd',ps',h1,h2,h3,h4⟩:=prev g n hg;exact#[d,fa,fd',ps',h1,hr,h2,h3,h4]
  refine#[tS _ (fR (ak defs fuel d) fuel df.body),gx (λz=>z8 fuel K' 20 z) hc,?_]
  simp only[ak,hd]at e;rw[HV hl]at e;split at e
  ·rename_i w1 S1 h1;cases e;refine#[A',ff df.N ws,St,_,_,lT rl,so,h1,#[λσ' H' #[_,_,z,_]=>(by cases z),λv H' #[w2,A2,z0,z1,z2,z3]=>?_,λσ' H' #[_,_,z,_]=>(by cases z),λσ' H' #[_,_,z,_]=>(by cases z)]]
   cases z0;exact hq v H' #[A2,z1,z2,z3]
  ·rename_i ρ1 S1 h1;cases e;refine#[A',ff df.N ws,St,_,_,lT rl,so,h1,#[λσ' H' #[w2,A2,z0,z1,z2,z3]=>?_,λσ' H' #[_,_,z,_]=>(by cases z),λσ' H' #[_,_,z,_]=>(by cases z),λσ' H' #[_,_,z,_]=>(by cases z)]]
   exact hq _ H' #[A2,z1,z2,.non]
  ·cases e
theorem tY {H:Hp}{a:Ht}{ns:Hg Hv}(hO:u7 H)(hS:SqL K H a (ns.map V.int)):StoreOk w K [a] H [.fro (ns.map W.int)]/\RelL K [a] H [.ref 0] [.ref a]:=by
 have rl:∀ns:Hg Hv,RelL K [a] H (ns.map W.int) (ns.map V.int):=by
  intro ns
  induction ns with
  | nil=>exact .nil
  | cons n ns ih=>exact .cons .int ih
 have fr:FroL K H a (ns.map V.int):=by
  rcases hS with(h|⟨o,h⟩)|h
  ·rcases hO a with z|⟨o,xs,z⟩ <;> (rw[z]at h; cases h)
  ·exact .inl #[o,h]
  ·exact .inr h
 refine#[#[rfl,λi j b o u e1 m1 e2 m2 _ _=>?_,λi o b e1 e2=>?_],.cons (.ref rfl) .nil]
 ·cases i with
  | zero=>simp at e1; subst e1; cases m1
  | succ i=>simp at e1
 ·cases i with
  | zero=>
   simp at e1 e2;subst e1 e2;exact#[_,fr,rl ns]
  | succ i=>simp at e1
theorem CB {g:FF}{H:Hp}{a:Ht}{ns:Hg Hv}(h:∃S',g [.ref 0] [.fro (ns.map W.int)]=gV (.bl true,S'))(hO:u7 H)(hS:SqL K H a (ns.map V.int)):vQ w K 1 g [.ref a] H (λv _=>v=.bl true) λ_ _ _=>IV:=by
 obtain⟨S',e⟩:=h;obtain⟨so,rl⟩:=tY hO hS;exact#[[a],_,_,_,S',so,rl,rfl,e,λv H' #[A',z1,z2,z3]=>by cases z3; rfl]
end
noncomputable def Wp {α:Type}(o:Hn α)(Q:α->Prop):Prop:=∃a,o=gV a/\Q a
theorem af {α:Type}{a:α}{Q:α->Prop}:Wp (gV a) Q↔Q a:=#[λ#[b,e,h]=>(by cases e; exact h),λh=>#[a,rfl,h]]
theorem ag {α:Type}{Q:α->Prop}:Wp (td:Hn α) Q↔IV:=#[λ#[b,e,h]=>(by cases e),λh=>h.elim]
theorem Wp.mono {α:Type}{o:Hn α}{Q Q':α->Prop}(h:Wp o Q)(k:∀a,Q a->Q' a):Wp o Q':=let ⟨a,e,q⟩:=h; #[a,e,k a q]
theorem Gc {α β:Type}{o:Hn α}{f:α->β}{Q:β->Prop}:Wp (o.map f) Q↔Wp o λa=>Q (f a):=by cases o <;> simp[af,ag]
section
variable{Φ:HJ->FF}{fuel:Ho}{ρ:Fm}{S:aa}
noncomputable abbrev QW:=W×aa->Prop
theorem G3 {w:W}{Q:QW}:Wp (az Φ (.c w) ρ S) Q↔Q (w,S):=by(dsimp only[az]; simp[fC,af,ag])
theorem GP {i:Ho}{Q:QW}:Wp (az Φ (.v i) ρ S) Q↔∃w,ρ[i]?=gV (gV w)/\Q (w,S):=by
 (dsimp only[az]; simp only[fV])
 rcases h:ρ[i]? with _|_|w <;> simp[af,ag]
theorem wu {g:W->W->aa->Hn (W×aa)}{a b:FE}{Q:QW}:Wp (zo g a b ρ S) Q↔Wp (a ρ S) λp=>Wp (b ρ p.2) λq=>Wp (g p.1 q.1 q.2) Q:=by
 unfold zo;rcases h:a ρ S with _|⟨x,S1⟩
 ·simp[af,ag]
 ·rcases h2:b ρ S1 with _|⟨y,S2⟩ <;> simp[af,ag,h2]
theorem Gd {o:BOp}{a b:E}{Q:QW}:Wp (az Φ (.op o a b) ρ S) Q↔Wp (az Φ a ρ S) λp=>Wp (az Φ b ρ p.2) λq=>Wp (hG o p.1 q.1 q.2) Q:=by dsimp only[az]; exact wu
theorem AU {o:COp}{a b:E}{Q:QW}:Wp (az Φ (.cmp o a b) ρ S) Q↔Wp (az Φ a ρ S) λp=>Wp (az Φ b ρ p.2) λq=>Wp (aL o p.1 q.1 q.2) Q:=by dsimp only[az]; exact wu
theorem Ge {a b:E}{Q:QW}:Wp (az Φ (.ix a b) ρ S) Q↔Wp (az Φ a ρ S) λp=>Wp (az Φ b ρ p.2) λq=>Wp (ju p.1 q.1 q.2) Q:=by dsimp only[az]; exact wu
theorem Ek {a b:E}{Q:QW}:Wp (az Φ (.and a b) ρ S) Q↔Wp (az Φ a ρ S) λp=>∃k,p.1=.bl k/\(k=true->Wp (az Φ b ρ p.2) Q)/\(k=false->Q (.bl false,p.2)):=by
 (dsimp only[az]; simp only[rL])
 rcases h:az Φ a ρ S with _|⟨x,S1⟩
 ·simp[af,ag]
 ·cases x <;> simp[af,ag]
  rename_i b; cases b <;> simp[af,ag]
theorem Gf {a b:E}{Q:QW}:Wp (az Φ (.or a b) ρ S) Q↔Wp (az Φ a ρ S) λp=>∃k,p.1=.bl k/\(k=true->Q (.bl true,p.2))/\(k=false->Wp (az Φ b ρ p.2) Q):=by
 (dsimp only[az]; simp only[zu])
 rcases h:az Φ a ρ S with _|⟨x,S1⟩
 ·simp[af,ag]
 ·cases x <;> simp[af,ag]
  rename_i b; cases b <;> simp[af,ag]
theorem El {a:E}{Q:QW}:Wp (az Φ (.not a) ρ S) Q↔Wp (az Φ a ρ S) λp=>∃k,p.1=.bl k/\Q (.bl (!k),p.2):=by
 (dsimp only[az]; simp only[rM])
 rcases h:az Φ a ρ S with _|⟨x,S1⟩
 ·simp[af,ag]
 ·cases x <;> simp[af,ag]
  rename_i k; cases k <;> simp
theorem Em {t a b:E}{Q:QW}:Wp (az Φ (.ite t a b) ρ S) Q↔Wp (cU Φ t ρ S) λp=>(p.1=true->Wp (az Φ a ρ p.2) Q)/\(p.1=false->Wp (az Φ b ρ p.2) Q):=by
 (dsimp only[az]; simp only[zv])
 rcases h:cU Φ t ρ S with _|⟨x,S1⟩
 ·simp[af,ag]
 ·cases x <;> simp[af,ag]
theorem AV {f:HJ}{n:Ho}{es:Es}{Q:QW}:Wp (az Φ (.own f n es) ρ S) Q↔Wp (db Φ es ρ S) λp=>p.1.length=n/\Wp (Φ f p.1 p.2) Q:=by
 (dsimp only[az]; simp only[oQ])
 rcases h:db Φ es ρ S with _|⟨x,S1⟩
 ·simp[af,ag]
 ·by_cases hl:x.length=n <;> simp[af,ag,hl]
theorem En {b:Bi}{es:Es}{Q:QW}:Wp (az Φ (.bi b es) ρ S) Q↔Wp (db Φ es ρ S) λp=>Wp (b.fn p.1 p.2) Q:=by
 (dsimp only[az]; simp only[jk])
 rcases h:db Φ es ρ S with _|⟨x,S1⟩ <;> simp[af,ag]
theorem Gg {m:Me}{o:E}{es:Es}{Q:QW}:Wp (az Φ (.me m o es) ρ S) Q↔Wp (az Φ o ρ S) λp=>tyOk m.ty p.2 p.1=true/\Wp (db Φ es ρ p.2) λq=>Wp (m.fn p.1 q.1 q.2) Q:=by
 (dsimp only[az]; simp only[Dk])
 rcases h:az Φ o ρ S with _|⟨x,S1⟩
 ·simp[af,ag]
 ·by_cases ht:tyOk m.ty S1 x=true
  ·rcases h2:db Φ es ρ S1 with _|⟨y,S2⟩ <;> simp[af,ag,ht,h2]
  ·simp[af,ag,ht]
theorem Gh {a:E}{lo hi:Ep}{Q:QW}:Wp (az Φ (.sl a lo hi) ρ S) Q↔Wp (az Φ a ρ S) λp=>Wp (rT Φ lo ρ p.2) λq=>Wp (rT Φ hi ρ q.2) λr=>Wp (jg p.1 q.1 r.1 r.2) Q:=by
 (dsimp only[az]; simp only[D5])
 rcases h:az Φ a ρ S with _|⟨x,S1⟩
 ·simp[af,ag]
 ·rcases h2:rT Φ lo ρ S1 with _|⟨y,S2⟩
  ·simp[af,ag,h2]
  ·rcases h3:rT Φ hi ρ S2 with _|⟨z,S3⟩ <;> simp[af,ag,h2,h3]
theorem Gi {Q:Hn Hv×aa->Prop}:Wp (rT Φ .no ρ S) Q↔Q (td,S):=by(dsimp only[rT]; simp[Cm,af,ag])
theorem Eo {a:E}{Q:Hn Hv×aa->Prop}:Wp (rT Φ (.yes a) ρ S) Q↔Wp (az Φ a ρ S) λp=>∃i,p.1=.int i/\Q (gV i,p.2):=by
 (dsimp only[rT]; simp only[rP])
 rcases h:az Φ a ρ S with _|⟨x,S1⟩
 ·simp[af,ag]
 ·cases x <;> simp[af,ag]
theorem Er {es:Es}{Q:QW}:Wp (az Φ (.tup es) ρ S) Q↔Wp (db Φ es ρ S) λp=>p.1.length<=sizeLine/\Q (.tup p.1,p.2):=by
 (dsimp only[az]; simp only[vM,p7])
 rcases h:db Φ es ρ S with _|⟨x,S1⟩
 ·simp[af,ag]
 ·by_cases hl:x.length<=sizeLine <;> simp[af,ag,hl]
theorem Et {es:Es}{Q:QW}:Wp (az Φ (.lst es) ρ S) Q↔Wp (db Φ es ρ S) λp=>p.1.length<=sizeLine/\Q (.ref p.2.length,p.2++[.lst p.1]):=by
 (dsimp only[az]; simp only[vN,kX])
 rcases h:db Φ es ρ S with _|⟨x,S1⟩
 ·simp[af,ag]
 ·by_cases hl:x.length<=sizeLine <;> simp[af,ag,hl]
theorem AW {c:Jb}{a:E}{Q:QW}:Wp (az Φ (.isi c a) ρ S) Q↔Wp (az Φ a ρ S) λp=>∃k,ny p.2 p.1 c=gV k/\Q (.bl k,p.2):=by
 (dsimp only[az]; simp only[vX])
 rcases h:az Φ a ρ S with _|⟨x,S1⟩
 ·simp[af,ag]
 ·cases h2:ny S1 x c <;> simp[af,ag,h2]
  rename_i k; cases k <;> simp
theorem Eu {a:E}{Q:QW}:Wp (az Φ (.neg a) ρ S) Q↔Wp (az Φ a ρ S) λp=>∃i,p.1=.int i/\Q (.int (-i),p.2):=by
 (dsimp only[az]; simp only[vG])
 rcases h:az Φ a ρ S with _|⟨x,S1⟩
 ·simp[af,ag]
 ·cases x <;> simp[af,ag]
theorem CC {es:Es}{Q:QW}:Wp (az Φ (.disp es) ρ S) Q↔Wp (db Φ es ρ (S++[.dic []])) λp=>p.2[S.length]?=gV (.dic [])/\∃kvs,dD [] p.1=gV kvs/\Q (.ref S.length,p.2.set S.length (.dic kvs)):=by
 have e:az Φ (.disp es) ρ S=oT (db Φ es) ρ S:=by dsimp only[az]
 rw[e];unfold oT;cases db Φ es ρ (S++[.dic []])with
 | none=>simp[ag]
 | some p=>
  obtain⟨x,S1⟩:=p;simp only[af];cases h2:S1[S.length]? with
  | none=>simp[ag]
  | some o=>
   cases o with
   | lst _=>simp[ag]
   | fro _=>simp[ag]
   | frd _=>simp[ag]
   | rng _ _=>simp[ag]
   | dic kvs=>
    cases kvs with
    | nil=>cases h3:dD [] x <;> simp[af,ag]
    | cons a b=>simp[ag]
theorem AX {o o':COp}{a b d:E}{Q:QW}(h:Wp (az Φ a ρ S) λp=>Wp (az Φ b ρ p.2) λq=>∃k,uF o p.1 q.1 q.2=gV k/\(k=true->Wp (az Φ d ρ q.2) λr=>Wp (dJ o' q.1 r.1 r.2) Q)/\(k=false->Q (.bl false,q.2))):Wp (az Φ (.chn o o' a b d) ρ S) Q:=by
 obtain⟨⟨x,S1⟩,e1,⟨y,S2⟩,e2,k,e3,h1,h2⟩:=h;have e:az Φ (.chn o o' a b d) ρ S=fP o o' (az Φ a) (az Φ b) (az Φ d) ρ S:=by dsimp only[az]
 rw[e];unfold fP;rw[e1];dsimp only;rw[e2];dsimp only;rw[e3];cases k with
 | false=>exact#[_,rfl,h2 rfl]
 | true=>
  obtain⟨⟨z,S3⟩,e4,⟨r,e5,q⟩⟩:=h1 rfl;dsimp only;rw[e4];exact#[_,e5,q]
theorem Ev {Q:Hg W×aa->Prop}:Wp (db Φ .nil ρ S) Q↔Q ([],S):=by(dsimp only[db]; simp[ik,af,ag])
theorem CD {e:E}{es:Es}{Q:Hg W×aa->Prop}:Wp (db Φ (.cons e es) ρ S) Q↔Wp (az Φ e ρ S) λp=>Wp (db Φ es ρ p.2) λq=>Q (p.1::q.1,q.2):=by
 (dsimp only[db]; simp only[dH])
 rcases h:az Φ e ρ S with _|⟨x,S1⟩
 ·simp[af,ag]
 ·rcases h2:db Φ es ρ S1 with _|⟨y,S2⟩ <;> simp[af,ag,h2]
noncomputable abbrev QB:=HU×aa->Prop
theorem AY {f:FE}{Q:QB}:Wp (oP f ρ S) Q↔Wp (f ρ S) λp=>∃k,p.1=.bl k/\Q (k,p.2):=by
 unfold oP;rcases h:f ρ S with _|⟨x,S1⟩
 ·simp[af,ag]
 ·cases x <;> simp[af,ag]
  rename_i k; cases k <;> simp
theorem r9 {f:FE}{Q:QB}:Wp (gC f ρ S) Q↔Wp (f ρ S) λp=>∃k,cw p.2 p.1=gV k/\Q (k,p.2):=by
 unfold gC;rcases h:f ρ S with _|⟨x,S1⟩
 ·simp[af,ag]
 ·cases h2:cw S1 x <;> simp[af,ag,h2]
  rename_i k; cases k <;> simp
theorem Ew {o:COp}{a b:E}{Q:QB}:Wp (cU Φ (.cmp o a b) ρ S) Q↔Wp (az Φ (.cmp o a b) ρ S) λp=>∃k,p.1=.bl k/\Q (k,p.2):=by dsimp only[cU,az]; exact AY
theorem Ex {o o':COp}{a b d:E}{Q:QB}:Wp (cU Φ (.chn o o' a b d) ρ S) Q↔Wp (az Φ (.chn o o' a b d) ρ S) λp=>∃k,p.1=.bl k/\Q (k,p.2):=by dsimp only[cU,az]; exact AY
theorem Ey {a b:E}{Q:QB}:Wp (cU Φ (.and a b) ρ S) Q↔Wp (cU Φ a ρ S) λp=>(p.1=true->Wp (cU Φ b ρ p.2) Q)/\(p.1=false->Q (false,p.2)):=by
 (dsimp only[cU]; simp only[vK])
 rcases h:cU Φ a ρ S with _|⟨x,S1⟩
 ·simp[af,ag]
 ·cases x <;> simp[af,ag]
theorem Gj {a b:E}{Q:QB}:Wp (cU Φ (.or a b) ρ S) Q↔Wp (cU Φ a ρ S) λp=>(p.1=true->Q (true,p.2))/\(p.1=false->Wp (cU Φ b ρ p.2) Q):=by
 (dsimp only[cU]; simp only[D2])
 rcases h:cU Φ a ρ S with _|⟨x,S1⟩
 ·simp[af,ag]
 ·cases x <;> simp[af,ag]
theorem Ez {a:E}{Q:QB}:Wp (cU Φ (.not a) ρ S) Q↔Wp (cU Φ a ρ S) λp=>Q (!p.1,p.2):=by
 (dsimp only[cU]; simp only[zq])
 rcases h:cU Φ a ρ S with _|⟨x,S1⟩ <;> simp[af,ag]
theorem G4 {i:Ho}{Q:QB}:Wp (cU Φ (.v i) ρ S) Q↔Wp (az Φ (.v i) ρ S) λp=>∃k,cw p.2 p.1=gV k/\Q (k,p.2):=by dsimp only[cU,az]; exact r9
theorem EA {f:HJ}{n:Ho}{es:Es}{Q:QB}:Wp (cU Φ (.own f n es) ρ S) Q↔Wp (az Φ (.own f n es) ρ S) λp=>∃k,cw p.2 p.1=gV k/\Q (k,p.2):=by dsimp only[cU,az]; exact r9
theorem Gk {b:Bi}{es:Es}{Q:QB}:Wp (cU Φ (.bi b es) ρ S) Q↔Wp (az Φ (.bi b es) ρ S) λp=>∃k,cw p.2 p.1=gV k/\Q (k,p.2):=by dsimp only[cU,az]; exact r9
theorem EB {c:Jb}{a:E}{Q:QB}:Wp (cU Φ (.isi c a) ρ S) Q↔Wp (az Φ (.isi c a) ρ S) λp=>∃k,cw p.2 p.1=gV k/\Q (k,p.2):=by dsimp only[cU,az]; exact r9
noncomputable abbrev QO:=Out×aa->Prop
theorem EC {Q:QO}:Wp (fR Φ fuel .nil ρ S) Q↔Q (.nx ρ,S):=by(dsimp only[fR]; simp[af,ag])
theorem CF {s:Sm}{ss:Ss}{Q:QO}:Wp (fR Φ fuel (.cons s ss) ρ S) Q↔Wp (fJ Φ fuel s ρ S) λp=>(∀ρ',p.1=.nx ρ'->Wp (fR Φ fuel ss ρ' p.2) Q)/\((∀ρ',p.1≠.nx ρ')->Q p):=by
 (dsimp only[fR]; simp only[zB])
 rcases h:fJ Φ fuel s ρ S with _|⟨o,S1⟩
 ·simp[af,ag]
 ·cases o <;> simp[af,ag]
theorem wx {f:FE}{g:FG}{Q:QO}:Wp (jX f g ρ S) Q↔Wp (f ρ S) λp=>Wp (g p.1 ρ p.2) λq=>Q (.nx q.1,q.2):=by
 unfold jX;rcases h:f ρ S with _|⟨x,S1⟩
 ·simp[af,ag]
 ·rcases h2:g x ρ S1 with _|⟨y,S2⟩ <;> simp[af,ag,h2]
theorem CG {i:Ho}{e:E}{Q:QO}:Wp (fJ Φ fuel (.set i e) ρ S) Q↔Wp (az Φ e ρ S) λp=>Q (.nx (ρ.set i (gV p.1)),p.2):=by
 dsimp only[fJ]; rw[wx]; simp[zI,af,ag]
theorem CH {is:Hg Ho}{e:E}{Q:QO}:Wp (fJ Φ fuel (.asg is e) ρ S) Q↔Wp (az Φ e ρ S) λp=>∃ws ρ',p.1=.tup ws/\cK is ws ρ=gV ρ'/\Q (.nx ρ',p.2):=by
 dsimp only[fJ]; rw[wx]
 constructor
 ·refine λh=>h.mono λp hp=>?_
  obtain⟨w,S1⟩:=p;obtain⟨q,h1,h2⟩:=hp;cases w with
  | tup ws=>
   simp only[Dl,Hl]at h1;obtain⟨ρ',h3,rfl⟩:=h1;exact#[ws,ρ',rfl,h3,h2]
  | _=>cases h1
 ·refine λh=>h.mono λp hp=>?_
  obtain⟨w,S1⟩:=p;obtain⟨ws,ρ',h0,h1,h2⟩:=hp;subst h0;exact#[(ρ',S1),by simp[Dl,h1],h2]
theorem CI {i j:Ho}{es:Es}{Q:QO}:Wp (fJ Φ fuel (.par i j es) ρ S) Q↔Wp (db Φ es ρ S) λp=>∃x y,p.1=[x,y]/\Q (.nx ((ρ.set i (gV x)).set j (gV y)),p.2):=by
 (dsimp only[fJ]; simp only[zK])
 rcases h:db Φ es ρ S with _|⟨x,S1⟩
 ·simp[ag]
 ·match x with
  | []=>simp[af,ag]
  | [_]=>simp[af,ag]
  | [a,b]=>
   simp only[af];exact#[λh=>#[a,b,rfl,h],λ#[x,y,e,h]=>by cases e; exact h]
  | _::_::_::_=>simp[af,ag]
theorem CJ {o k e:E}{Q:QO}:Wp (fJ Φ fuel (.put o k e) ρ S) Q↔Wp (az Φ e ρ S) λp=>Wp (az Φ o ρ p.2) λq=>Wp (az Φ k ρ q.2) λr=>∃S',ig q.1 r.1 p.1 r.2=gV S'/\Q (.nx ρ,S'):=by
 dsimp only[fJ]; rw[wx]
 rcases h:az Φ e ρ S with _|⟨x,S1⟩
 ·simp[af,ag]
 ·simp only[af];unfold zJ;rcases h2:az Φ o ρ S1 with _|⟨y,S2⟩
  ·simp[af,ag]
  ·rcases h3:az Φ k ρ S2 with _|⟨z,S3⟩
   ·simp[af,ag,h3]
   ·cases h4:ig y z x S3 <;> simp[af,ag,h3,h4]
theorem ED {e:E}{Q:QO}:Wp (fJ Φ fuel (.ex e) ρ S) Q↔Wp (az Φ e ρ S) λp=>Q (.nx ρ,p.2):=by
 (dsimp only[fJ]; simp only[zC])
 rcases h:az Φ e ρ S with _|⟨x,S1⟩ <;> simp[af,ag]
theorem CK {e:E}{Q:QO}:Wp (fJ Φ fuel (.ret e) ρ S) Q↔Wp (az Φ e ρ S) λp=>Q (.rt p.1,p.2):=by
 (dsimp only[fJ]; simp only[zF])
 rcases h:az Φ e ρ S with _|⟨x,S1⟩ <;> simp[af,ag]
theorem CL {t:E}{a b:Ss}{Q:QO}:Wp (fJ Φ fuel (.ite t a b) ρ S) Q↔Wp (cU Φ t ρ S) λp=>(p.1=true->Wp (fR Φ fuel a ρ p.2) Q)/\(p.1=false->Wp (fR Φ fuel b ρ p.2) Q):=by
 (dsimp only[fJ]; simp only[zH])
 rcases h:cU Φ t ρ S with _|⟨x,S1⟩
 ·simp[af,ag]
 ·cases x <;> simp[af,ag]
end
section
variable{Φ:HJ->FF}{fuel:Ho}{ρ:Fm}{S:aa}
noncomputable def wy (I:Fm->aa->Prop)(Q:QO)(o:Out×aa):Prop:=match o.1 with
 | .nx ρ'=>I ρ' o.2
 | .ct ρ'=>I ρ' o.2
 | .bk ρ'=>Q (.nx ρ',o.2)
 | .rt w=>Q (.rt w,o.2)
theorem iY {mi:MI}{g:FG}{b:FS}{xs:Hg W}{Q:QO}(I:Ho->Fm->aa->Prop)(hat:∀i ρ S,I i ρ S->mi.at S i=gV xs[i]?)
  (hstep:∀i w ρ S,xs[i]?=gV w->I i ρ S->Wp (g w ρ S) λq=>Wp (b q.1 q.2) (wy (I (i+1)) Q)) (hend:∀ρ S,I xs.length ρ S->Q (.nx ρ,S)):∀(n i:Ho) (ρ:Fm) (S:aa),i+n=xs.length->I i ρ S->Wp (fQ mi g b n i ρ S) Q
 | 0,i,ρ,S,hl,hI=>by
  have e:mi.at S i=gV td:=by rw[hat i ρ S hI,Kx ∅]
  simp only[fQ,e];have hi:i=xs.length:=∅
  exact af.mpr (hend ρ S (hi ▸ hI))
 | n+1,i,ρ,S,hl,hI=>by
  have hi:i < xs.length:=∅
  have e:mi.at S i=gV (gV xs[i]):=by rw[hat i ρ S hI,HE hi]
  obtain⟨⟨ρ1,S1⟩,h1,⟨o,S2⟩,h2,h3⟩:=hstep i xs[i] ρ S (HE hi) hI;simp only[fQ,e,h1,h2];cases o with
  | nx ρ2=>exact iY I hat hstep hend n (i+1) ρ2 S2 ∅ h3
  | ct ρ2=>exact iY I hat hstep hend n (i+1) ρ2 S2 ∅ h3
  | bk ρ2=>exact af.mpr h3
  | rt w=>exact af.mpr h3
theorem EE {fi:FI}{g:FG}{b:FS}{Q:QO}:Wp (vV fi g b ρ S) Q↔Wp (fi ρ S) λp=>∃n,p.1.len p.2=gV n/\Wp (fQ p.1 g b n 0 ρ p.2) Q:=by
 unfold vV;rcases h:fi ρ S with _|⟨mi,S1⟩
 ·simp[ag]
 ·cases h2:mi.len S1 <;> simp[af,ag,h2]
theorem dL {mi:MI}{g:FG}{c:FT}{f:FE}{xs:Hg W}{Q:Hg W×aa->Prop}(I:Ho->Hg W->Fm->aa->Prop)(hat:∀i ys ρ S,I i ys ρ S->mi.at S i=gV xs[i]?)
  (hstep:∀i w ys ρ S,xs[i]?=gV w->I i ys ρ S->Wp (g w ρ S) λq=>Wp (c q.1 q.2) λk=>(k.1=true->Wp (f q.1 k.2) λy=>I (i+1) (ys++[y.1]) q.1 y.2)/\(k.1=false->I (i+1) ys q.1 k.2))
  (hend:∀ys ρ S,I xs.length ys ρ S->Q (ys,S)):∀(n i:Ho) (ys:Hg W) (ρ:Fm) (S:aa),i+n=xs.length->I i ys ρ S->Wp (bL mi g c f n i ρ S) λp=>Q (ys++p.1,p.2)
 | 0,i,ys,ρ,S,hl,hI=>by
  have e:mi.at S i=gV td:=by rw[hat i ys ρ S hI,Kx ∅]
  simp only[bL,e];refine af.mpr ?_;have:i=xs.length:=∅
  simpa using hend ys ρ S (this ▸ hI)
 | n+1,i,ys,ρ,S,hl,hI=>by
  have hi:i < xs.length:=∅
  have e:mi.at S i=gV (gV xs[i]):=by rw[hat i ys ρ S hI,HE hi]
  obtain⟨⟨ρ1,S1⟩,h1,⟨k,S2⟩,h2,h3,h4⟩:=hstep i xs[i] ys ρ S (HE hi) hI;simp only[bL,e,h1,h2];cases k with
  | true=>
   obtain⟨⟨y,S3⟩,h5,h6⟩:=h3 rfl;simp only[h5];obtain⟨⟨zs,S4⟩,h7,h8⟩:=dL I hat hstep hend n (i+1) (ys++[y]) ρ1 S3 ∅ h6
   simp only[h7];exact af.mpr (by simpa using h8)
  | false=>exact dL I hat hstep hend n (i+1) ys ρ1 S2 ∅ (h4 rfl)
theorem wz {elt:E}{tg:Tg}{it:Ie}{cs:Es}{cap:Hg (Hn Ho)}{Q:QW}:Wp (az Φ (.comp elt tg it cs cap) ρ S) Q↔Wp (jv Φ it ρ S) λp=>∃n,p.1.len p.2=gV n/\Wp (bL p.1 (eL tg) (zY Φ cs) (az Φ elt) n 0 (eZ cap ρ) p.2) λq=>q.1.length<=sizeLine/\Q (.ref q.2.length,q.2++[.lst q.1]):=by
 (dsimp only[az]; simp only[jY,kX])
 rcases h:jv Φ it ρ S with _|⟨mi,S1⟩
 ·simp[ag]
 ·rcases h2:mi.len S1 with _|n
  ·simp[af,ag,h2]
  ·rcases h3:bL mi (eL tg) (zY Φ cs) (az Φ elt) n 0 (eZ cap ρ) S1 with _|⟨ys,S2⟩
   ·simp[af,ag,h2,h3]
   ·by_cases hl:ys.length<=sizeLine <;> simp[af,ag,h2,h3,hl]
theorem EF {Q:QB}:Wp (zY Φ .nil ρ S) Q↔Q (true,S):=by(dsimp only[zY]; simp[AQ,af])
theorem EG {e:E}{Q:QB}:Wp (zY Φ #v[e] ρ S) Q↔Wp (cU Φ e ρ S) Q:=by dsimp only[zY]; exact Iff.rfl
theorem Gm {i:Ho}{w:W}{Q:Fm×aa->Prop}:Wp (eL (.nm i) w ρ S) Q↔Q (ρ.set i (gV w),S):=by(dsimp only[eL]; simp[zI,af])
theorem j9 {c:FT}{b:FS}{Q:QO}(I:Ho->Fm->aa->Prop)(hstep:∀m ρ S,I m ρ S->Wp (c ρ S) λk=>(k.1=true->∃m',m=m'+1/\Wp (b ρ k.2) (wy (I m') Q))/\(k.1=false->Q (.nx ρ,k.2))) :
  ∀(n m:Ho) (ρ:Fm) (S:aa),m < n->I m ρ S->Wp (nw c b n ρ S) Q
 | 0,m,ρ,S,h,_=>∅
 | n+1,m,ρ,S,h,hI=>by
  obtain⟨⟨k,S1⟩,h1,h2,h3⟩:=hstep m ρ S hI;simp only[nw,h1];cases k with
  | false=>exact af.mpr (h3 rfl)
  | true=>
   obtain⟨m',rfl,⟨o,S2⟩,h5,h6⟩:=h2 rfl;simp only[h5];cases o with
   | nx ρ2=>exact j9 I hstep n m' ρ2 S2 ∅ h6
   | ct ρ2=>exact j9 I hstep n m' ρ2 S2 ∅ h6
   | bk ρ2=>exact af.mpr h6
   | rt w=>exact af.mpr h6
theorem tZ {defs:Hg (HJ×Df)}{d:Ho}{f:HJ}{ws:Hg W}{df:Df}{Q:QW}(h:defs.lookup f=gV df)(hl:ws.length=df.ps.length)
  (hb:Wp (fR (ak defs fuel d) fuel df.body (ff df.N ws) S) λp=>match p.1 with|.rt w=>Q (w,p.2)|.nx _=>Q (.non,p.2)|_=>IV):Wp (ak defs fuel (d+1) f ws S) Q:=by
 obtain⟨⟨o,S1⟩,h1,h2⟩:=hb;simp only[ak,h,HV hl,h1];cases o with
 | rt w=>exact af.mpr h2
 | nx ρ=>exact af.mpr h2
 | bk _=>exact h2.elim
 | ct _=>exact h2.elim
end
section
variable{S:aa}{Q:QW}
theorem cp {a b:Hv}:hG .add (.int a) (.int b) S=gV (.int (a+b),S):=rfl
theorem gK {a b:Hv}:hG .sub (.int a) (.int b) S=gV (.int (a - b),S):=rfl
theorem nE {c:Hv->Hv->HU}{f:Hv->Hv->Hv}{i j:Hv}(h:c i j=true):yk c f (.int i) (.int j) S=gV (.int (f i j),S):=by
 unfold yk;dsimp only;rw[HV h]
theorem sa {a b:Hv}(h : -(2 ^ 64) < b)(h2:b < 2 ^ 64):hG .mul (.int a) (.int b) S=gV (.int (a*b),S):=nE (c:=tf) (f:=(· * ·)) (by
 unfold tf;simp only[JO,Hs,Io];exact .inr #[h,h2])
theorem ke {a b:Hv}(h:0 < b):hG .mod (.int a) (.int b) S=gV (.int (a % b),S):=nE (c:=λ_ j=>decide (0 < j)) (f:=(· % ·)) (IW h)
theorem nF {a b:Hv}(h:0 < b)(h2:b < 1073741824):hG .fdiv (.int a) (.int b) S=gV (.int (a / b),S):=nE (c:=λ_ j=>yQ j) (f:=(· / ·)) (by
 unfold yQ;simp only[Hs,Io];exact#[h,h2])
theorem CM:hG .pow (.int 10) (.int 18) S=gV (.int 1000000000000000000,S):=rfl
theorem bF {xs ys:Hg W}(h:(xs++ys).length<=sizeLine):hG .add (.tup xs) (.tup ys) S=gV (.tup (xs++ys),S):=by simp only[hG,ve,p7]; rw[HV h]
theorem nG {i j:Ho}{xs ys:Hg W}(h1:S[i]?=gV (.lst xs))(h2:S[j]?=gV (.lst ys))(h:(xs++ys).length<=sizeLine):hG .add (.ref i) (.ref j) S=gV (.ref S.length,S++[.lst (xs++ys)]):=by
 simp only[hG,ve,nY,h1,h2,kX]; rw[HV h]
theorem kg {a b:Hv}:aL .eq (.int a) (.int b) S=gV (.bl (a==b),S):=rfl
theorem t8 {a b:Hv}:aL .ne (.int a) (.int b) S=gV (.bl (!(a==b)),S):=rfl
theorem wD {a b:Hv}:aL .lt (.int a) (.int b) S=gV (.bl (decide (a < b)),S):=rfl
theorem CN {a b:Hv}:aL .gt (.int a) (.int b) S=gV (.bl (decide (a > b)),S):=rfl
theorem Gn {a b:Hv}:aL .ge (.int a) (.int b) S=gV (.bl (decide (a>=b)),S):=rfl
theorem aJ {r:Ho}{xs:Hg W}(h:S[r]?=gV (.lst xs)):gO S r=gV xs:=by simp[gO,h]
theorem z9 {r:Ho}{xs:Hg W}(h:S[r]?=gV (.fro xs)):gO S r=gV xs:=by simp[gO,h]
theorem cV {r:Ho}{xs:Hg W}(h:S[r]?=gV (.lst xs)):nY S r=gV xs:=by simp[nY,h]
theorem nH {r:Ho}{xs:Hg W}(h:S[r]?=gV (.lst xs)):jt S r=td:=by simp[jt,h]
theorem bJ {r:Ho}{kvs:Hg (T×W)}(h:S[r]?=gV (.dic kvs)):jt S r=gV kvs:=by simp[jt,h]
theorem nI {r:Ho}{kvs:Hg (T×W)}(h:S[r]?=gV (.dic kvs)):gO S r=td:=by simp[gO,h]
theorem Aa {r:Ho}{kvs:Hg (T×W)}(h:S[r]?=gV (.frd kvs)):jt S r=gV kvs:=by simp[jt,h]
theorem atI_nat {α:Type}{xs:Hg α}{j:Ho}{w:α}(h:xs[j]?=gV w):ol xs (j:Hv)=gV w:=by
 have hl:=(HD.mp h).1;unfold ol rg;rw[HV (Hu j),HV (by exact_mod_cast hl)]
 simpa using h
theorem nJ {α:Type}{xs:Hg α}{i:Hv}{w:α}(h0:0<=i)(h:xs[i.toNat]?=gV w):ol xs i=gV w:=by
 have:=atI_nat h
 rwa [Kn h0]at this
theorem wF {r:Ho}{xs:Hg W}{i:Hv}{w:W}(h:S[r]?=gV (.lst xs))(h0:0<=i)(hw:xs[i.toNat]?=gV w):ju (.ref r) (.int i) S=gV (w,S):=by
 show tj (.ref r) (.int i) S=_;simp[tj,aJ h,nJ h0 hw]
theorem EH {xs:Hg W}{i:Hv}{w:W}(h0:0<=i)(hw:xs[i.toNat]?=gV w):ju (.tup xs) (.int i) S=gV (w,S):=by
 show tj (.tup xs) (.int i) S=_;simp[tj,nJ h0 hw]
theorem EI {x:HJ}{i:Hv}{c:Ho}(hz:x.length<=sizeLine)(h0:0<=i)(hw:x.cps.toList[i.toNat]?=gV c):ju (.str x) (.int i) S=gV (.str #[[c].toArray],S):=by
 show tj (.str x) (.int i) S=_;simp[tj,hz,nJ h0 hw]
theorem AZ {r:Ho}{xs:Hg W}{i:Hv}{w:W}(h:S[r]?=gV (.lst xs))(h0:0<=i)(hi:i.toNat < xs.length):ig (.ref r) (.int i) w S=gV (S.set r (.lst (xs.set i.toNat w))):=by
 show tm (.ref r) (.int i) w S=_;have:rg xs.length i=gV i.toNat:=by
  unfold rg;rw[HV h0,HV ∅]
 simp[tm,cV h,this]
theorem A6 {r:Ho}{xs:Hg W}(h:S[r]?=gV (.lst xs)):qf [.ref r] S=gV (.int xs.length,S):=by
 simp[qf,nH h,p9,aJ h]
theorem wH {r:Ho}{xs:Hg W}{y:W}(h:S[r]?=gV (.lst xs))(hl:xs.length < sizeLine):hX (.ref r) [y] S=gV (.non,S.set r (.lst (xs++[y]))):=by
 simp[hX,cV h,hl]
theorem EJ {r:Ho}{xs:Hg W}(h:S[r]?=gV (.lst xs)):jV [.ref r] S=gV (.tup xs,S):=by
 simp[jV,zd,h,jO,aJ h]
theorem dF {r:Ho}{xs:Hg W}(h:S[r]?=gV (.lst xs)):tyOk "list" S (.ref r)=true:=by simp[tyOk,aJ h]
theorem bG {r:Ho}{o o':O}(h:S[r]?=gV o):(S.set r o')[r]?=gV o':=by
 rw[JA,HV rfl,HV (HD.mp h).1]
theorem bh {r j:Ho}{o':O}(h:r≠j):(S.set r o')[j]?=S[j]?:=by rw[JA,Iv h]
theorem aj {o:O}:(S++[o])[S.length]?=gV o:=by simp
theorem ar {j:Ho}{o u:O}(h:S[j]?=gV o):(S++[u])[j]?=gV o:=by rw[Ii (HD.mp h).1]; exact h
theorem b6 {j:Ho}{o:O}(h:S[j]?=gV o):j < S.length:=(HD.mp h).1
structure Kp (r:Ho)(S S':aa):Prop where
 get:∀j o,j≠r->S[j]?=gV o->S'[j]?=gV o
 len:S.length<=S'.length
theorem Kp.refl {r:Ho}{S:aa}:Kp r S S:=#[λ_ _ _ h=>h,Hz _]
theorem Kp.trans {r:Ho}{S S' S'':aa}(a:Kp r S S')(b:Kp r S' S''):Kp r S S'':=#[λj o n h=>b.get j o n (a.get j o n h),HZ a.len b.len]
theorem Kp.set {r:Ho}{S:aa}{o:O}:Kp r S (S.set r o):=#[λj u n h=>by rw[bh (Ne.symm n)]; exact h,by simp]
theorem Kp.push {r:Ho}{S:aa}{o:O}:Kp r S (S++[o]):=#[λj u n h=>ar h,by simp]
theorem Kp.late {r t:Ho}{S0 S:aa}{o:O}(a:Kp r S0 S)(h:S0.length<=t):Kp r S0 (S.set t o):=
 #[λj u n e=>by
  have:=b6 e;rw[bh ∅]; exact a.get j u n e,by simpa using a.len]
end
noncomputable def wO {α:Type}(o:Hn α)(Q:α->Prop):Prop:=match o with
 | some a=>Q a
 | none=>IV
theorem bR {α:Type}{o:Hn α}{Q:α->Prop}(h:wO o Q):Wp o Q:=by
 cases o with
 | none=>exact h.elim
 | some a=>exact#[a,rfl,h]
theorem EK {α:Type}{o:Hn α}{Q:α->Prop}(h:Wp o Q):wO o Q:=by
 obtain⟨a,rfl,q⟩:=h;exact q
theorem ab {α:Type}{o:Hn α}{a:α}{Q:α->Prop}(e:o=gV a)(h:Q a):wO o Q:=by subst e; exact h
noncomputable def wB:W->(HU->Prop)->Prop
 | .bl k,Q=>Q k
 | _,_=>IV
noncomputable def wN:W->(Hv->Prop)->Prop
 | .int k,Q=>Q k
 | _,_=>IV
noncomputable def wU:W->(Hg W->Prop)->Prop
 | .tup k,Q=>Q k
 | _,_=>IV
theorem o4 {w:W}{Q:HU->Prop}(h:wB w Q):∃k,w=.bl k/\Q k:=by cases w <;> first|exact h.elim|exact#[_,rfl,h]
theorem A7 {w:W}{Q:Hv->Prop}(h:wN w Q):∃k,w=.int k/\Q k:=by cases w <;> first|exact h.elim|exact#[_,rfl,h]
theorem EM {w:W}{Q:Hg W->Prop}(h:wU w Q):∃k,w=.tup k/\Q k:=by cases w <;> first|exact h.elim|exact#[_,rfl,h]
noncomputable def w2:Hg W->(W->W->Prop)->Prop
 | [x,y],Q=>Q x y
 | _,_=>IV
theorem EN {xs:Hg W}{Q:W->W->Prop}(h:w2 xs Q):∃x y,xs=[x,y]/\Q x y:=by
 match xs,h with
 | [x,y],h=>exact#[x,y,rfl,h]
noncomputable def wG:Hn W->(W->Prop)->Prop
 | some w,Q=>Q w
 | none,_=>IV
noncomputable def wV:Fm->Ho->(W->Prop)->Prop
 | [],_,_=>IV
 | o::_,0,Q=>wG o Q
 | _::ρ,n+1,Q=>wV ρ n Q
theorem wI {Q:W->Prop}:∀ {ρ:Fm} {i:Ho},wV ρ i Q->∃w,ρ[i]?=gV (gV w)/\Q w
 | [],i,h=>h.elim
 | some w::ρ,0,h=>#[w,rfl,h]
 | none::ρ,0,h=>h.elim
 | x::ρ,n+1,h=>by
  obtain⟨w,e2,q⟩:=wI (ρ:=ρ) (i:=n) h;exact#[w,e2,q]
noncomputable def aC (Φ:HJ->FF)(f:HJ)(n:Ho)(ws:Hg W)(S:aa):Hn (W×aa):=if ws.length=n then Φ f ws S else td
section
variable (Φ:HJ->FF) (fuel:Ho)
mutual
noncomputable def wE:E->Fm->aa->QW->Prop
 | .c w,_,S,Q=>Q (w,S)
 | .v i,ρ,S,Q=>wV ρ i λw=>Q (w,S)
 | .op o a b,ρ,S,Q=>wE a ρ S λp=>wE b ρ p.2 λq=>wO (hG o p.1 q.1 q.2) Q
 | .cmp o a b,ρ,S,Q=>wE a ρ S λp=>wE b ρ p.2 λq=>wO (aL o p.1 q.1 q.2) Q
 | .and a b,ρ,S,Q=>wE a ρ S λp=>wB p.1 λk=>(k=true->wE b ρ p.2 Q)/\(k=false->Q (.bl false,p.2))
 | .or a b,ρ,S,Q=>wE a ρ S λp=>wB p.1 λk=>(k=true->Q (.bl true,p.2))/\(k=false->wE b ρ p.2 Q)
 | .not a,ρ,S,Q=>wE a ρ S λp=>wB p.1 λk=>Q (.bl (!k),p.2)
 | .own f n es,ρ,S,Q=>wA es ρ S λp=>wO (aC Φ f n p.1 p.2) Q
 | .bi b es,ρ,S,Q=>wA es ρ S λp=>wO (b.fn p.1 p.2) Q
 | .me m o es,ρ,S,Q=>wE o ρ S λp=>tyOk m.ty p.2 p.1=true/\wA es ρ p.2 λq=>wO (m.fn p.1 q.1 q.2) Q
 | .ix a b,ρ,S,Q=>wE a ρ S λp=>wE b ρ p.2 λq=>wO (ju p.1 q.1 q.2) Q
 | .sl a lo hi,ρ,S,Q=>wE a ρ S λp=>wP lo ρ p.2 λq=>wP hi ρ q.2 λr=>wO (jg p.1 q.1 r.1 r.2) Q
 | .tup es,ρ,S,Q=>wA es ρ S λp=>Q (.tup p.1,p.2)
 | .lst es,ρ,S,Q=>wA es ρ S λp=>Q (.ref p.2.length,p.2++[.lst p.1])
 | .isi c a,ρ,S,Q=>wE a ρ S λp=>wO (ny p.2 p.1 c) λk=>Q (.bl k,p.2)
 | .neg a,ρ,S,Q=>wE a ρ S λp=>wN p.1 λi=>Q (.int (-i),p.2)
 | .dnew,_,S,Q=>Q (.ref S.length,S++[.dic []])
 | .disp es,ρ,S,Q=>wA es ρ (S++[.dic []]) λp=>p.2[S.length]?=gV (.dic [])/\wO (dD [] p.1) λkvs=>Q (.ref S.length,p.2.set S.length (.dic kvs))
 | .chn o o' a b d,ρ,S,Q=>wE a ρ S λp=>wE b ρ p.2 λq=>wO (uF o p.1 q.1 q.2) λk=>(k=true->wE d ρ q.2 λr=>wO (dJ o' q.1 r.1 r.2) Q)/\(k=false->Q (.bl false,q.2))
 | .ite t a b,ρ,S,Q=>wT t ρ S λp=>(p.1=true->wE a ρ p.2 Q)/\(p.1=false->wE b ρ p.2 Q)
 | .comp elt tg it cs cap,ρ,S,Q=>Wp (az Φ (.comp elt tg it cs cap) ρ S) Q
noncomputable def wT:E->Fm->aa->QB->Prop
 | .cmp o a b,ρ,S,Q=>wE a ρ S λp=>wE b ρ p.2 λq=>wO (aL o p.1 q.1 q.2) λr=>wB r.1 λk=>Q (k,r.2)
 | .and a b,ρ,S,Q=>wT a ρ S λp=>(p.1=true->wT b ρ p.2 Q)/\(p.1=false->Q (false,p.2))
 | .or a b,ρ,S,Q=>wT a ρ S λp=>(p.1=true->Q (true,p.2))/\(p.1=false->wT b ρ p.2 Q)
 | .not a,ρ,S,Q=>wT a ρ S λp=>Q (!p.1,p.2)
 | .isi c a,ρ,S,Q=>wE a ρ S λp=>wO (ny p.2 p.1 c) λk=>Q (k,p.2)
 | .c w,ρ,S,Q=>Wp (cU Φ (.c w) ρ S) Q
 | .v i,ρ,S,Q=>wV ρ i λw=>wO (cw S w) λk=>Q (k,S)
 | .op o a b,ρ,S,Q=>Wp (cU Φ (.op o a b) ρ S) Q
 | .own f n es,ρ,S,Q=>wA es ρ S λp=>wO (aC Φ f n p.1 p.2) λq=>wO (cw q.2 q.1) λk=>Q (k,q.2)
 | .bi b es,ρ,S,Q=>wA es ρ S λp=>wO (b.fn p.1 p.2) λq=>wO (cw q.2 q.1) λk=>Q (k,q.2)
 | .me m o es,ρ,S,Q=>Wp (cU Φ (.me m o es) ρ S) Q
 | .ix a b,ρ,S,Q=>Wp (cU Φ (.ix a b) ρ S) Q
 | .sl a lo hi,ρ,S,Q=>Wp (cU Φ (.sl a lo hi) ρ S) Q
 | .tup es,ρ,S,Q=>Wp (cU Φ (.tup es) ρ S) Q
 | .lst es,ρ,S,Q=>Wp (cU Φ (.lst es) ρ S) Q
 | .neg a,ρ,S,Q=>Wp (cU Φ (.neg a) ρ S) Q
 | .dnew,ρ,S,Q=>Wp (cU Φ .dnew ρ S) Q
 | .disp es,ρ,S,Q=>Wp (cU Φ (.disp es) ρ S) Q
 | .chn o o' a b d,ρ,S,Q=>wE a ρ S λp=>wE b ρ p.2 λq=>wO (uF o p.1 q.1 q.2) λk=>(k=true->wE d ρ q.2 λr=>wO (dJ o' q.1 r.1 r.2) λs=>wB s.1 λc=>Q (c,s.2))/\(k=false->Q (false,q.2))
 | .ite t a b,ρ,S,Q=>Wp (cU Φ (.ite t a b) ρ S) Q
 | .comp elt tg it cs cap,ρ,S,Q=>Wp (cU Φ (.comp elt tg it cs cap) ρ S) Q
noncomputable def wA:Es->Fm->aa->(Hg W×aa->Prop)->Prop
 | .nil,_,S,Q=>Q ([],S)
 | .cons e es,ρ,S,Q=>wE e ρ S λp=>wA es ρ p.2 λq=>Q (p.1::q.1,q.2)
noncomputable def wP:Ep->Fm->aa->(Hn Hv×aa->Prop)->Prop
 | .no,_,S,Q=>Q (td,S)
 | .yes a,ρ,S,Q=>wE a ρ S λp=>wN p.1 λi=>Q (gV i,p.2)
end
noncomputable def o5 (K:Fm->aa->Prop)(Q:QO)(p:Out×aa):Prop:=match p.1 with
 | .nx ρ=>K ρ p.2
 | o=>Q (o,p.2)
mutual
noncomputable def wS:Sm->Fm->aa->(Fm->aa->Prop)->QO->Prop
 | .set i e,ρ,S,K,_=>wE Φ e ρ S λp=>K (ρ.set i (gV p.1)) p.2
 | .asg is e,ρ,S,K,_=>wE Φ e ρ S λp=>wU p.1 λws=>wO (cK is ws ρ) λρ'=>K ρ' p.2
 | .par i j es,ρ,S,K,_=>wA Φ es ρ S λp=>w2 p.1 λx y=>K ((ρ.set i (gV x)).set j (gV y)) p.2
 | .put o k e,ρ,S,K,_=>wE Φ e ρ S λp=>wE Φ o ρ p.2 λq=>wE Φ k ρ q.2 λr=>wO (ig q.1 r.1 p.1 r.2) λS'=>K ρ S'
 | .ex e,ρ,S,K,_=>wE Φ e ρ S λp=>K ρ p.2
 | .ret e,ρ,S,_,Q=>wE Φ e ρ S λp=>Q (.rt p.1,p.2)
 | .retN,_,S,_,Q=>Q (.rt .non,S)
 | .pass,ρ,S,K,_=>K ρ S
 | .brk,ρ,S,_,Q=>Q (.bk ρ,S)
 | .cont,ρ,S,_,Q=>Q (.ct ρ,S)
 | .bad,_,_,_,_=>IV
 | .ite t a b,ρ,S,K,Q=>wT Φ t ρ S λp=>∀Q':QO,(∀ρ' S',K ρ' S'->Q' (.nx ρ',S'))->(∀o S',(∀ρ',o≠.nx ρ')->Q (o,S')->Q' (o,S'))->(p.1=true->Ab a ρ p.2 Q')/\(p.1=false->Ab b ρ p.2 Q')
 | .whl t b,ρ,S,K,Q=>Wp (fJ Φ fuel (.whl t b) ρ S) (o5 K Q)
 | .loop tg it b,ρ,S,K,Q=>Wp (fJ Φ fuel (.loop tg it b) ρ S) (o5 K Q)
noncomputable def Ab:Ss->Fm->aa->QO->Prop
 | .nil,ρ,S,Q=>Q (.nx ρ,S)
 | .cons s ss,ρ,S,Q=>wS s ρ S (λρ' S'=>Ab ss ρ' S' Q) Q
end
end
noncomputable def Fk:Es->Ho
 | .nil=>0
 | .cons _ es=>Fk es+1
mutual
noncomputable def dM:E->HU
 | .c _|.v _|.comp _ _ _ _ _|.dnew=>true
 | .op _ a b|.cmp _ a b|.and a b|.or a b|.ix a b=>dM a&&dM b
 | .chn _ _ a b c|.ite a b c=>dM a&&dM b&&dM c
 | .neg a|.not a|.isi _ a=>dM a
 | .own _ n es=>Fk es==n&&nZ es
 | .bi _ es|.disp es=>nZ es
 | .me _ o es=>dM o&&nZ es
 | .sl a lo hi=>dM a&&Go lo&&Go hi
 | .tup es|.lst es=>decide (Fk es<=1000)&&nZ es
noncomputable def nZ:Es->HU
 | .nil=>true
 | .cons e es=>dM e&&nZ es
noncomputable def Go:Ep->HU
 | .no=>true
 | .yes e=>dM e
end
mutual
noncomputable def GQ:Sm->HU
 | .set _ e|.asg _ e|.ex e|.ret e=>dM e
 | .put o k e=>dM o&&dM k&&dM e
 | .par _ _ es=>nZ es
 | .ite t a b=>dM t&&fT a&&fT b
 | _=>true
noncomputable def fT:Ss->HU
 | .nil=>true
 | .cons s ss=>GQ s&&fT ss
end
section
variable{Φ:HJ->FF}{fuel:Ho}
theorem ir:∀ {es:Es} {ρ:Fm} {S S':aa} {ws:Hg W},db Φ es ρ S=gV (ws,S')->ws.length=Fk es
 | .nil,ρ,S,S',ws,h=>by dsimp only[db]at h; cases h; rfl
 | .cons e es,ρ,S,S',ws,h=>by
  dsimp only[db]at h;unfold dH at h;split at h
  ·split at h
   ·rename_i h2; cases h; rw[Iw,ir h2]; rfl
   ·cases h
  ·cases h
theorem wJ {n:Ho}(h:decide (n<=1000)=true):n<=sizeLine:=HZ (IT h) (by rw[IL]; decide)
theorem cf {a b:HU}(h:(a&&b)=true):a=true:=by cases a <;> first|rfl|cases h
theorem de {a b:HU}(h:(a&&b)=true):b=true:=by cases a <;> first|exact h|cases h
mutual
theorem aQ:∀(e:E) {ρ:Fm} {S:aa} {Q:QW},dM e=true->wE Φ e ρ S Q->Wp (az Φ e ρ S) Q
 | .c w,ρ,S,Q,k,h=>G3.mpr h
 | .v i,ρ,S,Q,k,h=>GP.mpr (wI h)
 | .op o a b,ρ,S,Q,k,h=>Gd.mpr ((aQ a (cf k) h).mono λp hp=>(aQ b (de k) hp).mono λq hq=>bR hq)
 | .cmp o a b,ρ,S,Q,k,h=>AU.mpr ((aQ a (cf k) h).mono λp hp=>(aQ b (de k) hp).mono λq hq=>bR hq)
 | .and a b,ρ,S,Q,k,h=>Ek.mpr ((aQ a (cf k) h).mono λp hp=>let ⟨c,e,h1,h2⟩:=o4 hp; #[c,e,λz=>aQ b (de k) (h1 z),h2])
 | .or a b,ρ,S,Q,k,h=>Gf.mpr ((aQ a (cf k) h).mono λp hp=>let ⟨c,e,h1,h2⟩:=o4 hp; #[c,e,h1,λz=>aQ b (de k) (h2 z)])
 | .not a,ρ,S,Q,k,h=>El.mpr ((aQ a k h).mono λp hp=>o4 hp)
 | .own f n es,ρ,S,Q,k,h=>AV.mpr (by
   obtain⟨⟨ws,S1⟩,e,hq⟩:=gL es (de k) h;have hl:ws.length=n:=(ir e).trans (eq_of_beq (cf k));simp only[aC,HV hl]at hq;exact#[_,e,hl,bR hq])
 | .bi b es,ρ,S,Q,k,h=>En.mpr ((gL es k h).mono λp hp=>bR hp)
 | .me m o es,ρ,S,Q,k,h=>Gg.mpr ((aQ o (cf k) h).mono λp hp=>#[hp.1,(gL es (de k) hp.2).mono λq hq=>bR hq])
 | .ix a b,ρ,S,Q,k,h=>Ge.mpr ((aQ a (cf k) h).mono λp hp=>(aQ b (de k) hp).mono λq hq=>bR hq)
 | .sl a lo hi,ρ,S,Q,k,h=>Gh.mpr ((aQ a (cf (cf k)) h).mono λp hp=>(Ba lo (de (cf k)) hp).mono λq hq=>(Ba hi (de k) hq).mono λr hr=>bR hr)
 | .tup es,ρ,S,Q,k,h=>Er.mpr (by
   obtain⟨⟨ws,S1⟩,e,hq⟩:=gL es (de k) h;exact#[_,e,by rw[ir e]; exact wJ (cf k),hq])
 | .lst es,ρ,S,Q,k,h=>Et.mpr (by
   obtain⟨⟨ws,S1⟩,e,hq⟩:=gL es (de k) h;exact#[_,e,by rw[ir e]; exact wJ (cf k),hq])
 | .isi c a,ρ,S,Q,k,h=>AW.mpr ((aQ a k h).mono λp hp=>bR hp)
 | .neg a,ρ,S,Q,k,h=>Eu.mpr ((aQ a k h).mono λp hp=>A7 hp)
 | .dnew,ρ,S,Q,k,h=>#[_,rfl,h]
 | .disp es,ρ,S,Q,k,h=>CC.mpr ((gL es k h).mono λp hp=>#[hp.1,let ⟨kvs,e,q⟩:=bR hp.2; #[kvs,e,q]])
 | .chn o o' a b d,ρ,S,Q,k,h=>AX ((aQ a (cf (cf k)) h).mono λp hp=>(aQ b (de (cf k)) hp).mono λq hq=>let ⟨c,e,h1,h2⟩:=bR hq; #[c,e,λz=>(aQ d (de k) (h1 z)).mono λr hr=>bR hr,h2])
 | .ite t a b,ρ,S,Q,k,h=>Em.mpr ((iu t (cf (cf k)) h).mono λp hp=>#[λz=>aQ a (de (cf k)) (hp.1 z),λz=>aQ b (de k) (hp.2 z)])
 | .comp elt tg it cs cap,ρ,S,Q,k,h=>h
theorem gL:∀(es:Es) {ρ:Fm} {S:aa} {Q:Hg W×aa->Prop},nZ es=true->wA Φ es ρ S Q->Wp (db Φ es ρ S) Q
 | .nil,ρ,S,Q,k,h=>Ev.mpr h
 | .cons e es,ρ,S,Q,k,h=>CD.mpr ((aQ e (cf k) h).mono λp hp=>gL es (de k) hp)
theorem Ba:∀(e:Ep) {ρ:Fm} {S:aa} {Q:Hn Hv×aa->Prop},Go e=true->wP Φ e ρ S Q->Wp (rT Φ e ρ S) Q
 | .no,ρ,S,Q,k,h=>Gi.mpr h
 | .yes a,ρ,S,Q,k,h=>Eo.mpr ((aQ a k h).mono λp hp=>A7 hp)
theorem iu:∀(e:E) {ρ:Fm} {S:aa} {Q:QB},dM e=true->wT Φ e ρ S Q->Wp (cU Φ e ρ S) Q
 | .cmp o a b,ρ,S,Q,k,h=>Ew.mpr (AU.mpr ((aQ a (cf k) h).mono λp hp=>(aQ b (de k) hp).mono λq hq=>(bR hq).mono λr hr=>o4 hr))
 | .and a b,ρ,S,Q,k,h=>Ey.mpr ((iu a (cf k) h).mono λp hp=>#[λz=>iu b (de k) (hp.1 z),hp.2])
 | .or a b,ρ,S,Q,k,h=>Gj.mpr ((iu a (cf k) h).mono λp hp=>#[hp.1,λz=>iu b (de k) (hp.2 z)])
 | .not a,ρ,S,Q,k,h=>Ez.mpr (iu a k h)
 | .isi c a,ρ,S,Q,k,h=>EB.mpr (AW.mpr ((aQ a k h).mono λp hp=>let ⟨b,e,q⟩:=bR hp; #[b,e,b,rfl,q]))
 | .v i,ρ,S,Q,k,h=>G4.mpr (GP.mpr (let ⟨w,e,q⟩:=wI h; #[w,e,bR q]))
 | .own f n es,ρ,S,Q,k,h=>EA.mpr (AV.mpr (by
   obtain⟨⟨ws,S1⟩,e,hq⟩:=gL es (de k) h;have hl:ws.length=n:=(ir e).trans (eq_of_beq (cf k));simp only[aC,HV hl]at hq;exact#[_,e,hl,(bR hq).mono λq hq=>bR hq]))
 | .c w,ρ,S,Q,k,h=>h
 | .op o a b,ρ,S,Q,k,h=>h
 | .bi b es,ρ,S,Q,k,h=>Gk.mpr (En.mpr ((gL es k h).mono λp hp=>(bR hp).mono λq hq=>bR hq))
 | .me m o es,ρ,S,Q,k,h=>h
 | .ix a b,ρ,S,Q,k,h=>h
 | .sl a lo hi,ρ,S,Q,k,h=>h
 | .tup es,ρ,S,Q,k,h=>h
 | .lst es,ρ,S,Q,k,h=>h
 | .neg a,ρ,S,Q,k,h=>h
 | .dnew,ρ,S,Q,k,h=>h
 | .disp es,ρ,S,Q,k,h=>h
 | .chn o o' a b d,ρ,S,Q,k,h=>Ex.mpr (AX ((aQ a (cf (cf k)) h).mono λp hp=>(aQ b (de (cf k)) hp).mono λq hq=>let ⟨c,e,h1,h2⟩:=bR hq; #[c,e,λz=>(aQ d (de k) (h1 z)).mono λr hr=>(bR hr).mono λs hs=>o4 hs,λz=>#[false,rfl,h2 z]]))
 | .ite t a b,ρ,S,Q,k,h=>h
 | .comp elt tg it cs cap,ρ,S,Q,k,h=>h
end
mutual
theorem EO:∀(s:Sm) {ρ:Fm} {S:aa} {K:Fm->aa->Prop} {Q:QO},GQ s=true->wS Φ fuel s ρ S K Q->Wp (fJ Φ fuel s ρ S) (o5 K Q)
 | .set i e,ρ,S,K,Q,k,h=>CG.mpr (aQ e k h)
 | .asg is e,ρ,S,K,Q,k,h=>CH.mpr ((aQ e k h).mono λp hp=>let ⟨ws,e1,h1⟩:=EM hp; let ⟨ρ',e2,h2⟩:=bR h1; #[ws,ρ',e1,e2,h2])
 | .par i j es,ρ,S,K,Q,k,h=>CI.mpr ((gL es k h).mono λp hp=>EN hp)
 | .put o i e,ρ,S,K,Q,k,h=>CJ.mpr ((aQ e (de k) h).mono λp hp=>(aQ o (cf (cf k)) hp).mono λq hq=>(aQ i (de (cf k)) hq).mono λr hr=>bR hr)
 | .ex e,ρ,S,K,Q,k,h=>ED.mpr (aQ e k h)
 | .ret e,ρ,S,K,Q,k,h=>CK.mpr (aQ e k h)
 | .retN,ρ,S,K,Q,k,h=>#[_,rfl,h]
 | .pass,ρ,S,K,Q,k,h=>#[_,rfl,h]
 | .brk,ρ,S,K,Q,k,h=>#[_,rfl,h]
 | .cont,ρ,S,K,Q,k,h=>#[_,rfl,h]
 | .bad,ρ,S,K,Q,k,h=>h.elim
 | .ite t a b,ρ,S,K,Q,k,h=>CL.mpr ((iu t (cf (cf k)) h).mono λp hp=>by
   obtain⟨h1,h2⟩:=hp (o5 K Q) (λρ' S' z=>z) (λo S' hn z=>by cases o <;> first|exact z|exact absurd rfl (hn _))
   exact#[λz=>iZ a (de (cf k)) (h1 z),λz=>iZ b (de k) (h2 z)])
 | .whl t b,ρ,S,K,Q,k,h=>h
 | .loop tg it b,ρ,S,K,Q,k,h=>h
theorem iZ:∀(ss:Ss) {ρ:Fm} {S:aa} {Q:QO},fT ss=true->Ab Φ fuel ss ρ S Q->Wp (fR Φ fuel ss ρ S) Q
 | .nil,ρ,S,Q,k,h=>EC.mpr h
 | .cons s ss,ρ,S,Q,k,h=>CF.mpr ((EO s (cf k) h).mono λp hp=>by
   obtain⟨o,S1⟩:=p;cases o with
   | nx ρ'=>exact#[λρ2 e=>by cases e; exact iZ ss (de k) hp,λz=>absurd rfl (z ρ')]
   | _=>exact#[λρ2 e=>(by cases e),λ_=>hp])
end
structure wZ (Φ:HJ->FF)(fuel:Ho)(ss:Ss)(ρ:Fm)(S:aa)(Q:QO):Prop where
 out:Ab Φ fuel ss ρ S Q
theorem EQ {ss:Ss}{ρ:Fm}{S:aa}{Q:QO}:Ab Φ fuel ss ρ S Q=wZ Φ fuel ss ρ S Q:=propext #[λh=>#[h],λh=>h.out]
theorem CO {defs:Hg (HJ×Df)}{d:Ho}{f:HJ}{n:Ho}{ws:Hg W}{df:Df}{S:aa}{Q:QW}(h:defs.lookup f=gV df)(hn:ws.length=n)(hl:ws.length=df.ps.length)(ok:fT df.body=true)
  (hb:∀Q':QO,(∀w S',Q (w,S')->Q' (.rt w,S'))->wZ (ak defs fuel d) fuel df.body (ff df.N ws) S Q'):wO (aC (ak defs fuel (d+1)) f n ws S) Q:=by
 unfold aC;rw[HV hn];exact EK (tZ h hl ((iZ _ ok (hb (λp=>match p.1 with|.rt w=>Q (w,p.2)|_=>IV) λw S' q=>q).out).mono λp hp=>by
  obtain⟨o,S1⟩:=p;cases o <;> first|exact hp|exact hp.elim))
end
section
variable{Φ:HJ->FF}{fuel:Ho}{ρ:Fm}{S:aa}{K:Fm->aa->Prop}{Q:QO}
noncomputable def t9 (Φ:HJ->FF)(fuel:Ho)(b:Ss)(ρ:Fm)(S:aa)(I:Fm->aa->Prop)(Q:QO):Prop:=∀Q':QO,(∀ρ' S',I ρ' S'->Q' (.nx ρ',S'))->(∀w S',Q (.rt w,S')->Q' (.rt w,S'))->wZ Φ fuel b ρ S Q'
theorem fU {tg:Tg}{it:Ie}{b:Ss}{mi:MI}{S1:aa}{xs:Hg W}(I:Ho->Fm->aa->Prop)(ok:fT b=true)(hi:jv Φ it ρ S=gV (mi,S1))(hat:∀i ρ S,I i ρ S->mi.at S i=gV xs[i]?)(hl:mi.len S1=gV xs.length)(h0:I 0 ρ S1)
  (hstep:∀(i:Ho) (w:W) (ρ:Fm) (S:aa),xs[i]?=gV w->I i ρ S->wO (eL tg w ρ S) λq=>t9 Φ fuel b q.1 q.2 (I (i+1)) Q) (hend:∀ρ S,I xs.length ρ S->K ρ S):Wp (fJ Φ fuel (.loop tg it b) ρ S) (o5 K Q):=by
 rw[fJ,EE];refine#[_,hi,xs.length,hl,?_];refine iY (Q:=o5 K Q) I hat (λi w ρ S h1 h2=>?_) (λρ S h=>hend ρ S h) _ 0 ρ S1 ∅ h0
 exact(bR (hstep i w ρ S h1 h2)).mono λq hq=>iZ b ok (wZ.out (hq _ (λ_ _ h=>h) λ_ _ h=>h))
theorem bV {e:E}{Q:QW}(ok:dM e=true)(h:wE Φ e ρ S Q):∃w S',az Φ e ρ S=gV (w,S')/\Q (w,S'):=let ⟨⟨w,S'⟩,a,b⟩:=aQ e ok h; #[w,S',a,b]
theorem bC {i0:Ho}{e:E}{b:Ss}(j:Hv)(I:Ho->Fm->aa->Prop)(oe:dM e=true)(ok:fT b=true)(hj : -(2 ^ 62)<=j/\j < 2 ^ 62)(he:wE Φ e ρ S λp=>p.1=.int j/\I 0 ρ p.2)
  (hstep:∀(i:Ho) (ρ:Fm) (S:aa),(i:Hv) < j->I i ρ S->t9 Φ fuel b (ρ.set i0 (gV (.int i))) S (I (i+1)) Q) (hend:∀ρ S,I j.toNat ρ S->K ρ S):Wp (fJ Φ fuel (.loop (.nm i0) (.rng #v[e]) b) ρ S) (o5 K Q):=by
 obtain⟨w,S1,e1,rfl,h0⟩:=bV oe he;have hl:(da 0 j.toNat).length=j.toNat:=by simp[da]
 refine fU (mi:=.its (da 0 j.toNat)) (S1:=S1) (xs:=da 0 j.toNat) I ok ?_ (λ_ _ _ _=>rfl) rfl h0 (λi w ρ S hw hI=>?_) λρ S hI=>hend ρ S (hl ▸ hI)
 ·simp only[jv,db,dH,ik,qi,e1];rw[HV hj]
 ·rw[d7]at hw;split at hw
  ·rename_i hk;cases hw;rw[LB];exact hstep i ρ S ∅ hI
  ·cases hw
theorem for_tup {tg:Tg}{e:E}{b:Ss}(xs:Hg W)(I:Ho->Fm->aa->Prop)(oe:dM e=true)(ok:fT b=true)(he:wE Φ e ρ S λp=>p.1=.tup xs/\I 0 ρ p.2)
  (hstep:∀(i:Ho) (w:W) (ρ:Fm) (S:aa),xs[i]?=gV w->I i ρ S->wO (eL tg w ρ S) λq=>t9 Φ fuel b q.1 q.2 (I (i+1)) Q) (hend:∀ρ S,I xs.length ρ S->K ρ S):Wp (fJ Φ fuel (.loop tg (.seq e) b) ρ S) (o5 K Q):=by
 obtain⟨w,S1,e1,rfl,h0⟩:=bV oe he;exact fU (mi:=.its xs) (S1:=S1) I ok (by simp only[jv,eQ,e1]) (λ_ _ _ _=>rfl) rfl h0 hstep hend
theorem jC {tg:Tg}{e:E}{b:Ss}(t:Ho)(xs:Hg W)(I:Ho->Fm->aa->Prop)(oe:dM e=true)(ok:fT b=true)(he:wE Φ e ρ S λp=>p.1=.ref t/\I 0 ρ p.2)(hat:∀i ρ S,I i ρ S->S[t]?=gV (.lst xs))
  (hstep:∀(i:Ho) (w:W) (ρ:Fm) (S:aa),xs[i]?=gV w->I i ρ S->wO (eL tg w ρ S) λq=>t9 Φ fuel b q.1 q.2 (I (i+1)) Q) (hend:∀ρ S,I xs.length ρ S->K ρ S):Wp (fJ Φ fuel (.loop tg (.seq e) b) ρ S) (o5 K Q):=by
 obtain⟨w,S1,e1,rfl,h0⟩:=bV oe he;exact fU (mi:=.live t) (S1:=S1) I ok (by simp only[jv,eQ,e1,aJ (hat _ _ _ h0)]) (λi ρ S h=>by simp only[MI.at,aJ (hat _ _ _ h)]) (by simp only[MI.len,aJ (hat _ _ _ h0),Iq]) h0 hstep hend
theorem ER {t:E}{b:Ss}(I:Ho->Fm->aa->Prop)(m:Ho)(ot:dM t=true)(ok:fT b=true)(hm:m < fuel)(h0:I m ρ S)
  (hstep:∀m ρ S,I m ρ S->wT Φ t ρ S λk=>(k.1=true->∃m',m=m'+1/\t9 Φ fuel b ρ k.2 (I m') Q)/\(k.1=false->K ρ k.2)):Wp (fJ Φ fuel (.whl t b) ρ S) (o5 K Q):=by
 rw[fJ];refine j9 (Q:=o5 K Q) I (λm ρ S hI=>(iu t ot (hstep m ρ S hI)).mono λk hk=>#[λz=>?_,λz=>hk.2 z]) fuel m ρ S hm h0
 obtain⟨m',e,h⟩:=hk.1 z;exact#[m',e,iZ b ok (wZ.out (h _ (λ_ _ h=>h) λ_ _ h=>h))]
noncomputable def wC (Φ:HJ->FF):Es->Fm->aa->QB->Prop
 | .nil,_,S,Q=>Q (true,S)
 | .cons e .nil,ρ,S,Q=>wT Φ e ρ S Q
 | .cons _ (.cons _ _),_,_,_=>IV
theorem Bb {cs:Es}{Q:QB}(ok:nZ cs=true)(h:wC Φ cs ρ S Q):Wp (zY Φ cs ρ S) Q:=by
 match cs,h,ok with
 | .nil,h,_=>exact EF.mpr h
 | .cons e .nil,h,ok=>exact EG.mpr (iu e (cf ok) h)
noncomputable def fW (Φ:HJ->FF)(elt:E)(cs:Es)(ρ:Fm)(S:aa)(G:W->Fm->aa->Prop)(N:Fm->aa->Prop):Prop:=wC Φ cs ρ S λk=>(k.1=true->wE Φ elt ρ k.2 λy=>G y.1 ρ y.2)/\(k.1=false->N ρ k.2)
theorem kh {elt:E}{tg:Tg}{it:Ie}{cs:Es}{cap:Hg (Hn Ho)}{mi:MI}{S1:aa}{xs:Hg W}{Q:QW}(I:Ho->Hg W->Fm->aa->Prop)(oe:dM elt=true)(oc:nZ cs=true)(hi:jv Φ it ρ S=gV (mi,S1))(hat:∀i ys ρ S,I i ys ρ S->mi.at S i=gV xs[i]?)(hl:mi.len S1=gV xs.length)(h0:I 0 [] (eZ cap ρ) S1)
  (hstep:∀(i:Ho) (w:W) (ys:Hg W) (ρ:Fm) (S:aa),xs[i]?=gV w->I i ys ρ S->wO (eL tg w ρ S) λq=>fW Φ elt cs q.1 q.2 (λy=>I (i+1) (ys++[y])) (I (i+1) ys))
  (hend:∀ys ρ S,I xs.length ys ρ S->ys.length<=sizeLine/\Q (.ref S.length,S++[.lst ys])):Wp (az Φ (.comp elt tg it cs cap) ρ S) Q:=by
 rw[wz];refine#[_,hi,xs.length,hl,?_];refine(dL (xs:=xs) (Q:=λq=>q.1.length<=sizeLine/\Q (.ref q.2.length,q.2++[.lst q.1])) I hat (λi w ys ρ S h1 h2=>?_) hend xs.length 0 [] _ S1 ∅ h0).mono λq hq=>by simpa using hq
 exact(bR (hstep i w ys ρ S h1 h2)).mono λq hq=>(Bb oc hq).mono λk hk=>#[λz=>aQ elt oe (hk.1 z),hk.2]
theorem eB {elt e:E}{i0:Ho}{cs:Es}{cap:Hg (Hn Ho)}{Q:QW}(j:Hv)(I:Ho->Hg W->Fm->aa->Prop)(oi:dM e=true)(oe:dM elt=true)(oc:nZ cs=true)(hj : -(2 ^ 62)<=j/\j < 2 ^ 62)(he:wE Φ e ρ S λp=>p.1=.int j/\I 0 [] (eZ cap ρ) p.2)
  (hstep:∀(i:Ho) (ys:Hg W) (ρ:Fm) (S:aa),(i:Hv) < j->I i ys ρ S->fW Φ elt cs (ρ.set i0 (gV (.int i))) S (λy=>I (i+1) (ys++[y])) (I (i+1) ys))
  (hend:∀ys ρ S,I j.toNat ys ρ S->ys.length<=sizeLine/\Q (.ref S.length,S++[.lst ys])):Wp (az Φ (.comp elt (.nm i0) (.rng #v[e]) cs cap) ρ S) Q:=by
 obtain⟨w,S1,e1,rfl,h0⟩:=bV oi he;have hl:(da 0 j.toNat).length=j.toNat:=by simp[da]
 refine kh (mi:=.its (da 0 j.toNat)) (S1:=S1) (xs:=da 0 j.toNat) I oe oc ?_ (λ_ _ _ _ _=>rfl) rfl h0 (λi w ys ρ S hw hI=>?_) λys ρ S hI=>hend ys ρ S (hl ▸ hI)
 ·simp only[jv,db,dH,ik,qi,e1];rw[HV hj]
 ·rw[d7]at hw;split at hw
  ·rename_i hk;cases hw;rw[LB];exact hstep i ys ρ S ∅ hI
  ·cases hw
theorem sd {elt e:E}{tg:Tg}{cs:Es}{cap:Hg (Hn Ho)}{Q:QW}(xs:Hg W)(I:Ho->Hg W->Fm->aa->Prop)(oi:dM e=true)(oe:dM elt=true)(oc:nZ cs=true)(he:wE Φ e ρ S λp=>p.1=.tup xs/\I 0 [] (eZ cap ρ) p.2)
  (hstep:∀(i:Ho) (w:W) (ys:Hg W) (ρ:Fm) (S:aa),xs[i]?=gV w->I i ys ρ S->wO (eL tg w ρ S) λq=>fW Φ elt cs q.1 q.2 (λy=>I (i+1) (ys++[y])) (I (i+1) ys))
  (hend:∀ys ρ S,I xs.length ys ρ S->ys.length<=sizeLine/\Q (.ref S.length,S++[.lst ys])):Wp (az Φ (.comp elt tg (.seq e) cs cap) ρ S) Q:=by
 obtain⟨w,S1,e1,rfl,h0⟩:=bV oi he;exact kh (mi:=.its xs) (S1:=S1) I oe oc (by simp only[jv,eQ,e1]) (λ_ _ _ _ _=>rfl) rfl h0 hstep hend
theorem se {elt e:E}{tg:Tg}{cs:Es}{cap:Hg (Hn Ho)}{Q:QW}(t:Ho)(xs:Hg W)(I:Ho->Hg W->Fm->aa->Prop)(oi:dM e=true)(oe:dM elt=true)(oc:nZ cs=true)(he:wE Φ e ρ S λp=>p.1=.ref t/\I 0 [] (eZ cap ρ) p.2)(hat:∀i ys ρ S,I i ys ρ S->S[t]?=gV (.lst xs))
  (hstep:∀(i:Ho) (w:W) (ys:Hg W) (ρ:Fm) (S:aa),xs[i]?=gV w->I i ys ρ S->wO (eL tg w ρ S) λq=>fW Φ elt cs q.1 q.2 (λy=>I (i+1) (ys++[y])) (I (i+1) ys))
  (hend:∀ys ρ S,I xs.length ys ρ S->ys.length<=sizeLine/\Q (.ref S.length,S++[.lst ys])):Wp (az Φ (.comp elt tg (.seq e) cs cap) ρ S) Q:=by
 obtain⟨w,S1,e1,rfl,h0⟩:=bV oi he;exact kh (mi:=.live t) (S1:=S1) I oe oc (by simp only[jv,eQ,e1,aJ (hat _ _ _ _ h0)]) (λi ys ρ S h=>by simp only[MI.at,aJ (hat _ _ _ _ h)]) (by simp only[MI.len,aJ (hat _ _ _ _ h0),Iq]) h0 hstep hend
theorem sf {elt a:E}{tg:Tg}{cs:Es}{cap:Hg (Hn Ho)}{Q:QW}(xs:Hg W)(I:Ho->Hg W->Fm->aa->Prop)(oa:dM a=true)(oe:dM elt=true)(oc:nZ cs=true)(he:wE Φ a ρ S λp=>Fj p.1=gV xs/\I 0 [] (eZ cap ρ) p.2)
  (hstep:∀(i:Ho) (x:W) (ys:Hg W) (ρ:Fm) (S:aa),xs[i]?=gV x->I i ys ρ S->wO (eL tg (.tup [.int i,x]) ρ S) λq=>fW Φ elt cs q.1 q.2 (λy=>I (i+1) (ys++[y])) (I (i+1) ys))
  (hend:∀ys ρ S,I xs.length ys ρ S->ys.length<=sizeLine/\Q (.ref S.length,S++[.lst ys])):Wp (az Φ (.comp elt tg (.enu #v[a]) cs cap) ρ S) Q:=by
 obtain⟨x,S1,e1,h1,h0⟩:=bV oa he;have hl:(iU xs).length=xs.length:=by simp[iU]
 refine kh (mi:=.its (iU xs)) (S1:=S1) (xs:=iU xs) I oe oc (by simp only[jv,db,dH,ik,wa,e1,h1]) (λ_ _ _ _ _=>rfl) rfl h0 (λi w ys ρ S hw hI=>?_) λys ρ S hI=>hend ys ρ S (hl ▸ hI)
 obtain⟨y,hy,rfl⟩:=jZ hw;exact hstep i y ys ρ S hy hI
theorem st {s:Sm}{ss:Ss}(h:wS Φ fuel s ρ S (λρ' S'=>wZ Φ fuel ss ρ' S' Q) Q):wZ Φ fuel (.cons s ss) ρ S Q:=#[by
 dsimp only[Ab];simp only[EQ];exact h]
theorem aM (h:Q (.nx ρ,S)):wZ Φ fuel .nil ρ S Q:=#[h]
theorem ah {t:HU}{a b:Ss}{Q Q0:QO}{K:Fm->aa->Prop}(ha:t=true->∀Q':QO,(∀ρ' S',K ρ' S'->Q' (.nx ρ',S'))->(∀w S',Q (.rt w,S')->Q' (.rt w,S'))->wZ Φ fuel a ρ S Q')(hb:t=false->∀Q':QO,(∀ρ' S',K ρ' S'->Q' (.nx ρ',S'))->(∀w S',Q (.rt w,S')->Q' (.rt w,S'))->wZ Φ fuel b ρ S Q') :
  ∀Q':QO,(∀ρ' S',K ρ' S'->Q' (.nx ρ',S'))->(∀o S',(∀ρ',o≠.nx ρ')->Q (o,S')->Q' (o,S'))->(t=true->Ab Φ fuel a ρ S Q')/\(t=false->Ab Φ fuel b ρ S Q'):=
 λQ' h1 h2=>#[λe=>(ha e Q' h1 λw S'=>h2 (.rt w) S' (λ_ z=>nomatch z)).out,λe=>(hb e Q' h1 λw S'=>h2 (.rt w) S' (λ_ z=>nomatch z)).out]
end
noncomputable def ee:Ss:=
 #v[.ret (.lst #v[.bi .list #v[.v 0],.c (.int 0),.c (.int 0),.c (.int 1),.c (.int 0)])]
noncomputable def cL:Ss:=
 #v[.ite (.and (.cmp .eq (.ix (.v 0) (.c (.int 2))) (.c (.int 0))) (.cmp .lt (.ix (.v 0) (.c (.int 1))) (.bi .len #v[.ix (.v 0) (.c (.int 0))]))) #v[.set 2 (.ix (.ix (.v 0) (.c (.int 0))) (.ix (.v 0) (.c (.int 1)))),.put (.v 0) (.c (.int 1)) (.op .add (.ix (.v 0) (.c (.int 1))) (.c (.int 1))),.ite (.cmp .ge (.v 2) (.op .pow (.c (.int 10)) (.c (.int 18)))) #v[.put (.v 0) (.c (.int 2)) (.v 2)] #v[.put (.v 0) (.c (.int 3)) (.op .mod (.op .add (.op .add (.op .mul (.ix (.v 0) (.c (.int 3))) (.c (.int 40013))) (.op .mod (.v 2) (.c (.int 1000003)))) (.c (.int 1))) (.c (.int 2147483647)))]] .nil,.ite (.cmp .gt (.ix (.v 0) (.c (.int 2))) (.c (.int 0))) #v[.set 3 (.op .mod (.ix (.v 0) (.c (.int 2))) (.v 1)),.put (.v 0) (.c (.int 2)) (.op .fdiv (.ix (.v 0) (.c (.int 2))) (.v 1)),.ret (.v 3)] .nil,.put (.v 0) (.c (.int 4)) (.op .add (.ix (.v 0) (.c (.int 4))) (.c (.int 1))),.put (.v 0) (.c (.int 3)) (.op .mod (.op .add (.op .add (.op .mul (.ix (.v 0) (.c (.int 3))) (.c (.int 48271))) (.c (.int 12820163))) (.ix (.v 0) (.c (.int 4)))) (.c (.int 2147483647))),.ret (.op .mod (.op .fdiv (.op .mod (.op .mul (.op .add (.op .mod (.ix (.v 0) (.c (.int 3))) (.c (.int 65521))) (.c (.int 1))) (.op .add (.op .fdiv (.ix (.v 0) (.c (.int 3))) (.c (.int 65521))) (.c (.int 7919)))) (.c (.int 1000003))) (.c (.int 7))) (.v 1))]
noncomputable def dk:Ss:=
 #v[.ite (.cmp .lt (.v 3) (.v 2)) #v[.ret (.ix (.ix (.ix (.v 1) (.v 2)) (.c (.int 1))) (.v 3))] .nil,.ret (.ix (.ix (.ix (.v 0) (.c (.int 1))) (.ix (.ix (.ix (.v 1) (.v 3)) (.c (.int 1))) (.v 2))) (.c (.int 1)))]
noncomputable def fg:Ss:=
 #v[.set 3 (.lst .nil),.loop (.nm 4) (.rng #v[.bi .len #v[.v 2]]) #v[.set 5 (.ix (.v 2) (.v 4)),.ex (.me .append (.v 3) #v[.tup #v[.ix (.ix (.v 1) (.v 5)) (.c (.int 0)),.bi .tuple #v[.comp (.own "_law_between" 4 #v[.v 3,.v 4,.v 2,.v 1]) (.nm 1) (.seq (.sl (.v 2) .no (.yes (.v 4)))) .nil [td,td,gV 5,gV 0,gV 1]]]])],.ret (.bi .tuple #v[.v 3])]
noncomputable def fX:Ss:=
 #v[.ret (.lst #v[.tup #v[.c (.int 0),.c (.int 1),.c (.int 2)],.tup #v[.c (.int 0),.c (.int 2),.c (.int 1)],.tup #v[.c (.int 1),.c (.int 0),.c (.int 2)],.tup #v[.c (.int 1),.c (.int 2),.c (.int 0)],.tup #v[.c (.int 2),.c (.int 0),.c (.int 1)],.tup #v[.c (.int 2),.c (.int 1),.c (.int 0)]])]
noncomputable def dN:Ss:=
 #v[.ret (.bi .min #v[.comp (.own "_law_part" 3 #v[.v 2,.v 3,.v 1]) (.nm 1) (.seq (.own "_law_turns" 0 .nil)) .nil [td,td,gV 0,gV 1]])]
noncomputable def eC:Ss:=
 #v[.set 2 (.ix (.lst #v[.lst #v[.tup #v[.c (.int 0)]],.lst #v[.tup #v[.c (.int 0),.c (.int 1)],.tup #v[.c (.int 1),.c (.int 0)]],.lst #v[.tup #v[.c (.int 0),.c (.int 1),.c (.int 2)],.tup #v[.c (.int 1),.c (.int 0),.c (.int 2)],.tup #v[.c (.int 0),.c (.int 2),.c (.int 1)]]]) (.op .sub (.v 1) (.c (.int 1)))),.ret (.ix (.v 2) (.own "_law_pick" 2 #v[.v 0,.bi .len #v[.v 2]]))]
noncomputable def dm:Ss:=
 #v[.set 4 (.own "_law_names" 2 #v[.v 0,.op .add (.v 1) (.bi .len #v[.v 2])]),.set 5 (.bi .tuple #v[.comp (.tup #v[.ix (.v 4) (.op .add (.v 3) (.v 1)),.ix (.v 2) (.v 1)]) (.nm 1) (.rng #v[.bi .len #v[.v 2]]) .nil [td,td,gV 2,gV 1,gV 4]]),.ret (.tup #v[.sl (.v 4) .no (.yes (.v 1)),.v 5,.bi .tuple #v[.bi .sorted #v[.v 3]]])]
noncomputable def cg:Ss:=
 #v[.set 3 (.lst .nil),.loop (.nm 4) (.rng #v[.c (.int 3)]) #v[.ex (.me .append (.v 3) #v[.tup #v[.own "_law_pick" 2 #v[.v 0,.v 1],.bi .tuple #v[.comp (.own "_law_pick" 2 #v[.v 2,.v 3]) (.nm 1) (.rng #v[.v 4]) .nil [td,td,gV 0,gV 2]]]])],.ret (.bi .tuple #v[.v 3])]
noncomputable def eE:Ss:=
 #v[.set 1 (.lst #v[.tup #v[.c (.int 1),.c (.int 1)],.tup #v[.c (.int 2),.c (.int 1)],.tup #v[.c (.int 3),.c (.int 1)],.tup #v[.c (.int 1),.c (.int 2)],.tup #v[.c (.int 1),.c (.int 2)],.tup #v[.c (.int 2),.c (.int 2)],.tup #v[.c (.int 2),.c (.int 2)],.tup #v[.c (.int 3),.c (.int 2)],.tup #v[.c (.int 1),.c (.int 3)],.tup #v[.c (.int 1),.c (.int 3)],.tup #v[.c (.int 2),.c (.int 3)]]),.ret (.ix (.v 1) (.own "_law_pick" 2 #v[.v 0,.c (.int 11)]))]
noncomputable def cX:Ss:=
 #v[.asg [1,2] (.own "_law_sizes" 1 #v[.v 0]),.set 3 (.own "_law_rule_of" 4 #v[.v 0,.v 1,.own "_law_backs" 2 #v[.v 0,.v 2],.tup .nil]),.set 4 .dnew,.loop (.nm 5) (.rng #v[.own "_law_pick" 2 #v[.v 0,.c (.int 9)]]) #v[.put (.v 4) (.own "_law_figure" 2 #v[.v 3,.own "_law_free_three" 3 #v[.v 0,.v 1,.v 2]]) (.c (.bl true))],.ret (.tup #v[.ix (.v 3) (.c (.int 0)),.ix (.v 3) (.c (.int 1)),.bi .tuple #v[.bi .sorted #v[.v 4]]])]
noncomputable def b7:Ss:=
 #v[.set 1 (.lst #v[.tup #v[.tup #v[.c (.int 1),.c (.int 0)],.disp #v[.tup #v[.c (.int 0),.c (.int 0)],.lst #v[.c (.int 0)]],.c (.int 3)],.tup #v[.tup #v[.c (.int 0),.c (.int 2),.c (.int 1)],.disp #v[.tup #v[.c (.int 1),.c (.int 1)],.lst #v[.c (.int 1)]],.c (.int 2)],.tup #v[.tup #v[.c (.int 0),.c (.int 1)],.disp #v[.tup #v[.c (.int 1),.c (.int 1)],.lst #v[.c (.int 1)]],.c (.int 3)]]),.ex (.me .append (.v 1) #v[.tup #v[.tup #v[.c (.int 0),.c (.int 1)],.disp #v[.tup #v[.c (.int 1),.c (.int 1)],.lst #v[.c (.int 1)],.tup #v[.c (.int 0),.c (.int 0)],.lst #v[.c (.int 1)]],.c (.int 3)]]),.ex (.me .append (.v 1) #v[.tup #v[.tup #v[.c (.int 0),.c (.int 1)],.disp #v[.tup #v[.c (.int 1),.c (.int 1)],.lst .nil],.c (.int 1)]]),.ex (.me .append (.v 1) #v[.tup #v[.tup #v[.c (.int 0),.c (.int 2),.c (.int 1)],.disp #v[.tup #v[.c (.int 0),.c (.int 0)],.lst #v[.c (.int 0)],.tup #v[.c (.int 0),.c (.int 1)],.lst #v[.c (.int 1)],.tup #v[.c (.int 1),.c (.int 0)],.lst #v[.c (.int 1)],.tup #v[.c (.int 1),.c (.int 1)],.lst #v[.c (.int 1)]],.c (.int 2)]]),.ex (.me .append (.v 1) #v[.tup #v[.tup #v[.c (.int 1),.c (.int 0)],.dnew,.c (.int 3)]]),.ex (.me .append (.v 1) #v[.tup #v[.tup #v[.c (.int 0),.c (.int 1),.c (.int 2)],.disp #v[.tup #v[.c (.int 2),.c (.int 2)],.lst #v[.c (.int 2)],.tup #v[.c (.int 1),.c (.int 2)],.lst #v[.c (.int 1)],.tup #v[.c (.int 2),.c (.int 1)],.lst #v[.c (.int 1)],.tup #v[.c (.int 1),.c (.int 1)],.lst #v[.c (.int 1),.c (.int 2)]],.c (.int 2)]]),.ex (.me .append (.v 1) #v[.tup #v[.tup #v[.c (.int 0),.c (.int 1),.c (.int 2)],.disp #v[.tup #v[.c (.int 0),.c (.int 0)],.lst #v[.c (.int 0),.c (.int 1)]],.c (.int 2)]]),.ret (.ix (.v 1) (.own "_law_pick" 2 #v[.v 0,.c (.int 9)]))]
noncomputable def dO:Ss:=
 #v[.set 5 (.disp #v[.tup #v[.c (.int 1),.c (.int 0)],.v 2,.tup #v[.c (.int 2),.c (.int 0)],.v 3,.tup #v[.c (.int 2),.c (.int 1)],.v 4]),.loop (.nm 6) (.seq (.bi .list #v[.v 5])) #v[.put (.v 5) (.tup #v[.ix (.v 6) (.c (.int 1)),.ix (.v 6) (.c (.int 0))]) (.ix (.v 0) (.ix (.v 5) (.v 6)))],.loop (.tp [7,8,9]) (.seq (.own "_law_turns" 0 .nil)) #v[.ite (.cmp .notin (.ix (.v 5) (.tup #v[.v 7,.v 9])) (.me .get (.v 1) #v[.tup #v[.ix (.v 5) (.tup #v[.v 7,.v 8]),.ix (.v 5) (.tup #v[.v 8,.v 9])],.lst #v[.ix (.v 5) (.tup #v[.v 7,.v 9])]])) #v[.ret (.c (.bl true))] .nil],.ret (.c (.bl false))]
noncomputable def bj:Ss:=
 #v[.set 3 (.bi .len #v[.v 1]),.set 4 (.lst #v[.lst #v[.tup #v[.c (.int 0)]],.lst #v[.tup #v[.c (.int 0),.c (.int 1)],.tup #v[.c (.int 1),.c (.int 0)]]]),.ex (.me .append (.v 4) #v[.lst #v[.tup #v[.c (.int 0),.c (.int 1),.c (.int 2)],.tup #v[.c (.int 0),.c (.int 2),.c (.int 1)],.tup #v[.c (.int 2),.c (.int 0),.c (.int 1)],.tup #v[.c (.int 2),.c (.int 1),.c (.int 0)]]]),.set 5 (.ix (.v 4) (.op .sub (.v 3) (.c (.int 1)))),.ite (.cmp .eq (.v 1) (.tup #v[.c (.int 0),.c (.int 1),.c (.int 2)])) #v[.set 5 (.own "_law_turns" 0 .nil)] .nil,.set 6 (.ix (.v 5) (.own "_law_pick" 2 #v[.v 0,.bi .len #v[.v 5]])),.set 7 (.op .mul (.lst #v[.c (.int 0)]) (.v 3)),.loop (.nm 8) (.rng #v[.v 3]) #v[.put (.v 7) (.ix (.v 6) (.v 8)) (.ix (.v 6) (.ix (.v 1) (.v 8)))],.set 9 .dnew,.loop (.tp [10,11]) (.seq (.v 2)) #v[.put (.v 9) (.tup #v[.ix (.v 6) (.v 10),.ix (.v 6) (.v 11)]) (.comp (.ix (.v 2) (.v 1)) (.nm 1) (.seq (.ix (.v 2) (.tup #v[.v 10,.v 11]))) .nil [td,td,gV 6])],.ret (.tup #v[.bi .tuple #v[.v 7],.v 9])]
noncomputable def b8:Ss:=
 #v[.set 1 (.own "_law_pick" 2 #v[.v 0,.c (.int 7)]),.ite (.cmp .eq (.v 1) (.c (.int 0))) #v[.ret (.own "_law_free_rule" 1 #v[.v 0])] .nil,.ite (.cmp .eq (.v 1) (.c (.int 1))) #v[.ret (.own "_law_one_way_rule" 1 #v[.v 0])] .nil,.asg [2,3,4] (.own "_law_laying_kind" 1 #v[.v 0]),.set 5 (.op .add (.c (.int 1)) (.own "_law_pick" 2 #v[.v 0,.v 4])),.asg [2,3] (.own "_law_numbered" 3 #v[.v 0,.v 2,.v 3]),.set 6 (.own "_law_rule_of" 4 #v[.v 0,.v 5,.v 2,.tup .nil]),.set 7 .dnew,.set 8 (.bi .len #v[.v 2]),.loop (.nm 9) (.rng #v[.op .mul (.op .mul (.v 8) (.v 8)) (.v 8)]) #v[.par 10 11 #v[.op .mod (.v 9) (.v 8),.op .mod (.op .fdiv (.v 9) (.v 8)) (.v 8)],.set 12 (.op .fdiv (.op .fdiv (.v 9) (.v 8)) (.v 8)),.ite (.own "_law_breaks" 5 #v[.v 2,.v 3,.v 10,.v 11,.v 12]) #v[.loop (.nm 13) (.seq (.own "_law_rising" 1 #v[.v 5])) #v[.set 14 (.tup #v[.tup #v[.ix (.v 13) (.c (.int 0)),.tup .nil],.tup #v[.ix (.v 13) (.c (.int 1)),.tup #v[.v 10]]]),.put (.v 7) (.own "_law_figure" 2 #v[.v 6,.op .add (.v 14) (.tup #v[.tup #v[.ix (.v 13) (.c (.int 2)),.tup #v[.v 11,.v 12]]])]) (.c (.bl true))]] .nil],.ret (.tup #v[.ix (.v 6) (.c (.int 0)),.ix (.v 6) (.c (.int 1)),.bi .tuple #v[.bi .sorted #v[.v 7]]])]
noncomputable def dP:Ss:=
 #v[.set 1 (.lst .nil),.loop (.nm 2) (.rng #v[.v 0]) #v[.loop (.nm 3) (.rng2 #v[.v 2,.v 0]) #v[.set 1 (.op .add (.v 1) (.comp (.tup #v[.v 2,.v 3,.v 1]) (.nm 1) (.rng2 #v[.v 3,.v 0]) .nil [td,td,gV 2,gV 3]))]],.ret (.v 1)]
noncomputable def cD:Ss:=
 #v[.asg [1,2] (.own "_law_sizes" 1 #v[.v 0]),.set 3 (.own "_law_rule_of" 4 #v[.v 0,.v 1,.own "_law_backs" 2 #v[.v 0,.v 2],.tup .nil]),.set 5 (.comp (.v 1) (.nm 1) (.rng #v[.v 2]) #v[.cmp .eq (.ix (.ix (.ix (.v 2) (.c (.int 1))) (.v 1)) (.c (.int 1))) (.v 1)] [td,td,gV 3]),.ite (.or (.cmp .eq (.v 5) (.lst .nil)) (.cmp .eq (.v 2) (.c (.int 1)))) #v[.ret (.v 3)] .nil,.set 6 (.ix (.v 5) (.own "_law_pick" 2 #v[.v 0,.bi .len #v[.v 5]])),.set 7 .dnew,.loop (.nm 4) (.rng #v[.own "_law_pick" 2 #v[.v 0,.c (.int 9)]]) #v[.set 8 (.own "_law_free_three" 3 #v[.v 0,.v 1,.v 2]),.ite (.and (.cmp .ne (.ix (.ix (.ix (.v 8) (.c (.int 1))) (.c (.int 1))) (.c (.int 0))) (.v 6)) (.cmp .notin (.v 6) (.ix (.ix (.v 8) (.c (.int 2))) (.c (.int 1))))) #v[.put (.v 7) (.own "_law_figure" 2 #v[.v 3,.v 8]) (.c (.bl true))] .nil],.ret (.tup #v[.ix (.v 3) (.c (.int 0)),.ix (.v 3) (.c (.int 1)),.bi .tuple #v[.bi .sorted #v[.v 7]]])]
noncomputable def bO:Ss:=
 #v[.set 1 (.op .add (.c (.int 1)) (.own "_law_pick" 2 #v[.v 0,.c (.int 3)])),.set 2 (.comp (.tup #v[.tup #v[.v 1,.tup .nil],.tup #v[.v 1,.tup #v[.c (.int 0)]],.tup #v[.v 1,.tup #v[.c (.int 0),.c (.int 0)]]]) (.nm 1) (.rng #v[.v 1]) #v[.cmp .eq (.own "_law_pick" 2 #v[.v 2,.c (.int 2)]) (.c (.int 0))] [td,td,gV 0]),.ret (.own "_law_rule_of" 4 #v[.v 0,.v 1,.tup #v[.c (.int 0)],.v 2])]
noncomputable def bc:Ss:=
 #v[.set 1 (.own "_law_pick" 2 #v[.v 0,.c (.int 3)]),.ite (.cmp .eq (.v 1) (.c (.int 0))) #v[.ret (.own "_law_rule_of" 4 #v[.v 0,.c (.int 1),.tup #v[.c (.int 0),.c (.int 1)],.comp (.tup #v[.tup #v[.c (.int 0),.tup .nil],.tup #v[.c (.int 0),.tup #v[.v 1]],.tup #v[.c (.int 0),.tup #v[.v 1,.v 1]]]) (.nm 1) (.rng #v[.c (.int 2)]) .nil [td,td]])] .nil,.ite (.cmp .eq (.v 1) (.c (.int 1))) #v[.set 2 (.own "_law_rule_of" 4 #v[.v 0,.c (.int 2),.tup #v[.c (.int 0),.c (.int 1)],.tup .nil]),.set 3 .dnew,.loop (.nm 4) (.seq (.own "_law_rising" 1 #v[.c (.int 2)])) #v[.loop (.tp [5,6,7]) (.seq (.lst #v[.tup #v[.c (.int 1),.c (.int 1),.c (.int 0)],.tup #v[.c (.int 1),.c (.int 1),.c (.int 1)],.tup #v[.c (.int 1),.c (.int 0),.c (.int 1)],.tup #v[.c (.int 0),.c (.int 1),.c (.int 1)]])) #v[.set 8 (.tup #v[.tup #v[.ix (.v 4) (.c (.int 0)),.tup .nil],.tup #v[.ix (.v 4) (.c (.int 1)),.tup #v[.v 5]]]),.put (.v 3) (.own "_law_figure" 2 #v[.v 2,.op .add (.v 8) (.tup #v[.tup #v[.ix (.v 4) (.c (.int 2)),.tup #v[.v 6,.v 7]]])]) (.c (.bl true))]],.ret (.tup #v[.ix (.v 2) (.c (.int 0)),.ix (.v 2) (.c (.int 1)),.bi .tuple #v[.bi .sorted #v[.v 3]]])] .nil,.set 9 (.op .add (.c (.int 2)) (.own "_law_pick" 2 #v[.v 0,.c (.int 2)])),.set 3 (.comp (.tup #v[.tup #v[.c (.int 0),.tup .nil],.tup #v[.v 1,.tup #v[.c (.int 0)]],.tup #v[.op .sub (.v 2) (.c (.int 1)),.tup #v[.c (.int 0),.c (.int 0)]]]) (.nm 1) (.rng #v[.v 9]) .nil [td,td,gV 9]),.ret (.own "_law_rule_of" 4 #v[.v 0,.v 9,.tup #v[.c (.int 0)],.sl (.v 3) .no (.yes (.op .add (.c (.int 1)) (.own "_law_pick" 2 #v[.v 0,.v 9])))])]
noncomputable def du:Ss:=
 #v[.ite (.cmp .is (.v 1) (.c .non)) #v[.ret (.cmp .is (.v 0) (.c .non))] .nil,.ite (.or (.isi "bool" (.v 1)) (.isi "bool" (.v 0))) #v[.ret (.and (.isi "bool" (.v 1)) (.and (.isi "bool" (.v 0)) (.cmp .eq (.v 0) (.v 1))))] .nil,.ite (.isi "int" (.v 1)) #v[.ret (.and (.isi "int" (.v 0)) (.cmp .eq (.v 0) (.v 1)))] .nil,.ite (.isi "str" (.v 1)) #v[.ret (.and (.isi "str" (.v 0)) (.cmp .eq (.v 0) (.v 1)))] .nil,.ite (.or (.cmp .ne (.isi "tuple" (.v 1)) (.isi "tuple" (.v 0))) (.cmp .ne (.isi "list" (.v 1)) (.isi "list" (.v 0)))) #v[.ret (.c (.bl false))] .nil,.ret (.and (.cmp .eq (.bi .len #v[.v 0]) (.bi .len #v[.v 1])) (.bi .all #v[.comp (.own "_law_alike" 2 #v[.ix (.v 3) (.v 1),.ix (.v 2) (.v 1)]) (.nm 1) (.rng #v[.bi .len #v[.v 1]]) .nil [td,td,gV 1,gV 0]]))]
noncomputable def Is (defs:Hg (HJ×Df))(f:HJ)(np nn:Ho)(b:Ss):Prop:=∃df:Df,defs.lookup f=gV df/\df.ps.length=np/\df.N.length=nn/\df.body=b
theorem al {defs:Hg (HJ×Df)}{fuel d:Ho}{f:HJ}{np nn:Ho}{b:Ss}{ws:Hg W}{S:aa}{Q:QW}(h:Is defs f np nn b)(hl:ws.length=np)(ok:fT b=true)
  (hb:∀Q':QO,(∀w S',Q (w,S')->Q' (.rt w,S'))->wZ (ak defs fuel d) fuel b (ws.map gV++Ih (nn - np) td) S Q'):wO (aC (ak defs fuel (d+1)) f np ws S) Q:=by
 obtain⟨df,h1,h2,h3,h4⟩:=h;subst h4;refine CO h1 hl (hl.trans h2.symm) ok λQ' hR=>?_
 have:=hb Q' hR;unfold ff;rw[h3,hl];exact this
noncomputable def eF:Ss:=
 #v[.ret (.bi .tuple #v[.comp (.ix (.c (.str "abcdef")) (.v 1)) (.nm 1) (.rng #v[.v 1]) .nil [td,td]])]
structure Gen (defs:Hg (HJ×Df)):Prop where
 pick:Is defs ("_law_pick" : HJ) 2 4 cL
 names:Is defs ("_law_names" : HJ) 2 2 eF
 between:Is defs ("_law_between" : HJ) 4 4 dk
 part:Is defs ("_law_part" : HJ) 3 6 fg
 turns:Is defs ("_law_turns" : HJ) 0 0 fX
 figure:Is defs ("_law_figure" : HJ) 2 2 dN
 backs:Is defs ("_law_backs" : HJ) 2 3 eC
 rule_of:Is defs ("_law_rule_of" : HJ) 4 6 dm
 free_three:Is defs ("_law_free_three" : HJ) 3 5 cg
 sizes:Is defs ("_law_sizes" : HJ) 1 2 eE
 any_rule:Is defs ("_law_any_rule" : HJ) 1 6 cX
 laying_kind:Is defs ("_law_laying_kind" : HJ) 1 2 b7
 breaks:Is defs ("_law_breaks" : HJ) 5 10 dO
 numbered:Is defs ("_law_numbered" : HJ) 3 12 bj
 laying_rule:Is defs ("_law_laying_rule" : HJ) 1 15 b8
 rising:Is defs ("_law_rising" : HJ) 1 4 dP
 free_rule:Is defs ("_law_free_rule" : HJ) 1 9 cD
 one_way_rule:Is defs ("_law_one_way_rule" : HJ) 1 3 bO
structure FlA (S:aa)(r q:Ho)(ns:Hg Hv)(i c x n:Hv):Prop where
 at_r:S[r]?=gV (.lst [.ref q,.int i,.int c,.int x,.int n])
 at_q:S[q]?=gV (.lst (ns.map W.int))
 lt:q < r
 i0:0<=i
 c0:0<=c
 x0:0<=x
 x1:x < 2147483647
theorem FlA.ne {S:aa}{r q:Ho}{ns:Hg Hv}{i c x n:Hv}(h:FlA S r q ns i c x n):q≠r:=Il h.lt
noncomputable def Fl (S:aa)(r:Ho):Prop:=∃(q:Ho) (ns:Hg Hv) (i c x n:Hv),FlA S r q ns i c x n
theorem FlA.put {S:aa}{r q:Ho}{ns:Hg Hv}{i c x n i' c' x' n':Hv}(h:FlA S r q ns i c x n)(h1:0<=i')(h2:0<=c')(h3:0<=x')(h4:x' < 2147483647):FlA (S.set r (.lst [.ref q,.int i',.int c',.int x',.int n'])) r q ns i' c' x' n':=
 #[bG h.at_r,by rw[bh (Ne.symm h.ne)]; exact h.at_q,h.lt,h1,h2,h3,h4]
theorem Fl.keep {S S':aa}{r:Ho}(h:Fl S r)(h1:S'[r]?=S[r]?)(k:Kp r S S'):Fl S' r:=
 let ⟨q,ns,i,c,x,n,f⟩:=h; #[q,ns,i,c,x,n,by rw[h1]; exact f.at_r,k.get _ _ f.ne f.at_q,f.lt,f.i0,f.c0,f.x0,f.x1]
theorem Fl.lt {S:aa}{r:Ho}(h:Fl S r):r < S.length:=let ⟨_,_,_,_,_,_,f⟩:=h; b6 f.at_r
structure Ka (S S':aa):Prop where
 get:∀(j:Ho) (o:O),S[j]?=gV o->S'[j]?=gV o
 len:S.length<=S'.length
theorem Ka.refl {S:aa}:Ka S S:=#[λ_ _ h=>h,Hz _]
theorem Ka.trans {S S' S'':aa}(a:Ka S S')(b:Ka S' S''):Ka S S'':=#[λj o h=>b.get j o (a.get j o h),HZ a.len b.len]
theorem Ka.push {S:aa}{o:O}:Ka S (S++[o]):=#[λj u h=>ar h,by simp]
theorem Ka.late {t:Ho}{S0 S:aa}{o:O}(a:Ka S0 S)(h:S0.length<=t):Ka S0 (S.set t o):=
 #[λj u e=>by have:=b6 e; rw[bh ∅]; exact a.get j u e,by simpa using a.len]
theorem Ka.kp {S S':aa}(a:Ka S S')(r:Ho):Kp r S S':=#[λj o _ h=>a.get j o h,a.len]
theorem Fl.ka {S S':aa}{r:Ho}(h:Fl S r)(k:Ka S S'):Fl S' r:=h.keep (by obtain⟨q,ns,i,c,x,n,f⟩:=h; rw[k.get _ _ f.at_r,f.at_r]) (k.kp r)
theorem Fl.own {S:aa}{r t:Ho}{o:O}(h:Fl S r)(ht:r < t):Fl (S.set t o) r:=by
 obtain⟨q,ns,i,c,x,n,f⟩:=h;have:=f.lt;exact#[q,ns,i,c,x,n,by rw[bh ∅]; exact f.at_r,by rw[bh ∅]; exact f.at_q,f.lt,f.i0,f.c0,f.x0,f.x1]
theorem ef {S:aa}{r:Ho}{xs:Hg W}{i:Ho}{w:W}{Q:QW}(h:S[r]?=gV (.lst xs))(hw:xs[i]?=gV w)(q:Q (w,S)):wO (ju (.ref r) (.int (i:Hv)) S) Q:=ab (wF h (Hu i) (by rw[HF]; exact hw)) q
theorem lU {S:aa}{r:Ho}{xs:Hg W}{i:Ho}{w:W}{Q:aa->Prop}(h:S[r]?=gV (.lst xs))(hi:Qg (i+1) xs.length=true)(q:Q (S.set r (.lst (xs.set i w)))):wO (ig (.ref r) (.int (i:Hv)) w S) Q:=ab (AZ h (Hu i) (by rw[HF]; exact J4 hi)) (by rw[HF]; exact q)
section
variable{defs:Hg (HJ×Df)}{fuel d:Ho}{S:aa}{r:Ho}{Q:QW}
theorem aT (hd:Is defs ("_law_pick" : HJ) 2 4 cL){m:Hv}(hf:Fl S r)(h0:0 < m)(h1:m < 1073741824)(k:∀v S',0<=v->v < m->Fl S' r->Kp r S S'->Q (.int v,S')) :
  wO (aC (ak defs fuel (d+1)) "_law_pick" 2 [.ref r,.int m] S) Q:=by
 obtain⟨q,ns,i,c,x,n,f⟩:=hf;refine al hd rfl rfl λQ' hR=>?_
 replace k:∀v S',0<=v->v < m->Fl S' r->Kp r S S'->Q' (.rt (.int v),S'):=λv S' a b c e=>hR _ _ (k v S' a b c e)
 clear hR;show wZ _ _ cL [gV (.ref r),gV (.int m),td,td] S Q';have cv:∀(S1:aa) (w2:Hn W) (i1 c1 x1 n1:Hv),FlA S1 r q ns i1 c1 x1 n1->Kp r S S1->wZ (ak defs fuel d) fuel (match cL with|.cons _ ss=>ss|.nil=>.nil) [gV (.ref r),gV (.int m),w2,td] S1 Q':=by
  intro S1 w2 i1 c1 x1 n1 f1 k1;dsimp only[cL];refine st ?_;dsimp only[wS,wT,wE,wV,wG];refine ef (i:=2) f1.at_r rfl ?_;dsimp only[CN,wO,wB];refine ah (Q0:=Q') (λhg Q2 hn hr=>?_) (λhg Q2 hn hr=>?_)
  ·clear hn;refine st ?_;dsimp only[wS,wE,wV,wG];refine ef (i:=2) f1.at_r rfl (ab (ke h0) ?_);refine st ?_;dsimp only[wS,wE,wV,wG,Hw];refine ef (i:=2) f1.at_r rfl (ab (nF h0 h1) (lU (i:=2) f1.at_r rfl ?_));refine st ?_;dsimp only[wS,wE,wV,wG,Hw];exact hr _ _ (k _ _ (J9 _ ∅) (JF _ h0) #[q,ns,i1,c1 / m,x1,n1,f1.put f1.i0 (Os f1.c0 ∅) f1.x0 f1.x1] (k1.trans .set))
  ·refine aM (hn _ _ ?_);clear hn hr;have f2:FlA (S1.set r (.lst [.ref q,.int i1,.int c1,.int x1,.int (n1+1)])) r q ns i1 c1 x1 (n1+1):=f1.put f1.i0 f1.c0 f1.x0 f1.x1;refine st ?_;dsimp only[wS,wE,wV,wG];refine ef (i:=4) f1.at_r rfl ?_;dsimp only[cp,wO];refine lU (i:=4) f1.at_r rfl ?_;refine st ?_;dsimp only[wS,wE,wV,wG,Hw];refine ef (i:=3) f2.at_r rfl (ab (sa #v[] #v[]) ?_)
   dsimp only[cp,wO];refine ef (i:=4) f2.at_r rfl ?_;dsimp only[cp,wO];refine(lU (i:=3) f2.at_r rfl ?_);have f3:FlA ((S1.set r (.lst [.ref q,.int i1,.int c1,.int x1,.int (n1+1)])).set r (.lst [.ref q,.int i1,.int c1,.int ((x1*48271+12820163+(n1+1)) % 2147483647),.int (n1+1)])) r q ns i1 c1 ((x1*48271+12820163+(n1+1)) % 2147483647) (n1+1):=f2.put f1.i0 f1.c0 (J9 _ #v[]) (JF _ #v[])
   dsimp only[Hw];generalize(x1*48271+12820163+(n1+1)) % 2147483647=y at f3 ⊢;have b1:y / 65521+7919 < 2 ^ 64:=by
    have:=f3.x1;have:=Int.ediv_le_self 65521 f3.x0;omega
   have b2 : -(2 ^ 64) < y / 65521+7919:=by
    have:=Os f3.x0 (show(0:Hv)<=65521 by decide)
    omega
   refine st ?_;dsimp only[wS,wE,wV,wG,Hw];refine ef (i:=3) f3.at_r rfl (ab (ke #v[]) ?_)
   dsimp only[cp,wO];refine ef (i:=3) f3.at_r rfl ?_;dsimp only[cp,wO];refine ab (sa b2 b1) ?_;refine ab (ke h0) ?_;exact k _ _ (J9 _ ∅) (JF _ h0) #[q,ns,_,_,_,_,f3] (k1.trans (Kp.set.trans .set))
 dsimp only[cL]at cv ⊢;refine st ?_;dsimp only[wS,wT,wE,wV,wG,wA];refine ef (i:=2) f.at_r rfl ?_;dsimp only[kg,wO,wB];have skip:∀Q2:QO,(∀ρ' S',wZ (ak defs fuel d) fuel _ ρ' S' Q'->Q2 (.nx ρ',S'))->Q2 (.nx [gV (.ref r),gV (.int m),td,td],S):=λQ2 hn=>hn _ _ (cv S td i c x n f .refl)
 refine#[λ_=>?_,λ_ Q2 hn hr=>#[λz=>(by cases z),λ_=>(aM (skip Q2 hn)).out]]
 refine ef (i:=1) f.at_r rfl (ef (i:=0) f.at_r rfl (ab (A6 f.at_q) ?_));dsimp only[wD,wO,wB];refine ah (Q0:=Q') (λhl Q2 hn _=>?_) (λhg Q2 hn hr=>aM (skip Q2 hn))
 clear skip;have hl':i.toNat < ns.length:=by
  have:=IT hl;rw[Hh]at this;have:=f.i0;omega
 have hcell:(ns.map W.int)[i.toNat]?=gV (.int ns[i.toNat]):=by simp[hl']
 generalize ns[i.toNat]=cell at hcell;have f1:FlA (S.set r (.lst [.ref q,.int (i+1),.int c,.int x,.int n])) r q ns (i+1) c x n:=f.put (by have:=f.i0; omega) f.c0 f.x0 f.x1
 refine st ?_;dsimp only[wS,wE,wV,wG];refine ef (i:=0) f.at_r rfl (ef (i:=1) f.at_r rfl (ab (wF f.at_q f.i0 hcell) ?_));refine st ?_;dsimp only[wS,wE,wV,wG,Hw];refine ef (i:=1) f.at_r rfl ?_;dsimp only[cp,wO];refine lU (i:=1) f.at_r rfl ?_;refine st ?_;dsimp only[wS,wT,wE,wV,wG,CM,Gn,wO,wB];refine ah (Q0:=Q') (λhg Q3 hn3 _=>?_) (λhg Q3 hn3 _=>?_)
 ·refine st ?_;dsimp only[wS,wE,wV,wG];refine lU (i:=2) f1.at_r rfl (aM (hn3 _ _ (aM (hn _ _ ?_))));exact cv _ _ (i+1) cell x n (f1.put f1.i0 (by have:=IT hg; omega) f.x0 f.x1) (Kp.set.trans .set)
 ·refine st ?_;dsimp only[wS,wE,wV,wG];refine ef (i:=3) f1.at_r rfl (ab (sa #v[] #v[]) (ab (ke #v[]) ?_))
  dsimp only[cp,wO];refine lU (i:=3) f1.at_r rfl (aM (hn3 _ _ (aM (hn _ _ ?_))));exact cv _ _ (i+1) c _ n (f1.put f1.i0 f.c0 (J9 _ #v[]) (JF _ #v[])) (Kp.set.trans .set)
end
noncomputable def dr:Ho->Ss->Ss
 | 0,ss=>ss
 | n+1,.cons _ ss=>dr n ss
 | _,.nil=>.nil
theorem aO {α:Type}{a:α}{Q:α->Prop}:wO (gV a) Q=Q a:=rfl
theorem aF {Φ:HJ->FF}{fuel:Ho}{ρ:Fm}{S:aa}{Q:QO}{s:Sm}{ss:Ss}(h:∀K:Fm->aa->Prop,(∀ρ' S',wZ Φ fuel ss ρ' S' Q->K ρ' S')->wS Φ fuel s ρ S K Q):wZ Φ fuel (.cons s ss) ρ S Q:=st (h _ λ_ _ h=>h)
theorem ES {Φ:HJ->FF}{fuel:Ho}{ρ:Fm}{S:aa}{i:Ho}{e:E}{K:Fm->aa->Prop}{Q:QO}(h:wE Φ e ρ S λp=>K (ρ.set i (gV p.1)) p.2):wS Φ fuel (.set i e) ρ S K Q:=h
theorem fY {n:Ho}(h:Qg n 1000=true):n<=sizeLine:=HZ (J4 h) (by rw[IL]; decide)
theorem ki {n:Ho}(h:n<=1000):n<=sizeLine:=HZ h (by rw[IL]; decide)
theorem kj {S:aa}{r:Ho}{xs:Hg W}{i:Hv}{w:W}{Q:QW}(h:S[r]?=gV (.lst xs))(h0:0<=i)(hw:xs[i.toNat]?=gV w)(q:Q (w,S)):wO (ju (.ref r) (.int i) S) Q:=ab (wF h h0 hw) q
theorem ae {S:aa}{xs:Hg W}{i:Hv}{w:W}{Q:QW}(h0:0<=i)(hw:xs[i.toNat]?=gV w)(q:Q (w,S)):wO (ju (.tup xs) (.int i) S) Q:=ab (EH h0 hw) q
theorem lV {S:aa}{r:Ho}{xs:Hg W}{y:W}{Q:QW}(h:S[r]?=gV (.lst xs))(hl:xs.length < 1000)(q:Q (.non,S.set r (.lst (xs++[y])))):wO (Me.append.fn (.ref r) [y] S) Q:=ab (wH h (Ig hl (fY rfl))) q
theorem sg {S:aa}{r:Ho}{xs:Hg W}{Q:QW}(h:S[r]?=gV (.lst xs))(q:Q (.int xs.length,S)):wO (Bi.len.fn [.ref r] S) Q:=ab (A6 h) q
theorem ay {S:aa}{xs:Hg W}{Q:QW}(q:Q (.int xs.length,S)):wO (Bi.len.fn [.tup xs] S) Q:=q
theorem fH {S:aa}{r:Ho}{xs:Hg W}{Q:QW}(h:S[r]?=gV (.lst xs))(q:Q (.tup xs,S)):wO (Bi.tuple.fn [.ref r] S) Q:=ab (EJ h) q
section
variable{Φ:HJ->FF}{fuel:Ho}{ρ:Fm}{S S1:aa}{K:Fm->aa->Prop}
theorem wK {t:E}{a:Ss}{Q:QO}(ht:∀Q:QB,Q (false,S1)->wT Φ t ρ S Q)(h:K ρ S1):wS Φ fuel (.ite t a .nil) ρ S K Q:=by
 dsimp only[wS];exact ht _ λQ' h1 h2=>#[λz=>(by cases z),λ_=>(aM (h1 _ _ h)).out]
theorem ET {t:E}{a b:Ss}{Q:QO}(ht:∀Q:QB,Q (true,S1)->wT Φ t ρ S Q)(h:∀Q':QO,(∀ρ' S',K ρ' S'->Q' (.nx ρ',S'))->(∀w S',Q (.rt w,S')->Q' (.rt w,S'))->wZ Φ fuel a ρ S1 Q'):wS Φ fuel (.ite t a b) ρ S K Q:=by
 dsimp only[wS];exact ht _ λQ' h1 h2=>#[λ_=>(h Q' h1 λw S' q=>h2 (.rt w) S' (λ_ z=>nomatch z) q).out,λz=>(by cases z)]
end
noncomputable def EU (y:HJ):Prop:=∀c∈y.cps.toList,97<=c/\c<=122
noncomputable def Name (y:HJ):Prop:=1<=y.cps.toList.length/\y.cps.toList.length<=8/\EU y
theorem nK {α:Type}{f:α->W}{xs:Hg α}{i:Ho}(h:i < xs.length):∃x∈xs,(xs.map f)[i]?=gV (f x):=#[xs[i],IQ _,by rw[Hq,HE h]; rfl]
theorem nL {α:Type}[KC α]:∀(l m:Hg α),l.Nodup->(∀x∈l,x∈m)->l.length<=m.length
 | [],_,_,_=>JJ _
 | x::l,m,hn,hs=>by
  rw[Js]at hn;have hx:x∈m:=hs x (.head _);have h1:=nL l (m.erase x) hn.2 λy hy=>(List.mem_erase_of_ne (λ(e:y=x)=>hn.1 (by rw[<- e]; exact hy))).mpr (hs y (.tail _ hy))
  rw[List.length_erase_of_mem hx]at h1;have:=Mq hx;rw[Iw]; omega
noncomputable def Ac (k:Ho):HJ:=#[[97+k].toArray]
theorem ub {k:Ho}(h:k < 26):Name (Ac k):=#[Hz 1,(by decide:1<=8),λc hc=>by
 cases HB.mp (show c∈[97+k]from hc)
 omega]
noncomputable def qt:Hg HJ:=["marks","ways","bar","some","each","not","and","or","is"]
theorem eh {xs:Hg W}{k:Ho}:js xs td (gV (k:Hv))=xs.take k:=by
 unfold js;rw[HT.jH,HT.re,OO,NN]
 by_cases h:k<=xs.length
 ·rw[Ot h]
 ·rw[Oc ∅,Le (Hz _),Le ∅]
theorem wL {xs:Hg W}{k:Ho}:js xs (gV (k:Hv)) td=xs.drop k:=by
 unfold js;rw[HT.jH,HT.re]
 by_cases h:k<=xs.length
 ·rw[Ot h,Le (by rw[Kq]; exact Hz _)]
 ·rw[Oc ∅,Mr (Hz _),Mr ∅]; exact List.take_nil
section
variable{defs:Hg (HJ×Df)}{fuel d:Ho}{S:aa}{r:Ho}{Q:QW}
theorem wM:∀m,m<=6->(qt++(HG m).map Ac).Nodup:=λm hm=>by
 rcases(show m=0\/m=1\/m=2\/m=3\/m=4\/m=5\/m=6 by omega)with rfl|rfl|rfl|rfl|rfl|rfl|rfl <;> decide
theorem Ad:∀k:Fin 6,("abcdef" : HJ).cps.toList[k.val]?=gV (97+k.val):=by decide
theorem Ae (hfu:20 < fuel)(G:Gen defs){m:Ho}(hf:Fl S r)(h1:m<=6)(k:∀(ys:Hg HJ) S',ys.length=m->(∀y∈ys,Name y)->(qt++ys).Nodup->Fl S' r->Kp r S S'->Q (.tup (ys.map W.str),S')) :
  wO (aC (ak defs fuel (d+4)) "_law_names" 2 [.ref r,.int m] S) Q:=by
 refine al G.names rfl rfl λQ' hR=>?_
 show wZ _ _ eF [gV (.ref r),gV (.int m)] S Q';dsimp only[eF];refine st ?_;dsimp only[wS,wE,wA];refine eB (m:Hv) (λi ys ρ2 S2=>(∃a1,ρ2=[td,a1])/\ys=((HG i).map Ac).map W.str/\S2=S) rfl rfl rfl ∅ #[rfl,#[td,rfl],rfl,rfl] ?_ ?_
 ·rintro i ys ρ2 S2 hi ⟨⟨a1,rfl⟩,rfl,rfl⟩;dsimp only[fW,wC,wE,wV,wG,Hw];refine#[λ_=>ab (EI (c:=97+i) #v[] (Hu i) ?_) #[#[_,rfl],?_,rfl],λz=>by cases z]
  ·rw[HF]; exact Ad #[i,∅]
  ·rw[Jw,HR,HR]; rfl
 ·rintro ys ρ2 S2 ⟨_,rfl,rfl⟩;rw[HF];refine#[ki (by rw[Hh,Hh,Ic]; omega),fH aj (hR _ _ (k ((HG m).map Ac) _ (by rw[Hh,Ic]) (λy hy=>?_) (wM m h1) (hf.ka .push) .push))]
  obtain⟨i,hi,rfl⟩:=HQ.mp hy;exact ub (by have:=HI.mp hi; omega)
end
noncomputable abbrev Pt:=Hv×Hg Hv
noncomputable abbrev Wd:=Hg Pt
noncomputable def ap (p:Pt):W:=.tup [.int p.1,.tup (p.2.map W.int)]
noncomputable def am (u:Wd):W:=.tup (u.map ap)
noncomputable def o7 (p:Pt):T:=.tup [.int p.1,.tup (p.2.map T.int)]
noncomputable def dq (u:Wd):T:=.tup (u.map o7)
theorem sh:∀xs:Hg Hv,T.ws (xs.map T.int)=xs.map W.int
 | []=>rfl
 | x::xs=>by simp[T.ws,T.w,sh xs]
theorem EV (p:Pt):(o7 p).w=ap p:=by simp[o7,ap,T.w,T.ws,sh]
theorem wQ:∀u:Wd,T.ws (u.map o7)=u.map ap
 | []=>rfl
 | p::u=>by simp[T.ws,EV,wQ u]
theorem wR (u:Wd):(dq u).w=am u:=by simp[dq,am,T.w,wQ]
theorem wW (u:Wd):W.t (am u)=gV (dq u):=by rw[<- wR]; exact T.w_t _
theorem wX:∀us:Hg Wd,T.ws (us.map dq)=us.map am
 | []=>rfl
 | u::us=>by simp[T.ws,wR,wX us]
theorem Bc (us:Hg Wd):W.ts (us.map am)=gV (us.map dq):=by rw[<- wX]; exact T.ws_ts _
theorem km:∀xs:Hg Hv,T.depths (xs.map T.int)=0
 | []=>rfl
 | x::xs=>by simp[T.depths,T.depth,km xs]
theorem wY (p:Pt):(o7 p).depth=2:=by simp[o7,T.depth,T.depths,km]
theorem lW:∀u:Wd,T.depths (u.map o7)<=2
 | []=>by simp[T.depths]
 | p::u=>by
  have:=lW u;simp only[IZ,T.depths,wY]; omega
theorem o8 (u:Wd):(dq u).depth<=3:=by
 have:=lW u;simp only[dq,T.depth]; omega
theorem i3:∀us:Hg Wd,T.depths (us.map dq)<=3
 | []=>by simp[T.depths]
 | u::us=>by
  have:=i3 us;have:=o8 u;simp only[IZ,T.depths]; omega
theorem gW (u:Wd):gB (am u)=gV (dq u):=by
 unfold gB;rw[wW];show(if (dq u).isTup=true/\(dq u).depth<=bg then _ else _)=_
 rw[HV #[rfl,by have:=o8 u; unfold bg; omega]]
mutual
noncomputable def o9:T->T->HU
 | .int _,.int _=>true
 | .str _,.str _=>true
 | .tup xs,.tup ys=>iy xs ys
 | _,_=>false
noncomputable def iy:Hg T->Hg T->HU
 | [],_=>true
 | _,[]=>true
 | x::xs,y::ys=>o9 x y&&iy xs ys
end
mutual
theorem w6:∀x y:T,o9 x y=true->(zf x y).isSome=true
 | .int _,.int _,_=>rfl
 | .str _,.str _,_=>rfl
 | .tup xs,.tup ys,h=>by
  dsimp only[o9]at h;dsimp only[zf];exact si xs ys h
 | .int _,.str _,h|.int _,.tup _,h|.str _,.int _,h|.str _,.tup _,h|.tup _,.int _,h|.tup _,.str _,h=>by cases h
theorem si:∀xs ys:Hg T,iy xs ys=true->(oH xs ys).isSome=true
 | [],[],_=>rfl
 | [],_::_,_=>rfl
 | _::_,[],_=>rfl
 | x::xs,y::ys,h=>by
  dsimp only[iy]at h; simp only[Hs]at h
  dsimp only[oH];split
  ·exact si xs ys h.2
  ·exact w6 x y h.1
end
theorem pb:∀xs ys:Hg Hv,iy (xs.map T.int) (ys.map T.int)=true
 | [],_=>rfl
 | _::_,[]=>rfl
 | x::xs,y::ys=>by dsimp only[Qa,iy,o9]; simp[pb xs ys]
theorem CP (p q:Pt):o9 (o7 p) (o7 q)=true:=by dsimp only[o7,o9,iy]; simp[pb]
theorem sj:∀u v:Wd,iy (u.map o7) (v.map o7)=true
 | [],_=>rfl
 | _::_,[]=>rfl
 | p::u,q::v=>by dsimp only[Qa,iy]; simp[CP,sj u v]
theorem CQ (u v:Wd):o9 (dq u) (dq v)=true:=by dsimp only[dq,o9]; exact sj _ _
theorem lX (us:Hg Wd):jT (us.map dq)=true:=by
 unfold jT;rw[HP];intro x hx;obtain⟨u,_,rfl⟩:=HQ.mp hx;rw[HP];intro y hy;obtain⟨v,_,rfl⟩:=HQ.mp hy;exact w6 _ _ (CQ u v)
theorem CS (us:Hg Wd)(h:∀u∈us,u≠[]):(zh (us.map dq)).isSome=true:=by
 unfold zh;split
 ·rfl
 ·split
  ·rfl
  ·split
   ·rfl
   ·split
    ·rfl
    ·split
     ·rfl
     ·rename_i h5;exfalso;apply h5;rw[HP];intro x hx;obtain⟨u,hu,rfl⟩:=HQ.mp hx;cases u with
      | nil=>exact absurd rfl (h [] hu)
      | cons p u=>rfl
noncomputable def bM (bs:Hg Hv)(u:Wd)(i j:Ho):Hv:=if j < i then((u.getD i (0,[])).2).getD j 0 else bs.getD (((u.getD j (0,[])).2).getD i 0).toNat 0
noncomputable def au (bs:Hg Hv)(u:Wd)(ps:Hg Ho):Wd:=(HG ps.length).map λk=>((u.getD (ps.getD k 0) (0,[])).1,(ps.take k).map λj=>bM bs u (ps.getD k 0) j)
noncomputable def aw:Hg (Hg Ho):=[[0,1,2],[0,2,1],[1,0,2],[1,2,0],[2,0,1],[2,1,0]]
noncomputable def kn (bs:Hg Hv)(u:Wd):Wd:=(aw.map (au bs u)).getD (nq ((aw.map (au bs u)).map dq)) []
noncomputable def aB (n:HJ)(b:Hv):W:=.tup [.str n,.int b]
structure GoodW (a n:Ho)(u:Wd):Prop where
 mark:∀(k:Ho) (p:Pt),u[k]?=gV p->0<=p.1/\p.1 < a
 len:∀(k:Ho) (p:Pt),u[k]?=gV p->p.2.length=k
 way:∀(k:Ho) (p:Pt),u[k]?=gV p->∀w∈p.2,0<=w/\w < n
noncomputable def GoodB (bs:Hg Hv):Prop:=bs=[0]\/bs=[0,1]\/bs=[1,0]\/bs=[0,1,2]\/bs=[1,0,2]\/bs=[0,2,1]
theorem GoodB.rng {bs:Hg Hv}(h:GoodB bs):∀k:Ho,k < bs.length->∃b:Hv,bs[k]?=gV b/\0<=b/\b < bs.length:=by
 rcases h with rfl|rfl|rfl|rfl|rfl|rfl <;> intro k hk
 ·match k,hk with
  | 0,_=>exact#[0,rfl,#v[],#v[]]
 ·match k,hk with
  | 0,_=>exact#[0,rfl,#v[],#v[]]
  | 1,_=>exact#[1,rfl,#v[],#v[]]
 ·match k,hk with
  | 0,_=>exact#[1,rfl,#v[],#v[]]
  | 1,_=>exact#[0,rfl,#v[],#v[]]
 ·match k,hk with
  | 0,_=>exact#[0,rfl,#v[],#v[]]
  | 1,_=>exact#[1,rfl,#v[],#v[]]
  | 2,_=>exact#[2,rfl,#v[],#v[]]
 ·match k,hk with
  | 0,_=>exact#[1,rfl,#v[],#v[]]
  | 1,_=>exact#[0,rfl,#v[],#v[]]
  | 2,_=>exact#[2,rfl,#v[],#v[]]
 ·match k,hk with
  | 0,_=>exact#[0,rfl,#v[],#v[]]
  | 1,_=>exact#[2,rfl,#v[],#v[]]
  | 2,_=>exact#[1,rfl,#v[],#v[]]
theorem getD_some {α:Type}{xs:Hg α}{i:Ho}{x d:α}(h:xs[i]?=gV x):xs.getD i d=x:=by simp[h]
theorem aq {α:Type}{xs:Hg α}{i:Ho}{d:α}(h:i < xs.length):xs[i]?=gV (xs.getD i d):=by simp[h]
theorem i4 {ns:Hg HJ}{bs:Hg Hv}{k:Ho}{n:HJ}{b:Hv}(h1:ns[k]?=gV n)(h2:bs[k]?=gV b):(Hy aB ns bs)[k]?=gV (aB n b):=by
 rw[List.getElem?_zipWith,h1,h2]
noncomputable def aD (ps:Hg Ho):Hg W:=ps.map λ(p:Ho)=>W.int (p:Hv)
theorem sn {ps:Hg Ho}{k p:Ho}(h:ps[k]?=gV p):(aD ps)[k]?=gV (.int p):=by simp[aD,h]
theorem bv (bs:Hg Hv)(u:Wd)(ps:Hg Ho):(au bs u ps).length=ps.length:=by unfold au; rw[Hh,Ic]
theorem cY {u:Wd}{i:Ho}(hi:i < u.length):(u.map ap)[((i:Ho):Hv).toNat]?=gV (ap (u.getD i (0,[]))):=by
 rw[HF,Hq,aq hi]; rfl
section
variable{defs:Hg (HJ×Df)}{fuel d:Ho}{S:aa}{r:Ho}{Q:QW}
theorem w8 {Φ:HJ->FF}{m0 b0:W}{ns:Hg HJ}{bs:Hg Hv}{a:Ho}{u:Wd}{i j:Ho}{Q:QO}(hb:GoodB bs)(hl:ns.length=bs.length)(hu:GoodW a bs.length u)(hi:i < u.length)(hj:j < u.length)(hij:i≠j)(k:Q (.rt (.int (bM bs u i j)),S)) :
  wZ Φ fuel dk [gV (.tup [m0,.tup (Hy aB ns bs),b0]),gV (am u),gV (.int i),gV (.int j)] S Q:=by
 have hpi:=aq (d:=(0,[])) hi;have hpj:=aq (d:=(0,[])) hj;unfold bM at k;dsimp only[dk];refine aF λK hK=>?_
 dsimp only[wS,wT,wE,wV,wG,wD,wO,wB,am];refine ah (Q0:=Q) (λh Q2 _ hr=>?_) (λh Q2 hn _=>?_)
 ·have hji:j < i:=by have:=IT h; omega
  rw[HV hji]at k;have hw:j < (u.getD i (0,[])).2.length:=by rw[hu.len i _ hpi]; exact hji
  refine st ?_;dsimp only[wS,wE,wV,wG];refine ae (Hu i) (cY hi) (ae #v[] rfl (ae (Hu j) ?_ (hr _ _ k)))
  rw[HF,Hq,aq (d:=0) hw]; rfl
 ·have hji:¬ j < i:=by have:=K6 h; omega
  rw[Iv hji]at k;refine aM (hn _ _ (hK _ _ ?_));clear hn hK;have hw:i < (u.getD j (0,[])).2.length:=by rw[hu.len j _ hpj]; omega
  have hg:=aq (d:=0) hw;obtain⟨g1,g2⟩:=hu.way j _ hpj _ (HC hg);obtain⟨b,hb1,hb2,hb3⟩:=hb.rng ((u.getD j (0,[])).2.getD i 0).toNat ∅
  have hn:((u.getD j (0,[])).2.getD i 0).toNat < ns.length:=∅
  rw[getD_some hb1]at k;refine st ?_;dsimp only[wS,wE,wV,wG];refine ae #v[] rfl (ae (Hu j) (cY hj) (ae #v[] rfl (ae (Hu i) ?_ (ae g1 (i4 (HE hn) hb1) (ae #v[] rfl k)))))
  rw[HF,Hq,hg]; rfl
theorem uc (G:Gen defs){m0 b0:W}{ns:Hg HJ}{bs:Hg Hv}{a:Ho}{u:Wd}{i j:Ho}(hb:GoodB bs)(hl:ns.length=bs.length)(hu:GoodW a bs.length u)(hi:i < u.length)(hj:j < u.length)(hij:i≠j)(k:Q (.int (bM bs u i j),S)) :
  wO (aC (ak defs fuel (d+1)) "_law_between" 4 [.tup [m0,.tup (Hy aB ns bs),b0],am u,.int i,.int j] S) Q:=
 al G.between rfl rfl λQ' hR=>w8 hb hl hu hi hj hij (hR _ _ k)
theorem w9 (G:Gen defs){m0 b0:W}{ns:Hg HJ}{bs:Hg Hv}{a:Ho}{u:Wd}{ps:Hg Ho}(hb:GoodB bs)(hl:ns.length=bs.length)(hu:GoodW a bs.length u)(hps:∀p∈ps,p < u.length)(hnd:ps.Nodup)(hsz:ps.length < 1000)(k:∀S',Ka S S'->Q (am (au bs u ps),S')) :
  wO (aC (ak defs fuel (d+2)) "_law_part" 3 [.tup [m0,.tup (Hy aB ns bs),b0],am u,.tup (aD ps)] S) Q:=by
 refine al G.part rfl rfl λQ' hR=>?_
 replace k:∀S',Ka S S'->Q' (.rt (am (au bs u ps)),S'):=λS' a=>hR _ _ (k S' a)
 clear hR;show wZ _ _ fg [gV (.tup [m0,.tup (Hy aB ns bs),b0]),gV (am u),gV (.tup (aD ps)),td,td,td] S Q';generalize hR0:W.tup [m0,.tup (Hy aB ns bs),b0]=R;dsimp only[fg];refine st ?_;dsimp only[wS,wE,wA,Hw];refine aF λK hK=>?_
 have nl:(aD ps).length=ps.length:=Hh ..;refine bC (ps.length:Hv) (λk ρ S'=>∃a4 a5,ρ=[gV R,gV (am u),gV (.tup (aD ps)),gV (.ref S.length),a4,a5]/\S'[S.length]?=gV (.lst (((au bs u ps).take k).map ap))/\Ka S S') rfl rfl ∅ ?_ ?_ ?_
 ·dsimp only[wE,wA,wV,wG];refine ay ?_;rw[nl];exact#[rfl,td,td,rfl,aj,.push]
 ·rintro i ρ S1 hi ⟨a4,a5,rfl,e1,k1⟩ Q2 hn _;clear hK;have hi':i < ps.length:=∅
  have hp:ps[i]?=gV ps[i]:=HE hi';have hpu:ps[i] < u.length:=hps _ (IQ hi');refine st ?_;dsimp only[wS,wE,wV,wG,Hw];refine ae (Hu i) (by rw[HF]; exact sn hp) ?_
  refine st ?_;dsimp only[wS,wE,wA,wV,wG,Hw];refine#[dF e1,ae (Hu _) (cY hpu) (ae #v[] rfl ?_)]
  refine sd (aD (ps.take i)) (λj ys ρ2 S2=>(∃a1,ρ2=[td,a1,gV (.int ps[i]),gV R,gV (am u)])/\ys=((ps.take i).take j).map (λq=>W.int (bM bs u ps[i] q))/\Ka S1 S2) rfl rfl rfl ?_ ?_ ?_
  ·dsimp only[wE,wP,wV,wG,wN];refine ab (a:=(.tup (aD (ps.take i)),S1)) ?_ #[rfl,#[td,rfl],rfl,.refl];simp only[jg,eh];unfold aD;rw[KZ]
  ·rintro j w ys ρ2 S2 hw ⟨⟨a1,rfl⟩,rfl,k2⟩;have hjl:j < (ps.take i).length:=by
    have:=(HD.mp hw).1;unfold aD at this
    rwa [Hh]at this
   have hq:(ps.take i)[j]?=gV (ps.take i)[j]:=HE hjl;cases(sn hq).symm.trans hw;have hj:j < i:=by rw[HX]at hjl; omega
   have eq:(ps.take i)[j]=ps[j]'∅:=Lf
   generalize(ps.take i)[j]=q at hq eq ⊢;refine ab (show eL (.nm 1) (.int (q:Hv)) [td,a1,gV (.int ps[i]),gV R,gV (am u)] S2=gV ([td,gV (.int (q:Hv)),gV (.int ps[i]),gV R,gV (am u)],S2)from rfl) ?_
   dsimp only[fW,wC,wE,wA,wV,wG];subst hR0;refine#[λ_=>uc (d:=d) G hb hl hu hpu (by rw[eq]; exact hps _ (IQ _)) ?_ #[#[_,rfl],?_,k2],λz=>by cases z]
   ·rw[eq];intro h;have:=(JX hnd).mp h;omega
   ·rw[Iy,hq];simp
  ·rintro ys ρ2 S2 ⟨_,rfl,k2⟩;rw[show(aD (ps.take i)).length=(ps.take i).length from Hh ..,IE]
   refine#[ki (by rw[Hh,HX]; omega),fH aj ?_]
   have e2:=ar (u:=O.lst ((ps.take i).map λq=>W.int (bM bs u ps[i] q))) (k2.get _ _ e1)
   refine lV e2 (by rw[Hh,HX]; omega) (aM (hn _ _ #[_,_,rfl,?_,((k1.trans k2).trans .push).late (Hz _)]))
   rw[bG e2];have ep:(au bs u ps)[i]?=gV ((u.getD ps[i] (0,[])).1,(ps.take i).map λq=>bM bs u ps[i] q):=by
    unfold au;rw[Hq,JP hi',Iq,getD_some hp]
   rw[Iy,ep];simp[ap,LW]
 ·rintro ρ S1 ⟨a4,a5,rfl,e1,k1⟩;rw[HF,<- bv bs u ps,IE]at e1;refine hK _ _ (st ?_);dsimp only[wS,wE,wA,wV,wG];exact fH e1 (k _ k1)
theorem jD (G:Gen defs)(k:Q (.ref S.length,S++[.lst (aw.map λt=>W.tup (aD t))])):wO (aC (ak defs fuel (d+1)) "_law_turns" 0 [] S) Q:=by
 refine al G.turns rfl rfl λQ' hR=>?_
 dsimp only[fX];refine st ?_;dsimp only[wS,wE,wA];exact hR _ _ k
theorem fj (bt:Ho->Ho->HU):∀n:Ho,argBest bt n<=n
 | 0=>Hz _
 | n+1=>by have:=fj bt n; simp only[argBest]; split <;> omega
theorem iz (G:Gen defs){m0 b0:W}{ns:Hg HJ}{bs:Hg Hv}{a:Ho}{u:Wd}(hb:GoodB bs)(hl:ns.length=bs.length)(hu:GoodW a bs.length u)(h3:u.length=3)(k:∀S',Ka S S'->Q (am (kn bs u),S')) :
  wO (aC (ak defs fuel (d+3)) "_law_figure" 2 [.tup [m0,.tup (Hy aB ns bs),b0],am u] S) Q:=by
 refine al G.figure rfl rfl λQ' hR=>?_
 replace k:∀S',Ka S S'->Q' (.rt (am (kn bs u)),S'):=λS' a=>hR _ _ (k S' a)
 clear hR;show wZ _ _ dN [gV (.tup [m0,.tup (Hy aB ns bs),b0]),gV (am u)] S Q';generalize hR0:W.tup [m0,.tup (Hy aB ns bs),b0]=R;dsimp only[dN];refine st ?_;dsimp only[wS,wE,wA];refine se S.length (aw.map λt=>W.tup (aD t)) (λi ys ρ2 S2=>(∃a1,ρ2=[td,a1,gV R,gV (am u)])/\ys=((aw.take i).map λt=>am (au bs u t))/\Ka (S++[.lst (aw.map λt=>W.tup (aD t))]) S2) rfl rfl rfl ?_ ?_ ?_ ?_
 ·dsimp only[wE,wA];exact jD (d:=d+1) G #[rfl,#[td,rfl],rfl,.refl]
 ·rintro i ys ρ2 S2 ⟨_,_,k2⟩;exact k2.get _ _ aj
 ·rintro i w ys ρ2 S2 hw ⟨⟨a1,rfl⟩,rfl,k2⟩;rw[Hq,Hl]at hw;obtain⟨t,ht,rfl⟩:=hw;have ht3:(∀p∈t,p < 3)/\t.Nodup/\t.length < 1000:=by
   have:∀t∈aw,(∀p∈t,p < 3)/\t.Nodup/\t.length < 1000:=by decide
   exact this t (HC ht)
  refine ab (show eL (.nm 1) (.tup (aD t)) [td,a1,gV R,gV (am u)] S2=gV ([td,gV (.tup (aD t)),gV R,gV (am u)],S2)from rfl) ?_
  dsimp only[fW,wC,wE,wA,wV,wG];subst hR0;refine#[λ_=>w9 (d:=d) G hb hl hu (λp hp=>by rw[h3]; exact ht3.1 p hp) ht3.2.1 ht3.2.2 λS3 k3=>#[#[_,rfl],?_,k2.trans k3],λz=>by cases z]
  rw[Iy,ht];simp
 ·rintro ys ρ2 S2 ⟨_,rfl,k2⟩;have e:((aw.take (aw.map λt=>W.tup (aD t)).length).map λt=>am (au bs u t))=(aw.map (au bs u)).map am:=by
   rw[Hh,IE,JW]; rfl
  rw[e];refine#[fY rfl,ab (a:=(am (kn bs u),S2++[.lst ((aw.map (au bs u)).map am)])) ?_ (k _ ((Ka.push.trans k2).trans .push))];simp only[Bi.fn,zn,aJ aj,Bc];rw[HV #[by have:=i3 (aw.map (au bs u)); unfold eA; omega,lX _]]
  unfold kn;have hlt:nq ((aw.map (au bs u)).map dq) < (aw.map (au bs u)).length:=Nv (fj _ _) (by decide:5 < 6)
  rw[Hq,aq (d:=[]) hlt];rfl
end
noncomputable def ac (xs:Hg Hv):Hg W:=xs.map W.int
noncomputable def iA (us:Hg Wd):Hg Wd:=eP (AM (us.map dq)) [] us
theorem xf {α β:Type}{lt:Ho->Ho->HU}{d:α}{d':β}{f:α->β}{us:Hg α}:eP lt d' (us.map f)=(eP lt d us).map f:=by
 unfold eP;rw[Hh];split
 ·rfl
 ·rw[JW];refine IM λi hi=>?_
  have hl:i < us.length:=nr ∅ i hi
  simp[hl]
theorem qu {S:aa}{x:W}{us:Hg Wd}(h:d6 S x=gV (us.map am))(h64:us.length < 64)(hne:∀u∈us,u≠[]):ii [x] S=gV (.ref S.length,S++[.lst ((iA us).map am)]):=by
 have ok:nk (us.map dq)=true:=by
  unfold nk;simp only[Hs,JO,Io,Hh];exact#[#[h64,by have:=i3 us; unfold eA; omega],.inr #[CS us hne,lX us]]
 simp only[ii,h,Bc];rw[HV ok,xf (d:=[])];rfl
noncomputable def cq (ms ns:Hg HJ)(bs:Hg Hv)(us:Hg Wd):W:=.tup [.tup (ms.map W.str),.tup (Hy aB ns bs),.tup (us.map am)]
structure GoodN (ms ns:Hg HJ):Prop where
 name:∀y∈ms++ns,Name y
 nd:(qt++(ms++ns)).Nodup
theorem GoodW.nil {a n:Ho}:GoodW a n []:=#[λk p h=>(by simp at h),λk p h=>(by simp at h),λk p h=>(by simp at h)]
theorem GoodW.snoc {a n:Ho}{u:Wd}{m:Hv}{ws:Hg Hv}(h:GoodW a n u)(h1:0<=m/\m < a)(h2:ws.length=u.length)(h3:∀w∈ws,0<=w/\w < (n:Hv)):GoodW a n (u++[(m,ws)]):=by
 have key:∀(k:Ho) (p:Pt),(u++[(m,ws)])[k]?=gV p->u[k]?=gV p\/(k=u.length/\p=(m,ws)):=λk p e=>by
  rcases NO k u.length with hk|hk
  ·rw[Ii hk]at e; exact .inl e
  ·rw[IA hk]at e;have:k - u.length=0:=by
    have:=(HD.mp e).1;simp at this; omega
   rw[this]at e;cases e;exact .inr #[∅,rfl]
 refine#[λk p e=>?_,λk p e=>?_,λk p e=>?_] <;> rcases key k p e with e|⟨rfl,rfl⟩
 ·exact h.mark k p e
 ·exact h1
 ·exact h.len k p e
 ·exact h2
 ·exact h.way k p e
 ·exact h3
theorem GoodB.inv {bs:Hg Hv}(h:GoodB bs):∀k:Ho,k < bs.length->bs.getD (bs.getD k 0).toNat 0=k:=by
 rcases h with rfl|rfl|rfl|rfl|rfl|rfl <;> decide
theorem GoodB.at {bs:Hg Hv}(h:GoodB bs){x:Hv}(h0:0<=x)(h1:x < bs.length):bs[x.toNat]?=gV (bs.getD x.toNat 0)/\0<=bs.getD x.toNat 0/\bs.getD x.toNat 0 < bs.length:=by
 obtain⟨b,h2,h3⟩:=h.rng x.toNat ∅
 rw[getD_some h2];exact#[h2,h3]
theorem xg {S:aa}{x:W}{us:Hg Wd}{Q:QW}(h:d6 S x=gV (us.map am))(h64:us.length < 64)(hne:∀u∈us,u≠[])(q:Q (.ref S.length,S++[.lst ((iA us).map am)])):wO (Bi.sorted.fn [x] S) Q:=by
 refine ab ?_ q;exact qu h h64 hne
noncomputable def xi:Hg (Ho×Ho):=[(1,1),(2,1),(3,1),(1,2),(1,2),(2,2),(2,2),(3,2),(1,3),(1,3),(2,3)]
theorem xj:∀p∈xi,1<=p.1/\p.1<=3/\1<=p.2/\p.2<=3/\p.1*p.2<=6:=by decide
noncomputable def ko:Ho->Hg (Hg Hv)
 | 1=>[[0]]
 | 2=>[[0,1],[1,0]]
 | _=>[[0,1,2],[1,0,2],[0,2,1]]
theorem xk:∀n:Ho,1<=n->n<=3->(∀b∈ko n,GoodB b/\b.length=n)/\0 < (ko n).length/\(ko n).length<=3
 | 1,_,_=>#[λb h=>by cases HB.mp h; exact#[.inl rfl,rfl],#v[],#v[]]
 | 2,_,_=>#[λb h=>by
   rcases HW.mp h with rfl|h
   ·exact#[.inr (.inl rfl),rfl]
   ·cases HB.mp h; exact#[.inr (.inr (.inl rfl)),rfl],#v[],#v[]]
 | 3,_,_=>#[λb h=>by
   rcases HW.mp h with rfl|h
   ·exact#[.inr (.inr (.inr (.inl rfl))),rfl]
   ·rcases HW.mp h with rfl|h
    ·exact#[.inr (.inr (.inr (.inr (.inl rfl)))),rfl]
    ·cases HB.mp h; exact#[.inr (.inr (.inr (.inr (.inr rfl)))),rfl],#v[],#v[]]
 | 0,h,_=>absurd h #v[]
 | n+4,_,h=>absurd h ∅
section
variable{defs:Hg (HJ×Df)}{fuel d:Ho}{S:aa}{r:Ho}{Q:QW}
theorem sr (G:Gen defs)(hf:Fl S r)(k:∀(a n:Ho) S',1<=a->a<=3->1<=n->n<=3->a*n<=6->Fl S' r->Kp r S S'->Q (.tup [.int a,.int n],S')) :
  wO (aC (ak defs fuel (d+2)) "_law_sizes" 1 [.ref r] S) Q:=by
 refine al G.sizes rfl rfl λQ' hR=>?_
 show wZ _ _ eE [gV (.ref r),td] S Q';dsimp only[eE];refine st ?_;dsimp only[wS,wE,wA,Hw];refine st ?_;dsimp only[wS,wE,wA,wV,wG];refine aT (d:=d) G.pick (hf.ka .push) #v[] #v[] λv S1 v0 v1 f1 k1=>?_
 have e:=k1.get _ _ (Ks hf.lt) aj;obtain⟨p,hp,ep⟩:=nK (f:=λp:Ho×Ho=>W.tup [.int p.1,.int p.2]) (xs:=xi) (i:=v.toNat) (by show v.toNat < 11; omega)
 obtain⟨a1,a3,n1,n3,an⟩:=xj p hp;exact kj e v0 ep (hR _ _ (k _ _ _ a1 a3 n1 n3 an f1 (Kp.push.trans k1)))
theorem sv (G:Gen defs){n:Ho}(hf:Fl S r)(h1:1<=n)(h3:n<=3)(k:∀(bs:Hg Hv) S',GoodB bs->bs.length=n->Fl S' r->Kp r S S'->Q (.tup (ac bs),S')) :
  wO (aC (ak defs fuel (d+2)) "_law_backs" 2 [.ref r,.int n] S) Q:=by
 refine al G.backs rfl rfl λQ' hR=>?_
 replace k:∀(bs:Hg Hv) S',GoodB bs->bs.length=n->Fl S' r->Kp r S S'->Q' (.rt (.tup (ac bs)),S'):=λz S' a b c e=>hR _ _ (k z S' a b c e)
 clear hR;show wZ _ _ eC [gV (.ref r),gV (.int n),td] S Q';dsimp only[eC];refine aF λK hK=>?_
 dsimp only[wS,wE,wA,wV,wG,Hw];dsimp only[gK,aO];obtain⟨hg,g0,g3⟩:=xk n h1 h3;have fin:∀(t:Ho) (S1:aa),S.length<=t->S1[t]?=gV (.lst ((ko n).map λb=>.tup (ac b)))->Ka S S1->K [gV (.ref r),gV (.int n),gV (.ref t)] S1:=by
  intro t S1 ht et ka;refine hK _ _ (st ?_);dsimp only[wS,wE,wA,wV,wG];refine sg et ?_;rw[Hh];refine aT (d:=d) G.pick (hf.ka ka) ∅ ∅ λv S2 v0 v1 f2 k2=>?_
  have e2:=k2.get _ _ (by have:=hf.lt; omega) et
  obtain⟨b,hb,eb⟩:=nK (f:=λb:Hg Hv=>W.tup (ac b)) (xs:=ko n) (i:=v.toNat) ∅
  exact kj e2 v0 eb (k b S2 (hg b hb).1 (hg b hb).2 f2 ((ka.kp r).trans k2))
 clear hK g0 g3 hg;rcases(show n=1\/n=2\/n=3 by omega)with rfl|rfl|rfl
 ·exact ef (i:=0) aj rfl (fin _ _ (Hz _) (ar (ar (ar aj))) (Ka.push.trans (Ka.push.trans (Ka.push.trans .push))))
 ·exact ef (i:=1) aj rfl (fin _ _ (by simp) (ar (ar aj)) (Ka.push.trans (Ka.push.trans (Ka.push.trans .push))))
 ·exact ef (i:=2) aj rfl (fin _ _ (by simp only[Hk]; omega) (ar aj) (Ka.push.trans (Ka.push.trans (Ka.push.trans .push))))
theorem gy (hfu:20 < fuel)(G:Gen defs){a:Ho}{bs:Hg Hv}{x:W}{us:Hg Wd}(hf:Fl S r)(ha:a<=3)(hb:bs.length<=3)(hx:∀S',Kp r S S'->d6 S' x=gV (us.map am))(h64:us.length < 64)(hne:∀u∈us,u≠[])
  (k:∀(ms ns:Hg HJ) S',ms.length=a->ns.length=bs.length->GoodN ms ns->Fl S' r->Kp r S S'->Q (cq ms ns bs (iA us),S')) :
  wO (aC (ak defs fuel (d+5)) "_law_rule_of" 4 [.ref r,.int a,.tup (ac bs),x] S) Q:=by
 refine al G.rule_of rfl rfl λQ' hR=>?_
 replace k:∀(ms ns:Hg HJ) S',ms.length=a->ns.length=bs.length->GoodN ms ns->Fl S' r->Kp r S S'->Q' (.rt (cq ms ns bs (iA us)),S'):=λz y S' a b c e f=>hR _ _ (k z y S' a b c e f)
 clear hR;show wZ _ _ dm [gV (.ref r),gV (.int a),gV (.tup (ac bs)),gV x,td,td] S Q';have hbl:(ac bs).length=bs.length:=Hh ..;dsimp only[dm];refine aF λK hK=>?_
 dsimp only[wS,wE,wA,wV,wG,Hw];refine ay ?_;rw[hbl];dsimp only[cp,aO];refine Ae (d:=d) (m:=a+bs.length) hfu G hf ∅ λys S1 q2 q3 q4 f1 k1=>hK _ _ ?_
 clear hK K;have hzl:(Hy aB (ys.drop a) bs).length=bs.length:=by
  rw[Jf,Kq]; omega
 refine aF λK hK=>?_
 dsimp only[wS,wE,wA,Hw];refine eB (bs.length:Hv) (λk zs ρ2 S2=>(∃a1,ρ2=[td,a1,gV (.tup (ac bs)),gV (.int a),gV (.tup (ys.map W.str))])/\zs=((Hy aB (ys.drop a) bs).take k)/\S2=S1) rfl rfl rfl ∅ ?_ ?_ ?_
 ·dsimp only[wE,wA,wV,wG];refine ay ?_;rw[hbl];exact#[rfl,#[td,rfl],rfl,rfl]
 ·rintro i zs ρ2 S2 hi ⟨⟨a1,rfl⟩,rfl,rfl⟩;clear hK;have hi':i < bs.length:=∅
  have h1:a+i < ys.length:=∅
  dsimp only[fW,wC,wE,wA,wV,wG,Hw,cp,aO];refine#[λ_=>ae ∅ (w:=.str ys[a+i]) ?_ (ae ∅ (w:=.int bs[i]) ?_ #[#[_,rfl],?_,rfl]),λz=>by cases z]
  ·rw[show((a:Hv)+(i:Hv)).toNat=a+i by omega,Hq,HE h1]; rfl
  ·unfold ac;rw[HF,Hq,HE hi']; rfl
  ·have ez:(Hy aB (ys.drop a) bs)[i]?=gV (aB ys[a+i] bs[i]):=i4 (by rw[List.getElem?_drop]; exact HE h1) (HE hi')
   rw[Iy,ez];rfl
 ·rintro zs ρ2 S2 ⟨_,rfl,rfl⟩;rw[HF,<- hzl,IE];refine#[ki ∅,fH aj (hK _ _ ?_)]
  clear hK K;refine st ?_;dsimp only[wS,wE,wA,wP,wV,wG,wN];have hs:jg (.tup (ys.map W.str)) td (gV (a:Hv)) (S2++[O.lst (Hy aB (ys.drop a) bs)])=gV (.tup ((ys.take a).map W.str),S2++[O.lst (Hy aB (ys.drop a) bs)]):=by
   simp only[jg,eh];rw[KZ]
  refine ab hs (xg (hx _ (k1.trans .push)) h64 hne (fH aj ?_));refine k (ys.take a) (ys.drop a) _ ?_ ?_ #[?_,?_] ((f1.ka .push).ka .push) (k1.trans (Kp.push.trans .push))
  ·rw[HX]; omega
  ·rw[Kq]; omega
  ·rw[Ky]; exact q3
  ·rw[Ky]; exact q4
theorem fm (hfu:20 < fuel)(G:Gen defs){a:Ho}{bs:Hg Hv}(hf:Fl S r)(ha:a<=3)(hb:bs.length<=3)
  (k:∀(ms ns:Hg HJ) S',ms.length=a->ns.length=bs.length->GoodN ms ns->Fl S' r->Kp r S S'->Q (cq ms ns bs [],S')) :
  wO (aC (ak defs fuel (d+5)) "_law_rule_of" 4 [.ref r,.int a,.tup (ac bs),.tup []] S) Q:=
 gy hfu G hf ha hb (us:=[]) (λ_ _=>rfl) #v[] (λ_ h=>nomatch h) k
theorem draws {Φ:HJ->FF}{ρ:Fm}{elt e:E}{cap:Hg (Hn Ho)}{n i:Ho}{R:Fm}(oe:dM elt=true)(oi:dM e=true)(h1:i<=1000)(hc:eZ cap ρ=td::td::R)(hf:Fl S r)(he:∀Q:QW,Q (.int i,S)->wE Φ e ρ S Q)
  (hp:∀(a:Hn W) (S1:aa) (Q:QW),Fl S1 r->(∀v S',0<=v->v < (n:Hv)->Fl S' r->Kp r S1 S'->Q (.int v,S'))->wE Φ elt (td::a::R) S1 Q)
  (k:∀(vs:Hg Hv) S',vs.length=i->(∀w∈vs,0<=w/\w < (n:Hv))->Fl S' r->Kp r S S'->Q (.ref S'.length,S'++[.lst (ac vs)])) :
  Wp (az Φ (.comp elt (.nm 1) (.rng #v[e]) .nil cap) ρ S) Q:=by
 refine eB (i:Hv) (λj ys ρ2 S3=>(∃a1,ρ2=td::a1::R)/\(∃vs:Hg Hv,ys=ac vs/\vs.length=j/\∀w∈vs,0<=w/\w < (n:Hv))/\Fl S3 r/\Kp r S S3) oi oe rfl ∅ (he _ #[rfl,#[td,hc],#[[],rfl,rfl,λ_ h=>nomatch h],hf,.refl]) ?_ ?_
 ·rintro j ys ρ2 S3 hj ⟨⟨a1,rfl⟩,⟨vs,rfl,hvl,hv⟩,f3,k3⟩;refine#[λ_=>hp _ _ _ f3 λv S4 v0 v1 f4 k4=>#[#[_,rfl],#[vs++[v],(HR (l₁:=vs) (l₂:=[v])).symm,by rw[Hk,hvl]; rfl,λw hw=>?_],f4,k3.trans k4],λz=>by cases z]
  rcases HY.mp hw with h|h
  ·exact hv w h
  ·rw[HB.mp h]; exact#[v0,v1]
 ·rintro ys ρ2 S3 ⟨_,⟨vs,rfl,hvl,hv⟩,f3,k3⟩;rw[HF]at hvl;exact#[ki (by rw[show(ac vs).length=vs.length from Hh ..]; omega),k vs S3 hvl hv f3 k3]
theorem iB (G:Gen defs){a n:Ho}(hf:Fl S r)(ha:0 < a)(ha3:a<=3)(hn:0 < n)(hn3:n<=3)(k:∀(u:Wd) S',u.length=3->GoodW a n u->Fl S' r->Kp r S S'->Q (am u,S')) :
  wO (aC (ak defs fuel (d+2)) "_law_free_three" 3 [.ref r,.int a,.int n] S) Q:=by
 refine al G.free_three rfl rfl λQ' hR=>?_
 replace k:∀(u:Wd) S',u.length=3->GoodW a n u->Fl S' r->Kp r S S'->Q' (.rt (am u),S'):=λz S' a b c e=>hR _ _ (k z S' a b c e)
 clear hR;show wZ _ _ cg [gV (.ref r),gV (.int a),gV (.int n),td,td] S Q';dsimp only[cg];have hrt:=hf.lt;refine st ?_;dsimp only[wS,wE,wA,Hw];refine aF λK hK=>?_
 refine bC 3 (λk ρ S'=>∃a4 u,ρ=[gV (.ref r),gV (.int a),gV (.int n),gV (.ref S.length),a4]/\S'[S.length]?=gV (.lst (u.map ap))/\u.length=k/\GoodW a n u/\Fl S' r/\Kp r S S') rfl rfl #v[] #[rfl,td,[],rfl,aj,rfl,.nil,hf.ka .push,.push] ?_ ?_
 ·rintro i ρ S1 hi ⟨a4,u,rfl,e1,hul,hu,f1,k1⟩ Q2 hn' _;clear hK;refine st ?_;dsimp only[wS,wE,wA,wV,wG,Hw];refine#[dF e1,aT (d:=d) G.pick f1 ∅ ∅ λv S2 v0 v1 f2 k2=>?_]
  have e2:=k2.get _ _ ∅ e1
  refine draws (n:=n) (i:=i) (R:=[gV (.ref r),gV (.int n)]) rfl rfl ∅ rfl f2 (λQ q=>q) (λa S1 Q f q=>aT (d:=d) G.pick f ∅ ∅ q) λvs S3 hvl hv f3 k3=>?_
  have e3:=ar (u:=O.lst (ac vs)) (k3.get _ _ ∅ e2)
  refine fH aj (lV e3 (by rw[Hh]; omega) (aM (hn' _ _ #[_,u++[(v,vs)],rfl,?_,by rw[Hk,hul]; rfl,hu.snoc #[v0,v1] (hvl.trans hul.symm) hv,(f3.ka .push).own hrt,(k1.trans (k2.trans (k3.trans .push))).late (Hz _)])))
  rw[bG e3,HR]; rfl
 ·rintro ρ S1 ⟨a4,u,rfl,e1,hul,hu,f1,k1⟩;refine hK _ _ (st ?_);dsimp only[wS,wE,wA,wV,wG];exact fH e1 (k u _ hul hu f1 k1)
end
noncomputable def ey (n:Ho):Hg Hv:=(HG n).map λ(k:Ho)=>(k:Hv)
noncomputable def pc (a n:Ho):Hg Wd:=(ey a).flatMap λm0=>(ey a).flatMap λm1=>(ey a).flatMap λm2=>(ey n).flatMap λw1=>(ey n).flatMap λw2=>(ey n).map λw3=>[(m0,[]),(m1,[w1]),(m2,[w2,w3])]
noncomputable def aN (a:Ho)(bs:Hg Hv):Hg Wd:=((pc a bs.length).map (kn bs)).eraseDups
theorem cZ {n:Ho}{x:Hv}(h0:0<=x)(h1:x < n):x∈ey n:=HQ.mpr #[x.toNat,HI.mpr ∅,∅]
theorem ud {a n:Ho}{u:Wd}(h:GoodW a n u)(h3:u.length=3):u∈pc a n:=by
 match u,h3 with
 | [(m0,w0),(m1,w1),(m2,w2)],_=>
  have l0:=h.len 0 _ rfl;have l1:=h.len 1 _ rfl;have l2:=h.len 2 _ rfl;simp only at l0 l1 l2
  match w0,l0 with
  | [],_=>
   match w1,l1 with
   | [x],_=>
    match w2,l2 with
    | [y,z],_=>
     have a0:=h.mark 0 _ rfl;have a1:=h.mark 1 _ rfl;have a2:=h.mark 2 _ rfl;have b1:=h.way 1 _ rfl x (by simp)
     have b2:=h.way 2 _ rfl y (by simp)
     have b3:=h.way 2 _ rfl z (by simp)
     unfold pc;simp only[IY,HQ];exact#[m0,cZ a0.1 a0.2,m1,cZ a1.1 a1.2,m2,cZ a2.1 a2.2,x,cZ b1.1 b1.2,y,cZ b2.1 b2.2,z,cZ b3.1 b3.2,rfl]
theorem Ag {a:Ho}{bs:Hg Hv}{u:Wd}(h:GoodW a bs.length u)(h3:u.length=3):kn bs u∈aN a bs:=by
 unfold aN;rw[LK];exact HQ.mpr #[u,ud h h3,rfl]
structure SizeOk (a:Ho)(bs:Hg Hv):Prop where
 pos:0 < a
 good:GoodB bs
 most:a*bs.length<=6
 a3:a<=3
theorem Gp:(aN 1 [0]).length < 64/\(aN 2 [0]).length < 64/\(aN 3 [0]).length < 64:=by decide +kernel
theorem Fn:(aN 1 [0,1]).length < 64/\(aN 2 [0,1]).length < 64/\(aN 1 [1,0]).length < 64/\(aN 2 [1,0]).length < 64:=by decide +kernel
theorem Gq:(aN 1 [0,1,2]).length < 64/\(aN 1 [1,0,2]).length < 64/\(aN 1 [0,2,1]).length < 64:=by decide +kernel
theorem Gr:(aN 3 [0,1]).length < 64:=by decide +kernel
theorem Gs:(aN 3 [1,0]).length < 64:=by decide +kernel
theorem Gu:(aN 2 [0,1,2]).length < 64:=by decide +kernel
theorem Gv:(aN 2 [1,0,2]).length < 64:=by decide +kernel
theorem Gw:(aN 2 [0,2,1]).length < 64:=by decide +kernel
theorem nM {a:Ho}{bs:Hg Hv}(h:SizeOk a bs):(aN a bs).length < 64:=by
 obtain⟨h0,hb,hm,h3⟩:=h;have ha:a=1\/a=2\/a=3:=∅
 rcases hb with rfl|rfl|rfl|rfl|rfl|rfl <;> rcases ha with rfl|rfl|rfl
 ·exact Gp.1
 ·exact Gp.2.1
 ·exact Gp.2.2
 ·exact Fn.1
 ·exact Fn.2.1
 ·exact Gr
 ·exact Fn.2.2.1
 ·exact Fn.2.2.2
 ·exact Gs
 ·exact Gq.1
 ·exact Gu
 ·simp at hm
 ·exact Gq.2.1
 ·exact Gv
 ·simp at hm
 ·exact Gq.2.2
 ·exact Gw
 ·simp at hm
theorem xm (bs:Hg Hv)(u:Wd):∃t∈aw,kn bs u=au bs u t:=by
 have h7:(aw.map (au bs u)).length=6:=by rw[Hh]; rfl
 have h8:((aw.map (au bs u)).map dq).length=6:=by rw[Hh,h7]
 have hlt:nq ((aw.map (au bs u)).map dq) < (aw.map (au bs u)).length:=by
  unfold nq;have h6:=fj (AM ((aw.map (au bs u)).map dq)) (((aw.map (au bs u)).map dq).length - 1);rw[h7]; omega
 unfold kn;rw[getD_some (HE hlt)];obtain⟨t,ht,e⟩:=HQ.mp (IQ hlt);exact#[t,ht,e.symm]
theorem Ah (bs:Hg Hv)(u:Wd):kn bs u≠[]:=by
 obtain⟨t,ht,e⟩:=xm bs u;rw[e];have:∀t∈aw,t≠[]:=by decide
 have h:=this t ht;intro z;have hl:(au bs u t).length=t.length:=by simp[au]
 rw[z]at hl;exact h (K8.mp hl.symm)
theorem pd:∀ {xs ys:Hg Hv},xs.map T.int=ys.map T.int->xs=ys
 | [],[],_=>rfl
 | [],_::_,h=>by cases h
 | _::_,[],h=>by cases h
 | x::xs,y::ys,h=>by
  rw[IZ,IZ]at h;injection h with h1 h2
  injection h1 with h1
  rw[h1,pd h2]
theorem Ai {p q:Pt}(h:o7 p=o7 q):p=q:=by
 unfold o7 at h;injection h with h
 injection h with h1 h2
 injection h1 with h1
 injection h2 with h2 _
 injection h2 with h2
 exact Po h1 (pd h2)
theorem nN {u v:Wd}(h:dq u=dq v):u=v:=by
 unfold dq at h;injection h with h
 have inj:∀ {u v:Wd},u.map o7=v.map o7->u=v:=by
  intro u
  induction u with
  | nil=>intro v h; cases v with
   | nil=>rfl
   | cons _ _=>cases h
  | cons p u ih=>intro v h; cases v with
   | nil=>cases h
   | cons q v=>
    rw[IZ,IZ]at h;injection h with h1 h2
    rw[Ai h1,ih h2]
 exact inj h
theorem i5 {kvs:Hg (T×W)}{k:T}{v:W}:(eu kvs k v).map (·.1)=if k∈kvs.map (·.1)then kvs.map (·.1)else kvs.map (·.1)++[k]:=by
 have hany:(kvs.any λp=>decide (p.1=k))=decide (k∈kvs.map (·.1)):=by
  induction kvs with
  | nil=>rfl
  | cons p kvs ih=>
   rw[Kh,ih,IZ]
   by_cases e:p.1=k
   ·subst e; simp
   ·rw[Im e,Nb];have:(k∈p.1::kvs.map (·.1))=(k∈kvs.map (·.1)):=by simp[Ne.symm e]
    simp only[this]
 unfold eu;rw[hany]
 by_cases h:k∈kvs.map (·.1)
 ·rw[HV h,HV (IW h),JW];refine IM λp _=>?_
  show(if p.1=k then(p.1,v)else p).1=p.1
  split <;> rfl
 ·rw[Iv h,Iv (by simpa using h),HR]
  rfl
structure FigD (L:Hg Wd)(kvs:Hg (T×W))(fs:Hg Wd):Prop where
 keys:kvs.map (·.1)=fs.map dq
 nd:fs.Nodup
 mem:∀f∈fs,f∈L
theorem FigD.nil {L:Hg Wd}:FigD L [] []:=#[rfl,MQ,λ_ h=>nomatch h]
theorem FigD.len {L:Hg Wd}{kvs:Hg (T×W)}{fs:Hg Wd}(h:FigD L kvs fs):kvs.length=fs.length/\fs.length<=L.length:=by
 have:=congrArg Pn h.keys;rw[Hh,Hh]at this;exact#[this,nL fs L h.nd h.mem]
theorem FigD.put {L:Hg Wd}{kvs:Hg (T×W)}{fs:Hg Wd}{f:Wd}{v:W}(h:FigD L kvs fs)(hf:f∈L):∃fs',FigD L (eu kvs (dq f) v) fs':=by
 by_cases hm:f∈fs
 ·refine#[fs,?_,h.nd,h.mem];rw[i5,HV (by rw[h.keys]; exact HQ.mpr #[f,hm,rfl]),h.keys]
 ·refine#[fs++[f],?_,?_,λg hg=>?_]
  ·rw[i5,Iv,h.keys,HR]
   ·rfl
   ·rw[h.keys];intro z;obtain⟨g,hg,e⟩:=HQ.mp z;exact hm (nN e ▸ hg)
  ·rw[LY];refine#[h.nd,by simp,λa ha b hb e=>?_]
   rw[HB.mp hb]at e;exact hm (e ▸ ha)
  ·rcases HY.mp hg with h'|h'
   ·exact h.mem g h'
   ·rw[HB.mp h']; exact hf
theorem FigD.items {S:aa}{t:Ho}{L:Hg Wd}{kvs:Hg (T×W)}{fs:Hg Wd}(h:FigD L kvs fs)(e:S[t]?=gV (.dic kvs)):d6 S (.ref t)=gV (fs.map am):=by
 simp only[d6,nI e,bJ e,Iq];congr 1;have:(kvs.map (·.1)).map T.w=(fs.map dq).map T.w:=by rw[h.keys]
 rw[JW,JW]at this
 calc kvs.map (λp=>p.1.w)=kvs.map (T.w∘λx=>x.1):=rfl
  _=fs.map (T.w∘dq):=this
  _=fs.map am:=by
   refine IM λf _=>?_
   exact wR f
theorem pe {a:Ho}{bs:Hg Hv}{f:Wd}(h:f∈aN a bs):f≠[]:=by
 unfold aN at h;rw[LK]at h;obtain⟨u,_,rfl⟩:=HQ.mp h;exact Ah bs u
theorem xn {S:aa}{t:Ho}{kvs:Hg (T×W)}{u:Wd}{v:W}(h:S[t]?=gV (.dic kvs))(hl:kvs.length < sizeLine):ig (.ref t) (am u) v S=gV (S.set t (.dic (eu kvs (dq u) v))):=by
 have hk:=gW u;unfold am at hk ⊢;simp only[ig,mX,h,hk];rw[HV hl]
structure RuleAt (a:Ho)(bs:Hg Hv)(ms ns:Hg HJ)(gs:Hg Wd):Prop where
 size:SizeOk a bs
 ml:ms.length=a
 nl:ns.length=bs.length
 nm:GoodN ms ns
 nd:gs.Nodup
 mem:∀g∈gs,g∈aN a bs
noncomputable def dg (w:W):Prop:=∃a bs ms ns gs,w=cq ms ns bs (iA gs)/\RuleAt a bs ms ns gs
section
variable{Φ:HJ->FF}{fuel:Ho}{ρ:Fm}{S:aa}{K:Fm->aa->Prop}{Q:QO}
theorem kq {i0:Ho}{e:E}{b:Ss}(oe:dM e=true)(ok:fT b=true)(he:wE Φ e ρ S λp=>∃(j:Hv) (I:Ho->Fm->aa->Prop),p.1=.int j/\(-(2 ^ 62)<=j/\j < 2 ^ 62)/\I 0 ρ p.2/\
  (∀(i:Ho) (ρ:Fm) (S:aa),(i:Hv) < j->I i ρ S->t9 Φ fuel b (ρ.set i0 (gV (.int i))) S (I (i+1)) Q)/\∀ρ S,I j.toNat ρ S->K ρ S):Wp (fJ Φ fuel (.loop (.nm i0) (.rng #v[e]) b) ρ S) (o5 K Q):=by
 obtain⟨w,S1,e1,j,I,rfl,hj,h0,hs,hend⟩:=bV oe he;have hl:(da 0 j.toNat).length=j.toNat:=by simp[da]
 refine fU (mi:=.its (da 0 j.toNat)) (S1:=S1) (xs:=da 0 j.toNat) I ok ?_ (λ_ _ _ _=>rfl) rfl h0 (λi w ρ S hw hI=>?_) λρ S hI=>hend ρ S (hl ▸ hI)
 ·simp only[jv,db,dH,ik,qi,e1];rw[HV hj]
 ·rw[d7]at hw;split at hw
  ·rename_i hk;cases hw;rw[LB];exact hs i ρ S ∅ hI
  ·cases hw
theorem c7 {tg:Tg}{e:E}{b:Ss}(oe:dM e=true)(ok:fT b=true)(he:wE Φ e ρ S λp=>∃(t:Ho) (xs:Hg W) (I:Ho->Fm->aa->Prop),p.1=.ref t/\I 0 ρ p.2/\(∀i ρ S,I i ρ S->S[t]?=gV (.lst xs))/\
  (∀(i:Ho) (w:W) (ρ:Fm) (S:aa),xs[i]?=gV w->I i ρ S->wO (eL tg w ρ S) λq=>t9 Φ fuel b q.1 q.2 (I (i+1)) Q)/\∀ρ S,I xs.length ρ S->K ρ S):Wp (fJ Φ fuel (.loop tg (.seq e) b) ρ S) (o5 K Q):=by
 obtain⟨w,S1,e1,t,xs,I,rfl,h0,hat,hs,hend⟩:=bV oe he;exact fU (mi:=.live t) (S1:=S1) I ok (by simp only[jv,eQ,e1,aJ (hat _ _ _ h0)]) (λi ρ S h=>by simp only[MI.at,aJ (hat _ _ _ h)]) (by simp only[MI.len,aJ (hat _ _ _ h0),Iq]) h0 hs hend
end
section
variable{defs:Hg (HJ×Df)}{fuel d:Ho}{S:aa}{r:Ho}{Q:QW}
theorem sw {q:Ho}{a:Ho}{bs:Hg Hv}{ms ns:Hg HJ}{fs0:Hg Wd}{kvs:Hg (T×W)}{fs:Hg Wd}(h3:S[q]?=gV (.dic kvs))(h4:FigD (aN a bs) kvs fs)(hs:SizeOk a bs)(hml:ms.length=a)(hnl:ns.length=bs.length)(hnm:GoodN ms ns)(k:∀w S',dg w->Ka S S'->Q (w,S')) :
  wO (ju (cq ms ns bs fs0) (.int 0) S) λp=>wO (ju (cq ms ns bs fs0) (.int 1) p.2) λq'=>wO (Bi.sorted.fn [.ref q] q'.2) λs=>wO (Bi.tuple.fn [s.1] s.2) λz=>Q (.tup [p.1,q'.1,z.1],z.2):=by
 refine ae #v[] rfl (ae #v[] rfl ?_)
 have hl:=h4.len;exact xg (h4.items h3) (by have:=nM hs; omega) (λf hf=>pe (h4.mem f hf)) (fH aj (k _ _ #[a,bs,ms,ns,fs,rfl,hs,hml,hnl,hnm,h4.nd,h4.mem] .push))
theorem sx {q:Ho}{a:Ho}{bs:Hg Hv}{u:Wd}{kvs:Hg (T×W)}{fs:Hg Wd}{Q:aa->Prop}(h3:S[q]?=gV (.dic kvs))(h4:FigD (aN a bs) kvs fs)(hs:SizeOk a bs)(hu:GoodW a bs.length u)(hu3:u.length=3)
  (k:∀o,(∃kvs fs,(S.set q o)[q]?=gV (.dic kvs)/\FigD (aN a bs) kvs fs)->Q (S.set q o)):wO (ig (.ref q) (am (kn bs u)) (.bl true) S) Q:=by
 have hl:=h4.len;have:=nM hs;obtain⟨fs',h5⟩:=h4.put (v:=.bl true) (Ag hu hu3);exact ab (xn h3 (by rw[IL]; omega)) (k _ #[_,fs',bG h3,h5])
theorem qv (hfu:20 < fuel)(G:Gen defs)(hf:Fl S r)(k:∀w S',dg w->Fl S' r->Kp r S S'->Q (w,S')):wO (aC (ak defs fuel (d+6)) "_law_any_rule" 1 [.ref r] S) Q:=by
 refine al G.any_rule rfl rfl λQ' hR=>?_
 replace k:∀w S',dg w->Fl S' r->Kp r S S'->Q' (.rt w,S'):=λz S' a b c=>hR _ _ (k z S' a b c)
 clear hR;show wZ _ _ cX [gV (.ref r),td,td,td,td,td] S Q';dsimp only[cX];refine aF λK hK=>?_
 dsimp only[wS,wE,wA,wV,wG];refine sr (d:=d+3) G hf λa n S1 a1 a3 n1 n3 an f1 k1=>?_
 dsimp only[wU];refine ab (show cK [1,2] [.int a,.int n] [gV (.ref r),td,td,td,td,td]=gV [gV (.ref r),gV (.int a),gV (.int n),td,td,td]from rfl) (hK _ _ ?_)
 clear hK K;refine aF λK hK=>?_
 dsimp only[wS,wE,wA,wV,wG,Hw];refine sv (d:=d+3) G f1 n1 n3 λbs S2 hb hbl f2 k2=>?_
 have hsz:SizeOk a bs:=#[∅,hb,by rw[hbl]; exact an,a3]
 refine fm (d:=d) hfu G f2 a3 ∅ λms ns S3 hml hnl hnm f3 k3=>hK _ _ ?_
 clear hK K;have hrt:=f3.lt;replace k3:Kp r S S3:=k1.trans (k2.trans k3);clear k1 k2 f1 f2;refine st ?_;dsimp only[wS,wE,Hw];refine aF λK hK=>?_
 refine kq rfl rfl ?_;dsimp only[wE,wA,wV,wG];refine aT (d:=d+4) G.pick (f3.ka .push) #v[] #v[] λv S4 v0 v9 f4 k4=>?_
 refine#[v,λk ρ S'=>(∃a5,ρ=[gV (.ref r),gV (.int a),gV (.int n),gV (cq ms ns bs []),gV (.ref S3.length),a5])/\(∃kvs fs,S'[S3.length]?=gV (.dic kvs)/\FigD (aN a bs) kvs fs)/\Fl S' r/\Kp r S S',rfl,∅,#[#[td,rfl],#[[],[],k4.get _ _ ∅ aj,.nil],f4,(k3.trans .push).trans k4],?_,?_]
 ·rintro i ρ S5 hi ⟨⟨a5,rfl⟩,⟨kvs,fs,e5,hd⟩,f5,k5⟩ Q2 hn _;clear hK;refine st ?_;dsimp only[wS,wE,wA,wV,wG,Hw];refine iB (d:=d+3) G f5 ∅ a3 ∅ n3 λu S6 hu3 hu f6 k6=>?_
  have hu:GoodW a bs.length u:=hbl.symm ▸ hu;refine iz (d:=d+2) G hb hnl hu hu3 λS7 k7=>?_
  have e7:=k7.get _ _ (k6.get _ _ ∅ e5)
  exact sx e7 hd hsz hu hu3 λo ho=>aM (hn _ _ #[#[_,rfl],ho,(f6.ka k7).own hrt,((k5.trans k6).trans (k7.kp r)).late k3.len])
 ·rintro ρ S5 ⟨⟨a5,rfl⟩,⟨kvs,fs,e5,hd⟩,f5,k5⟩;refine hK _ _ (st ?_);dsimp only[wS,wE,wA,wV,wG];exact sw (Q:=λp=>Q' (.rt p.1,p.2)) e5 hd hsz hml hnl hnm λw S6 hw k6=>k w S6 hw (f5.ka k6) (k5.trans (k6.kp r))
end
noncomputable def eS (t:Hv×Hv×Hv):W:=.tup [.int t.1,.int t.2.1,.int t.2.2]
noncomputable def pf (a:Ho)(t:Hv×Hv×Hv):Prop:=(0<=t.1/\t.1 < a)/\(0<=t.2.1/\t.2.1 < a)/\(0<=t.2.2/\t.2.2 < a)
noncomputable def xo (k:Hv):Wd:=[(k,[]),(k,[0]),(k,[0,0])]
theorem Gx:∀k∈ey 1,xo k∈aN 1 [0]:=by decide +kernel
theorem Gy:∀k∈ey 2,xo k∈aN 2 [0]:=by decide +kernel
theorem Gz:∀k∈ey 3,xo k∈aN 3 [0]:=by decide +kernel
theorem Aj {a:Ho}{k:Hv}(h0:1<=a)(h3:a<=3)(hk:0<=k)(hk2:k < a):xo k∈aN a [0]:=by
 have ha:a=1\/a=2\/a=3:=∅
 rcases ha with rfl|rfl|rfl
 ·exact Gx k (cZ hk hk2)
 ·exact Gy k (cZ hk hk2)
 ·exact Gz k (cZ hk hk2)
theorem Ak {a b:Hv}(h:xo a=xo b):a=b:=by
 unfold xo at h;injection h with h1 h2
 injection h1
theorem iC:GoodB [0]:=.inl rfl
theorem sy {S:aa}{i j:Ho}{xs:Hg W}(h1:S[i]?=gV (.lst xs))(h2:S[j]?=gV (.lst [])):aL .eq (.ref i) (.ref j) S=gV (.bl xs.isEmpty,S):=by
 show(gP S (19+1) (.ref i) (.ref j)).map _=_;simp only[gP,cV h1,cV h2];cases xs with
 | nil=>rfl
 | cons x xs=>rfl
theorem Al {S:aa}{f:Hv}{ws:Hg Hv}:∃b,aL .notin (.int f) (.tup (ac ws)) S=gV (.bl b,S):=by
 have hf:(bB (.int f)&&(ac ws).all bB)=true:=by
  simp only[bB,KW,HP];intro x hx;obtain⟨z,_,rfl⟩:=HQ.mp hx;rfl
 refine#[!(ac ws).any λz=>mO z (.int f),?_]
 show dJ .notin (.int f) (.tup (ac ws)) S=_;simp only[dJ,uF,y8,eO,hf,Km,Iq]
section
variable{Φ:HJ->FF}{fuel:Ho}{ρ:Fm}{S:aa}{K:Fm->aa->Prop}{Q:QO}
theorem cx {i0:Ho}{a b:E}{bd:Ss}(i j:Hv)(I:Ho->Fm->aa->Prop)(oa:dM a=true)(ob:dM b=true)(ok:fT bd=true)(hj : -(2 ^ 62)<=i/\i < 2 ^ 62/\-(2 ^ 62)<=j/\j < 2 ^ 62)(he:wE Φ a ρ S λp=>p.1=.int i/\wE Φ b ρ p.2 λq=>q.1=.int j/\I 0 ρ q.2)
  (hstep:∀(k:Ho) (ρ:Fm) (S:aa),(k:Hv) < j - i->I k ρ S->t9 Φ fuel bd (ρ.set i0 (gV (.int (i+k)))) S (I (k+1)) Q) (hend:∀ρ S,I (j - i).toNat ρ S->K ρ S):Wp (fJ Φ fuel (.loop (.nm i0) (.rng2 #v[a,b]) bd) ρ S) (o5 K Q):=by
 obtain⟨w,S1,e1,rfl,h1⟩:=bV oa he;obtain⟨w,S2,e2,rfl,h0⟩:=bV ob h1;have hl:(da i (j - i).toNat).length=(j - i).toNat:=by simp[da]
 refine fU (mi:=.its (da i (j - i).toNat)) (S1:=S2) (xs:=da i (j - i).toNat) I ok ?_ (λ_ _ _ _=>rfl) rfl h0 (λk w ρ S hw hI=>?_) λρ S hI=>hend ρ S (hl ▸ hI)
 ·simp only[jv,db,dH,ik,iRng2,e1,e2];rw[HV hj]
 ·rw[d7]at hw;split at hw
  ·rename_i hk;cases hw;exact hstep k ρ S ∅ hI
  ·cases hw
theorem xp {elt a b:E}{i0:Ho}{cs:Es}{cap:Hg (Hn Ho)}{Q:QW}(i j:Hv)(I:Ho->Hg W->Fm->aa->Prop)(oa:dM a=true)(ob:dM b=true)(oe:dM elt=true)(oc:nZ cs=true)(hj : -(2 ^ 62)<=i/\i < 2 ^ 62/\-(2 ^ 62)<=j/\j < 2 ^ 62)(he:wE Φ a ρ S λp=>p.1=.int i/\wE Φ b ρ p.2 λq=>q.1=.int j/\I 0 [] (eZ cap ρ) q.2)
  (hstep:∀(k:Ho) (ys:Hg W) (ρ:Fm) (S:aa),(k:Hv) < j - i->I k ys ρ S->fW Φ elt cs (ρ.set i0 (gV (.int (i+k)))) S (λy=>I (k+1) (ys++[y])) (I (k+1) ys))
  (hend:∀ys ρ S,I (j - i).toNat ys ρ S->ys.length<=sizeLine/\Q (.ref S.length,S++[.lst ys])):Wp (az Φ (.comp elt (.nm i0) (.rng2 #v[a,b]) cs cap) ρ S) Q:=by
 obtain⟨w,S1,e1,rfl,h1⟩:=bV oa he;obtain⟨w,S2,e2,rfl,h0⟩:=bV ob h1;have hl:(da i (j - i).toNat).length=(j - i).toNat:=by simp[da]
 refine kh (mi:=.its (da i (j - i).toNat)) (S1:=S2) (xs:=da i (j - i).toNat) I oe oc ?_ (λ_ _ _ _ _=>rfl) rfl h0 (λk w ys ρ S hw hI=>?_) λys ρ S hI=>hend ys ρ S (hl ▸ hI)
 ·simp only[jv,db,dH,ik,iRng2,e1,e2];rw[HV hj]
 ·rw[d7]at hw;split at hw
  ·rename_i hk;cases hw;exact hstep k ys ρ S ∅ hI
  ·cases hw
end
section
variable{defs:Hg (HJ×Df)}{fuel d:Ho}{S:aa}{r:Ho}{Q:QW}
theorem pg (G:Gen defs){a:Ho}(ha:a<=3)(k:∀(q:Ho) (ts:Hg (Hv×Hv×Hv)) (S':aa),S'[q]?=gV (.lst (ts.map eS))->(∀t∈ts,pf a t)->S.length<=q->Ka S S'->Q (.ref q,S')) :
  wO (aC (ak defs fuel (d+1)) "_law_rising" 1 [.int a] S) Q:=by
 refine al G.rising rfl rfl λQ' hR=>?_
 replace k:∀(q:Ho) (ts:Hg (Hv×Hv×Hv)) (S':aa),S'[q]?=gV (.lst (ts.map eS))->(∀t∈ts,pf a t)->S.length<=q->Ka S S'->Q' (.rt (.ref q),S'):=λq ts S' a b c e=>hR _ _ (k q ts S' a b c e)
 clear hR;show wZ _ _ dP [gV (.int a),td,td,td] S Q';dsimp only[dP];refine st ?_;dsimp only[wS,wE,wA,Hw];refine aF λK hK=>?_
 refine bC (a:Hv) (λi ρ S'=>∃(q:Ho) (ts:Hg (Hv×Hv×Hv)) (a2 a3:Hn W),ρ=[gV (.int a),gV (.ref q),a2,a3]/\S'[q]?=gV (.lst (ts.map eS))/\(∀t∈ts,pf a t)/\S.length<=q/\ts.length<=9*i/\Ka S S') rfl rfl ∅ #[rfl,_,[],_,_,rfl,aj,λ_ h=>(nomatch h),Hz _,JJ _,.push] ?_ ?_
 ·rintro i ρ S1 hi ⟨q,ts,a2,a3,rfl,e1,ht,hq,hl,k1⟩ Q2 hn _;clear hK k;refine aF λK hK=>?_
  refine cx (i:Hv) (a:Hv) (λj ρ S'=>∃(q:Ho) (ts:Hg (Hv×Hv×Hv)) (a3:Hn W),ρ=[gV (.int a),gV (.ref q),gV (.int i),a3]/\S'[q]?=gV (.lst (ts.map eS))/\(∀t∈ts,pf a t)/\S.length<=q/\ts.length<=9*i+3*j/\Ka S S') rfl rfl rfl ∅ #[rfl,rfl,q,ts,a3,rfl,e1,ht,hq,∅,k1] ?_ ?_
  ·rintro j ρ S2 hj ⟨q,ts,a3,rfl,e2,ht,hq,hl,k2⟩ Q3 hn3 _;clear hK hn;refine st ?_;dsimp only[wS,wE,wV,wG,Hw];refine xp ((i:Hv)+j) (a:Hv) (λm ys ρ2 S3=>(∃a1,ρ2=[td,a1,gV (.int i),gV (.int ((i:Hv)+j))])/\(∃us:Hg (Hv×Hv×Hv),ys=us.map eS/\us.length=m/\∀t∈us,pf a t)/\S3=S2) rfl rfl rfl rfl ∅ #[rfl,rfl,#[td,rfl],#[[],rfl,rfl,λ_ h=>nomatch h],rfl] ?_ ?_
   ·rintro m ys ρ2 S3 hm ⟨⟨a1,rfl⟩,⟨us,rfl,hul,hu⟩,rfl⟩;refine#[λ_=>#[#[_,rfl],#[us++[((i:Hv),(i:Hv)+j,(i:Hv)+j+m)],by rw[HR]; rfl,by rw[Hk,hul]; rfl,λt h=>?_],rfl],λz=>by cases z]
    rcases HY.mp h with h|h
    ·exact hu t h
    ·rw[HB.mp h];exact#[#[∅,∅],#[by dsimp only; omega,by dsimp only; omega],#[by dsimp only; omega,by dsimp only; omega]]
   ·rintro ys ρ2 S3 ⟨_,⟨us,rfl,hul,hu⟩,rfl⟩;refine#[ki (by rw[Hh]; omega),ab (nG (ar e2) aj ?_) (aM (hn3 _ _ #[_,ts++us,_,rfl,?_,λt h=>(HY.mp h).elim (ht t) (hu t),?_,?_,k2.trans (Ka.push.trans .push)]))]
    ·refine ki ?_;rw[Hk,Hh,Hh];omega
    ·rw[HR]; exact aj
    ·have:=k2.len;simp only[Hk]; omega
    ·rw[Hk]; omega
  ·rintro ρ S2 ⟨q,ts,a3,rfl,e2,ht,hq,hl,k2⟩;exact hK _ _ (aM (hn _ _ #[q,ts,_,_,rfl,e2,ht,hq,∅,k2]))
 ·rintro ρ S1 ⟨q,ts,a2,a3,rfl,e1,ht,hq,hl,k1⟩;refine hK _ _ (st ?_);exact k q ts S1 e1 ht hq k1
theorem ue (hfu:20 < fuel)(G:Gen defs)(hf:Fl S r)(k:∀w S',dg w->Fl S' r->Kp r S S'->Q (w,S')):wO (aC (ak defs fuel (d+6)) "_law_one_way_rule" 1 [.ref r] S) Q:=by
 refine al G.one_way_rule rfl rfl λQ' hR=>?_
 replace k:∀w S',dg w->Fl S' r->Kp r S S'->Q' (.rt w,S'):=λz S' a b c=>hR _ _ (k z S' a b c)
 clear hR;show wZ _ _ bO [gV (.ref r),td,td] S Q';dsimp only[bO];refine aF λK hK=>?_
 dsimp only[wS,wE,wA,wV,wG,Hw];refine aT (d:=d+4) G.pick hf #v[] #v[] λv S1 v0 v3 f1 k1=>?_
 dsimp only[cp,aO];obtain⟨a,ea⟩ : ∃a:Ho,1+v=a:=#[(1+v).toNat,∅]
 rw[ea];refine hK _ _ ?_;clear hK K;refine aF λK hK=>?_
 dsimp only[wS,wE,Hw];refine eB (a:Hv) (λk zs ρ2 S2=>(∃a1,ρ2=[td,a1,gV (.ref r)])/\(∃ks:Hg Hv,zs=(ks.map xo).map am/\ks.Pairwise (·≠·)/\ks.length<=k/\∀x∈ks,0<=x/\x < k)/\Fl S2 r/\Kp r S1 S2) rfl rfl rfl ∅ #[rfl,#[td,rfl],#[[],rfl,.nil,Hz _,λ_ h=>(nomatch h)],f1,.refl] ?_ ?_
 ·rintro i zs ρ2 S2 hi ⟨⟨a1,rfl⟩,⟨ks,rfl,hkp,hkl,hks⟩,f2,k2⟩;clear hK k;dsimp only[fW,wC,wT,wE,wA,wV,wG,Hw];refine aT (d:=d+4) G.pick f2 #v[] #v[] λv S3 _ _ f3 k3=>?_
  dsimp only[kg,aO,wB];refine#[λ_=>#[#[_,rfl],#[ks++[(i:Hv)],by simp[xo,am,ap],?_,by rw[Hk]; exact Lk hkl,λx hx=>?_],f3,k2.trans k3],λ_=>#[#[_,rfl],#[ks,rfl,hkp,∅,λx hx=>#[(hks x hx).1,by have:=(hks x hx).2; omega]],f3,k2.trans k3]]
  ·rw[List.pairwise_append];refine#[hkp,by simp,λx hx y hy e=>?_]
   have:=(hks x hx).2;rw[HB.mp hy]at e;omega
  ·rcases HY.mp hx with h|h
   ·exact#[(hks x h).1,by have:=(hks x h).2; omega]
   ·rw[HB.mp h]; omega
 ·rintro zs ρ2 S2 ⟨_,⟨ks,rfl,hkp,hkl,hks⟩,f2,k2⟩;rw[HF]at hkl hks;refine#[ki (by rw[Hh,Hh]; omega),hK _ _ (st ?_)]
  clear hK K;dsimp only[wS,wE,wA,wV,wG,Hw];have hlt:=f2.lt;refine gy (d:=d) (a:=a) (bs:=[0]) (us:=ks.map xo) hfu G (f2.ka .push) ∅ #v[] (λS' kk=>?_) (by rw[Hh]; omega) (λu hu=>by obtain⟨x,_,rfl⟩:=HQ.mp hu; exact List.cons_ne_nil _ _) λms ns S3 hml hnl hnm f3 k3=>?_
  ·simp only[d6,aJ (kk.get _ _ ∅ aj)]
  refine k _ _ #[a,[0],ms,ns,ks.map xo,rfl,#[#[∅,iC,by simp; omega,∅],hml,hnl,hnm,?_,λg hg=>?_]] f3 (k1.trans (k2.trans (Kp.push.trans k3)))
  ·unfold PU;rw[LZ];exact hkp.imp λh e=>h (Ak e)
  ·obtain⟨x,hx,rfl⟩:=HQ.mp hg;exact Aj ∅ ∅ (hks x hx).1 (hks x hx).2
theorem ph (hfu:20 < fuel)(G:Gen defs)(hf:Fl S r)(k:∀w S',dg w->Fl S' r->Kp r S S'->Q (w,S')):wO (aC (ak defs fuel (d+6)) "_law_free_rule" 1 [.ref r] S) Q:=by
 refine al G.free_rule rfl rfl λQ' hR=>?_
 replace k:∀w S',dg w->Fl S' r->Kp r S S'->Q' (.rt w,S'):=λz S' a b c=>hR _ _ (k z S' a b c)
 clear hR;show wZ _ _ cD [gV (.ref r),td,td,td,td,td,td,td,td] S Q';dsimp only[cD];refine aF λK hK=>?_
 dsimp only[wS,wE,wA,wV,wG];refine sr (d:=d+3) G hf λa n S1 a1 a3 n1 n3 an f1 k1=>?_
 dsimp only[wU];refine ab (show cK [1,2] [.int a,.int n] [gV (.ref r),td,td,td,td,td,td,td,td]=gV [gV (.ref r),gV (.int a),gV (.int n),td,td,td,td,td,td]from rfl) (hK _ _ ?_)
 clear hK K;refine aF λK hK=>?_
 dsimp only[wS,wE,wA,wV,wG,Hw];refine sv (d:=d+3) G f1 n1 n3 λbs S2 hb hbl f2 k2=>?_
 have hsz:SizeOk a bs:=#[∅,hb,by rw[hbl]; exact an,a3]
 refine fm (d:=d) hfu G f2 a3 ∅ λms ns S3 hml hnl hnm f3 k3=>hK _ _ ?_
 clear hK K;have hrt:=f3.lt;replace k3:Kp r S S3:=k1.trans (k2.trans k3);clear k1 k2 f1 f2;refine aF λK hK=>?_
 dsimp only[wS,wE,Hw];refine eB (n:Hv) (λi zs ρ2 S2=>(∃a1,ρ2=[td,a1,gV (cq ms ns bs [])])/\(∃ks:Hg Hv,zs=ac ks/\ks.length<=i)/\S2=S3) rfl rfl rfl ∅ #[rfl,#[td,rfl],#[[],rfl,Hz _],rfl] ?_ ?_
 ·rintro i zs ρ2 S2 hi ⟨⟨a1,rfl⟩,⟨ks,rfl,hkl⟩,rfl⟩;clear hK k;have hi':i < bs.length:=∅
  dsimp only[fW,wC,wT,wE,wA,wV,wG,Hw];refine ae #v[] rfl (ae (Hu i) (by rw[HF]; exact i4 (HE ∅) (HE hi')) (ae #v[] rfl ?_))
  dsimp only[kg,aO,wB];exact#[λ_=>#[#[_,rfl],#[ks++[(i:Hv)],by unfold ac; rw[HR]; rfl,by rw[Hk]; exact Lk hkl],rfl],λ_=>#[#[_,rfl],#[ks,rfl,∅],rfl]]
 ·rintro zs ρ2 S2 ⟨_,⟨ks,rfl,hkl⟩,rfl⟩;rw[HF]at hkl;have il:(ac ks).length=ks.length:=Hh ..;refine#[ki ∅,hK _ _ ?_]
  clear hK K;refine aF λK hK=>?_
  dsimp only[wS,wT,wE,wA,wV,wG,Hw];refine ab (sy (ar aj) aj) ?_;dsimp only[wB];have f4:=(f3.ka (Ka.push (o:=O.lst (ac ks)))).ka (Ka.push (o:=O.lst []));have k4:=k3.trans ((Kp.push (o:=O.lst (ac ks))).trans (Kp.push (o:=O.lst [])));have e4:=ar (u:=O.lst []) (aj (S:=S2) (o:=O.lst (ac ks)));have hl4:S2.length < (S2++[O.lst (ac ks)]++[O.lst []]).length:=by simp
  generalize hS4:S2++[O.lst (ac ks)]++[O.lst []]=S4 at f4 k4 e4 hl4;clear hS4;have ret:∀Q2:QO,(∀w S',Q' (.rt w,S')->Q2 (.rt w,S'))->wZ (ak defs fuel (d+5)) fuel #v[.ret (.v 3)] [gV (.ref r),gV (.int a),gV (.int n),gV (cq ms ns bs []),td,gV (.ref S2.length),td,td,td] S4 Q2:=λQ2 hr=>st (hr _ _ (k _ _ #[a,bs,ms,ns,[],rfl,hsz,hml,hnl,hnm,.nil,λ_ h=>(nomatch h)] f4 k4))
  refine#[λ_=>ah (Q0:=Q') (λ_ Q2 _ hr=>ret Q2 hr) (λz=>by cases z),λhne=>?_]
  dsimp only[kg,aO,wB];refine ah (Q0:=Q') (λ_ Q2 _ hr=>ret Q2 hr) (λ_ Q2 hn _=>aM (hn _ _ (hK _ _ ?_)))
  clear hK ret hn;have hk0:0 < ks.length:=by
   cases ks with
   | nil=>cases hne
   | cons x ks=>exact Nat.succ_pos _
  refine aF λK hK=>?_
  dsimp only[wS,wE,wA,wV,wG,Hw];refine sg e4 ?_;rw[il];refine aT (d:=d+4) G.pick f4 ∅ ∅ λv S5 v0 v1 f5 k5=>?_
  have e5:=k5.get _ _ ∅ e4
  obtain⟨x,_,ex⟩:=nK (f:=W.int) (xs:=ks) (i:=v.toNat) ∅
  refine kj e5 v0 ex (hK _ _ ?_);clear hK K;replace k5:Kp r S S5:=k4.trans k5;have hrt5:=f5.lt;refine st ?_;dsimp only[wS,wE,Hw];refine aF λK hK=>?_
  refine kq rfl rfl ?_;dsimp only[wE,wA,wV,wG];refine aT (d:=d+4) G.pick (f5.ka .push) #v[] #v[] λv S6 v0 v9 f6 k6=>?_
  refine#[v,λ_ ρ S'=>(∃a4 a8,ρ=[gV (.ref r),gV (.int a),gV (.int n),gV (cq ms ns bs []),a4,gV (.ref S2.length),gV (.int x),gV (.ref S5.length),a8])/\(∃kvs fs,S'[S5.length]?=gV (.dic kvs)/\FigD (aN a bs) kvs fs)/\Fl S' r/\Kp r S S',rfl,∅,#[#[td,td,rfl],#[[],[],k6.get _ _ ∅ aj,.nil],f6,(k5.trans .push).trans k6],?_,?_]
  ·rintro i ρ S7 hi ⟨⟨a4,a8,rfl⟩,⟨kvs,fs,e7,hd⟩,f7,k7⟩ Q2 hn _;clear hK k;refine st ?_;dsimp only[wS,wE,wA,wV,wG,Hw];refine iB (d:=d+3) G f7 ∅ a3 ∅ n3 λu S8 hu3 hu f8 k8=>?_
   have hu:GoodW a bs.length u:=hbl.symm ▸ hu;have e8:=k8.get _ _ ∅ e7
   obtain⟨p0,p1,p2,rfl⟩ : ∃p0 p1 p2,u=[p0,p1,p2]:=by
    match u,hu3 with
    | [p0,p1,p2],_=>exact#[p0,p1,p2,rfl]
   have l1:=hu.len 1 p1 rfl;obtain⟨m1,ws1⟩:=p1;obtain⟨w1,rfl⟩ : ∃w1,ws1=[w1]:=by
    match ws1,l1 with
    | [w1],_=>exact#[w1,rfl]
   obtain⟨b,hb2⟩:=Al (S:=S8) (f:=x) (ws:=p2.2);have kk:=k7.trans k8;refine aF λK hK=>?_
   dsimp only[wS,wT,wE,wA,wV,wG];refine ae #v[] rfl (ae #v[] rfl (ae #v[] rfl ?_))
   dsimp only[t8,aO,wB];have skip:K [gV (.ref r),gV (.int a),gV (.int n),gV (cq ms ns bs []),gV (.int i),gV (.ref S2.length),gV (.int x),gV (.ref S5.length),gV (am [p0,(m1,[w1]),p2])] S8:=hK _ _ (aM (hn _ _ #[#[_,_,rfl],#[kvs,fs,e8,hd],f8,kk]));refine#[λ_=>?_,λ_=>ah (Q0:=Q2) (λz=>by cases z) λ_ Q3 hn3 _=>aM (hn3 _ _ skip)]
   refine ae #v[] rfl (ae #v[] rfl (ab hb2 ?_))
   dsimp only[wB];refine ah (Q0:=Q2) (λ_ Q3 hn3 _=>?_) λ_ Q3 hn3 _=>aM (hn3 _ _ skip)
   clear skip;refine st ?_;dsimp only[wS,wE,wA,wV,wG];refine iz (d:=d+2) G hb hnl hu hu3 λS9 k9=>?_
   exact sx (k9.get _ _ e8) hd hsz hu hu3 λo ho=>aM (hn3 _ _ (hK _ _ (aM (hn _ _ #[#[_,_,rfl],ho,(f8.ka k9).own hrt5,(kk.trans (k9.kp r)).late k5.len]))))
  ·rintro ρ S7 ⟨⟨a4,a8,rfl⟩,⟨kvs,fs,e7,hd⟩,f7,k7⟩;refine hK _ _ (st ?_);dsimp only[wS,wE,wA,wV,wG];exact sw (Q:=λp=>Q' (.rt p.1,p.2)) e7 hd hsz hml hnl hnm λw S8 hw k8=>k w S8 hw (f7.ka k8) (k7.trans (k8.kp r))
end
noncomputable def bN (u v:Hv):T:=.tup [.int u,.int v]
noncomputable def dv (u v:Hv):W:=.tup [.int u,.int v]
theorem iD {u v:Hv}:gB (dv u v)=gV (bN u v):=rfl
theorem xq {kvs:Hg (T×W)}{k:T}{v:W}{p:T×W}(h:p∈eu kvs k v):p∈kvs\/p=(k,v):=by
 unfold eu at h;split at h
 ·obtain⟨q,hq,rfl⟩:=HQ.mp h;split
  ·rename_i e; exact .inr (by rw[e])
  ·exact .inl hq
 ·rcases HY.mp h with h|h
  ·exact .inl h
  ·exact .inr (HB.mp h)
theorem kw {kvs:Hg (T×W)}{k:T}{v:W}(h:aK kvs k=gV v):(k,v)∈kvs:=by
 unfold aK at h;rw[Hl]at h;obtain⟨p,h1,rfl⟩:=h;have:=MD h1;rw[<- IT this];exact List.mem_of_find?_eq_some h1
theorem sA {kvs:Hg (T×W)}{p:T×W}(h:p∈kvs):∃v,aK kvs p.1=gV v:=by
 unfold aK;cases e:kvs.find? λq=>decide (q.1=p.1)with
 | some q=>exact#[q.2,rfl]
 | none=>exact absurd (J2.mp e p h) (by simp)
noncomputable def MustE (S:aa)(n b:Ho)(kvs:Hg (T×W)):Prop:=∀p∈kvs,∃(u v:Hv) (l:Ho) (ws:Hg Hv),p=(bN u v,W.ref l)/\(0<=u/\u < n)/\(0<=v/\v < n)/\b<=l/\S[l]?=gV (.lst (ac ws))/\ws.length<=3/\∀w∈ws,0<=w/\w < (n:Hv)
theorem MustE.mono {S S':aa}{n b:Ho}{kvs:Hg (T×W)}(h:MustE S n b kvs)(k:∀(l:Ho) (ws:Hg Hv),b<=l->S[l]?=gV (.lst (ac ws))->S'[l]?=gV (.lst (ac ws))):MustE S' n b kvs:=λp hp=>
 let ⟨u,v,l,ws,h1,h2,h3,h4,h5,h6⟩:=h p hp
 #[u,v,l,ws,h1,h2,h3,h4,k l ws h4 h5,h6]
theorem MustE.ka {S S':aa}{n b:Ho}{kvs:Hg (T×W)}(h:MustE S n b kvs)(k:Ka S S'):MustE S' n b kvs:=h.mono λl ws _ e=>k.get _ _ e
theorem MustE.kp {S S':aa}{n b r:Ho}{kvs:Hg (T×W)}(h:MustE S n b kvs)(hr:r < b)(k:Kp r S S'):MustE S' n b kvs:=h.mono λl ws hl e=>k.get _ _ ∅ e
theorem MustE.set {S:aa}{n b t:Ho}{kvs k:Hg (T×W)}{o:O}(h:MustE S n b kvs)(ht:S[t]?=gV (.dic k)):MustE (S.set t o) n b kvs:=h.mono λl ws hl e=>by
 rw[bh (by rintro rfl; rw[ht]at e; cases e)]; exact e
theorem MustE.put {S:aa}{n b:Ho}{kvs:Hg (T×W)}{u v:Hv}{l:Ho}{ws:Hg Hv}(h:MustE S n b kvs)(h2:0<=u/\u < n)(h3:0<=v/\v < n)(h4:b<=l)(h5:S[l]?=gV (.lst (ac ws)))(h6:ws.length<=3)(h7:∀w∈ws,0<=w/\w < (n:Hv)):MustE S n b (eu kvs (bN u v) (.ref l)):=λp hp=>by
 rcases xq hp with hp|rfl
 ·exact h p hp
 ·exact#[u,v,l,ws,rfl,h2,h3,h4,h5,h6,h7]
noncomputable abbrev Am:=Hv×Hv×Hg Hv
noncomputable def pi (ws:Hg Hv):Es:=ws.foldr (λw es=>.cons (.c (.int w)) es) .nil
noncomputable def sB:Hg Am->Es
 | []=>.nil
 | e::L=>.cons (.tup #v[.c (.int e.1),.c (.int e.2.1)]) (.cons (.lst (pi e.2.2)) (sB L))
noncomputable def uf:Hg Am->Ho->Hg W
 | [],_=>[]
 | e::L,s=>dv e.1 e.2.1::.ref s::uf L (s+1)
noncomputable def ug (L:Hg Am):aa:=L.map λe=>O.lst (ac e.2.2)
noncomputable def sC (n:Ho)(e:Am):HU:=decide ((0<=e.1/\e.1 < n)/\(0<=e.2.1/\e.2.1 < n)/\e.2.2.length<=3)&&e.2.2.all λw=>decide (0<=w/\w < (n:Hv))
section
variable{Φ:HJ->FF}{ρ:Fm}
theorem qw {S:aa}:∀ {ws:Hg Hv} {Q:Hg W×aa->Prop},Q (ac ws,S)->wA Φ (pi ws) ρ S Q
 | [],Q,q=>by show wA Φ .nil ρ S Q; exact q
 | w::ws,Q,q=>by show wA Φ (.cons (.c (.int w)) (pi ws)) ρ S Q; dsimp only[wA,wE]; exact qw q
theorem xr:∀ {L:Hg Am} {S:aa} {Q:Hg W×aa->Prop},Q (uf L S.length,S++ug L)->wA Φ (sB L) ρ S Q
 | [],S,Q,q=>by
  show wA Φ .nil ρ S Q;dsimp only[wA]
  rwa [show S++ug []=S from Jl S]at q
 | e::L,S,Q,q=>by
  show wA Φ (.cons (.tup #v[.c (.int e.1),.c (.int e.2.1)]) (.cons (.lst (pi e.2.2)) (sB L))) ρ S Q;dsimp only[wA,wE];refine qw (xr ?_);rw[Hk,KA];exact q
end
theorem lY {S:aa}{n b:Ho}:∀(L:Hg Am) (s:Ho) (kvs:Hg (T×W)),MustE S n b kvs->b<=s->(∀e∈L,sC n e=true)->(∀i e,L[i]?=gV e->S[s+i]?=gV (.lst (ac e.2.2)))->∃kvs',dD kvs (uf L s)=gV kvs'/\MustE S n b kvs'/\kvs'.length<=kvs.length+L.length
 | [],s,kvs,hm,hb,hL,hS=>#[kvs,by simp[uf,dD],hm,by simp]
 | e::L,s,kvs,hm,hb,hL,hS=>by
  have h1:=hL e (by simp)
  unfold sC at h1;rw[Hs,HP]at h1;obtain⟨h2,h3,h4⟩:=IT h1.1;obtain⟨kvs',k1,k2,k3⟩:=lY L (s+1) (eu kvs (bN e.1 e.2.1) (.ref s)) (hm.put h2 h3 hb (by have:=hS 0 e rfl; simpa using this) h4 (λw hw=>IT (h1.2 w hw))) ∅ (λx hx=>hL x (by simp[hx])) (λi x hx=>by have:=hS (i+1) x (by simpa using hx); rw[show s+1+i=s+(i+1) by omega]; exact this)
  refine#[kvs',?_,k2,?_]
  ·simp only[uf,dD,iD]; exact k1
  ·have:=cN kvs (bN e.1 e.2.1) (.ref s);rw[Iw]; omega
noncomputable def KB:Hg (Hg Hv):=[[1,0],[0,2,1],[0,1],[0,1,2]]
noncomputable def KindOk (S:aa)(b:Ho)(w:W):Prop:=∃(bs:Hg Hv) (q:Ho) (kvs:Hg (T×W)) (most:Hv),w=.tup [.tup (ac bs),.ref q,.int most]/\bs∈KB/\1<=most/\most<=3/\most*bs.length<=6/\S[q]?=gV (.dic kvs)/\b<=q/\kvs.length<=4/\MustE S bs.length b kvs
theorem KindOk.mono {S S':aa}{b:Ho}{w:W}(h:KindOk S b w)(k1:∀(l:Ho) (ws:Hg Hv),b<=l->S[l]?=gV (.lst (ac ws))->S'[l]?=gV (.lst (ac ws)))(k2:∀(l:Ho) (kvs:Hg (T×W)),b<=l->S[l]?=gV (.dic kvs)->S'[l]?=gV (.dic kvs)):KindOk S' b w:=
 let ⟨bs,q,kvs,most,h1,h2,h3,h4,h5,h6,h7,h8,h9⟩:=h
 #[bs,q,kvs,most,h1,h2,h3,h4,h5,k2 _ _ h7 h6,h7,h8,h9.mono k1]
theorem KindOk.ka {S S':aa}{b:Ho}{w:W}(h:KindOk S b w)(k:Ka S S'):KindOk S' b w:=h.mono (λl ws _ e=>k.get _ _ e) (λl ws _ e=>k.get _ _ e)
noncomputable def xt (bs:Hg Hv)(L:Hg Am)(most:Hv):E:=.tup #v[.tup (pi bs),.disp (sB L),.c (.int most)]
section
variable{Φ:HJ->FF}{ρ:Fm}{S:aa}
theorem nO (bs:Hg Hv)(L:Hg Am)(most:Hv){b:Ho}{Q:QW}(hb:b<=S.length)(h1:bs∈KB)(h2:1<=most/\most<=3/\most*bs.length<=6)(hL:∀e∈L,sC bs.length e=true)(h4:L.length<=4)(k:∀w S',KindOk S' b w->Ka S S'->Q (w,S')) :
  wE Φ (xt bs L most) ρ S Q:=by
 unfold xt;dsimp only[wE,wA];refine qw (xr ?_);obtain⟨kvs,k1,k2,k3⟩:=lY (S:=S++[O.dic []]++ug L) (n:=bs.length) (b:=b) L (S.length+1) [] (λ_ h=>nomatch h) ∅ hL (λi e he=>by
  rw[IA (by simp),show S.length+1+i - (S++[O.dic []]).length=i by simp]
  simp[ug,he])
 have hat:(S++[O.dic []]++ug L)[S.length]?=gV (.dic []):=by
  rw[Ii (by simp)]; exact aj
 refine#[hat,ab (show dD [] (uf L (S++[O.dic []]).length)=gV kvs by rw[Hk]; exact k1) (k _ _ #[bs,S.length,kvs,most,rfl,h1,h2.1,h2.2.1,h2.2.2,bG hat,hb,?_,k2.set hat] #[λj o h=>?_,by simp])]
 ·simp only[Jt]at k3; omega
 ·have:j < S.length:=b6 h;show((S++[O.dic []]++ug L).set S.length (O.dic kvs))[j]?=gV o;rw[bh ∅,Ii (by simp; omega)]
  exact ar h
structure Menu (S0 S:aa)(r t m:Ho):Prop where
 at_t:∃xs:Hg W,S[t]?=gV (.lst xs)/\xs.length=m/\∀x∈xs,KindOk S S0.length x
 pos:0 < m
 ki:m<=9
 fl:Fl S r
 kp:Kp r S0 S
 lt:S0.length<=t
 rlt:r < S0.length
theorem pj {S0 S S':aa}{r t m:Ho}{w:W}(h:Menu S0 S r t m)(hw:KindOk S' S0.length w)(k:Ka S S')(hm:m < 9):∃xs,S'[t]?=gV (.lst xs)/\xs.length < sizeLine/\Menu S0 (S'.set t (.lst (xs++[w]))) r t (m+1):=by
 obtain⟨⟨xs,h1,h2,h3⟩,hp,hf,fl,kp,lt,rlt⟩:=h;have e:S'[t]?=gV (.lst xs):=k.get _ _ h1;have stay:∀x,KindOk S' S0.length x->KindOk (S'.set t (.lst (xs++[w]))) S0.length x:=λx hx=>hx.mono (λl ws hl el=>by
  by_cases hlt:t=l
  ·exfalso;subst hlt;rw[e]at el;injection el with el
   injection el with el
   match xs,h2,h3 with
   | [],h2,_=>simp at h2; omega
   | x::xs,_,h3=>
    obtain⟨bs,q,kvs,most,hx,_⟩:=h3 x (by simp)
    subst hx
    match ws with
    | []=>simp[ac]at el
    | w::ws=>simp[ac]at el
  ·rw[bh hlt]; exact el) (λl kvs hl el=>by
  rw[bh (by rintro rfl; rw[e]at el; cases el)]; exact el)
 refine#[xs,e,(by rw[IL]; omega),#[xs++[w],bG e,by simp; omega,λx hx=>?_],∅,∅,(fl.ka k).own ∅,(kp.trans (k.kp r)).late lt,lt,rlt]
 rcases HY.mp hx with hx|hx
 ·exact stay x ((h3 x hx).ka k)
 ·rw[HB.mp hx]; exact stay w hw
theorem pk (bs:Hg Hv)(L:Hg Am)(most:Hv){fuel:Ho}{S0:aa}{r t m:Ho}{x0:Hn W}{K:Fm->aa->Prop}{Q:QO}(h:Menu S0 S r t m)(hm:m < 9)(h1:bs∈KB)(h2:1<=most/\most<=3/\most*bs.length<=6)(hL:∀e∈L,sC bs.length e=true)(h4:L.length<=4)(k:∀S',Menu S0 S' r t (m+1)->K [x0,gV (.ref t)] S') :
  wS Φ fuel (.ex (.me .append (.v 1) #v[xt bs L most])) [x0,gV (.ref t)] S K Q:=by
 dsimp only[wS,wE,wA,wV,wG];obtain⟨xs,e1,e2,e3⟩:=h.at_t;refine#[dF e1,nO bs L most (HZ h.lt (La (b6 e1))) h1 h2 hL h4 λw S' k1 k2=>?_]
 obtain⟨xs',f1,f2,f3⟩:=pj h k1 k2 hm;exact ab (wH f1 f2) (k _ f3)
theorem lf {defs:Hg (HJ×Df)}{fuel d:Ho}{r:Ho}{Q:QW}(G:Gen defs)(hf:Fl S r)(k:∀w S',KindOk S' S.length w->Fl S' r->Kp r S S'->Q (w,S')):wO (aC (ak defs fuel (d+2)) "_law_laying_kind" 1 [.ref r] S) Q:=by
 refine al G.laying_kind rfl rfl λQ' hR=>?_
 replace k:∀w S',KindOk S' S.length w->Fl S' r->Kp r S S'->Q' (.rt w,S'):=λz S' a b c=>hR _ _ (k z S' a b c)
 clear hR;show wZ _ _ b7 [gV (.ref r),td] S Q';have hrt:=hf.lt;unfold b7;refine aF λK hK=>?_
 refine ES ?_;change wA _ _ _ _ _; change wE _ _ _ _ _
 refine nO [1,0] [(0,0,[0])] 3 (b:=S.length) (Hz _) #v[] #v[] #v[] #v[] λw1 S1 k1 a1=>?_
 change wE _ _ _ _ _;refine nO [0,2,1] [(1,1,[1])] 2 (b:=S.length) a1.len #v[] #v[] #v[] #v[] λw2 S2 k2 a2=>?_
 have a12:=a1.trans a2;change wE _ _ _ _ _;refine nO [0,1] [(1,1,[1])] 3 (b:=S.length) a12.len #v[] #v[] #v[] #v[] λw3 S3 k3 a3=>?_
 have a13:=a12.trans a3;dsimp only[wA];refine hK _ _ ?_;clear hK K;have m3:Menu S (S3++[O.lst [w1,w2,w3]]) r S3.length 3:=by
  refine#[#[[w1,w2,w3],aj,rfl,λx hx=>?_],#v[],#v[],(hf.ka a13).ka .push,(a13.trans .push).kp r,a13.len,hrt]
  rcases HW.mp hx with rfl|hx
  ·exact(k1.ka (a2.trans a3)).ka .push
  ·rcases HW.mp hx with rfl|hx
   ·exact(k2.ka a3).ka .push
   ·rw[HB.mp hx];exact k3.ka .push
 dsimp only[Hw];clear k1 k2 k3 a1 a2 a3 a12 a13;generalize S3.length=t at m3;generalize S3++[O.lst [w1,w2,w3]]=S3' at m3;refine aF λK hK=>pk [0,1] [(1,1,[1]),(0,0,[1])] 3 m3 #v[] #v[] #v[] #v[] #v[] λS4 m4=>hK _ _ ?_
 refine aF λK hK=>pk [0,1] [(1,1,[])] 1 m4 #v[] #v[] #v[] #v[] #v[] λS5 m5=>hK _ _ ?_
 refine aF λK hK=>pk [0,2,1] [(0,0,[0]),(0,1,[1]),(1,0,[1]),(1,1,[1])] 2 m5 #v[] #v[] #v[] #v[] #v[] λS6 m6=>hK _ _ ?_
 refine aF λK hK=>?_
 dsimp only[wS,wE,wA,wV,wG];obtain⟨xs,e1,e2,e3⟩:=m6.at_t;obtain⟨xs',f1,f2,m7⟩:=pj (S':=S6++[O.dic []]) (w:=.tup [.tup (ac [1,0]),.ref S6.length,.int 3]) m6 #[[1,0],S6.length,[],3,rfl,#v[],#v[],#v[],#v[],aj,m6.kp.len,#v[],λ_ h=>(nomatch h)] .push #v[]
 refine#[dF e1,ab (wH f1 f2) (hK _ _ ?_)];refine aF λK hK=>pk [0,1,2] [(2,2,[2]),(1,2,[1]),(2,1,[1]),(1,1,[1,2])] 2 m7 #v[] #v[] #v[] #v[] #v[] λS8 m8=>hK _ _ ?_
 refine aF λK hK=>pk [0,1,2] [(0,0,[0,1])] 2 m8 #v[] #v[] #v[] #v[] #v[] λS9 m9=>hK _ _ ?_
 refine st ?_;dsimp only[wS,wE,wA,wV,wG];refine aT (d:=d) G.pick m9.fl #v[] #v[] λv S10 v0 v9 f10 k10=>?_
 obtain⟨xs,g1,g2,g3⟩:=m9.at_t;have hlt:=m9.lt;have hv:v.toNat < xs.length:=∅
 exact kj (k10.get _ _ ∅ g1) v0 (HE hv) (k _ _ ((g3 _ (IQ hv)).mono (λl ws hl e=>k10.get _ _ ∅ e) (λl ws hl e=>k10.get _ _ ∅ e)) f10 (m9.kp.trans k10))
end
noncomputable def po (bs:Hg Hv):Hg (Hg Hv):=if bs=[0,1,2]then[[0,1,2],[0,2,1],[1,0,2],[1,2,0],[2,0,1],[2,1,0]]else if bs.length=2 then[[0,1],[1,0]]else[[0,1,2],[0,2,1],[2,0,1],[2,1,0]]
noncomputable def gM (bs nm:Hg Hv):Ho->Hg Hv
 | 0=>Ih bs.length 0
 | k+1=>(gM bs nm k).set (nm.getD k 0).toNat (nm.getD (bs.getD k 0).toNat 0)
theorem i6 (bs nm:Hg Hv):∀k,(gM bs nm k).length=bs.length
 | 0=>by simp[gM]
 | k+1=>by simp[gM,i6 bs nm k]
theorem An:∀bs∈KB,∀nm∈po bs,nm.length=bs.length/\(∀x∈nm,0<=x/\x < (bs.length:Hv))/\(∀x∈bs,0<=x/\x < (bs.length:Hv))/\GoodB (gM bs nm bs.length):=by
 unfold GoodB;decide +kernel
theorem xu:∀bs∈KB,(bs.length=2\/bs.length=3)/\0 < (po bs).length/\(po bs).length < 10:=by decide
section
variable{Φ:HJ->FF}{fuel:Ho}{ρ:Fm}{S:aa}{K:Fm->aa->Prop}{Q:QO}
theorem Ao {tg:Tg}{e:E}{b:Ss}(r:Ho)(kvs:Hg (T×W))(I:Ho->Fm->aa->Prop)(oe:dM e=true)(ok:fT b=true)(he:wE Φ e ρ S λp=>p.1=.ref r/\p.2[r]?=gV (.dic kvs)/\I 0 ρ (p.2.set r (.frd kvs)))
  (hstep:∀(i:Ho) (p:T×W) (ρ:Fm) (S:aa),kvs[i]?=gV p->I i ρ S->wO (eL tg p.1.w ρ S) λq=>t9 Φ fuel b q.1 q.2 (I (i+1)) Q) (hend:∀ρ S,I kvs.length ρ S->K ρ S):Wp (fJ Φ fuel (.loop tg (.seq e) b) ρ S) (o5 K Q):=by
 obtain⟨w,S1,e1,rfl,e2,h0⟩:=bV oe he;refine fU (mi:=.its (kvs.map λp=>p.1.w)) (S1:=S1.set r (.frd kvs)) (xs:=kvs.map λp=>p.1.w) I ok (by simp only[jv,eQ,e1,nI e2,bJ e2]) (λ_ _ _ _=>rfl) rfl h0 (λi w ρ S hw hI=>?_) λρ S hI=>hend ρ S (by rwa [Hh]at hI)
 rw[Hq,Hl]at hw;obtain⟨p,hp,rfl⟩:=hw;exact hstep i p ρ S hp hI
end
section
variable{defs:Hg (HJ×Df)}{fuel d:Ho}{S:aa}{r:Ho}{Q:QW}
theorem Bd {i n:Ho}{x:W}(h:S[i]?=gV (.lst [x]))(hn:n<=1000)(q:Q (.ref S.length,S++[.lst (Ih n x)])):wO (hG .mul (.ref i) (.int (n:Hv)) S) Q:=by
 refine ab ?_ q;have:n<=sizeLine:=ki hn;simp only[hG,yR,cV h];rw[HV #[∅,∅,by simpa using this]]
 unfold kX;simp[this]
theorem lZ {q:Ho}{kvs:Hg (T×W)}{u v:Hv}{w:W}(h:jt S q=gV kvs)(hg:aK kvs (bN u v)=gV w):ju (.ref q) (.tup [.int u,.int v]) S=gV (w,S):=by
 have hk:gB (.tup [.int u,.int v])=gV (bN u v):=iD;simp only[ju,h,hk,hg,Iq]
theorem xv {q:Ho}{kvs:Hg (T×W)}{u v:Hv}{w:W}(h:S[q]?=gV (.dic kvs))(hl:kvs.length < sizeLine):ig (.ref q) (.tup [.int u,.int v]) w S=gV (S.set q (.dic (eu kvs (bN u v) w))):=by
 have hk:gB (.tup [.int u,.int v])=gV (bN u v):=iD;simp only[ig,mX,h,hk];rw[HV hl]
theorem i7 {xs:Hg Hv}{x:Hv}(h0:0<=x)(h1:x.toNat < xs.length):(ac xs)[x.toNat]?=gV (.int (xs.getD x.toNat 0)):=by
 unfold ac;rw[Hq,aq (d:=0) h1]; rfl
theorem fZ {xs:Hg Hv}{i:Ho}(h:i < xs.length):xs.getD i 0∈xs:=HC (aq (d:=0) h)
theorem lg (G:Gen defs){Q:QO}{bs:Hg Hv}{x0 x2:Hn W}(hb:bs∈KB)
  (hk:∀(m s:Ho) (S':aa),Ka S S'->S'[s]?=gV (.lst ((po bs).map λnm=>W.tup (ac nm)))->S.length<=s->wZ (ak defs fuel (d+1)) fuel (dr 5 bj) [x0,gV (.tup (ac bs)),x2,gV (.int bs.length),gV (.ref m),gV (.ref s),td,td,td,td,td,td] S' Q) :
  wZ (ak defs fuel (d+1)) fuel bj [x0,gV (.tup (ac bs)),x2,td,td,td,td,td,td,td,td,td] S Q:=by
 generalize hd5:dr 5 bj=cv at hk;unfold bj at hd5 ⊢;dsimp only[dr]at hd5;rw[hd5];clear hd5;refine aF λK hK=>?_
 dsimp only[wS,wE,wA,wV,wG,Hw];refine ay ?_;rw[show(ac bs).length=bs.length from Hh ..]
 refine hK _ _ ?_;clear hK K;refine aF λK hK=>?_
 dsimp only[wS,wE,wA,wV,wG,Hw];have hm:(((S++[O.lst [.tup [.int 0]]])++[O.lst [.tup [.int 0,.int 1],.tup [.int 1,.int 0]]])++[O.lst [.ref S.length,.ref (S++[O.lst [.tup [.int 0]]]).length]])[((S++[O.lst [.tup [.int 0]]])++[O.lst [.tup [.int 0,.int 1],.tup [.int 1,.int 0]]]).length]?=gV (.lst [.ref S.length,.ref (S++[O.lst [.tup [.int 0]]]).length]):=aj;refine hK _ _ ?_;clear hK K;generalize hS1:S++[O.lst [.tup [.int 0]]]=S1 at hm ⊢;generalize hS2:S1++[O.lst [.tup [.int 0,.int 1],.tup [.int 1,.int 0]]]=S2 at hm ⊢;generalize hS3:S2++[O.lst [.ref S.length,.ref S1.length]]=S3 at hm ⊢;have l1:S1.length=S.length+1:=by rw[<- hS1]; simp
 have l2:S2.length=S1.length+1:=by rw[<- hS2]; simp
 have l3:S3.length=S2.length+1:=by rw[<- hS3]; simp
 have kS2:Ka S S2:=by rw[<- hS2,<- hS1]; exact Ka.push.trans .push
 refine aF λK hK=>?_
 dsimp only[wS,wE,wA,wV,wG,Hw];refine#[dF hm,lV (ar hm) (by decide:2 < 1000) (hK _ _ ?_)]
 clear hK K;generalize hS5:(S3++[O.lst [.tup [.int 0,.int 1,.int 2],.tup [.int 0,.int 2,.int 1],.tup [.int 2,.int 0,.int 1],.tup [.int 2,.int 1,.int 0]]]).set S2.length (.lst ([.ref S.length,.ref S1.length]++[.ref S3.length]))=S5;have k5:Ka S S5:=by
  rw[<- hS5,<- hS3];exact Ka.late (kS2.trans (Ka.push.trans .push)) ∅
 have m5:S5[S2.length]?=gV (.lst [.ref S.length,.ref S1.length,.ref S3.length]):=by
  rw[<- hS5]; exact bG (ar hm)
 have p5:S5[S1.length]?=gV (.lst [.tup [.int 0,.int 1],.tup [.int 1,.int 0]]):=by
  rw[<- hS5,bh ∅,<- hS3,<- hS2]
  exact ar (ar aj)
 have t5:S5[S3.length]?=gV (.lst [.tup [.int 0,.int 1,.int 2],.tup [.int 0,.int 2,.int 1],.tup [.int 2,.int 0,.int 1],.tup [.int 2,.int 1,.int 0]]):=by
  rw[<- hS5,bh ∅]
  exact aj
 have h1:S.length<=S1.length:=∅
 have h3:S.length<=S3.length:=∅
 clear hS1 hS2 hS3 hS5 hm l1 l2 l3 kS2;refine aF λK hK=>?_
 dsimp only[wS,wE,wA,wV,wG,Hw,gK,aO];have hb':bs=[1,0]\/bs=[0,2,1]\/bs=[0,1]\/bs=[0,1,2]:=by simpa [KB]using hb
 rcases hb' with rfl|rfl|rfl|rfl
 ·refine ef (i:=1) m5 rfl (hK _ _ (aF λK hK=>wK (λQ q=>q) (hK _ _ (hk _ _ _ k5 p5 h1))))
 ·refine ef (i:=2) m5 rfl (hK _ _ (aF λK hK=>wK (λQ q=>q) (hK _ _ (hk _ _ _ k5 t5 h3))))
 ·refine ef (i:=1) m5 rfl (hK _ _ (aF λK hK=>wK (λQ q=>q) (hK _ _ (hk _ _ _ k5 p5 h1))))
 ·refine ef (i:=2) m5 rfl (hK _ _ (aF λK hK=>ET (λQ q=>q) λQ2 hn _=>?_))
  refine st ?_;dsimp only[wS,wE,wA,wV,wG,Hw];exact jD (d:=d) G (aM (hn _ _ (hK _ _ (hk _ _ _ (k5.trans .push) aj k5.len))))
theorem qx (G:Gen defs){S0:aa}{bs:Hg Hv}{q:Ho}{kvs:Hg (T×W)}(hb:bs∈KB)(hf:Fl S r)(hr:r < S0.length)(kp:Kp r S0 S)(hq:S[q]?=gV (.dic kvs))(hq0:S0.length<=q)(h4:kvs.length<=4)(hm:MustE S bs.length S0.length kvs)
  (k:∀(bs':Hg Hv) (q':Ho) (kvs':Hg (T×W)) S',GoodB bs'->bs'.length=bs.length->S'[q']?=gV (.dic kvs')->S0.length<=q'->MustE S' bs.length S0.length kvs'->Fl S' r->Kp r S0 S'->Q (.tup [.tup (ac bs'),.ref q'],S')) :
  wO (aC (ak defs fuel (d+2)) "_law_numbered" 3 [.ref r,.tup (ac bs),.ref q] S) Q:=by
 refine al G.numbered rfl rfl λQ' hR=>?_
 replace k:∀(bs':Hg Hv) (q':Ho) (kvs':Hg (T×W)) S',GoodB bs'->bs'.length=bs.length->S'[q']?=gV (.dic kvs')->S0.length<=q'->MustE S' bs.length S0.length kvs'->Fl S' r->Kp r S0 S'->Q' (.rt (.tup [.tup (ac bs'),.ref q']),S'):=λa b c e f g h i j l m=>hR _ _ (k a b c e f g h i j l m)
 clear hR;refine lg (d:=d) G hb ?_;intro m s S1 k1 e1 hs;dsimp only[dr,bj];have hrt:=hf.lt;obtain⟨hb1,hb2,hb3⟩:=xu bs hb;refine aF λK hK=>?_
 dsimp only[wS,wE,wA,wV,wG,Hw];refine sg e1 ?_;rw[Hh];refine aT (d:=d) G.pick (hf.ka k1) ∅ ∅ λv S2 v0 v1 f2 k2=>?_
 obtain⟨nm,hnmm,enm⟩:=nK (f:=λnm=>W.tup (ac nm)) (xs:=po bs) (i:=v.toNat) ∅
 obtain⟨n1,n2,n3,n4⟩:=An bs hb nm hnmm;refine kj (k2.get _ _ ∅ e1) v0 enm (hK _ _ ?_)
 clear hK K;refine aF λK hK=>?_
 dsimp only[wS,wE,wA,wV,wG,Hw];refine Bd aj ∅ (hK _ _ ?_)
 clear hK K;generalize hS4:S2++[O.lst [.int 0]]=S4;have k24:Ka S2 S4:=hS4 ▸ .push;have f4:Fl S4 r:=f2.ka k24;have kp4:Kp r S0 S4:=(kp.trans (k1.kp r)).trans (k2.trans (k24.kp r));have q4:S4[q]?=gV (.dic kvs):=k24.get _ _ (k2.get _ _ ∅ (k1.get _ _ hq))
 have m4:MustE S4 bs.length S0.length kvs:=((hm.ka k1).kp hr k2).ka k24;clear hS4 k24 hm hq f2 k2 k1 e1 enm hf;refine aF λK hK=>?_
 refine bC (bs.length:Hv) (λk ρ S'=>(∃x8,ρ=[gV (.ref r),gV (.tup (ac bs)),gV (.ref q),gV (.int bs.length),gV (.ref m),gV (.ref s),gV (.tup (ac nm)),gV (.ref S4.length),x8,td,td,td])/\S'[S4.length]?=gV (.lst (ac (gM bs nm k)))/\Ka S4 S') rfl rfl ∅ #[rfl,#[_,rfl],?_,.push] ?_ ?_
 ·rw[aj]; simp[gM,ac]
 ·rintro i ρ S5 hi ⟨⟨x8,rfl⟩,e5,k5⟩ Q2 hn _;clear hK k;have hi':i < bs.length:=∅
  have hi1:i < nm.length:=∅
  have c:=n3 _ (fZ hi');have c2:=n2 _ (fZ hi1);refine st ?_;dsimp only[wS,wE,wA,wV,wG,Hw];refine ae (Hu i) (i7 (Hu i) hi') (ae c.1 (i7 c.1 (by rw[HF]; omega)) (ae (Hu i) (i7 (Hu i) hi1) ?_))
  rw[HF];refine ab (AZ e5 c2.1 (by rw[show(ac (gM bs nm i)).length=_ from Hh ..,i6]; omega)) (aM (hn _ _ #[#[_,rfl],?_,k5.late (Hz _)]))
  rw[bG e5];unfold ac;rw[gM,Pi]
 ·rintro ρ S5 ⟨⟨x8,rfl⟩,e5,k5⟩;rw[HF]at e5;refine hK _ _ (st ?_);clear hK K;dsimp only[wS,wE,Hw];have f5:Fl S5 r:=f4.ka k5;have q5:S5[q]?=gV (.dic kvs):=k5.get _ _ q4;have m5:MustE S5 bs.length S0.length kvs:=m4.ka k5;have kp5:Kp r S0 S5:=kp4.trans (k5.kp r);have hq5:=b6 q5;have ht5:=b6 e5;have hqt:q≠S4.length:=by rintro rfl; rw[e5]at q5; cases q5
  have hn9:(bs.length:Hv)<=3:=∅
  have hr5:=f5.lt;clear k5 m4 q4 f4;refine aF λK hK=>?_
  refine Ao q kvs (λk ρ S'=>(∃x10 x11,ρ=[gV (.ref r),gV (.tup (ac bs)),gV (.ref q),gV (.int bs.length),gV (.ref m),gV (.ref s),gV (.tup (ac nm)),gV (.ref S4.length),x8,gV (.ref S5.length),x10,x11])/\S'[q]?=gV (.frd kvs)/\MustE S' bs.length S0.length kvs/\S'[S4.length]?=gV (.lst (ac (gM bs nm bs.length)))/\(∃kvs',S'[S5.length]?=gV (.dic kvs')/\kvs'.length<=k/\MustE S' bs.length S0.length kvs')/\Fl S' r/\Kp r S0 S') rfl rfl #[rfl,ar q5,#[td,td,rfl],bG (ar q5),(m5.ka .push).set (ar q5),?_,#[[],?_,Hz _,λ_ h=>(nomatch h)],(f5.ka .push).own ∅,(kp5.trans .push).late hq0] ?_ ?_
  ·rw[bh hqt]; exact ar e5
  ·rw[bh ∅]; exact aj
  ·rintro i p ρ S6 hp ⟨⟨x10,x11,rfl⟩,q6,m6,t6,⟨kvs',o6,l6,mm6⟩,f6,kp6⟩;clear hK k;have hpm:=HC hp;have hil:=(HD.mp hp).1;obtain⟨u,v',l,ws,rfl,hu,hv',hl,hws,hl3,hw3⟩:=m6 p hpm;obtain⟨g,hg⟩:=sA hpm;obtain⟨u2,v2,l2,ws2,he2,_,_,hl2,hws2,hl32,hw32⟩:=m6 _ (kw hg);injection he2 with _ he2
   subst he2;have hul:u.toNat < nm.length:=∅
   have hvl:v'.toNat < nm.length:=∅
   refine ab (show eL (.tp [10,11]) (bN u v',W.ref l).1.w [gV (.ref r),gV (.tup (ac bs)),gV (.ref q),gV (.int bs.length),gV (.ref m),gV (.ref s),gV (.tup (ac nm)),gV (.ref S4.length),x8,gV (.ref S5.length),x10,x11] S6=gV ([gV (.ref r),gV (.tup (ac bs)),gV (.ref q),gV (.int bs.length),gV (.ref m),gV (.ref s),gV (.tup (ac nm)),gV (.ref S4.length),x8,gV (.ref S5.length),gV (.int u),gV (.int v')],S6)from rfl) λQ2 hn _=>?_
   refine st ?_;dsimp only[wS,wE,wA,wV,wG,Hw];refine se l2 (ac ws2) (λi zs ρ2 S7=>(∃a1,ρ2=[td,a1,gV (.tup (ac nm))])/\zs=ac ((ws2.take i).map λw=>nm.getD w.toNat 0)/\S7=S6) rfl rfl rfl ?_ ?_ ?_ ?_
   ·dsimp only[wE,wA,wV,wG];exact ab (lZ (Aa q6) hg) #[rfl,#[_,rfl],rfl,rfl]
   ·rintro i zs ρ2 S7 ⟨_,_,rfl⟩;exact hws2
   ·rintro i w zs ρ2 S7 hw ⟨⟨a1,rfl⟩,rfl,rfl⟩;unfold ac at hw;rw[Hq,Hl]at hw;obtain⟨x,hx,rfl⟩:=hw;obtain⟨x0,x1⟩:=hw32 x (HC hx);have hxl:x.toNat < nm.length:=∅
    refine ab (show eL (.nm 1) (.int x) [td,a1,gV (.tup (ac nm))] S7=gV ([td,gV (.int x),gV (.tup (ac nm))],S7)from rfl) ?_
    dsimp only[fW,wC,wE,wA,wV,wG];refine#[λ_=>ae x0 (i7 x0 hxl) #[#[_,rfl],?_,rfl],λz=>by cases z]
    rw[Iy,hx];simp[ac]
   ·rintro zs ρ2 S7 ⟨_,rfl,rfl⟩;rw[show(ac ws2).length=ws2.length from Hh ..,IE]
    refine#[ki (by simp[ac]; omega),ae hu.1 (i7 hu.1 hul) (ae hv'.1 (i7 hv'.1 hvl) ?_)]
    refine ab (xv (ar o6) (by rw[IL]; omega)) (aM (hn _ _ #[#[_,_,rfl],?_,(m6.ka .push).set (ar o6),?_,#[_,bG (ar o6),?_,?_],(f6.ka .push).own ∅,(kp6.trans .push).late kp5.len]))
    ·rw[bh ∅]; exact ar q6
    ·rw[bh ∅]; exact ar t6
    ·exact HZ (cN ..) (Lk l6)
    ·refine((mm6.ka .push).put (n2 _ (fZ hul)) (n2 _ (fZ hvl)) kp6.len aj (by simp; omega) ?_).set (ar o6)
     intro w hw;obtain⟨x,hx,rfl⟩:=HQ.mp hw;obtain⟨x0,x1⟩:=hw32 x hx;exact n2 _ (fZ ∅)
  ·rintro ρ S6 ⟨⟨x10,x11,rfl⟩,q6,m6,t6,⟨kvs',o6,l6,mm6⟩,f6,kp6⟩;refine hK _ _ (st ?_);dsimp only[wS,wE,wA,wV,wG];exact fH t6 (k _ _ kvs' _ n4 (i6 _ _ _) o6 kp5.len mm6 f6 kp6)
end
noncomputable def uh (x y z:Hv):Hg (T×W):=[(bN 1 0,.int x),(bN 2 0,.int y),(bN 2 1,.int z)]
noncomputable def Ap (x y z a b c:Hv):Ho->Hg (T×W)
 | 0=>uh x y z
 | 1=>uh x y z++[(bN 0 1,.int a)]
 | 2=>uh x y z++[(bN 0 1,.int a),(bN 0 2,.int b)]
 | _=>uh x y z++[(bN 0 1,.int a),(bN 0 2,.int b),(bN 1 2,.int c)]
theorem CT {n x y z a b c:Hv}(hx:0<=x/\x < n)(hy:0<=y/\y < n)(hz:0<=z/\z < n)(ha:0<=a/\a < n)(hb:0<=b/\b < n)(hc:0<=c/\c < n):∀i j:Ho,i < 3->j < 3->i≠j->∃p:Hv,aK (Ap x y z a b c 3) (bN i j)=gV (.int p)/\0<=p/\p < n:=by
 intro i j hi hj hij
 match i,j,hi,hj,hij with
 | 0,0,_,_,h=>exact absurd rfl h
 | 0,1,_,_,_=>exact#[a,by rfl,ha]
 | 0,2,_,_,_=>exact#[b,by rfl,hb]
 | 1,0,_,_,_=>exact#[x,by rfl,hx]
 | 1,1,_,_,h=>exact absurd rfl h
 | 1,2,_,_,_=>exact#[c,by rfl,hc]
 | 2,0,_,_,_=>exact#[y,by rfl,hy]
 | 2,1,_,_,_=>exact#[z,by rfl,hz]
 | 2,2,_,_,h=>exact absurd rfl h
theorem pq:∀t∈aw,t.length=3/\t.getD 0 0 < 3/\t.getD 1 0 < 3/\t.getD 2 0 < 3/\t.getD 0 0≠t.getD 1 0/\t.getD 1 0≠t.getD 2 0/\t.getD 0 0≠t.getD 2 0:=by decide
theorem xw {t:Hg Ho}(h:t∈aw):∃i j k:Ho,t=[i,j,k]/\i < 3/\j < 3/\k < 3/\i≠j/\j≠k/\i≠k:=by
 obtain⟨h1,h2⟩:=pq t h
 match t,h1,h2 with
 | [i,j,k],_,h2=>exact#[i,j,k,rfl,h2]
section
variable{defs:Hg (HJ×Df)}{fuel d:Ho}{S:aa}{r:Ho}{Q:QW}
theorem xx {l:Ho}{f:Hv}{ws:Hg Hv}(h:S[l]?=gV (.lst (ac ws))):∃b,aL .notin (.int f) (.ref l) S=gV (.bl b,S):=by
 have hf:(bB (.int f)&&(ac ws).all bB)=true:=by
  simp only[bB,KW,HP];intro x hx;obtain⟨z,_,rfl⟩:=HQ.mp hx;rfl
 refine#[!(ac ws).any λz=>mO z (.int f),?_]
 simp only[aL,nH h,dJ,uF,y8,eO,aJ h,hf,Km,Iq]
theorem CU {q:Ho}{kvs:Hg (T×W)}(h:S[q]?=gV (.dic kvs)):tyOk "dict" S (.ref q)=true:=by simp[tyOk,bJ h]
theorem Aq {q:Ho}{kvs:Hg (T×W)}(h:S[q]?=gV (.dic kvs))(k:Q (.ref S.length,S++[.lst (kvs.map λp=>p.1.w)])):wO (Bi.list.fn [.ref q] S) Q:=by
 refine ab ?_ k;have h1:zd S q=td:=by simp[zd,h]
 have h2:lF [.ref q] S=td:=by simp[lF,h1,hW,eO,nI h]
 simp only[Bi.fn,Ee,h2,lJ,bJ h]
theorem xy (G:Gen defs){bs:Hg Hv}{q b0:Ho}{kvs:Hg (T×W)}{x y z:Hv}(hb:GoodB bs)(hx:0<=x/\x < bs.length)(hy:0<=y/\y < bs.length)(hz:0<=z/\z < bs.length)(hq:S[q]?=gV (.dic kvs))(hm:MustE S bs.length b0 kvs)
  (k:∀b S',Ka S S'->Q (.bl b,S')):wO (aC (ak defs fuel (d+2)) "_law_breaks" 5 [.tup (ac bs),.ref q,.int x,.int y,.int z] S) Q:=by
 refine al G.breaks rfl rfl λQ' hR=>?_
 replace k:∀b S',Ka S S'->Q' (.rt (.bl b),S'):=λa b c=>hR _ _ (k a b c)
 clear hR;show wZ _ _ dO [gV (.tup (ac bs)),gV (.ref q),gV (.int x),gV (.int y),gV (.int z),td,td,td,td,td] S Q';obtain⟨a,ha1,ha⟩:=hb.rng x.toNat ∅
 obtain⟨b,hb1,hb2⟩:=hb.rng y.toNat ∅
 obtain⟨c,hc1,hc⟩:=hb.rng z.toNat ∅
 have hqt:=b6 hq;unfold dO;refine aF λK hK=>?_
 dsimp only[wS,wE,wA,wV,wG,Hw];refine#[aj,ab (show dD [] [.tup [.int 1,.int 0],.int x,.tup [.int 2,.int 0],.int y,.tup [.int 2,.int 1],.int z]=gV (uh x y z)from rfl) (hK _ _ ?_)]
 clear hK K;have e1:((S++[O.dic []]).set S.length (.dic (uh x y z)))[S.length]?=gV (.dic (uh x y z)):=bG aj;have k1:Ka S ((S++[O.dic []]).set S.length (.dic (uh x y z))):=Ka.push.late (Hz _);have l1:((S++[O.dic []]).set S.length (.dic (uh x y z))).length=S.length+1:=by simp
 generalize(S++[O.dic []]).set S.length (.dic (uh x y z))=S1 at e1 k1 l1 ⊢;refine aF λK hK=>?_
 refine c7 rfl rfl ?_;dsimp only[wE,wA,wV,wG];refine Aq e1 #[S1.length,[dv 1 0,dv 2 0,dv 2 1],(λk ρ S'=>(∃x6,ρ=[gV (.tup (ac bs)),gV (.ref q),gV (.int x),gV (.int y),gV (.int z),gV (.ref S.length),x6,td,td,td])/\S'[S.length]?=gV (.dic (Ap x y z a b c k))/\S'[S1.length]?=gV (.lst [dv 1 0,dv 2 0,dv 2 1])/\Ka S S'),rfl,#[#[_,rfl],ar e1,aj,k1.trans .push],λi ρ S' h=>h.2.2.1,?_,?_]
 ·have step:∀(u v f g:Hv) (kv kv':Hg (T×W)) (S':aa) (i:Ho),aK kv (bN u v)=gV (.int f)->0<=f->bs[f.toNat]?=gV g->kv.length < 10->eu kv (bN v u) (.int g)=kv'->Ap x y z a b c (i+1)=kv'->∀x6:Hn W,S'[S.length]?=gV (.dic kv)->S'[S1.length]?=gV (.lst [dv 1 0,dv 2 0,dv 2 1])->Ka S S'->
    wO (eL (.nm 6) (dv u v) [gV (.tup (ac bs)),gV (.ref q),gV (.int x),gV (.int y),gV (.int z),gV (.ref S.length),x6,td,td,td] S') λp=>t9 (ak defs fuel (d+1)) fuel #v[.put (.v 5) (.tup #v[.ix (.v 6) (.c (.int 1)),.ix (.v 6) (.c (.int 0))]) (.ix (.v 0) (.ix (.v 5) (.v 6)))] p.1 p.2 (λρ S'=>(∃x6,ρ=[gV (.tup (ac bs)),gV (.ref q),gV (.int x),gV (.int y),gV (.int z),gV (.ref S.length),x6,td,td,td])/\S'[S.length]?=gV (.dic (Ap x y z a b c (i+1)))/\S'[S1.length]?=gV (.lst [dv 1 0,dv 2 0,dv 2 1])/\Ka S S') Q':=by
   clear hK k;intro u v f g kv kv' S' i h1 h2 h3 h4 h5 h6 x6 e e' k;refine ab (show eL (.nm 6) (dv u v) [gV (.tup (ac bs)),gV (.ref q),gV (.int x),gV (.int y),gV (.int z),gV (.ref S.length),x6,td,td,td] S'=gV ([gV (.tup (ac bs)),gV (.ref q),gV (.int x),gV (.int y),gV (.int z),gV (.ref S.length),gV (dv u v),td,td,td],S')from rfl) λQ2 hn _=>?_
   refine st ?_;dsimp only[wS,wE,wA,wV,wG];refine ab (lZ (bJ e) h1) (ae h2 (w:=.int g) (by unfold ac; rw[Hq,h3]; rfl) (ae #v[] rfl (ae #v[] rfl ?_)))
   refine ab (xv e (by rw[IL]; omega)) (aM (hn _ _ #[#[_,rfl],?_,?_,k.late (Hz _)]))
   ·rw[bG e,h5,h6]
   ·rw[bh ∅]; exact e'
  rintro i w ρ S2 hw ⟨⟨x6,rfl⟩,e2,l2,k2⟩
  match i,hw,e2 with
  | 0,hw,e2=>cases hw; exact step 1 0 x a _ _ S2 0 (by rfl) hx.1 ha1 (by simp[Ap,uh]) (by rfl) (by rfl) x6 e2 l2 k2
  | 1,hw,e2=>cases hw; exact step 2 0 y b _ _ S2 1 (by rfl) hy.1 hb1 (by simp[Ap,uh]) (by rfl) (by rfl) x6 e2 l2 k2
  | 2,hw,e2=>cases hw; exact step 2 1 z c _ _ S2 2 (by rfl) hz.1 hc1 (by simp[Ap,uh]) (by rfl) (by rfl) x6 e2 l2 k2
  | n+3,hw,_=>simp at hw
 ·rintro ρ S2 ⟨⟨x6,rfl⟩,e2,l2,k2⟩;have hv:=CT hx hy hz ha hb2 hc;have e2:S2[S.length]?=gV (.dic (Ap x y z a b c 3)):=e2;refine hK _ _ ?_;clear hK K;have hlt2:=b6 e2;refine aF λK hK=>?_
  refine c7 rfl rfl ?_;dsimp only[wE,wA,wV,wG];refine jD (d:=d) G #[S2.length,aw.map (λt=>W.tup (aD t)),(λk ρ S'=>(∃x7 x8 x9,ρ=[gV (.tup (ac bs)),gV (.ref q),gV (.int x),gV (.int y),gV (.int z),gV (.ref S.length),x6,x7,x8,x9])/\S'[S.length]?=gV (.dic (Ap x y z a b c 3))/\S'[S2.length]?=gV (.lst (aw.map (λt=>W.tup (aD t))))/\Ka S S'),rfl,#[#[_,_,_,rfl],ar e2,aj,k2.trans .push],λi ρ S' h=>h.2.2.1,?_,?_]
  ·rintro i w ρ S3 hw ⟨⟨x7,x8,x9,rfl⟩,e3,l3,k3⟩;clear hK;rw[Hq,Hl]at hw;obtain⟨t,ht,rfl⟩:=hw;obtain⟨i1,j1,h1,rfl,hi1,hj1,hh1,n1,n2,n3⟩:=xw (HC ht);obtain⟨p1,g1,r1⟩:=hv i1 j1 hi1 hj1 n1;obtain⟨p2,g2,r2⟩:=hv j1 h1 hj1 hh1 n2;obtain⟨p3,g3,r3⟩:=hv i1 h1 hi1 hh1 n3;have q3:=k3.get _ _ hq;refine ab (show eL (.tp [7,8,9]) (W.tup (aD [i1,j1,h1])) [gV (.tup (ac bs)),gV (.ref q),gV (.int x),gV (.int y),gV (.int z),gV (.ref S.length),x6,x7,x8,x9] S3=gV ([gV (.tup (ac bs)),gV (.ref q),gV (.int x),gV (.int y),gV (.int z),gV (.ref S.length),x6,gV (.int i1),gV (.int j1),gV (.int h1)],S3)from rfl) λQ2 hn hr=>?_
   refine aF λK hK=>?_
   dsimp only[wS,wT,wE,wA,wV,wG];refine ab (lZ (bJ e3) g3) #[CU q3,ab (lZ (bJ e3) g1) (ab (lZ (bJ e3) g2) (ab (lZ (bJ e3) g3) ?_))];have hget:Me.get.fn (.ref q) [.tup [.int p1,.int p2],.ref S3.length] (S3++[O.lst [.int p3]])=gV ((aK kvs (bN p1 p2)).getD (.ref S3.length),S3++[O.lst [.int p3]]):=by
    have hk:gB (.tup [.int p1,.int p2])=gV (bN p1 p2):=iD;simp only[Me.fn,rF,bJ (ar q3),hk]
   refine ab hget ?_;have hres:∃(l:Ho) (ws:Hg Hv),(aK kvs (bN p1 p2)).getD (.ref S3.length)=.ref l/\(S3++[O.lst [.int p3]])[l]?=gV (.lst (ac ws)):=by
    cases hg:aK kvs (bN p1 p2)with
    | none=>exact#[S3.length,[p3],rfl,aj]
    | some g=>
     obtain⟨u,v,l,ws,he,_,_,_,hl,_⟩:=(hm.ka k3) _ (kw hg);injection he with _ he
     subst he;exact#[l,ws,rfl,ar hl]
   obtain⟨l,ws,hl1,hl2⟩:=hres;dsimp only;rw[hl1];obtain⟨kb,hkb⟩:=xx (f:=p3) hl2;refine ab hkb ?_;dsimp only[wB];refine ah (Q0:=Q2) (λ_ Q3 _ hr3=>st (hr3 _ _ (hr _ _ (k _ _ (k3.trans .push))))) λ_ Q3 hn3 _=>aM (hn3 _ _ (hK _ _ (aM (hn _ _ #[#[_,_,_,rfl],ar e3,ar l3,k3.trans .push]))))
  ·rintro ρ S3 ⟨⟨x7,x8,x9,rfl⟩,e3,l3,k3⟩;exact hK _ _ (st (k _ _ k3))
end
noncomputable def Dn (k:Hv):Wd:=[(0,[]),(0,[k]),(0,[k,k])]
theorem Ar:∀g∈[Dn 0,Dn 1],g∈aN 1 [0,1]:=by decide +kernel
noncomputable def xz (a k:Hv):Wd:=[(0,[]),(k,[0]),(a - 1,[0,0])]
theorem xA:∀k∈ey 2,xz 2 k∈aN 2 [0]:=by decide +kernel
theorem xB:∀k∈ey 3,xz 3 k∈aN 3 [0]:=by decide +kernel
theorem As {a x y:Hv}(h:xz a x=xz a y):x=y:=by
 unfold xz at h;injection h with _ h
 injection h with h _
 injection h
theorem Be {a n:Ho}{m0 m1 m2 x y z:Hv}(h0:0<=m0/\m0 < a)(h1:0<=m1/\m1 < a)(h2:0<=m2/\m2 < a)(hx:0<=x/\x < n)(hy:0<=y/\y < n)(hz:0<=z/\z < n):GoodW a n [(m0,[]),(m1,[x]),(m2,[y,z])]:=by
 refine#[λk p h=>?_,λk p h=>?_,λk p h=>?_] <;> match k,h with
 | 0,h=>cases h; first|exact h0|rfl|(intro w hw; cases hw)
 | 1,h=>cases h; first|exact h1|rfl|(intro w hw; rw[HB.mp hw]; exact hx)
 | 2,h=>cases h; first|exact h2|rfl|(intro w hw; rcases HW.mp hw with e|hw <;> first|exact e ▸ hy|(rw[HB.mp hw]; exact hz))
 | n+3,h=>simp at h
theorem CV {Φ:HJ->FF}{ρ:Fm}{S:aa}{i n:Ho}{Q:QW}(hv:∀Q:W->Prop,Q (.int n)->wV ρ i Q)(hn:n<=3)(k:∀j:Hv,0<=j->j<=27->j=(n:Hv)*n*n->Q (.int j,S)):wE Φ (.op .mul (.op .mul (.v i) (.v i)) (.v i)) ρ S Q:=by
 have b1 : -(2 ^ 64) < (n:Hv):=∅
 have b2:(n:Hv) < 2 ^ 64:=∅
 have hc:(n:Hv)*n*n<=27/\0<=(n:Hv)*n*n:=by rcases(show n=0\/n=1\/n=2\/n=3 by omega)with h|h|h|h <;> rw[h] <;> decide
 dsimp only[wE];have em:∀m:Hv,hG .mul (.int m) (.int n) S=gV (.int (m*n),S):=λm=>sa b1 b2
 generalize hG .mul=B at em ⊢;refine hv _ ?_;refine hv _ ?_;refine ab (em _) ?_;refine hv _ ?_;refine ab (em _) ?_;have:=k _ hc.2 hc.1 rfl;exact this
theorem xD {Φ:HJ->FF}{fuel:Ho}{ρ:Fm}{S:aa}{K:Fm->aa->Prop}{Q:QO}{i0 i n:Ho}{b:Ss}(hv:∀Q:W->Prop,Q (.int n)->wV ρ i Q)(hn:n<=3)(ok:fT b=true)
  (h:∀j:Hv,0<=j->j<=27->j=(n:Hv)*n*n->∃I:Ho->Fm->aa->Prop,I 0 ρ S/\(∀(i:Ho) (ρ:Fm) (S:aa),(i:Hv) < j->I i ρ S->t9 Φ fuel b (ρ.set i0 (gV (.int i))) S (I (i+1)) Q)/\∀ρ S,I j.toNat ρ S->K ρ S) :
  Wp (fJ Φ fuel (.loop (.nm i0) (.rng #v[.op .mul (.op .mul (.v i) (.v i)) (.v i)]) b) ρ S) (o5 K Q):=
 have hw:=CV (Φ:=Φ) (S:=S) (Q:=λp=>∃(j:Hv) (I:Ho->Fm->aa->Prop),p.1=.int j/\(-(2 ^ 62)<=j/\j < 2 ^ 62)/\I 0 ρ p.2/\(∀(i:Ho) (ρ:Fm) (S:aa),(i:Hv) < j->I i ρ S->t9 Φ fuel b (ρ.set i0 (gV (.int i))) S (I (i+1)) Q)/\∀ρ S,I j.toNat ρ S->K ρ S) hv hn λj j0 j27 e=>let ⟨I,h0,h1,h2⟩:=h j j0 j27 e; #[j,I,rfl,∅,h0,h1,h2]
 kq rfl ok hw
section
variable{defs:Hg (HJ×Df)}{fuel d:Ho}{S:aa}{r:Ho}{Q:QW}
theorem xE (hfu:20 < fuel)(G:Gen defs)(hf:Fl S r)(k:∀w S',dg w->Fl S' r->Kp r S S'->Q (w,S')):wO (aC (ak defs fuel (d+7)) "_law_laying_rule" 1 [.ref r] S) Q:=by
 refine al G.laying_rule rfl rfl λQ' hR=>?_
 replace k:∀w S',dg w->Fl S' r->Kp r S S'->Q' (.rt w,S'):=λz S' a b c=>hR _ _ (k z S' a b c)
 clear hR;show wZ _ _ b8 [gV (.ref r),td,td,td,td,td,td,td,td,td,td,td,td,td,td] S Q';unfold b8;refine aF λK hK=>?_
 dsimp only[wS,wE,wA,wV,wG,Hw];refine aT (d:=d+5) G.pick hf #v[] #v[] λv S1 v0 v7 f1 k1=>hK _ _ ?_
 clear hK K;refine aF λK hK=>?_
 dsimp only[wS,wT,wE,wV,wG,kg,aO,wB];refine ah (Q0:=Q') (λ_ Q2 _ hr=>?_) (λ_ Q2 hn _=>aM (hn _ _ (hK _ _ ?_)))
 ·refine st ?_;dsimp only[wS,wE,wA,wV,wG];exact ph (d:=d) hfu G f1 λw S2 a b c=>hr _ _ (k w S2 a b (k1.trans c))
 clear hK K hn;refine aF λK hK=>?_
 dsimp only[wS,wT,wE,wV,wG,kg,aO,wB];refine ah (Q0:=Q') (λ_ Q2 _ hr=>?_) (λ_ Q2 hn _=>aM (hn _ _ (hK _ _ ?_)))
 ·refine st ?_;dsimp only[wS,wE,wA,wV,wG];exact ue (d:=d) hfu G f1 λw S2 a b c=>hr _ _ (k w S2 a b (k1.trans c))
 clear hK K hn;have hr1:=f1.lt;refine aF λK hK=>?_
 dsimp only[wS,wE,wA,wV,wG];refine lf (d:=d+4) G f1 λw2 S2 hw2 f2 k2=>?_
 obtain⟨bs0,q0,kvs0,most,rfl,hbs0,m1,m3,m6,hq0,hq0l,h40,hm0⟩:=hw2;dsimp only[wU];refine ab (show cK [2,3,4] [.tup (ac bs0),.ref q0,.int most] [gV (.ref r),gV (.int v),td,td,td,td,td,td,td,td,td,td,td,td,td]=gV [gV (.ref r),gV (.int v),gV (.tup (ac bs0)),gV (.ref q0),gV (.int most),td,td,td,td,td,td,td,td,td,td]from rfl) (hK _ _ ?_)
 clear hK K;refine aF λK hK=>?_
 dsimp only[wS,wE,wA,wV,wG,Hw];refine aT (d:=d+5) G.pick f2 ∅ ∅ λv3 S3 v30 v3m f3 k3=>?_
 dsimp only[cp,aO];obtain⟨a,ea⟩ : ∃a:Ho,1+v3=a:=#[(1+v3).toNat,∅]
 rw[ea];refine hK _ _ ?_;clear hK K;refine aF λK hK=>?_
 dsimp only[wS,wE,wA,wV,wG];refine qx (d:=d+4) G (S0:=S1) hbs0 f3 hr1 (k2.trans k3) (k3.get _ _ ∅ hq0) hq0l h40 (hm0.kp hr1 k3) λbs q kvs S4 hb hbl hq hql hm f4 k4=>?_
 dsimp only[wU];refine ab (show cK [2,3] [.tup (ac bs),.ref q] [gV (.ref r),gV (.int v),gV (.tup (ac bs0)),gV (.ref q0),gV (.int most),gV (.int a),td,td,td,td,td,td,td,td,td]=gV [gV (.ref r),gV (.int v),gV (.tup (ac bs)),gV (.ref q),gV (.int most),gV (.int a),td,td,td,td,td,td,td,td,td]from rfl) (hK _ _ ?_)
 clear hK K;rw[<- hbl]at hm m6;have hn:bs.length=2\/bs.length=3:=by rw[hbl]; exact(xu bs0 hbs0).1
 have hsz:SizeOk a bs:=#[∅,hb,by
  have h1:(a:Hv)*bs.length<=most*bs.length:=Int.mul_le_mul_of_nonneg_right ∅ ∅
  exact_mod_cast Int.le_trans h1 m6,∅]
 clear m6 hm0 hq0 hq0l h40 hbl hbs0 k2 k3 f2 f3;refine aF λK hK=>?_
 dsimp only[wS,wE,wA,wV,wG,Hw];refine fm (d:=d+1) hfu G f4 ∅ ∅ λms ns S5 hml hnl hnm f5 k5=>hK _ _ ?_
 clear hK K;have kk:Kp r S S5:=k1.trans (k4.trans k5);have hrt:=f5.lt;have hq5:S5[q]?=gV (.dic kvs):=k5.get _ _ ∅ hq
 have hm5:MustE S5 bs.length S1.length kvs:=hm.kp hr1 k5;have hqn:q < S5.length:=b6 hq5;clear k1 k4 k5 f4 hm hq hql f1;refine st ?_;dsimp only[wS,wE,Hw];refine aF λK hK=>?_
 dsimp only[wS,wE,wA,wV,wG,Hw];refine ay ?_;rw[show(ac bs).length=bs.length from Hh ..]
 refine hK _ _ ?_;clear hK K;refine aF λK hK=>?_
 refine xD (n:=bs.length) (λQ q=>q) ∅ rfl λj j0 j27 hj=>?_
 refine#[(λ_ ρ S'=>(∃x9 x10 x11 x12 x13 x14,ρ=[gV (.ref r),gV (.int v),gV (.tup (ac bs)),gV (.ref q),gV (.int most),gV (.int a),gV (cq ms ns bs []),gV (.ref S5.length),gV (.int bs.length),x9,x10,x11,x12,x13,x14])/\(∃kvs fs,S'[S5.length]?=gV (.dic kvs)/\FigD (aN a bs) kvs fs)/\S'[q]?=gV (.dic kvs)/\MustE S' bs.length S1.length kvs/\Fl S' r/\Kp r S S'),#[#[_,_,_,_,_,_,rfl],#[[],[],aj,.nil],ar hq5,hm5.ka .push,f5.ka .push,kk.trans .push],?_,?_]
 ·rintro i ρ S6 hi ⟨⟨x9,x10,x11,x12,x13,x14,rfl⟩,⟨kvd,fs,e6,hd⟩,hq6,hm6,f6,k6⟩ Q2 hn2 _;clear hK k;have hnp:(0:Hv) < bs.length:=∅
  have hnb:(bs.length:Hv) < 1073741824:=∅
  have y1:0<=(i:Hv) % bs.length/\(i:Hv) % bs.length < bs.length:=#[J9 _ ∅,JF _ hnp]
  have y2:0<=(i:Hv) / bs.length % bs.length/\(i:Hv) / bs.length % bs.length < bs.length:=#[J9 _ ∅,JF _ hnp]
  have y3:0<=(i:Hv) / bs.length / bs.length/\(i:Hv) / bs.length / bs.length < bs.length:=by
   rcases hn with h|h <;> rw[h]at hj ⊢ <;> omega
  refine aF λK hK=>?_
  dsimp only[wS,wE,wA,wV,wG,Hw];refine ab (ke hnp) (ab (nF hnp hnb) (ab (ke hnp) ?_));dsimp only[w2];refine hK _ _ ?_;clear hK K;refine aF λK hK=>?_
  dsimp only[wS,wE,wA,wV,wG,Hw];refine ab (nF hnp hnb) (ab (nF hnp hnb) (hK _ _ ?_));clear hK K;dsimp only;generalize(i:Hv) % bs.length=z1 at y1 ⊢;generalize(i:Hv) / bs.length % bs.length=z2 at y2 ⊢;generalize(i:Hv) / bs.length / bs.length=z3 at y3 ⊢;refine aF λK hK=>?_
  dsimp only[wS,wT,wA,wE,wV,wG];refine xy (d:=d+4) G hb y1 y2 y3 hq6 hm6 λb S7 k7=>?_
  dsimp only[cw,aO];refine ah (Q0:=Q2) (λ_ Q3 hn3 _=>?_) (λ_ Q3 hn3 _=>aM (hn3 _ _ (hK _ _ (aM (hn2 _ _ #[#[_,_,_,_,_,_,rfl],#[kvd,fs,k7.get _ _ e6,hd],k7.get _ _ hq6,hm6.ka k7,f6.ka k7,k6.trans (k7.kp r)])))))
  refine aF λK3 hK3=>?_
  refine c7 rfl rfl ?_;dsimp only[wE,wA,wV,wG];have h56:S5.length < S6.length:=b6 e6;have h67:=k7.len;refine pg (d:=d+5) G (a:=a) ∅ λt ts S8 e8 ht ht7 k8=>?_
  refine#[t,ts.map eS,(λ_ ρ S'=>(∃x9 x13 x14,ρ=[gV (.ref r),gV (.int v),gV (.tup (ac bs)),gV (.ref q),gV (.int most),gV (.int a),gV (cq ms ns bs []),gV (.ref S5.length),gV (.int bs.length),x9,gV (.int z1),gV (.int z2),gV (.int z3),x13,x14])/\(∃kvs fs,S'[S5.length]?=gV (.dic kvs)/\FigD (aN a bs) kvs fs)/\S'[q]?=gV (.dic kvs)/\MustE S' bs.length S1.length kvs/\S'[t]?=gV (.lst (ts.map eS))/\Fl S' r/\Kp r S S'),rfl,#[#[_,_,_,rfl],#[kvd,fs,k8.get _ _ (k7.get _ _ e6),hd],k8.get _ _ (k7.get _ _ hq6),(hm6.ka k7).ka k8,e8,(f6.ka k7).ka k8,k6.trans ((k7.trans k8).kp r)],λi ρ S' h=>h.2.2.2.2.1,?_,?_]
  ·rintro j w ρ S9 hw ⟨⟨x9,x13,x14,rfl⟩,⟨kvd,fs,e9,hd⟩,hq9,hm9,ht9,f9,k9⟩;clear hK3 hn3 hK hn2;rw[Hq,Hl]at hw;obtain⟨⟨tr1,tr2,tr3⟩,htr,rfl⟩:=hw;obtain⟨t1,t2,t3⟩:=ht _ (HC htr);refine ab (show eL (.nm 13) (eS (tr1,tr2,tr3)) [gV (.ref r),gV (.int v),gV (.tup (ac bs)),gV (.ref q),gV (.int most),gV (.int a),gV (cq ms ns bs []),gV (.ref S5.length),gV (.int bs.length),x9,gV (.int z1),gV (.int z2),gV (.int z3),x13,x14] S9=gV ([gV (.ref r),gV (.int v),gV (.tup (ac bs)),gV (.ref q),gV (.int most),gV (.int a),gV (cq ms ns bs []),gV (.ref S5.length),gV (.int bs.length),x9,gV (.int z1),gV (.int z2),gV (.int z3),gV (eS (tr1,tr2,tr3)),x14],S9)from rfl) λQ4 hn4 _=>?_
   have hu:GoodW a bs.length [(tr1,[]),(tr2,[z1]),(tr3,[z2,z3])]:=Be t1 t2 t3 y1 y2 y3;refine aF λK hK=>?_
   dsimp only[wS,wE,wA,wV,wG,Hw];refine ae #v[] rfl (ae #v[] rfl (hK _ _ ?_))
   clear hK K;refine st ?_;dsimp only[wS,wE,wA,wV,wG];refine ae #v[] rfl (ab (bF (fY rfl)) ?_)
   refine iz (d:=d+3) (m0:=.tup (ms.map W.str)) (b0:=.tup []) (u:=[(tr1,[]),(tr2,[z1]),(tr3,[z2,z3])]) G hb hnl hu rfl λS10 k10=>?_
   have e10:=k10.get _ _ e9;exact sx e10 hd hsz hu rfl λo ho=>aM (hn4 _ _ #[#[_,_,_,rfl],ho,by rw[bh ∅]; exact k10.get _ _ hq9,(hm9.ka k10).set e10,by rw[bh ∅]; exact k10.get _ _ ht9,(f9.ka k10).own hrt,(k9.trans (k10.kp r)).late kk.len])
  ·rintro ρ S9 ⟨⟨x9,x13,x14,rfl⟩,hdd,hq9,hm9,ht9,f9,k9⟩;exact hK3 _ _ (aM (hn3 _ _ (hK _ _ (aM (hn2 _ _ #[#[_,_,_,_,_,_,rfl],hdd,hq9,hm9,f9,k9])))))
 ·rintro ρ S6 ⟨⟨x9,x10,x11,x12,x13,x14,rfl⟩,⟨kvd,fs,e6,hd⟩,hq6,hm6,f6,k6⟩;refine hK _ _ (st ?_);dsimp only[wS,wE,wA,wV,wG];exact sw (Q:=λp=>Q' (.rt p.1,p.2)) e6 hd hsz hml hnl hnm λw S8 hw k8=>k w S8 hw (f6.ka k8) (k6.trans (k8.kp r))
end
section
variable{defs:Hg (HJ×Df)}{fuel d:Ho}{S:aa}{r:Ho}{Q:QW}
theorem qy (hfu:20 < fuel)(G:Gen defs)(hun:Is defs ("_law_unlaying_rule" : HJ) 1 10 bc)(hf:Fl S r)(k:∀w S',dg w->Fl S' r->Kp r S S'->Q (w,S')):wO (aC (ak defs fuel (d+6)) "_law_unlaying_rule" 1 [.ref r] S) Q:=by
 refine al hun rfl rfl λQ' hR=>?_
 replace k:∀w S',dg w->Fl S' r->Kp r S S'->Q' (.rt w,S'):=λz S' a b c=>hR _ _ (k z S' a b c)
 clear hR;show wZ _ _ bc [gV (.ref r),td,td,td,td,td,td,td,td,td] S Q';unfold bc;refine aF λK hK=>?_
 dsimp only[wS,wE,wA,wV,wG,Hw];refine aT (d:=d+4) G.pick hf #v[] #v[] λv S1 v0 v7 f1 k1=>hK _ _ ?_
 clear hK K;have hlt:=f1.lt;refine aF λK hK=>?_
 dsimp only[wS,wT,wE,wV,wG,kg,aO,wB];refine ah (Q0:=Q') (λ_ Q2 _ hr=>?_) (λ_ Q2 hn _=>aM (hn _ _ (hK _ _ ?_)))
 ·
  refine st ?_;dsimp only[wS,wE,wA,wV,wG];refine eB 2 (λi zs ρ2 S2=>(∃a1,ρ2=[td,a1])/\zs=([Dn 0,Dn 1].take i).map am/\S2=S1) rfl rfl rfl #v[] #[rfl,#[td,rfl],rfl,rfl] ?_ ?_
  ·rintro i zs ρ2 S2 hi ⟨⟨a1,rfl⟩,rfl,rfl⟩;clear k hr hK;dsimp only[fW,wC,wE,wA,wV,wG,Hw];refine#[λ_=>#[#[_,rfl],?_,rfl],λz=>by cases z]
   rcases(show i=0\/i=1 by omega)with h|h
   ·subst h; rfl
   ·subst h; rfl
  ·rintro zs ρ2 S2 ⟨_,rfl,rfl⟩;refine#[fY rfl,?_];refine gy (d:=d) (a:=1) (bs:=[0,1]) (us:=[Dn 0,Dn 1]) hfu G (f1.ka .push) #v[] #v[] (λS' kk=>?_) #v[] #v[] λms ns S3 hml hnl hnm f3 k3=>?_
   ·simp only[d6,aJ (kk.get _ _ ∅ aj)]; rfl
   exact hr _ _ (k _ _ #[1,[0,1],ms,ns,_,rfl,#[#[#v[],.inr (.inl rfl),#v[],#v[]],hml,hnl,hnm,#v[],Ar]] f3 (k1.trans (Kp.push.trans k3)))
 clear hK K hn;refine aF λK hK=>?_
 dsimp only[wS,wT,wE,wV,wG,kg,aO,wB];refine ah (Q0:=Q') (λ_ Q2 _ hr=>?_) (λ_ Q2 hn _=>aM (hn _ _ (hK _ _ ?_)))
 ·
  clear hK;refine aF λK hK=>?_
  dsimp only[wS,wE,wA,wV,wG,Hw];refine fm (d:=d) (a:=2) (bs:=[0,1]) hfu G f1 #v[] #v[] λms ns S3 hml hnl hnm f3 k3=>hK _ _ ?_
  clear hK K;have hsz:SizeOk 2 [0,1]:=#[#v[],.inr (.inl rfl),#v[],#v[]]
  have hrt:=f3.lt;have kk:Kp r S S3:=k1.trans k3;refine st ?_;dsimp only[wS,wE,Hw];refine aF λK hK=>?_
  refine c7 rfl rfl ?_;dsimp only[wE,wA,wV,wG];refine pg (d:=d+4) G (a:=2) #v[] λq ts S4 e4 ht hq k4=>?_
  have hq':S3.length < q:=by simp only[Hk,Iw,Jt]at hq; omega
  refine#[q,ts.map eS,(λ_ ρ S'=>(∃x4 x5 x6 x7 x8 x9,ρ=[gV (.ref r),gV (.int v),gV (cq ms ns [0,1] []),gV (.ref S3.length),x4,x5,x6,x7,x8,x9])/\(∃kvs fs,S'[S3.length]?=gV (.dic kvs)/\FigD (aN 2 [0,1]) kvs fs)/\S'[q]?=gV (.lst (ts.map eS))/\Fl S' r/\Kp r S S'),rfl,#[#[_,_,_,_,_,_,rfl],#[[],[],k4.get _ _ aj,.nil],e4,(f3.ka .push).ka k4,(kk.trans .push).trans (k4.kp r)],λi ρ S' h=>h.2.2.1,?_,?_]
  ·rintro i w ρ S5 hw ⟨⟨x4,x5,x6,x7,x8,x9,rfl⟩,⟨kvs,fs,e5,hd⟩,hq5,f5,k5⟩;clear hK;rw[Hq,Hl]at hw;obtain⟨⟨tr1,tr2,tr3⟩,htt,rfl⟩:=hw;obtain⟨t1,t2,t3⟩:=ht _ (HC htt);have h53:S3.length < S5.length:=b6 e5;have hq5l:q < S5.length:=b6 hq5;refine ab (show eL (.nm 4) (eS (tr1,tr2,tr3)) [gV (.ref r),gV (.int v),gV (cq ms ns [0,1] []),gV (.ref S3.length),x4,x5,x6,x7,x8,x9] S5=gV ([gV (.ref r),gV (.int v),gV (cq ms ns [0,1] []),gV (.ref S3.length),gV (eS (tr1,tr2,tr3)),x5,x6,x7,x8,x9],S5)from rfl) λQ3 hn3 _=>?_
   refine aF λK hK=>?_
   refine c7 rfl rfl ?_;dsimp only[wE,wA,wV,wG];refine#[S5.length,[(1,1,0),(1,1,1),(1,0,1),(0,1,1)].map eS,(λ_ ρ S'=>(∃x5 x6 x7 x8 x9,ρ=[gV (.ref r),gV (.int v),gV (cq ms ns [0,1] []),gV (.ref S3.length),gV (eS (tr1,tr2,tr3)),x5,x6,x7,x8,x9])/\(∃kvs fs,S'[S3.length]?=gV (.dic kvs)/\FigD (aN 2 [0,1]) kvs fs)/\S'[q]?=gV (.lst (ts.map eS))/\S'[S5.length]?=gV (.lst ([(1,1,0),(1,1,1),(1,0,1),(0,1,1)].map eS))/\Fl S' r/\Kp r S S'),rfl,#[#[_,_,_,_,_,rfl],#[kvs,fs,ar e5,hd],ar hq5,aj,f5.ka .push,k5.trans .push],λi ρ S' h=>h.2.2.2.1,?_,?_]
   ·rintro i w ρ S6 hw ⟨⟨x5,x6,x7,x8,x9,rfl⟩,⟨kvs,fs,e6,hd⟩,hq6,hl6,f6,k6⟩;clear hK hn3;rw[Hq,Hl]at hw;obtain⟨⟨y1,y2,y3⟩,hy,rfl⟩:=hw;have hy':(0<=y1/\y1 < 2)/\(0<=y2/\y2 < 2)/\(0<=y3/\y3 < 2):=by
     have:∀p∈([(1,1,0),(1,1,1),(1,0,1),(0,1,1)]:Hg (Hv×Hv×Hv)),(0<=p.1/\p.1 < 2)/\(0<=p.2.1/\p.2.1 < 2)/\(0<=p.2.2/\p.2.2 < 2):=by decide
     exact this _ (HC hy)
    refine ab (show eL (.tp [5,6,7]) (eS (y1,y2,y3)) [gV (.ref r),gV (.int v),gV (cq ms ns [0,1] []),gV (.ref S3.length),gV (eS (tr1,tr2,tr3)),x5,x6,x7,x8,x9] S6=gV ([gV (.ref r),gV (.int v),gV (cq ms ns [0,1] []),gV (.ref S3.length),gV (eS (tr1,tr2,tr3)),gV (.int y1),gV (.int y2),gV (.int y3),x8,x9],S6)from rfl) λQ4 hn4 _=>?_
    refine aF λK hK=>?_
    dsimp only[wS,wE,wA,wV,wG,Hw];refine ae #v[] rfl (ae #v[] rfl (hK _ _ ?_))
    clear hK K;have hu:GoodW 2 2 [(tr1,[]),(tr2,[y1]),(tr3,[y2,y3])]:=Be t1 t2 t3 hy'.1 hy'.2.1 hy'.2.2;refine st ?_;dsimp only[wS,wE,wA,wV,wG];refine ae #v[] rfl (ab (bF (fY rfl)) ?_)
    refine iz (d:=d+2) (m0:=.tup (ms.map W.str)) (b0:=.tup []) (bs:=[0,1]) (u:=[(tr1,[]),(tr2,[y1]),(tr3,[y2,y3])]) G (.inr (.inl rfl)) hnl hu rfl λS7 k7=>?_
    have e7:=k7.get _ _ e6;exact sx e7 hd hsz hu rfl λo ho=>aM (hn4 _ _ #[#[_,_,_,_,_,rfl],ho,by rw[bh ∅]; exact k7.get _ _ hq6,by rw[bh ∅]; exact k7.get _ _ hl6,(f6.ka k7).own hrt,(k6.trans (k7.kp r)).late kk.len])
   ·rintro ρ S6 ⟨⟨x5,x6,x7,x8,x9,rfl⟩,hdd,hq6,hl6,f6,k6⟩;exact hK _ _ (aM (hn3 _ _ #[#[_,_,_,_,_,_,rfl],hdd,hq6,f6,k6]))
  ·rintro ρ S5 ⟨⟨x4,x5,x6,x7,x8,x9,rfl⟩,⟨kvs,fs,e5,hd⟩,hq5,f5,k5⟩;refine hK _ _ (st ?_);dsimp only[wS,wE,wA,wV,wG];exact sw (Q:=λp=>Q2 (.rt p.1,p.2)) e5 hd hsz hml hnl hnm λw S8 hw k8=>hr _ _ (k w S8 hw (f5.ka k8) (k5.trans (k8.kp r)))
 clear hK K hn;refine aF λK hK=>?_
 dsimp only[wS,wE,wA,wV,wG,Hw];refine aT (d:=d+4) G.pick f1 #v[] #v[] λv2 S2 v20 v22 f2 k2=>?_
 dsimp only[cp,aO];obtain⟨a,ea⟩ : ∃a:Ho,2+v2=a:=#[(2+v2).toNat,∅]
 rw[ea];have ha:a=2\/a=3:=∅
 refine hK _ _ ?_;clear hK K;refine aF λK hK=>?_
 dsimp only[wS,wE,Hw];refine eB (a:Hv) (λi zs ρ2 S3=>(∃a1,ρ2=[td,a1,gV (.int a)])/\zs=((ey i).map (xz a)).map am/\S3=S2) rfl rfl rfl ∅ #[rfl,#[td,rfl],rfl,rfl] ?_ ?_
 ·rintro i zs ρ2 S3 hi ⟨⟨a1,rfl⟩,rfl,rfl⟩;dsimp only[fW,wC,wE,wA,wV,wG,Hw,gK,aO];refine#[λ_=>#[#[_,rfl],?_,rfl],λz=>by cases z]
  simp[ey,Jw,xz,am,ap]
 ·rintro zs ρ2 S3 ⟨_,rfl,rfl⟩;rw[HF];have hul:(ey a).length=a:=by simp[ey]
  refine#[ki (by rw[Hh,Hh,hul]; omega),hK _ _ (st ?_)]
  clear hK K;dsimp only[wS,wE,wA,wP,wV,wG];refine aT (d:=d+4) G.pick (f2.ka .push) ∅ ∅ λv4 S4 v40 v4a f4 k4=>?_
  dsimp only[cp,aO,wN];obtain⟨mm,em⟩ : ∃mm:Ho,1+v4=mm:=#[(1+v4).toNat,∅]
  rw[em];have hlt2:=f2.lt;have e4:S4[S3.length]?=gV (.lst (((ey a).map (xz a)).map am)):=k4.get _ _ ∅ aj
  have hsl:jg (.ref S3.length) td (gV (mm:Hv)) S4=gV (.ref S4.length,S4++[.lst ((((ey a).map (xz a)).take mm).map am)]):=by
   simp only[jg,aJ e4,eh,KZ]
  refine ab hsl ?_;have hlt4:=f4.lt;have hmem:∀g∈((ey a).map (xz a)).take mm,g∈aN a [0]:=λg hg=>by
   obtain⟨x,hx,rfl⟩:=HQ.mp (KJ hg);rcases ha with rfl|rfl
   ·exact xA x hx
   ·exact xB x hx
  refine gy (d:=d) (a:=a) (bs:=[0]) (us:=((ey a).map (xz a)).take mm) hfu G (f4.ka .push) ∅ #v[] (λS' kk=>?_) (by rw[HX,Hh,hul]; omega) (λu hu=>pe (hmem u hu)) λms ns S5 hml hnl hnm f5 k5=>?_
  ·simp only[d6,aJ (kk.get _ _ ∅ aj)]
  refine k _ _ #[a,[0],ms,ns,_,rfl,#[#[∅,iC,by simp; omega,∅],hml,hnl,hnm,?_,hmem]] f5 (k1.trans (k2.trans (Kp.push.trans (k4.trans (Kp.push.trans k5)))))
  refine PV (NE _ _) ?_;unfold PU ey;rw[LZ,LZ];exact(List.nodup_range (n:=a)).imp λh e=>h (by have:=As e; omega)
end
theorem l4:∀n:Ho,gR (Ih n (.bl true))=gV (Ih n true)
 | 0=>rfl
 | n+1=>by rw[Jn,gR,l4 n]; rfl
theorem At (n:Ho):(Ih n true).all id=true:=by
 rw[HP];intro x hx;rw[(List.mem_replicate.mp hx).2]; rfl
noncomputable def sD:Ss:=
 #v[.ite (.cmp .gt (.v 2) (.v 3)) #v[.ret (.ix (.ix (.ix (.v 1) (.v 2)) (.c (.int 1))) (.v 3))] .nil,.ret (.ix (.ix (.ix (.v 0) (.c (.int 1))) (.ix (.ix (.ix (.v 1) (.v 3)) (.c (.int 1))) (.v 2))) (.c (.int 1)))]
noncomputable def gX:Ss:=
 #v[.ret (.bi .tuple #v[.comp (.own "point_over" 4 #v[.v 4,.v 5,.sl (.v 3) .no (.yes (.v 1)),.v 2]) (.tp [1,2]) (.enu #v[.v 2]) .nil [td,td,td,gV 2,gV 0,gV 1]])]
noncomputable def dQ:Ss:=
 #v[.ret (.tup #v[.ix (.ix (.v 1) (.v 3)) (.c (.int 0)),.bi .tuple #v[.comp (.own "way" 4 #v[.v 3,.v 4,.v 2,.v 1]) (.nm 1) (.seq (.v 2)) .nil [td,td,gV 3,gV 0,gV 1]]])]
section
variable{defs:Hg (HJ×Df)}{fuel d:Ho}{S:aa}{r:Ho}{Q:QW}
theorem xF {Φ:HJ->FF}{m0 b0:W}{ns:Hg HJ}{bs:Hg Hv}{a:Ho}{u:Wd}{i j:Ho}{Q:QO}(hb:GoodB bs)(hl:ns.length=bs.length)(hu:GoodW a bs.length u)(hi:i < u.length)(hj:j < u.length)(hij:i≠j)(k:Q (.rt (.int (bM bs u i j)),S)) :
  wZ Φ fuel sD [gV (.tup [m0,.tup (Hy aB ns bs),b0]),gV (am u),gV (.int i),gV (.int j)] S Q:=by
 have hpi:=aq (d:=(0,[])) hi;have hpj:=aq (d:=(0,[])) hj;unfold bM at k;dsimp only[sD];refine aF λK hK=>?_
 dsimp only[wS,wT,wE,wV,wG,CN,wO,wB,am];refine ah (Q0:=Q) (λh Q2 _ hr=>?_) (λh Q2 hn _=>?_)
 ·have hji:j < i:=by have:=IT h; omega
  rw[HV hji]at k;have hw:j < (u.getD i (0,[])).2.length:=by rw[hu.len i _ hpi]; exact hji
  refine st ?_;dsimp only[wS,wE,wV,wG];refine ae (Hu i) (cY hi) (ae #v[] rfl (ae (Hu j) ?_ (hr _ _ k)))
  rw[HF,Hq,aq (d:=0) hw]; rfl
 ·have hji:¬ j < i:=by have:=K6 h; omega
  rw[Iv hji]at k;refine aM (hn _ _ (hK _ _ ?_));clear hn hK;have hw:i < (u.getD j (0,[])).2.length:=by rw[hu.len j _ hpj]; omega
  have hg:=aq (d:=0) hw;obtain⟨g1,g2⟩:=hu.way j _ hpj _ (HC hg);obtain⟨b,hb1,hb2,hb3⟩:=hb.rng ((u.getD j (0,[])).2.getD i 0).toNat ∅
  have hn:((u.getD j (0,[])).2.getD i 0).toNat < ns.length:=∅
  rw[getD_some hb1]at k;refine st ?_;dsimp only[wS,wE,wV,wG];refine ae #v[] rfl (ae (Hu j) (cY hj) (ae #v[] rfl (ae (Hu i) ?_ (ae g1 (i4 (HE hn) hb1) (ae #v[] rfl k)))))
  rw[HF,Hq,hg]; rfl
structure Parts (defs:Hg (HJ×Df)):Prop where
 way:Is defs ("way" : HJ) 4 4 sD
 over:Is defs ("point_over" : HJ) 4 4 dQ
theorem EW (P:Parts defs){m0 b0:W}{ns:Hg HJ}{bs:Hg Hv}{a:Ho}{u:Wd}{i j:Ho}(hb:GoodB bs)(hl:ns.length=bs.length)(hu:GoodW a bs.length u)(hi:i < u.length)(hj:j < u.length)(hij:i≠j)(k:Q (.int (bM bs u i j),S)) :
  wO (aC (ak defs fuel (d+1)) "way" 4 [.tup [m0,.tup (Hy aB ns bs),b0],am u,.int i,.int j] S) Q:=
 al P.way rfl rfl λQ' hR=>xF hb hl hu hi hj hij (hR _ _ k)
theorem CW (P:Parts defs){m0 b0:W}{ns:Hg HJ}{bs:Hg Hv}{a:Ho}{u:Wd}{ps:Hg Ho}{i:Ho}(hb:GoodB bs)(hl:ns.length=bs.length)(hu:GoodW a bs.length u)(hps:∀p∈ps,p < u.length/\i≠p)(hi:i < u.length)(hsz:ps.length<=1000)(k:∀S',Ka S S'->Q (ap ((u.getD i (0,[])).1,ps.map λq=>bM bs u i q),S')) :
  wO (aC (ak defs fuel (d+2)) "point_over" 4 [.tup [m0,.tup (Hy aB ns bs),b0],am u,.tup (aD ps),.int i] S) Q:=by
 refine al P.over rfl rfl λQ' hR=>?_
 replace k:∀S',Ka S S'->Q' (.rt (ap ((u.getD i (0,[])).1,ps.map λq=>bM bs u i q)),S'):=λS' a=>hR _ _ (k S' a)
 clear hR;show wZ _ _ dQ [gV (.tup [m0,.tup (Hy aB ns bs),b0]),gV (am u),gV (.tup (aD ps)),gV (.int i)] S Q';generalize hR0:W.tup [m0,.tup (Hy aB ns bs),b0]=R;dsimp only[dQ];refine st ?_;dsimp only[wS,wE,wA,wV,wG];refine ae (Hu i) (cY hi) (ae #v[] rfl ?_)
 refine sd (aD ps) (λj ys ρ2 S2=>(∃a1,ρ2=[td,a1,gV (.int i),gV R,gV (am u)])/\ys=(ps.take j).map (λq=>W.int (bM bs u i q))/\Ka S S2) rfl rfl rfl #[rfl,#[td,rfl],rfl,.refl] ?_ ?_
 ·rintro j w ys ρ2 S2 hw ⟨⟨a1,rfl⟩,rfl,k2⟩;unfold aD at hw;rw[Hq,Hl]at hw;obtain⟨q,hq,rfl⟩:=hw;obtain⟨hqu,hqi⟩:=hps q (HC hq);refine ab (show eL (.nm 1) (.int (q:Hv)) [td,a1,gV (.int i),gV R,gV (am u)] S2=gV ([td,gV (.int (q:Hv)),gV (.int i),gV R,gV (am u)],S2)from rfl) ?_
  dsimp only[fW,wC,wE,wA,wV,wG];subst hR0;refine#[λ_=>EW (d:=d) P hb hl hu hi hqu hqi #[#[_,rfl],?_,k2],λz=>by cases z]
  rw[Iy,hq];simp
 ·rintro ys ρ2 S2 ⟨_,rfl,k2⟩;rw[show(aD ps).length=ps.length from Hh ..,IE]
  refine#[ki (by rw[Hh]; exact hsz),fH aj ?_]
  have:=k _ (k2.trans (Ka.push (o:=O.lst (ps.map λq=>W.int (bM bs u i q)))))
  unfold ap at this;rw[JW]at this;exact this
theorem EX (P:Parts defs)(hp:Is defs ("part" : HJ) 3 3 gX){m0 b0:W}{ns:Hg HJ}{bs:Hg Hv}{a:Ho}{u:Wd}{ps:Hg Ho}(hb:GoodB bs)(hl:ns.length=bs.length)(hu:GoodW a bs.length u)(hps:∀p∈ps,p < u.length)(hnd:ps.Nodup)(hsz:ps.length<=1000)(k:∀S',Ka S S'->Q (am (au bs u ps),S')) :
  wO (aC (ak defs fuel (d+3)) "part" 3 [.tup [m0,.tup (Hy aB ns bs),b0],am u,.tup (aD ps)] S) Q:=by
 refine al hp rfl rfl λQ' hR=>?_
 replace k:∀S',Ka S S'->Q' (.rt (am (au bs u ps)),S'):=λS' a=>hR _ _ (k S' a)
 clear hR;show wZ _ _ gX [gV (.tup [m0,.tup (Hy aB ns bs),b0]),gV (am u),gV (.tup (aD ps))] S Q';generalize hR0:W.tup [m0,.tup (Hy aB ns bs),b0]=R;dsimp only[gX];refine st ?_;dsimp only[wS,wE,wA];refine sf (aD ps) (λj ys ρ2 S2=>(∃a1 a2,ρ2=[td,a1,a2,gV (.tup (aD ps)),gV R,gV (am u)])/\ys=((au bs u ps).take j).map ap/\Ka S S2) rfl rfl rfl #[rfl,#[td,td,rfl],rfl,.refl] ?_ ?_
 ·rintro j w ys ρ2 S2 hw ⟨⟨a1,a2,rfl⟩,rfl,k2⟩;unfold aD at hw;rw[Hq,Hl]at hw;obtain⟨q,hq,rfl⟩:=hw;have hj:j < ps.length:=(HD.mp hq).1;have eq:q=ps[j]:=(HD.mp hq).2.symm;refine ab (show eL (.tp [1,2]) (.tup [.int (j:Hv),.int (q:Hv)]) [td,a1,a2,gV (.tup (aD ps)),gV R,gV (am u)] S2=gV ([td,gV (.int (j:Hv)),gV (.int (q:Hv)),gV (.tup (aD ps)),gV R,gV (am u)],S2)from rfl) ?_
  dsimp only[fW,wC,wE,wA,wP,wV,wG,wN];refine#[λ_=>ab (a:=(.tup (aD (ps.take j)),S2)) ?_ ?_,λz=>by cases z]
  ·simp only[jg,eh];unfold aD;rw[KZ]
  ·subst hR0;refine CW (d:=d) P hb hl hu (λp hp=>#[hps p (KJ hp),?_]) (hps q (HC hq)) (by rw[HX]; omega) λS3 k3=>#[#[_,_,rfl],?_,k2.trans k3]
   ·obtain⟨m,hm,e⟩:=Lr.mp hp;rw[HX]at hm;rw[Lf]at e;rw[eq,<- e];intro z;have:=(JX hnd).mp z;omega
   ·have ep:(au bs u ps)[j]?=gV ((u.getD q (0,[])).1,(ps.take j).map λq'=>bM bs u q q'):=by
     unfold au;rw[Hq,JP hj,Iq,getD_some hq]
    rw[Iy,ep];simp
 ·rintro ys ρ2 S2 ⟨_,rfl,k2⟩;rw[show(aD ps).length=ps.length from Hh ..,<- bv bs u ps,IE]
  exact#[ki (by rw[Hh,bv]; exact hsz),fH aj (k _ (k2.trans .push))]
end
noncomputable def kz (n:Ho):Ho->Hg (Hg Hv)
 | 0=>[[]]
 | k+1=>(HG ((kz n k).length*n)).map λi=>(kz n k).getD (i / n) []++[((i % n:Ho):Hv)]
section
variable{defs:Hg (HJ×Df)}{fuel d:Ho}{S:aa}{r:Ho}{Q:QW}
theorem EY {t l:Ho}{xs ys:Hg W}(h:S[t]?=gV (.lst xs))(h2:S[l]?=gV (.lst ys))(hl:xs.length+ys.length<=1000)(q:Q (.non,S.set t (.lst (xs++ys)))):wO (Me.extend.fn (.ref t) [.ref l] S) Q:=by
 refine ab ?_ q;simp only[Me.fn,hZ,cV h,cV h2];rw[HV (ki hl)]
end
noncomputable def sE (bs:Hg Hv)(v:Wd)(ps:Hg Ho)(i:Ho):Pt:=((v.getD i (0,[])).1,ps.map λq=>bM bs v i q)
noncomputable def ga (n:Ho)(os:Hg (Hg Ho)):Hg (Hg Ho):=os.flatMap λo=>((HG n).filter λp=>decide (p∉o)).map λp=>o++[p]
theorem l5 (bs:Hg Hv)(v:Wd)(o:Hg Ho)(p:Ho):au bs v (o++[p])=au bs v o++[sE bs v o p]:=by
 unfold au sE;rw[Hk,Ij,Jw,HR];congr 1
 ·refine IM λk hk=>?_
  have hk:=HI.mp hk;rw[show(o++[p]).getD k 0=o.getD k 0 by simp[Ii hk],List.take_append_of_le_length ∅]
 ·simp
theorem kA {α β:Type}{f g:α->Hg β}:∀ {xs:Hg α},(∀x∈xs,f x=g x)->xs.flatMap f=xs.flatMap g
 | [],_=>rfl
 | x::xs,h=>by rw[Ja,Ja,h x (.head _),kA λy hy=>h y (.tail _ hy)]
theorem pr {n:Ho}:∀os:Hg (Hg Ho),(ga n os).length<=os.length*n
 | []=>by simp[ga]
 | o::os=>by
  have ih:=pr (n:=n) os;unfold ga at ih ⊢;rw[Ja,Hk,Hh,Iw,Lz];have:=Jq (λp=>decide (p∉o)) (HG n)
  rw[Ic]at this;omega
theorem uj {n:Ho}{os:Hg (Hg Ho)}{i:Ho}:(ga n (os.take i)).length<=os.length*n:=by
 refine HZ (pr _) (MR _ ?_);rw[HX]; omega
theorem i8 {S:aa}{d:Ho}:∀xs ys:Hg Hv,fL (gP S d) (xs.map W.int) (ys.map W.int)=gV (decide (xs=ys))
 | [],[]=>rfl
 | [],_::_=>rfl
 | _::_,[]=>rfl
 | x::xs,y::ys=>by
  have e:gP S d (.int x) (.int y)=gV (x==y):=by cases d <;> rfl
  simp only[IZ,fL,e,i8 xs ys]
  by_cases h:x=y
  ·subst h; by_cases h2:xs=ys <;> simp[h2]
  ·have h':(x==y)=false:=by simpa using h
   simp[h,h']
theorem qz {S:aa}{d:Ho}(p q:Pt):gP S (d+2) (ap p) (ap q)=gV (decide (p=q)):=by
 obtain⟨m,ws⟩:=p;obtain⟨m',ws'⟩:=q;show fL (gP S (d+1)) [.int m,.tup (ws.map W.int)] [.int m',.tup (ws'.map W.int)]=_;have e:gP S (d+1) (.int m) (.int m')=gV (m==m'):=rfl;have e2:gP S (d+1) (.tup (ws.map W.int)) (.tup (ws'.map W.int))=gV (decide (ws=ws')):=i8 ws ws';simp only[fL,e,e2]
 by_cases h:m=m'
 ·subst h; by_cases h2:ws=ws' <;> simp[h2]
 ·have h':(m==m')=false:=by simpa using h
  simp[h,h']
theorem pv {S:aa}{d:Ho}:∀u v:Wd,fL (gP S (d+2)) (u.map ap) (v.map ap)=gV (decide (u=v))
 | [],[]=>rfl
 | [],_::_=>rfl
 | _::_,[]=>rfl
 | x::xs,y::ys=>by
  simp only[IZ,fL,qz,pv xs ys]
  by_cases h:x=y
  ·subst h; by_cases h2:xs=ys <;> simp[h2]
  ·simp[h]
theorem EZ {S:aa}{p q:Pt}:aL .eq (ap p) (ap q) S=gV (.bl (decide (p=q)),S):=by
 show(gP S (18+2) (ap p) (ap q)).map _=_;rw[qz]; rfl
theorem pz {p:Ho}:∀ps:Hg Ho,((aD ps).any λz=>mO z (.int p))=decide (p∈ps)
 | []=>rfl
 | q::ps=>by
  show((q:Hv)==(p:Hv)||(aD ps).any _)=_
  rw[pz ps]
  by_cases h:q=p
  ·subst h; simp
  ·have h1:((q:Hv)==(p:Hv))=false:=by simp; omega
   have h2:¬ p=q:=λe=>h e.symm
   rw[h1]; simp[h2]
theorem uk (ps:Hg Ho):(aD ps).all bB=true:=by
 rw[HP];intro x hx;obtain⟨p,_,rfl⟩:=HQ.mp hx;rfl
theorem xG {S:aa}{p:Ho}{ps:Hg Ho}:aL .notin (.int p) (.tup (aD ps)) S=gV (.bl (decide (p∉ps)),S):=by
 show dJ .notin (.int p) (.tup (aD ps)) S=_;have hf:(bB (.int p)&&(aD ps).all bB)=true:=by rw[uk]; rfl
 simp only[dJ,uF,y8,eO,hf,Km,Iq,pz];congr 3
 by_cases h:p∈ps <;> simp[h]
theorem pA {xs:Hg W}:js xs td (gV (-1))=xs.dropLast:=by
 unfold js;rw[HT.jH,OO,NN,List.dropLast_eq_take];congr 1;show(if (-1:Hv) < 0 then((-1:Hv)+(xs.length:Hv)).toNat else min (-1:Hv).toNat xs.length)=_
 rw[HV #v[]]; omega
noncomputable def aW:Ss:=
 #v[.set 2 (.lst .nil),.loop (.nm 3) (.seq (.v 0)) #v[.ex (.me .extend (.v 2) #v[.comp (.op .add (.v 2) (.tup #v[.v 1])) (.nm 1) (.rng #v[.v 1]) #v[.cmp .notin (.v 1) (.v 2)] [td,td,gV 3]])],.ret (.v 2)]
noncomputable def cr (os:Hg (Hg Ho)):Hg W:=os.map λo=>.tup (aD o)
section
variable{defs:Hg (HJ×Df)}{fuel d:Ho}{S:aa}{Q:QW}
theorem qA {t l:Ho}{xs ys:Hg W}(h:S[t]?=gV (.lst xs))(h2:S[l]?=gV (.lst ys))(hl:xs.length+ys.length<=1000000)(q:Q (.non,S.set t (.lst (xs++ys)))):wO (Me.extend.fn (.ref t) [.ref l] S) Q:=by
 refine ab ?_ q;simp only[Me.fn,hZ,cV h,cV h2];rw[HV (by rw[IL]; omega)]
theorem dR {n:Ho}(h:n<=1000000):n<=sizeLine:=by rw[IL]; omega
theorem xH (hg:Is defs ("longer_orders" : HJ) 2 4 aW){n l:Ho}{os:Hg (Hg Ho)}(e:S[l]?=gV (.lst (cr os)))(hn:n<=100)(hol:∀o∈os,o.length<=100)(hos:os.length*n<=100000)
  (k:∀(q:Ho) (S':aa),S'[q]?=gV (.lst (cr (ga n os)))->S.length<=q->Ka S S'->Q (.ref q,S')) :
  wO (aC (ak defs fuel (d+1)) "longer_orders" 2 [.ref l,.int n] S) Q:=by
 refine al hg rfl rfl λQ' hR=>?_
 replace k:∀(q:Ho) (S':aa),S'[q]?=gV (.lst (cr (ga n os)))->S.length<=q->Ka S S'->Q' (.rt (.ref q),S'):=λa b c e f=>hR _ _ (k a b c e f)
 clear hR;show wZ _ _ aW [gV (.ref l),gV (.int n),td,td] S Q';have hlS:=b6 e;dsimp only[aW];refine st ?_;dsimp only[wS,wE,wA,Hw];refine aF λK hK=>?_
 refine jC l (cr os) (λi ρ S'=>(∃a3,ρ=[gV (.ref l),gV (.int n),gV (.ref S.length),a3])/\S'[l]?=gV (.lst (cr os))/\S'[S.length]?=gV (.lst (cr (ga n (os.take i))))/\Ka S S') rfl rfl #[rfl,#[td,rfl],ar e,aj,.push] (λi ρ S' h=>h.2.1) ?_ ?_
 ·rintro i w ρ S1 hw ⟨⟨a3,rfl⟩,e0,e1,k1⟩;clear hK k;unfold cr at hw;rw[Hq,Hl]at hw;obtain⟨o,ho,rfl⟩:=hw;have hol:=hol o (HC ho);refine ab (show eL (.nm 3) (.tup (aD o)) [gV (.ref l),gV (.int n),gV (.ref S.length),a3] S1=gV ([gV (.ref l),gV (.int n),gV (.ref S.length),gV (.tup (aD o))],S1)from rfl) ?_
  intro Q2 hn _;refine st ?_;dsimp only[wS,wE,wA,wV,wG];refine#[dF e1,?_];refine eB (n:Hv) (λj ys ρ2 S2=>(∃a1,ρ2=[td,a1,gV (.tup (aD o))])/\ys=cr (((HG j).filter λp=>decide (p∉o)).map λp=>o++[p])/\S2=S1) rfl rfl rfl ∅ #[rfl,#[td,rfl],rfl,rfl] ?_ ?_
  ·rintro j ys ρ2 S2 hj ⟨⟨a1,rfl⟩,rfl,rfl⟩;dsimp only[fW,wC,wE,wA,wV,wG,Hw];refine ab xG ?_;dsimp only[wB];have er:(HG (j+1)).filter (λp=>decide (p∉o))=(HG j).filter (λp=>decide (p∉o))++(if j∉o then[j]else[]):=by
    rw[Jw,JG];congr 1
    by_cases h:j∈o <;> simp[h]
   refine#[λh=>?_,λh=>#[#[_,rfl],?_,rfl]]
   ·have h:j∉o:=IT h;refine ab (bF (dR (by rw[Hk,show(aD o).length=o.length from Hh ..]; show _+1<=_; omega))) #[#[_,rfl],?_,rfl]
    rw[er,HV h,HR];unfold cr;rw[HR];simp[aD]
   ·have h:¬ j∉o:=K6 h;rw[er,Iv h,Jl]
  ·rintro ys ρ2 S2 ⟨_,rfl,rfl⟩;rw[HF];have hlen:(cr (((HG n).filter λp=>decide (p∉o)).map λp=>o++[p])).length<=n:=by
    unfold cr;rw[Hh,Hh];exact HZ (Jq _ _) (by rw[Ic]; exact Hz _)
   have e1':=ar (u:=O.lst (cr (((HG n).filter λp=>decide (p∉o)).map λp=>o++[p]))) e1
   have hlt:=uj (n:=n) (os:=os) (i:=i);have hlw:(cr (ga n (os.take i))).length=(ga n (os.take i)).length:=Hh ..;refine#[dR ∅,qA e1' aj ∅ (aM (hn _ _ #[#[_,rfl],?_,?_,(k1.trans .push).late (Hz _)]))]
   ·rw[bh ∅]; exact ar e0
   ·rw[bG e1'];unfold ga cr;rw[Iy,ho];simp
 ·rintro ρ S1 ⟨⟨a3,rfl⟩,e0,e1,k1⟩;rw[show(cr os).length=os.length from Hh ..,IE]at e1
  exact hK _ _ (st (k _ _ e1 (Hz _) k1))
end
theorem xI {S:aa}{i j:Ho}{xs ys:Hg Hv}(h1:S[i]?=gV (.lst (xs.map W.int)))(h2:S[j]?=gV (.lst (ys.map W.int))):aL .eq (.ref i) (.ref j) S=gV (.bl (decide (xs=ys)),S):=by
 show(gP S (19+1) (.ref i) (.ref j)).map _=_;simp only[gP,cV h1,cV h2,i8];split
 ·rfl
 ·rename_i h;have:xs≠ys:=λe=>h (by rw[e])
  simp[this]
theorem CY {n k:Ho}{ds:Hg Hv}:ds∈kz n k->ds.length=k/\∀w∈ds,0<=w/\w < (n:Hv):=by
 induction k generalizing ds with
 | zero=>intro h; cases HB.mp h; exact#[rfl,λw hw=>nomatch hw]
 | succ k ih=>
  intro h;obtain⟨i,hi,rfl⟩:=HQ.mp h;have hi:=HI.mp hi;have hn:0 < n:=by
   rcases Nat.eq_zero_or_pos n with h|h
   ·rw[h,Nat.mul_zero]at hi; omega
   ·exact h
  have hlt:i / n < (kz n k).length:=Nat.div_lt_of_lt_mul (by rw[Pf]; exact hi)
  obtain⟨h1,h2⟩:=ih (HC (aq (d:=[]) hlt));refine#[by rw[Hk,h1]; rfl,λw hw=>?_]
  rcases HY.mp hw with h|h
  ·exact h2 w h
  ·rw[HB.mp h];have:=Nat.mod_lt i hn;omega
noncomputable def aX:Ss:=
 #v[.set 4 (.tup #v[.ix (.ix (.v 0) (.v 1)) (.c (.int 0)),.tup .nil]),.set 5 (.tup #v[.ix (.ix (.v 0) (.v 2)) (.c (.int 0)),.tup #v[.ix (.ix (.ix (.v 0) (.v 2)) (.c (.int 1))) (.v 1)]]),.ret (.tup #v[.v 4,.v 5,.tup #v[.ix (.ix (.v 0) (.v 3)) (.c (.int 0)),.tup #v[.ix (.ix (.ix (.v 0) (.v 3)) (.c (.int 1))) (.v 1),.ix (.ix (.ix (.v 0) (.v 3)) (.c (.int 1))) (.v 2)]]])]
noncomputable def bW (u:Wd)(i j k:Ho):Wd:=[((u.getD i (0,[])).1,[]),((u.getD j (0,[])).1,[(u.getD j (0,[])).2.getD i 0]),((u.getD k (0,[])).1,[(u.getD k (0,[])).2.getD i 0,(u.getD k (0,[])).2.getD j 0])]
section
variable{defs:Hg (HJ×Df)}{fuel d:Ho}{S:aa}{Q:QW}
theorem nP (hg:Is defs ("three_at" : HJ) 4 6 aX){a n:Ho}{u:Wd}{i j k:Ho}(hu:GoodW a n u)(h1:i < j)(h2:j < k)(h3:k < u.length)(q:Q (am (bW u i j k),S)) :
  wO (aC (ak defs fuel (d+1)) "three_at" 4 [am u,.int i,.int j,.int k] S) Q:=by
 refine al hg rfl rfl λQ' hR=>?_
 replace q:=hR _ _ q;clear hR;show wZ _ _ aX [gV (am u),gV (.int i),gV (.int j),gV (.int k),td,td] S Q';have hi:i < u.length:=∅
 have hj:j < u.length:=∅
 have lj:i < (u.getD j (0,[])).2.length:=by rw[hu.len j _ (aq (d:=(0,[])) hj)]; exact h1
 have lk:j < (u.getD k (0,[])).2.length:=by rw[hu.len k _ (aq (d:=(0,[])) h3)]; exact h2
 have lki:i < (u.getD k (0,[])).2.length:=∅
 have w:∀ {p m:Ho},m < (u.getD p (0,[])).2.length->((u.getD p (0,[])).2.map W.int)[((m:Ho):Hv).toNat]?=gV (.int ((u.getD p (0,[])).2.getD m 0)):=λ{p m} h=>by
  rw[HF,Hq,aq (d:=0) h]; rfl
 dsimp only[aX];refine st ?_;dsimp only[wS,wE,wA,wV,wG,Hw];refine ae (Hu i) (cY hi) (ae #v[] rfl ?_)
 refine st ?_;dsimp only[wS,wE,wA,wV,wG,Hw];refine ae (Hu j) (cY hj) (ae #v[] rfl (ae (Hu j) (cY hj) (ae #v[] rfl (ae (Hu i) (w lj) ?_))))
 refine st ?_;dsimp only[wS,wE,wA,wV,wG,Hw];exact ae (Hu k) (cY h3) (ae #v[] rfl (ae (Hu k) (cY h3) (ae #v[] rfl (ae (Hu i) (w lki) (ae (Hu k) (cY h3) (ae #v[] rfl (ae (Hu j) (w lk) q)))))))
end
noncomputable def bf (i j k i' j' k':Ho):Prop:=i' < i\/(i'=i/\(j' < j\/(j'=j/\k' < k)))
noncomputable def CZ (P:Ho->Ho->Ho->HU)(n i j k:Ho):Prop:=i < j/\j < k/\k < n/\P i j k=true/\∀i' j' k',i' < j'->j' < k'->k' < n->bf i j k i' j' k'->P i' j' k'=false
noncomputable def Ans (P:Ho->Ho->Ho->HU)(n:Ho)(w:W):Prop:=(w=.non/\∀i j k,i < j->j < k->k < n->P i j k=false)\/∃i j k:Ho,w=.tup [.int i,.int j,.int k]/\CZ P n i j k
theorem Ans.congr {P P':Ho->Ho->Ho->HU}{n:Ho}{w:W}(e:∀i j k,i < j->j < k->k < n->P i j k=P' i j k)(h:Ans P n w):Ans P' n w:=by
 rcases h with⟨rfl,h⟩|⟨i,j,k,rfl,a1,a2,a3,a4,a5⟩
 ·exact .inl #[rfl,λi j k b1 b2 b3=>by rw[<- e i j k b1 b2 b3]; exact h i j k b1 b2 b3]
 ·exact .inr #[i,j,k,rfl,a1,a2,a3,by rw[<- e i j k a1 a2 a3]; exact a4,λi' j' k' b1 b2 b3 b4=>by rw[<- e i' j' k' b1 b2 b3]; exact a5 i' j' k' b1 b2 b3 b4]
noncomputable def bT:Ss:=
 #v[.loop (.nm 2) (.rng #v[.bi .len #v[.v 1]]) #v[.loop (.nm 3) (.rng2 #v[.op .add (.v 2) (.c (.int 1)),.bi .len #v[.v 1]]) #v[.loop (.nm 4) (.rng2 #v[.op .add (.v 3) (.c (.int 1)),.bi .len #v[.v 1]]) #v[.ite (.cmp .isin (.own "three_at" 4 #v[.v 1,.v 2,.v 3,.v 4]) (.v 0)) #v[.ret (.tup #v[.v 2,.v 3,.v 4])] .nil]]],.ret (.c .non)]
noncomputable def bH (kvs:Hg (T×W))(u:Wd)(i j k:Ho):HU:=(aK kvs (dq (bW u i j k))).isSome
section
variable{defs:Hg (HJ×Df)}{fuel d:Ho}{S:aa}{Q:QW}
theorem lh (h3:Is defs ("three_at" : HJ) 4 6 aX)(hg:Is defs ("first_three" : HJ) 2 5 bT){a n q:Ho}{u:Wd}{kvs:Hg (T×W)}(hu:GoodW a n u)(hl:u.length<=1000)(e:S[q]?=gV (.dic kvs))(kk:∀w,Ans (bH kvs u) u.length w->Q (w,S)) :
  wO (aC (ak defs fuel (d+2)) "first_three" 2 [.ref q,am u] S) Q:=by
 refine al hg rfl rfl λQ' hR=>?_
 replace kk:∀w,Ans (bH kvs u) u.length w->Q' (.rt w,S):=λw h=>hR _ _ (kk w h)
 clear hR;show wZ _ _ bT [gV (.ref q),gV (am u),td,td,td] S Q';have ul:(u.map ap).length=u.length:=Hh ..;dsimp only[bT];refine aF λK hK=>?_
 refine bC (u.length:Hv) (λi ρ S'=>(∃a2 a3 a4,ρ=[gV (.ref q),gV (am u),a2,a3,a4])/\S'=S/\∀i' j' k',i' < i->i' < j'->j' < k'->k' < u.length->bH kvs u i' j' k'=false) rfl rfl ∅ ?_ ?_ ?_
 ·dsimp only[wE,wA,wV,wG];refine ay ?_;rw[ul];exact#[rfl,#[_,_,_,rfl],rfl,λi' _ _ z=>∅]
 ·rintro i ρ S1 hi ⟨⟨a2,a3,a4,rfl⟩,rfl,no⟩ Q2 hn hr;clear hK;dsimp only[Hw];refine aF λK hK=>?_
  refine cx ((i:Hv)+1) (u.length:Hv) (λm ρ S'=>(∃a3 a4,ρ=[gV (.ref q),gV (am u),gV (.int i),a3,a4])/\S'=S1/\∀j' k',j' < i+1+m->i < j'->j' < k'->k' < u.length->bH kvs u i j' k'=false) rfl rfl rfl ∅ ?_ ?_ ?_
  ·dsimp only[wE,wA,wV,wG];refine ab cp #[rfl,ay ?_];rw[ul];exact#[rfl,#[_,_,rfl],rfl,λj' k' z1 z2=>∅]
  ·rintro m ρ S2 hm ⟨⟨a3,a4,rfl⟩,rfl,no2⟩ Q3 hn3 hr3;clear hK;have ej:(i:Hv)+1+m=((i+1+m:Ho):Hv):=∅
   rw[ej];generalize hj:i+1+m=j at no2 hn3 ej;have hij:i < j:=∅
   have hju:j < u.length:=∅
   dsimp only[Hw];refine aF λK hK=>?_
   refine cx ((j:Hv)+1) (u.length:Hv) (λl ρ S'=>(∃a4,ρ=[gV (.ref q),gV (am u),gV (.int i),gV (.int j),a4])/\S'=S2/\∀k',k' < j+1+l->j < k'->k' < u.length->bH kvs u i j k'=false) rfl rfl rfl ∅ ?_ ?_ ?_
   ·dsimp only[wE,wA,wV,wG];refine ab cp #[rfl,ay ?_];rw[ul];exact#[rfl,#[_,rfl],rfl,λk' z1 z2=>∅]
   ·rintro l ρ S3 hl3 ⟨⟨a4,rfl⟩,rfl,no3⟩ Q4 hn4 hr4;clear hK;have ek:(j:Hv)+1+l=((j+1+l:Ho):Hv):=∅
    rw[ek];generalize hk:j+1+l=k at no3 hn4 ek;have hjk:j < k:=∅
    have hku:k < u.length:=∅
    dsimp only[Hw];refine aF λK hK=>?_
    dsimp only[wS,wT,wE,wA,wV,wG];refine nP (d:=d) h3 hu hij hjk hku ?_;refine ab (show aL .isin (am (bW u i j k)) (.ref q) S3=gV (.bl (bH kvs u i j k),S3) by simp only[aL,bJ e,gW]; rfl) ?_
    dsimp only[wB];refine ah (Q0:=Q4) (λh Q5 _ hr5=>?_) (λh Q5 hn5 _=>aM (hn5 _ _ (hK _ _ (aM (hn4 _ _ #[#[_,rfl],rfl,λk' z1 z2 z3=>?_])))))
    ·refine st ?_;dsimp only[wS,wE,wA,wV,wG];refine hr5 _ _ (hr4 _ _ (hr3 _ _ (hr _ _ (kk _ (.inr #[i,j,k,rfl,hij,hjk,hku,h,λi' j' k' b1 b2 b3 b4=>?_])))))
     rcases b4 with b|⟨rfl,b|⟨rfl,b⟩⟩
     ·exact no i' j' k' b b1 b2 b3
     ·exact no2 j' k' b b1 b2 b3
     ·exact no3 k' b b2 b3
    ·by_cases ek2:k'=k
     ·rw[ek2]; exact h
     ·exact no3 k' ∅ z2 z3
   ·rintro ρ S3 ⟨⟨a4,rfl⟩,rfl,no3⟩;refine hK _ _ (aM (hn3 _ _ #[#[_,_,rfl],rfl,λj' k' z1 z2 z3 z4=>?_]))
    by_cases ej2:j'=j
    ·rw[ej2]; exact no3 k' ∅ ∅ z4
    ·exact no2 j' k' ∅ z2 z3 z4
  ·rintro ρ S2 ⟨⟨a3,a4,rfl⟩,rfl,no2⟩;refine hK _ _ (aM (hn _ _ #[#[_,_,_,rfl],rfl,λi' j' k' z1 z2 z3 z4=>?_]))
   by_cases ei:i'=i
   ·rw[ei]; exact no2 j' k' ∅ ∅ z3 z4
   ·exact no i' j' k' ∅ z2 z3 z4
 ·rintro ρ S1 ⟨⟨a2,a3,a4,rfl⟩,rfl,no⟩;refine hK _ _ (st ?_);dsimp only[wS,wE];exact kk _ (.inl #[rfl,λi j k b1 b2 b3=>no i j k ∅ b1 b2 b3])
end
structure HasD (kvs:Hg (T×W))(L:Hg Wd):Prop where
 iff:∀t,t∈kvs.map (·.1)↔t∈L.map dq
 len:kvs.length<=L.length
theorem xJ {kvs:Hg (T×W)}{t:T}:(aK kvs t).isSome=true↔t∈kvs.map (·.1):=by
 constructor
 ·intro h;obtain⟨v,hv⟩:=IP.mp h;exact HQ.mpr #[_,kw hv,rfl]
 ·intro h;obtain⟨p,hp,rfl⟩:=HQ.mp h;obtain⟨v,hv⟩:=sA hp;rw[hv]; rfl
theorem HasD.get {kvs:Hg (T×W)}{L:Hg Wd}(h:HasD kvs L)(t:T):(aK kvs t).isSome=decide (t∈L.map dq):=by
 rw[Kb,xJ,h.iff,Io]
theorem HasD.nil:HasD [] []:=#[λt=>by simp,Hz _]
theorem HasD.put {kvs:Hg (T×W)}{L:Hg Wd}{f:Wd}{v:W}(h:HasD kvs L):HasD (eu kvs (dq f) v) (L++[f]):=by
 refine#[λt=>?_,?_]
 ·rw[i5,HR,HY,<- h.iff t]
  by_cases hk:dq f∈kvs.map (·.1)
  ·rw[HV hk];constructor
   ·exact .inl
   ·rintro(z|z)
    ·exact z
    ·rw[HB.mp z]; exact hk
  ·rw[Iv hk,HY]; rfl
 ·have:=cN kvs (dq f) v;have:=h.len;rw[Hk,Ij]; omega
noncomputable def eT:Ss:=
 #v[.set 1 .dnew,.loop (.nm 2) (.seq (.ix (.v 0) (.c (.int 2)))) #v[.loop (.nm 3) (.seq (.own "_law_turns" 0 .nil)) #v[.put (.v 1) (.own "_law_part" 3 #v[.v 0,.v 2,.v 3]) (.c (.bl true))]],.ret (.v 1)]
noncomputable def br (bs:Hg Hv)(gs:Hg Wd):Hg Wd:=gs.flatMap λg=>aw.map (au bs g)
theorem kB (bs:Hg Hv):∀gs:Hg Wd,(br bs gs).length=6*gs.length
 | []=>rfl
 | g::gs=>by
  have:=kB bs gs;unfold br at this ⊢;rw[Ja,Hk,this,Iw,Hh,show aw.length=6 from rfl]; omega
section
variable{defs:Hg (HJ×Df)}{fuel d:Ho}{S:aa}{Q:QW}
theorem Bf (G:Gen defs)(hg:Is defs ("_law_bad" : HJ) 1 4 eT){m0:W}{ns:Hg HJ}{bs:Hg Hv}{a:Ho}{gs:Hg Wd}(hb:GoodB bs)(hnl:ns.length=bs.length)(hgs:∀g∈gs,GoodW a bs.length g/\g.length=3)(h64:gs.length<=100)
  (k:∀(q:Ho) (kvs:Hg (T×W)) (S':aa),S'[q]?=gV (.dic kvs)->HasD kvs (br bs gs)->S.length<=q->Ka S S'->Q (.ref q,S')) :
  wO (aC (ak defs fuel (d+3)) "_law_bad" 1 [.tup [m0,.tup (Hy aB ns bs),.tup (gs.map am)]] S) Q:=by
 refine al hg rfl rfl λQ' hR=>?_
 replace k:∀(q:Ho) (kvs:Hg (T×W)) (S':aa),S'[q]?=gV (.dic kvs)->HasD kvs (br bs gs)->S.length<=q->Ka S S'->Q' (.rt (.ref q),S'):=λa b c e f g h=>hR _ _ (k a b c e f g h)
 clear hR;show wZ _ _ eT [gV (.tup [m0,.tup (Hy aB ns bs),.tup (gs.map am)]),td,td,td] S Q';generalize hR0:W.tup [m0,.tup (Hy aB ns bs),.tup (gs.map am)]=R;dsimp only[eT];refine st ?_;dsimp only[wS,wE,Hw];refine aF λK hK=>?_
 refine for_tup (gs.map am) (λi ρ S'=>(∃a2 a3,ρ=[gV R,gV (.ref S.length),a2,a3])/\(∃kvs,S'[S.length]?=gV (.dic kvs)/\HasD kvs (br bs (gs.take i)))/\Ka S S') rfl rfl ?_ ?_ ?_
 ·dsimp only[wE,wV,wG];subst hR0;exact ae #v[] rfl #[rfl,#[_,_,rfl],#[[],aj,.nil],.push]
 ·rintro i w ρ S1 hw ⟨⟨a2,a3,rfl⟩,⟨kvs,e1,h1⟩,k1⟩;clear hK k;rw[Hq,Hl]at hw;obtain⟨g,hg1,rfl⟩:=hw;obtain⟨gg,g3⟩:=hgs g (HC hg1);have hi:i < gs.length:=(HD.mp hg1).1;refine ab (show eL (.nm 2) (am g) [gV R,gV (.ref S.length),a2,a3] S1=gV ([gV R,gV (.ref S.length),gV (am g),a3],S1)from rfl) ?_
  intro Q2 hn _;refine aF λK hK=>?_
  refine c7 rfl rfl ?_;dsimp only[wE,wA];refine jD (d:=d+1) G ?_;refine#[S1.length,aw.map (λt=>W.tup (aD t)),(λj ρ S'=>(∃a3,ρ=[gV R,gV (.ref S.length),gV (am g),a3])/\(∃kvs,S'[S.length]?=gV (.dic kvs)/\HasD kvs (br bs (gs.take i)++(aw.take j).map (au bs g)))/\S'[S1.length]?=gV (.lst (aw.map λt=>W.tup (aD t)))/\Ka S S'),rfl,#[#[_,rfl],#[kvs,ar e1,by rw[MS,NL,Jl]; exact h1],aj,k1.trans .push],λj ρ S' h=>h.2.2.1,?_,?_]
  ·rintro j w ρ S2 hw ⟨⟨a3,rfl⟩,⟨kvs2,e2,h2⟩,el,k2⟩;clear hK hn;rw[Hq,Hl]at hw;obtain⟨t,ht,rfl⟩:=hw;have htm:=HC ht;have tk:t.length<=3/\t.Nodup/\∀p∈t,p < 3:=by
    have:∀t∈aw,t.length<=3/\t.Nodup/\∀p∈t,p < 3:=by decide
    exact this t htm
   refine ab (show eL (.nm 3) (.tup (aD t)) [gV R,gV (.ref S.length),gV (am g),a3] S2=gV ([gV R,gV (.ref S.length),gV (am g),gV (.tup (aD t))],S2)from rfl) ?_
   intro Q3 hn3 _;refine st ?_;dsimp only[wS,wE,wA,wV,wG];subst hR0;refine w9 (d:=d) G hb hnl gg (λp hp=>by have:=tk.2.2 p hp; omega) tk.2.1 ∅ λS3 k3=>?_
   have e3:=k3.get _ _ e2;have hlt:kvs2.length < sizeLine:=by
    have b1:=h2.len;have b2:=kB bs (gs.take i);rw[Hk,b2,Hh,HX,HX,show aw.length=6 from rfl]at b1
    rw[IL]; omega
   refine ab (xn e3 hlt) (aM (hn3 _ _ #[#[_,rfl],#[_,bG e3,?_],?_,(k2.trans k3).late (Hz _)]))
   ·rw[Iy,ht,HR,<- KA];exact h2.put
   ·rw[bh (by have:=k1.len; have:=b6 e1; omega)]; exact k3.get _ _ el
  ·rintro ρ S2 ⟨⟨a3,rfl⟩,⟨kvs2,e2,h2⟩,el,k2⟩;rw[Hh,IE]at h2;refine hK _ _ (aM (hn _ _ #[#[_,_,rfl],#[kvs2,e2,?_],k2]));unfold br at h2 ⊢;rw[Iy,hg1,JQ]
   simpa using h2
 ·rintro ρ S1 ⟨⟨a2,a3,rfl⟩,⟨kvs,e1,h1⟩,k1⟩;rw[Hh,IE]at h1;exact hK _ _ (st (k _ kvs S1 e1 h1 (Hz _) k1))
end
noncomputable def bx:Ss:=
 #v[.set 1 (.lst #v[.tup .nil]),.whl (.cmp .lt (.bi .len #v[.ix (.v 1) (.c (.int 0))]) (.c (.int 3))) #v[.set 1 (.own "longer_orders" 2 #v[.v 1,.c (.int 3)])],.set 2 .dnew,.loop (.nm 3) (.seq (.ix (.v 0) (.c (.int 2)))) #v[.loop (.nm 4) (.seq (.v 1)) #v[.put (.v 2) (.own "part" 3 #v[.v 0,.v 3,.v 4]) (.c (.bl true))]],.ret (.v 2)]
noncomputable def um:Ho->Hg (Hg Ho)
 | 0=>[[]]
 | i+1=>ga 3 (um i)
theorem uq:um 3=aw:=by decide
theorem C0:∀i,i<=3->(∃o,(um i)[0]?=gV o/\o.length=i)/\(um i).length<=6/\∀o∈um i,o.length<=3:=λi hi=>by
 rcases(show i=0\/i=1\/i=2\/i=3 by omega)with rfl|rfl|rfl|rfl
 ·exact#[#[[],rfl,rfl],#v[],#v[]]
 ·exact#[#[[0],rfl,rfl],#v[],#v[]]
 ·exact#[#[[0,1],rfl,rfl],#v[],#v[]]
 ·exact#[#[[0,1,2],rfl,rfl],#v[],#v[]]
section
variable{defs:Hg (HJ×Df)}{fuel d:Ho}{S:aa}{Q:QW}
theorem kC (hfu:20 < fuel)(P:Parts defs)(hp:Is defs ("part" : HJ) 3 3 gX)(hl:Is defs ("longer_orders" : HJ) 2 4 aW)(hg:Is defs ("barred_threes" : HJ) 1 5 bx){m0:W}{ns:Hg HJ}{bs:Hg Hv}{a:Ho}{gs:Hg Wd}(hb:GoodB bs)(hnl:ns.length=bs.length)(hgs:∀g∈gs,GoodW a bs.length g/\g.length=3)(h64:gs.length<=100)
  (k:∀(q:Ho) (kvs:Hg (T×W)) (S':aa),S'[q]?=gV (.dic kvs)->HasD kvs (br bs gs)->S.length<=q->Ka S S'->Q (.ref q,S')) :
  wO (aC (ak defs fuel (d+4)) "barred_threes" 1 [.tup [m0,.tup (Hy aB ns bs),.tup (gs.map am)]] S) Q:=by
 refine al hg rfl rfl λQ' hR=>?_
 replace k:∀(q:Ho) (kvs:Hg (T×W)) (S':aa),S'[q]?=gV (.dic kvs)->HasD kvs (br bs gs)->S.length<=q->Ka S S'->Q' (.rt (.ref q),S'):=λa b c e f g h=>hR _ _ (k a b c e f g h)
 clear hR;show wZ _ _ bx [gV (.tup [m0,.tup (Hy aB ns bs),.tup (gs.map am)]),td,td,td,td] S Q';generalize hR0:W.tup [m0,.tup (Hy aB ns bs),.tup (gs.map am)]=R;dsimp only[bx];refine st ?_;dsimp only[wS,wE,wA,Hw];refine aF λK hK=>?_
 refine ER (λm ρ S'=>∃(i q:Ho),i+m=3/\ρ=[gV R,gV (.ref q),td,td,td]/\S'[q]?=gV (.lst (cr (um i)))/\S.length<=q/\Ka S S') 3 rfl rfl ∅ #[0,S.length,rfl,rfl,aj,Hz _,.push] ?_
 rintro m ρ S1 ⟨i,q,him,rfl,e1,hq,k1⟩;obtain⟨⟨o,ho,hol⟩,l6,l3⟩:=C0 i ∅
 dsimp only[wT,wE,wA,wV,wG];refine kj (w:=.tup (aD o)) e1 #v[] (by unfold cr; rw[Hq,show((0:Hv).toNat)=0 from rfl,ho]; rfl) (ay ?_)
 rw[show(aD o).length=o.length from Hh ..,hol]
 dsimp only[wD,aO,wB];refine#[λh=>?_,λh=>?_]
 ·have h:(i:Hv) < 3:=IT h;refine#[m - 1,∅,λQ2 hn _=>?_]
  clear hK k;refine st ?_;dsimp only[wS,wE,wA,wV,wG,Hw];refine xH (n:=3) (d:=d+2) hl e1 #v[] (λo ho=>by have:=l3 o ho; omega) ∅ λq2 S2 e2 hq2 k2=>aM (hn _ _ #[i+1,q2,∅,rfl,e2,?_,k1.trans k2])
  exact HZ k1.len hq2
 ·have h:¬ (i:Hv) < 3:=K6 h;obtain rfl:i=3:=∅
  rw[uq]at e1;refine hK _ _ ?_;clear hK K l6 l3 ho hol h him;refine st ?_;dsimp only[wS,wE,Hw];refine aF λK hK=>?_
  have hq1:=b6 e1;refine for_tup (gs.map am) (λi ρ S'=>(∃a3 a4,ρ=[gV R,gV (.ref q),gV (.ref S1.length),a3,a4])/\(∃kvs,S'[S1.length]?=gV (.dic kvs)/\HasD kvs (br bs (gs.take i)))/\S'[q]?=gV (.lst (cr aw))/\Ka S S') rfl rfl ?_ ?_ ?_
  ·dsimp only[wE,wV,wG];subst hR0;exact ae #v[] rfl #[rfl,#[_,_,rfl],#[[],aj,.nil],ar e1,k1.trans .push]
  ·rintro i w ρ S2 hw ⟨⟨a3,a4,rfl⟩,⟨kvs,e2,h2⟩,el2,k2⟩;clear hK k;rw[Hq,Hl]at hw;obtain⟨g,hg1,rfl⟩:=hw;obtain⟨gg,g3⟩:=hgs g (HC hg1);have hi:i < gs.length:=(HD.mp hg1).1;refine ab (show eL (.nm 3) (am g) [gV R,gV (.ref q),gV (.ref S1.length),a3,a4] S2=gV ([gV R,gV (.ref q),gV (.ref S1.length),gV (am g),a4],S2)from rfl) ?_
   intro Q2 hn _;refine aF λK hK=>?_
   refine jC q (cr aw) (λj ρ S'=>(∃a4,ρ=[gV R,gV (.ref q),gV (.ref S1.length),gV (am g),a4])/\(∃kvs,S'[S1.length]?=gV (.dic kvs)/\HasD kvs (br bs (gs.take i)++(aw.take j).map (au bs g)))/\S'[q]?=gV (.lst (cr aw))/\Ka S S') rfl rfl #[rfl,#[_,rfl],#[kvs,e2,by rw[MS,NL,Jl]; exact h2],el2,k2] (λj ρ S' h=>h.2.2.1) ?_ ?_
   ·rintro j w ρ S3 hw ⟨⟨a4,rfl⟩,⟨kvs3,e3,h3⟩,el3,k3⟩;clear hK hn;unfold cr at hw;rw[Hq,Hl]at hw;obtain⟨t,ht,rfl⟩:=hw;have tk:t.length<=3/\t.Nodup/\∀p∈t,p < 3:=by
     have:∀t∈aw,t.length<=3/\t.Nodup/\∀p∈t,p < 3:=by decide
     exact this t (HC ht)
    refine ab (show eL (.nm 4) (.tup (aD t)) [gV R,gV (.ref q),gV (.ref S1.length),gV (am g),a4] S3=gV ([gV R,gV (.ref q),gV (.ref S1.length),gV (am g),gV (.tup (aD t))],S3)from rfl) ?_
    intro Q3 hn3 _;refine st ?_;dsimp only[wS,wE,wA,wV,wG];subst hR0;refine EX (d:=d) P hp hb hnl gg (λp hp=>by have:=tk.2.2 p hp; omega) tk.2.1 ∅ λS4 k4=>?_
    have e4:=k4.get _ _ e3;have hlt:kvs3.length < sizeLine:=by
     have b1:=h3.len;have b2:=kB bs (gs.take i);rw[Hk,b2,Hh,HX,HX,show aw.length=6 from rfl]at b1
     rw[IL]; omega
    refine ab (xn e4 hlt) (aM (hn3 _ _ #[#[_,rfl],#[_,bG e4,?_],?_,(k3.trans k4).late k1.len]))
    ·rw[Iy,ht,HR,<- KA];exact h3.put
    ·rw[bh ∅]; exact k4.get _ _ el3
   ·rintro ρ S3 ⟨⟨a4,rfl⟩,⟨kvs3,e3,h3⟩,el3,k3⟩;rw[show(cr aw).length=aw.length from Hh ..,IE]at h3
    refine hK _ _ (aM (hn _ _ #[#[_,_,rfl],#[kvs3,e3,?_],el3,k3]));unfold br at h3 ⊢;rw[Iy,hg1,JQ]
    simpa using h3
  ·rintro ρ S2 ⟨⟨a3,a4,rfl⟩,⟨kvs,e2,h2⟩,el2,k2⟩;rw[Hh,IE]at h2;exact hK _ _ (st (k _ kvs S2 e2 h2 k1.len k2))
end
noncomputable def aP:Ss:=
 #v[.loop (.nm 6) (.rng2 #v[.bi .len #v[.v 5],.bi .len #v[.v 3]]) #v[.set 7 (.lst .nil),.loop (.nm 8) (.rng #v[.bi .len #v[.ix (.v 1) (.c (.int 1))]]) #v[.set 9 (.lst .nil),.loop (.nm 10) (.rng #v[.v 6]) #v[.ex (.me .append (.v 9) #v[.cmp .isin (.tup #v[.tup #v[.ix (.ix (.v 3) (.v 10)) (.c (.int 0)),.tup .nil],.tup #v[.ix (.ix (.v 3) (.v 6)) (.c (.int 0)),.tup #v[.ix (.ix (.ix (.v 3) (.v 6)) (.c (.int 1))) (.v 10)]],.tup #v[.v 4,.tup #v[.ix (.v 5) (.v 10),.v 8]]]) (.v 2)])],.ite (.cmp .notin (.c (.bl true)) (.v 9)) #v[.ex (.me .append (.v 7) #v[.v 8])] .nil],.ite (.cmp .eq (.v 7) (.lst .nil)) #v[.ret (.c .non)] .nil,.set 5 (.op .add (.v 5) (.tup #v[.ix (.v 7) (.own "_law_pick" 2 #v[.v 0,.bi .len #v[.v 7]])]))],.ret (.v 5)]
noncomputable def bp (kvs:Hg (T×W))(u:Wd)(mk:Hv)(i m:Ho)(x y:Hv):HU:=(aK kvs (dq [((u.getD i (0,[])).1,[]),((u.getD m (0,[])).1,[(u.getD m (0,[])).2.getD i 0]),(mk,[x,y])])).isSome
theorem xK {S:aa}{l:Ho}{bl:Hg HU}(h:S[l]?=gV (.lst (bl.map W.bl))):∃b,aL .notin (.bl true) (.ref l) S=gV (.bl b,S)/\(b=true->∀x∈bl,x=false):=by
 have hf:(bB (.bl true)&&(bl.map W.bl).all bB)=true:=by
  simp only[bB,KW,HP];intro x hx;obtain⟨z,_,rfl⟩:=HQ.mp hx;rfl
 refine#[!(bl.map W.bl).any λz=>mO z (.bl true),?_,λhb x hx=>?_]
 ·simp only[aL,nH h,dJ,uF,y8,eO,aJ h,hf,Km,Iq]
 ·rw[Kf,NU]at hb;cases x with
  | false=>rfl
  | true=>exact absurd rfl (hb (.bl true) (HQ.mpr #[true,hx,rfl]))
section
variable{defs:Hg (HJ×Df)}{fuel d:Ho}{S:aa}{r:Ho}{Q:QW}
theorem kD (G:Gen defs)(hg:Is defs ("_law_new_ways" : HJ) 6 11 aP){m0 b0:W}{N:Hg W}{a n q:Ho}{u:Wd}{mk:Hv}{kvs:Hg (T×W)}(hN:N.length=n)(hn3:n<=3)(hu:GoodW a n u)(hl:u.length<=900)(e:S[q]?=gV (.dic kvs))(hqr:q≠r)(hf:Fl S r)
  (k:∀w S',(w=.non\/∃to:Hg Hv,w=.tup (ac to)/\to.length=u.length/\(∀x∈to,0<=x/\x < (n:Hv))/\∀j < u.length,∀i < j,bp kvs u mk i j (to.getD i 0) (to.getD j 0)=false)->Fl S' r->Kp r S S'->Q (w,S')) :
  wO (aC (ak defs fuel (d+2)) "_law_new_ways" 6 [.ref r,.tup [m0,.tup N,b0],.ref q,am u,.int mk,.tup []] S) Q:=by
 refine al hg rfl rfl λQ' hR=>?_
 replace k:∀w S',(w=.non\/∃to:Hg Hv,w=.tup (ac to)/\to.length=u.length/\(∀x∈to,0<=x/\x < (n:Hv))/\∀j < u.length,∀i < j,bp kvs u mk i j (to.getD i 0) (to.getD j 0)=false)->Fl S' r->Kp r S S'->Q' (.rt w,S'):=λw S' h1 h2 h3=>hR _ _ (k w S' h1 h2 h3)
 clear hR;show wZ _ _ aP [gV (.ref r),gV (.tup [m0,.tup N,b0]),gV (.ref q),gV (am u),gV (.int mk),gV (.tup (ac [])),td,td,td,td,td] S Q';generalize hR0:W.tup [m0,.tup N,b0]=R;have ul:(u.map ap).length=u.length:=Hh ..;have hqS:=b6 e;have hrS:=hf.lt;dsimp only[aP];refine aF λK hK=>?_
 refine cx 0 (u.length:Hv) (λm ρ S'=>∃(to:Hg Hv) (a6 a7 a8 a9 a10:Hn W),ρ=[gV (.ref r),gV R,gV (.ref q),gV (am u),gV (.int mk),gV (.tup (ac to)),a6,a7,a8,a9,a10]/\to.length=m/\(∀x∈to,0<=x/\x < (n:Hv))/\(∀j < m,∀i < j,bp kvs u mk i j (to.getD i 0) (to.getD j 0)=false)/\Fl S' r/\Kp r S S') rfl rfl rfl ∅ ?_ ?_ ?_
 ·dsimp only[wE,wA,wV,wG];refine ay #[rfl,ay ?_];rw[ul];exact#[rfl,[],_,_,_,_,_,rfl,rfl,(λx hx=>nomatch hx),(λj hj=>∅),hf,.refl]
 ·rintro m ρ S1 hm ⟨to,a6,a7,a8,a9,a10,rfl,htl,hto,hbp,f1,k1⟩ Q2 hn2 hr2;clear hK;rw[LB];have hmu:m < u.length:=∅
  have e1:S1[q]?=gV (.dic kvs):=k1.get _ _ hqr e;have s1:S.length<=S1.length:=k1.len;have lm:=hu.len m _ (aq (d:=(0,[])) hmu);dsimp only[Hw];refine st ?_;dsimp only[wS,wE,wA,Hw];refine aF λK hK=>?_
  refine bC (n:Hv) (λx ρ S'=>(∃a8 a9 a10,ρ=[gV (.ref r),gV R,gV (.ref q),gV (am u),gV (.int mk),gV (.tup (ac to)),gV (.int m),gV (.ref S1.length),a8,a9,a10])/\(∃ls:Hg Hv,S'[S1.length]?=gV (.lst (ac ls))/\ls.length<=x/\(∀y∈ls,0<=y/\y < (n:Hv))/\∀y∈ls,∀i < m,bp kvs u mk i m (to.getD i 0) y=false)/\S'[q]?=gV (.dic kvs)/\Fl S' r/\Kp r S S') rfl rfl ∅ ?_ ?_ ?_
  ·dsimp only[wE,wA,wV,wG];subst hR0;refine ae #v[] rfl (ay ?_)
   rw[hN];exact#[rfl,#[_,_,_,rfl],#[[],aj,Hz _,(λy hy=>nomatch hy),λy hy=>nomatch hy],ar e1,f1.ka .push,k1.trans .push]
  ·rintro x ρ S2 hx ⟨⟨a8,a9,a10,rfl⟩,⟨ls,e2,hll,hls,hlb⟩,q2,f2,k2⟩ Q3 hn3' hr3;clear hK;have l2:=b6 e2;dsimp only[Hw];refine st ?_;dsimp only[wS,wE,wA,Hw];refine aF λK hK=>?_
   refine bC (m:Hv) (λi ρ S'=>(∃a10,ρ=[gV (.ref r),gV R,gV (.ref q),gV (am u),gV (.int mk),gV (.tup (ac to)),gV (.int m),gV (.ref S1.length),gV (.int x),gV (.ref S2.length),a10])/\S'[S2.length]?=gV (.lst (((HG i).map λj=>bp kvs u mk j m (to.getD j 0) (x:Hv)).map W.bl))/\S'[S1.length]?=gV (.lst (ac ls))/\S'[q]?=gV (.dic kvs)/\Fl S' r/\Kp r S S') rfl rfl ∅ #[rfl,#[_,rfl],aj,ar e2,ar q2,f2.ka .push,k2.trans .push] ?_ ?_
   ·rintro i ρ S3 hi ⟨⟨a10,rfl⟩,e3,el3,q3,f3,k3⟩ Q4 hn4 _;clear hK;have hiu:i < u.length:=∅
    have him:i < (u.getD m (0,[])).2.length:=∅
    have hit:i < to.length:=∅
    dsimp only[Hw];refine st ?_;dsimp only[wS,wE,wA,wV,wG];refine#[dF e3,?_];refine ae (Hu i) (cY hiu) (ae #v[] rfl (ae (Hu m) (cY hmu) (ae #v[] rfl (ae (Hu m) (cY hmu) (ae #v[] rfl (ae (w:=.int ((u.getD m (0,[])).2.getD i 0)) (Hu i) (by rw[HF,Hq,aq (d:=0) him]; rfl) (ae (w:=.int (to.getD i 0)) (Hu i) (by rw[HF]; unfold ac; rw[Hq,aq (d:=0) hit]; rfl) ?_)))))))
    refine ab (a:=(.bl (bp kvs u mk i m (to.getD i 0) (x:Hv)),S3)) ?_ ?_
    ·show aL .isin (am [((u.getD i (0,[])).1,[]),((u.getD m (0,[])).1,[(u.getD m (0,[])).2.getD i 0]),(mk,[to.getD i 0,(x:Hv)])]) (.ref q) S3=_;simp only[aL,bJ q3,gW]; rfl
    refine lV e3 (by rw[Hh,Hh,Ic]; omega) (aM (hn4 _ _ #[#[_,rfl],?_,?_,?_,f3.own ∅,k3.late ∅]))
    ·rw[bG e3,Jw,HR,HR]; rfl
    ·rw[bh ∅]; exact el3
    ·rw[bh ∅]; exact q3
   ·rintro ρ S3 ⟨⟨a10,rfl⟩,e3,el3,q3,f3,k3⟩;refine hK _ _ ?_;clear hK K;refine aF λK hK=>?_
    dsimp only[wS,wT,wE,wA,wV,wG];obtain⟨b,eb,hb⟩:=xK e3;refine ab eb ?_;dsimp only[wB];refine ah (Q0:=Q3) (λhbt Q5 hn5 _=>?_) (λ_ Q5 hn5 _=>aM (hn5 _ _ (hK _ _ (aM (hn3' _ _ #[#[_,_,_,rfl],#[ls,el3,∅,hls,hlb],q3,f3,k3])))))
    refine st ?_;dsimp only[wS,wE,wA,wV,wG];refine#[dF el3,lV el3 (by unfold ac; rw[Hh]; omega) (aM (hn5 _ _ (hK _ _ (aM (hn3' _ _ #[#[_,_,_,rfl],#[ls++[(x:Hv)],?_,by rw[Hk,Ij]; omega,λy hy=>?_,λy hy i hi=>?_],?_,f3.own ∅,k3.late ∅])))))]
    ·rw[bG el3]; unfold ac; rw[HR]; rfl
    ·rcases HY.mp hy with h|h
     ·exact hls y h
     ·rw[HB.mp h]; omega
    ·rcases HY.mp hy with h|h
     ·exact hlb y h i hi
     ·rw[HB.mp h];exact hb hbt _ (HQ.mpr #[i,HI.mpr ∅,rfl])
    ·rw[bh ∅]; exact q3
  ·rintro ρ S2 ⟨⟨a8,a9,a10,rfl⟩,⟨ls,e2,hll,hls,hlb⟩,q2,f2,k2⟩;refine hK _ _ ?_;clear hK K;rw[HF]at hll;refine aF λK hK=>?_
   dsimp only[wS,wT,wE,wA,wV,wG];refine ab (sy (ar e2) aj) ?_;dsimp only[wB];refine ah (Q0:=Q2) (λ_ Q5 _ hr5=>?_) (λhne Q5 hn5 _=>aM (hn5 _ _ (hK _ _ ?_)))
   ·refine st ?_;dsimp only[wS,wE];exact hr5 _ _ (hr2 _ _ (k _ _ (.inl rfl) (f2.ka .push) (k2.trans .push)))
   clear hn5 hK;have hpos:0 < ls.length:=by
    cases ls with
    | nil=>cases hne
    | cons _ _=>simp
   refine st ?_;dsimp only[wS,wE,wA,wV,wG,Hw];have e2':=ar (u:=O.lst []) e2;refine sg e2' ?_;rw[show(ac ls).length=ls.length from Hh ..]
   refine aT (d:=d) G.pick (f2.ka .push) ∅ ∅ λv S4 v0 v1 f4 k4=>?_
   have hv:v.toNat < ls.length:=∅
   have e4:=k4.get _ _ (by have:=b6 e2; omega) e2'
   refine kj (w:=.int ls[v.toNat]) e4 v0 (by unfold ac; rw[Hq,HE hv]; rfl) ?_
   refine ab (bF (dR (by rw[Hk,show(ac to).length=to.length from Hh ..]; show _+1<=_; omega))) (aM (hn2 _ _ #[to++[ls[v.toNat]],gV (.int m),gV (.ref S1.length),a8,a9,a10,?_,by rw[Hk,htl]; rfl,λy hy=>?_,λj hj i hi=>?_,f4,(k2.trans .push).trans k4]))
   ·rw[show ac to++[W.int ls[v.toNat]]=ac (to++[ls[v.toNat]]) by unfold ac; rw[HR]; rfl]
   ·rcases HY.mp hy with h|h
    ·exact hto y h
    ·rw[HB.mp h]; exact hls _ (IQ hv)
   ·have gl:∀j:Ho,j < to.length->(to++[ls[v.toNat]]).getD j 0=to.getD j 0:=λj hj=>by rw[HL,HL,Ii hj]
    rw[gl i ∅]
    by_cases ej:j=m
    ·subst ej;rw[show(to++[ls[v.toNat]]).getD j 0=ls[v.toNat] by rw[<- htl,HL,IA (Hz _),KL]; rfl]
     exact hlb _ (IQ hv) i hi
    ·rw[gl j ∅]
     exact hbp j ∅ i hi
 ·rintro ρ S1 ⟨to,a6,a7,a8,a9,a10,rfl,htl,hto,hbp,f1,k1⟩;refine hK _ _ (st ?_);dsimp only[wS,wE,wV,wG];exact k _ _ (.inr #[to,rfl,∅,hto,λj hj=>hbp j ∅]) f1 k1
end
noncomputable def dw:Ss:=
 #v[.set 4 (.tup .nil),.loop (.nm 5) (.rng #v[.v 3]) #v[.set 6 (.own "_law_pick" 2 #v[.v 0,.bi .len #v[.ix (.v 1) (.c (.int 0))]]),.set 7 (.own "_law_new_ways" 6 #v[.v 0,.v 1,.v 2,.v 4,.v 6,.tup .nil]),.ite (.cmp .isnot (.v 7) (.c .non)) #v[.set 4 (.op .add (.v 4) (.tup #v[.tup #v[.v 6,.v 7]]))] .nil],.ret (.v 4)]
noncomputable def b9:Ss:=
 #v[.ret (.own "first_three" 2 #v[.own "barred_threes" 1 #v[.v 0],.v 1])]
theorem aE {u:Wd}{h:Pt}{p:Ho}(hp:p < u.length):(u++[h]).getD p (0,[])=u.getD p (0,[]):=by
 rw[HL,HL,Ii hp]
theorem bP {u:Wd}{h:Pt}:(u++[h]).getD u.length (0,[])=h:=by
 rw[HL,IA (Hz _),KL]; rfl
noncomputable def Std (kvs:Hg (T×W))(u:Wd):Prop:=∀k < u.length,∀j < k,∀i < j,bH kvs u i j k=false
theorem Std.snoc {kvs:Hg (T×W)}{u:Wd}{m:Hv}{to:Hg Hv}(h:Std kvs u)(hb:∀j < u.length,∀i < j,bp kvs u m i j (to.getD i 0) (to.getD j 0)=false):Std kvs (u++[(m,to)]):=by
 intro k hk j hj i hi;rw[Hk,Ij]at hk
 by_cases e:k=u.length
 ·subst e;have:=hb j hj i hi;unfold bp at this;unfold bH bW;rw[aE (JT hi hj),aE hj,bP];exact this
 ·have hk':k < u.length:=∅
  have:=h k hk' j hj i hi;unfold bH bW at this ⊢;rw[aE (JT hi (JT hj hk')),aE (JT hj hk'),aE hk'];exact this
section
variable{defs:Hg (HJ×Df)}{fuel d:Ho}{S:aa}{r:Ho}{Q:QW}
theorem Au (G:Gen defs)(hw:Is defs ("_law_new_ways" : HJ) 6 11 aP)(hg:Is defs ("_law_world" : HJ) 4 8 dw){M N:Hg W}{b0:W}{a n q many:Ho}{kvs:Hg (T×W)}(hM:M.length=a)(ha1:0 < a)(ha3:a<=3)(hN:N.length=n)(hn3:n<=3)(hm:many<=900)(e:S[q]?=gV (.dic kvs))(hqr:q≠r)(hf:Fl S r)
  (k:∀(u:Wd) S',u.length<=many->GoodW a n u->Std kvs u->Fl S' r->Kp r S S'->Q (am u,S')) :
  wO (aC (ak defs fuel (d+3)) "_law_world" 4 [.ref r,.tup [.tup M,.tup N,b0],.ref q,.int many] S) Q:=by
 refine al hg rfl rfl λQ' hR=>?_
 replace k:∀(u:Wd) S',u.length<=many->GoodW a n u->Std kvs u->Fl S' r->Kp r S S'->Q' (.rt (am u),S'):=λu S' h1 h2 h3 h4 h5=>hR _ _ (k u S' h1 h2 h3 h4 h5)
 clear hR;show wZ _ _ dw [gV (.ref r),gV (.tup [.tup M,.tup N,b0]),gV (.ref q),gV (.int many),td,td,td,td] S Q';generalize hR0:W.tup [.tup M,.tup N,b0]=R;dsimp only[dw];refine st ?_;dsimp only[wS,wE,wA,Hw];refine aF λK hK=>?_
 refine bC (many:Hv) (λi ρ S'=>∃(u:Wd) (a5 a6 a7:Hn W),ρ=[gV (.ref r),gV R,gV (.ref q),gV (.int many),gV (am u),a5,a6,a7]/\u.length<=i/\GoodW a n u/\Std kvs u/\Fl S' r/\Kp r S S') rfl rfl ∅ #[rfl,[],_,_,_,rfl,Hz _,.nil,(λk hk=>by cases hk),hf,.refl] ?_ ?_
 ·rintro i ρ S1 hi ⟨u,a5,a6,a7,rfl,hul,hu,hst,f1,k1⟩ Q2 hn _;clear hK;have e1:=k1.get _ _ hqr e;dsimp only[Hw];refine st ?_;dsimp only[wS,wE,wA,wV,wG,Hw];subst hR0;refine ae #v[] rfl (ay ?_)
  rw[hM];refine aT (d:=d+1) G.pick f1 ∅ ∅ λv S2 v0 v1 f2 k2=>?_
  have e2:=k2.get _ _ hqr e1;refine st ?_;dsimp only[wS,wE,wA,wV,wG,Hw];refine kD (d:=d) G hw hN hn3 hu ∅ e2 hqr f2 λw S3 hw3 f3 k3=>?_
  refine aF λK hK=>?_
  dsimp only[wS,wT,wE,wA,wV,wG];rcases hw3 with rfl|⟨to,rfl,htl,hto,hbp⟩
  ·refine ab (show aL .isnot .non .non S3=gV (.bl false,S3)from rfl) ?_
   dsimp only[wB];exact ah (Q0:=Q2) (λz=>by cases z) (λ_ Q5 hn5 _=>aM (hn5 _ _ (hK _ _ (aM (hn _ _ #[u,_,_,_,rfl,∅,hu,hst,f3,(k1.trans k2).trans k3])))))
  ·refine ab (show aL .isnot (.tup (ac to)) .non S3=gV (.bl true,S3)from rfl) ?_
   dsimp only[wB];refine ah (Q0:=Q2) (λ_ Q5 hn5 _=>?_) (λz=>by cases z)
   refine st ?_;dsimp only[wS,wE,wA,wV,wG,Hw,am];refine ab (bF (dR (by rw[Hk,Hh]; show _+1<=_; omega))) (aM (hn5 _ _ (hK _ _ (aM (hn _ _ #[u++[(v,to)],gV (.int i),gV (.int v),gV (.tup (ac to)),?_,?_,hu.snoc #[v0,v1] htl hto,hst.snoc hbp,f3,(k1.trans k2).trans k3])))))
   ·unfold am;rw[HR]; rfl
   ·rw[Hk,Ij]; omega
 ·rintro ρ S1 ⟨u,a5,a6,a7,rfl,hul,hu,hst,f1,k1⟩;rw[HF]at hul;refine hK _ _ (st ?_);dsimp only[wS,wE,wV,wG];exact k u S1 hul hu hst f1 k1
theorem kE (hfu:20 < fuel)(P:Parts defs)(hp:Is defs ("part" : HJ) 3 3 gX)(hl:Is defs ("longer_orders" : HJ) 2 4 aW)(hbt:Is defs ("barred_threes" : HJ) 1 5 bx)(h3:Is defs ("three_at" : HJ) 4 6 aX)(hft:Is defs ("first_three" : HJ) 2 5 bT)(hg:Is defs ("first_barred" : HJ) 2 2 b9)
  {m0:W} {ns:Hg HJ} {bs:Hg Hv} {a:Ho} {gs:Hg Wd} {u:Wd} (hb:GoodB bs) (hnl:ns.length=bs.length) (hgs:∀g∈gs,GoodW a bs.length g/\g.length=3) (h64:gs.length<=100) (hu:GoodW a bs.length u) (hul:u.length<=1000)
  (k:∀w S',Ans (λi j k=>decide (dq (bW u i j k)∈(br bs gs).map dq)) u.length w->Ka S S'->Q (w,S')) :
  wO (aC (ak defs fuel (d+5)) "first_barred" 2 [.tup [m0,.tup (Hy aB ns bs),.tup (gs.map am)],am u] S) Q:=by
 refine al hg rfl rfl λQ' hR=>?_
 show wZ _ _ b9 [gV (.tup [m0,.tup (Hy aB ns bs),.tup (gs.map am)]),gV (am u)] S Q';dsimp only[b9];refine st ?_;dsimp only[wS,wE,wA,wV,wG];refine kC (d:=d) hfu P hp hl hbt hb hnl hgs h64 λq kvs S1 e1 h1 _ k1=>?_
 refine lh (d:=d+2) h3 hft hu hul e1 λw hw=>hR _ _ (k w S1 ?_ k1)
 exact hw.congr λi j k _ _ _=>h1.get _
end
section
variable{Φ:HJ->FF}{ρ:Fm}{S:aa}
theorem qB {α:Type}{elt:E}{it:Ie}{cs:Es}{cap:Hg (Hn Ho)}{mi:MI}{S1:aa}{Q:QW}(L:Hg α)(f:α->W)(p:α->HU)(g:α->W)(R:Fm)(oe:dM elt=true)(oc:nZ cs=true)(hc:eZ cap ρ=td::td::R)(hl:L.length<=1000000)(hi:jv Φ it ρ S=gV (mi,S1))(k1:Ka S S1)(hat:∀i S',Ka S1 S'->mi.at S' i=gV (L.map f)[i]?)(hn:mi.len S1=gV (L.map f).length)
  (hstep:∀x∈L,∀S',Ka S S'->fW Φ elt cs (td::gV (f x)::R) S' (λy _ S2=>p x=true/\y=g x/\Ka S' S2) (λ_ S2=>p x=false/\Ka S' S2))
  (k:∀S',Ka S S'->Q (.ref S'.length,S'++[.lst ((L.filter p).map g)])):Wp (az Φ (.comp elt (.nm 1) it cs cap) ρ S) Q:=by
 rw[wz];refine#[_,hi,_,hn,?_];refine(dL (xs:=L.map f) (Q:=λq=>q.1.length<=sizeLine/\Q (.ref q.2.length,q.2++[.lst q.1])) (λi ys ρ' S'=>(∃a1,ρ'=td::a1::R)/\ys=((L.take i).filter p).map g/\Ka S1 S') (λi ys ρ' S' h=>hat i S' h.2.2) (λi w ys ρ' S' hw h=>?_) (λys ρ' S' h=>?_) (L.map f).length 0 [] _ S1 ∅ #[#[td,hc],rfl,.refl]).mono λq hq=>by simpa using hq
 ·obtain⟨⟨a1,rfl⟩,rfl,k2⟩:=h;rw[Hq,Hl]at hw;obtain⟨x,hx,rfl⟩:=hw;refine Gm.mpr ?_;refine(Bb oc (hstep x (HC hx) S' (k1.trans k2))).mono λc hc=>#[λz=>(aQ elt oe (hc.1 z)).mono λy hy=>#[#[_,rfl],?_,k2.trans hy.2.2],λz=>#[#[_,rfl],?_,k2.trans (hc.2 z).2]]
  ·rw[Iy,hx,JG,show(O5 (gV x)).filter p=[x]from Mc hy.1,HR,hy.2.1]; rfl
  ·rw[Iy,hx,JG,show(O5 (gV x)).filter p=[]from Mf (by rw[(hc.2 z).1]; exact HK),Jl]
 ·obtain⟨_,rfl,k2⟩:=h;dsimp only;rw[show(L.map f).length=L.length from Hh ..,IE]
  refine#[dR ?_,k S' (k1.trans k2)];rw[Hh];exact HZ (Jq _ _) hl
theorem qC {α:Type}{elt e:E}{cs:Es}{cap:Hg (Hn Ho)}{Q:QW}(L:Hg α)(f:α->W)(p:α->HU)(g:α->W)(R:Fm)(oi:dM e=true)(oe:dM elt=true)(oc:nZ cs=true)(hc:eZ cap ρ=td::td::R)(hl:L.length<=1000000)
  (he:wE Φ e ρ S λq=>∃t,q.1=.ref t/\q.2[t]?=gV (.lst (L.map f))/\Ka S q.2)
  (hstep:∀x∈L,∀S',Ka S S'->fW Φ elt cs (td::gV (f x)::R) S' (λy _ S2=>p x=true/\y=g x/\Ka S' S2) (λ_ S2=>p x=false/\Ka S' S2))
  (k:∀S',Ka S S'->Q (.ref S'.length,S'++[.lst ((L.filter p).map g)])):Wp (az Φ (.comp elt (.nm 1) (.seq e) cs cap) ρ S) Q:=by
 obtain⟨w,S1,e1,t,rfl,ht,k1⟩:=bV oi he;exact qB (mi:=.live t) L f p g R oe oc hc hl (by simp only[jv,eQ,e1,aJ ht]) k1 (λi S' h=>by simp only[MI.at,aJ (h.get _ _ ht)]) (by simp only[MI.len,aJ ht,Iq]) hstep k
theorem kF {α:Type}{elt e:E}{cs:Es}{cap:Hg (Hn Ho)}{Q:QW}(L:Hg α)(f:α->W)(p:α->HU)(g:α->W)(R:Fm)(oi:dM e=true)(oe:dM elt=true)(oc:nZ cs=true)(hc:eZ cap ρ=td::td::R)(hl:L.length<=1000000)
  (he:wE Φ e ρ S λq=>q.1=.tup (L.map f)/\Ka S q.2)
  (hstep:∀x∈L,∀S',Ka S S'->fW Φ elt cs (td::gV (f x)::R) S' (λy _ S2=>p x=true/\y=g x/\Ka S' S2) (λ_ S2=>p x=false/\Ka S' S2))
  (k:∀S',Ka S S'->Q (.ref S'.length,S'++[.lst ((L.filter p).map g)])):Wp (az Φ (.comp elt (.nm 1) (.seq e) cs cap) ρ S) Q:=by
 obtain⟨w,S1,e1,rfl,k1⟩:=bV oi he;exact qB (mi:=.its (L.map f)) L f p g R oe oc hc hl (by simp only[jv,eQ,e1]) k1 (λ_ _ _=>rfl) rfl hstep k
theorem pB (n:Ho):da 0 n=(HG n).map λi=>W.int (i:Ho):=by
 unfold da;refine IM λi _=>?_
 rw[LB]
theorem nQ {elt e:E}{cs:Es}{cap:Hg (Hn Ho)}{Q:QW}(n:Ho)(p:Ho->HU)(g:Ho->W)(R:Fm)(oi:dM e=true)(oe:dM elt=true)(oc:nZ cs=true)(hc:eZ cap ρ=td::td::R)(hl:n<=1000000)
  (he:wE Φ e ρ S λq=>q.1=.int n/\Ka S q.2)
  (hstep:∀x < n,∀S',Ka S S'->fW Φ elt cs (td::gV (.int (x:Ho))::R) S' (λy _ S2=>p x=true/\y=g x/\Ka S' S2) (λ_ S2=>p x=false/\Ka S' S2))
  (k:∀S',Ka S S'->Q (.ref S'.length,S'++[.lst (((HG n).filter p).map g)])):Wp (az Φ (.comp elt (.nm 1) (.rng #v[e]) cs cap) ρ S) Q:=by
 obtain⟨w,S1,e1,rfl,k1⟩:=bV oi he;refine qB (mi:=.its (da 0 n)) (HG n) (λi=>W.int (i:Ho)) p g R oe oc hc (by rw[Ic]; exact hl) ?_ k1 (λi S' _=>by rw[<- pB]; rfl) (by rw[<- pB]; rfl) (λx hx=>hstep x (HI.mp hx)) k
 simp only[jv,db,dH,ik,qi,e1];rw[HV #[∅,∅]]; rfl
theorem c8 {α:Type}(L:Hg α):L.filter (λ_=>true)=L:=List.filter_eq_self.mpr λ_ _=>rfl
end
noncomputable def bS (kvs:Hg (T×W))(u:Wd)(h:Pt)(p q:Ho):HU:=(aK kvs (dq [((u.getD p (0,[])).1,[]),((u.getD q (0,[])).1,[(u.getD q (0,[])).2.getD p 0]),(h.1,[h.2.getD p 0,h.2.getD q 0])])).isSome
theorem kG {kvs:Hg (T×W)}{u:Wd}{h:Pt}{p q:Ho}(h1:p < q)(h2:q < u.length):bH kvs (u++[h]) p q u.length=bS kvs u h p q:=by
 unfold bH bS bW;rw[aE (JT h1 h2),aE h2,bP]
theorem kH {u:Wd}{p s:Ho}(h:p < s):(u.take s).getD p (0,[])=u.getD p (0,[]):=by
 rw[HL,HL,KS h]
noncomputable def gE (kvs:Hg (T×W))(v:Wd):HU:=(HG (v.length - 2)).all λp=>!bH kvs v p (v.length - 2) (v.length - 1)
theorem l7 {kvs:Hg (T×W)}{u:Wd}{h:Pt}{s:Ho}(hs:s < u.length):gE kvs (u.take (s+1)++[h])=(HG s).all λp=>!bS kvs u h p s:=by
 have hl:(u.take (s+1)).length=s+1:=by rw[HX]; omega
 unfold gE;rw[Hk,hl,Ij,show s+1+1 - 2=s by omega,show s+1+1 - 1=s+1 by omega,Kb,HP,HP]
 refine Nd λp=>Nd λhp=>?_
 have hp:=HI.mp hp;have e:=kG (kvs:=kvs) (u:=u.take (s+1)) (h:=h) (p:=p) (q:=s) hp ∅
 rw[hl]at e;rw[e];unfold bS;rw[kH ∅,kH ∅]
noncomputable def cM (n:Ho)(hs:Hg Pt):Hg Pt:=hs.flatMap λh=>(HG n).map λ(w:Ho)=>(h.1,h.2++[(w:Hv)])
noncomputable def cb (kvs:Hg (T×W))(u:Wd)(n:Ho)(m:Hv):Ho->Hg Pt
 | 0=>[(m,[])]
 | s+1=>(cM n (cb kvs u n m s)).filter λh=>gE kvs (u.take (s+1)++[h])
noncomputable def gN (kvs:Hg (T×W))(u:Wd)(a n:Ho):Hg Pt:=(HG a).flatMap λ(m:Ho)=>cb kvs u n (m:Hv) u.length
theorem aY {ws:Hg Hv}{x:Hv}{p:Ho}(hp:p < ws.length):(ws++[x]).getD p 0=ws.getD p 0:=by
 rw[HL,HL,Ii hp]
theorem fq {kvs:Hg (T×W)}{u:Wd}{m x:Hv}{ws:Hg Hv}{p q:Ho}(h1:p < q)(h2:q < ws.length):bS kvs u (m,ws++[x]) p q=bS kvs u (m,ws) p q:=by
 unfold bS;dsimp only;rw[aY (JT h1 h2),aY h2]
theorem dX {kvs:Hg (T×W)}{u:Wd}{n:Ho}{m:Hv}:∀ {s:Ho} {h:Pt},s<=u.length->(h∈cb kvs u n m s↔h.1=m/\h.2.length=s/\(∀w∈h.2,0<=w/\w < (n:Hv))/\∀p q,p < q->q < s->bS kvs u h p q=false)
 | 0,h,_=>by
  rw[cb,HB];constructor
  ·rintro rfl;exact#[rfl,rfl,(λw hw=>nomatch hw),λp q _ h=>absurd h (Op _)]
  ·rintro⟨h1,h2,_⟩;rw[<- h1,<- Ls h2]
 | s+1,h,hs=>by
  rw[cb,JB,l7 ∅,HP]
  unfold cM;rw[IY];constructor
  ·rintro⟨⟨h0,hm,hw⟩,hb⟩;obtain⟨w,hwr,rfl⟩:=HQ.mp hw;obtain⟨h1,h2,h3,h4⟩:=(dX ∅).mp hm
   have hwr:=HI.mp hwr;refine#[h1,by rw[Hk,h2]; rfl,λx hx=>?_,λp q hpq hq=>?_]
   ·rcases HY.mp hx with z|z
    ·exact h3 x z
    ·rw[HB.mp z]; omega
   ·by_cases e:q=s
    ·subst e;have:=hb p (HI.mpr hpq)
     simpa using this
    ·rw[fq hpq ∅]; exact h4 p q hpq ∅
  ·rintro⟨h1,h2,h3,h4⟩;obtain⟨m',ws⟩:=h;dsimp only at h1 h2 h3 h4;have hne:ws≠[]:=λz=>by rw[z]at h2; cases h2
   have hd:=List.dropLast_concat_getLast hne;have hx:=h3 _ (List.getLast_mem hne);generalize ws.getLast hne=x at hd hx;have hdl:ws.dropLast.length=s:=by rw[JM]; omega
   generalize ws.dropLast=vs at hd hdl;subst hd;refine#[#[(m',vs),(dX ∅).mpr #[h1,hdl,λw hw=>h3 w (JI _ hw),λp q hpq hq=>?_],?_],λp hp=>?_]
   ·rw[<- fq (x:=x) hpq ∅]; exact h4 p q hpq ∅
   ·exact HQ.mpr #[x.toNat,HI.mpr ∅,by dsimp only; rw[show((x.toNat:Ho):Hv)=x by omega]]
   ·rw[h4 p s (HI.mp hp) ∅]; rfl
theorem eU {kvs:Hg (T×W)}{u:Wd}{n:Ho}{m:Hv}:∀s:Ho,(cb kvs u n m s).length<=n ^ s
 | 0=>Hz _
 | s+1=>by
  rw[cb];refine HZ (Jq _ _) ?_;have:=eU (kvs:=kvs) (u:=u) (n:=n) (m:=m) s;have e:∀hs:Hg Pt,(cM n hs).length=hs.length*n:=λhs=>by
   unfold cM
   induction hs with
   | nil=>simp
   | cons h hs ih=>rw[Ja,Hk,ih,Hh,Ic,Iw,Lz]; omega
  rw[e,Nat.pow_succ];exact MR _ this
theorem ma {n:Ho}(hs:Hg Pt):(cM n hs).length=hs.length*n:=by
 unfold cM
 induction hs with
 | nil=>simp
 | cons h hs ih=>rw[Ja,Hk,ih,Hh,Ic,Iw,Lz]; omega
theorem kI {kvs:Hg (T×W)}{u:Wd}{a n:Ho}{h:Pt}:h∈gN kvs u a n↔(0<=h.1/\h.1 < a)/\h.2.length=u.length/\(∀w∈h.2,0<=w/\w < (n:Hv))/\∀p q,p < q->q < u.length->bS kvs u h p q=false:=by
 unfold gN;rw[IY];constructor
 ·rintro⟨m,hm,hh⟩;obtain⟨h1,h2⟩:=(dX (Hz _)).mp hh;have:=HI.mp hm;exact#[∅,h2]
 ·rintro⟨h1,h2⟩;exact#[h.1.toNat,HI.mpr ∅,(dX (Hz _)).mpr #[∅,h2]]
noncomputable def aU:Ss:=
 #v[.set 2 (.op .sub (.bi .len #v[.v 1]) (.c (.int 1))),.loop (.nm 3) (.rng #v[.op .sub (.v 2) (.c (.int 1))]) #v[.ite (.cmp .isin (.own "three_at" 4 #v[.v 1,.v 3,.op .sub (.v 2) (.c (.int 1)),.v 2]) (.v 0)) #v[.ret (.v 3)] .nil],.ret (.c .non)]
noncomputable def cy:Ss:=
 #v[.set 3 (.lst .nil),.loop (.nm 4) (.rng #v[.bi .len #v[.ix (.v 0) (.c (.int 0))]]) #v[.set 5 (.lst #v[.tup #v[.v 4,.tup .nil]]),.loop (.nm 6) (.rng2 #v[.c (.int 1),.op .add (.bi .len #v[.v 2]) (.c (.int 1))]) #v[.set 5 (.comp (.v 1) (.nm 1) (.seq (.own "longer_wishes" 2 #v[.v 0,.v 5])) #v[.cmp .is (.own "first_bar" 2 #v[.v 2,.op .add (.sl (.v 4) .no (.yes (.v 3))) (.tup #v[.v 1])]) (.c .non)] [td,td,gV 1,gV 6,gV 2])],.ex (.me .extend (.v 3) #v[.v 5])],.ret (.v 3)]
noncomputable def bz:Ss:=
 #v[.set 2 (.lst .nil),.loop (.tp [3,4]) (.seq (.v 1)) #v[.ex (.me .extend (.v 2) #v[.comp (.tup #v[.v 2,.op .add (.v 3) (.tup #v[.v 1])]) (.nm 1) (.rng #v[.bi .len #v[.ix (.v 0) (.c (.int 1))]]) .nil [td,td,gV 3,gV 4]])],.ret (.v 2)]
theorem kJ {kvs:Hg (T×W)}{v:Wd}{s:Ho}(hs:v.length=s+2):gE kvs v=true↔∀i < s,bH kvs v i s (s+1)=false:=by
 unfold gE;rw[hs,show s+2 - 2=s from rfl,show s+2 - 1=s+1 from rfl,HP]
 refine Nd λi=>?_
 rw[HI,Kf]
theorem ur {a n s:Ho}{u:Wd}(hu:GoodW a n u):GoodW a n (u.take s):=by
 have key:∀(k:Ho) (x:Pt),(u.take s)[k]?=gV x->u[k]?=gV x:=λk x e=>by
  rw[Nw]at e;split at e
  ·exact e
  ·cases e
 exact#[λk x e=>hu.mark k x (key k x e),λk x e=>hu.len k x (key k x e),λk x e=>hu.way k x (key k x e)]
section
variable{defs:Hg (HJ×Df)}{fuel d:Ho}{S:aa}{Q:QW}
theorem jn (h3:Is defs ("three_at" : HJ) 4 6 aX)(hg:Is defs ("first_bar" : HJ) 2 4 aU){a n q:Ho}{v:Wd}{kvs:Hg (T×W)}(hv:GoodW a n v)(h2:2<=v.length)(hl:v.length<=1000)(e:S[q]?=gV (.dic kvs))(k:∀w,((w=.non/\gE kvs v=true)\/∃i:Hv,w=.int i/\gE kvs v=false)->Q (w,S)) :
  wO (aC (ak defs fuel (d+2)) "first_bar" 2 [.ref q,am v] S) Q:=by
 refine al hg rfl rfl λQ' hR=>?_
 replace k:∀w,((w=.non/\gE kvs v=true)\/∃i:Hv,w=.int i/\gE kvs v=false)->Q' (.rt w,S):=λw h=>hR _ _ (k w h)
 clear hR;show wZ _ _ aU [gV (.ref q),gV (am v),td,td] S Q';have ul:(v.map ap).length=v.length:=Hh ..;obtain⟨s,hs⟩ : ∃s,v.length=s+2:=#[v.length - 2,∅]
 dsimp only[aU];refine st ?_;dsimp only[wS,wE,wA,wV,wG,Hw];refine ay (ab gK ?_);rw[ul,show((v.length:Ho):Hv) - 1=((s+1:Ho):Hv) by omega]
 refine aF λK hK=>?_
 refine bC (s:Hv) (λi ρ S'=>(∃a3,ρ=[gV (.ref q),gV (am v),gV (.int ((s+1:Ho):Hv)),a3])/\S'=S/\∀i' < i,bH kvs v i' s (s+1)=false) rfl rfl ∅ ?_ ?_ ?_
 ·dsimp only[wE,wV,wG];refine ab gK #[?_,#[_,rfl],rfl,λi' z=>∅]
  dsimp only;rw[show((s+1:Ho):Hv) - 1=(s:Hv) by omega]
 ·rintro i ρ S1 hi ⟨⟨a3,rfl⟩,rfl,no⟩ Q2 hn hr;clear hK;dsimp only[Hw];refine aF λK hK=>?_
  dsimp only[wS,wT,wE,wA,wV,wG];refine ab gK ?_;dsimp only;rw[show((s+1:Ho):Hv) - 1=(s:Hv) by omega]
  refine nP (d:=d) h3 hv ∅ (JE s) ∅ ?_
  refine ab (show aL .isin (am (bW v i s (s+1))) (.ref q) S1=gV (.bl (bH kvs v i s (s+1)),S1) by simp only[aL,bJ e,gW]; rfl) ?_
  dsimp only[wB];refine ah (Q0:=Q2) (λh Q5 _ hr5=>?_) (λh Q5 hn5 _=>aM (hn5 _ _ (hK _ _ (aM (hn _ _ #[#[_,rfl],rfl,λi' z=>?_])))))
  ·refine st ?_;dsimp only[wS,wE,wV,wG];refine hr5 _ _ (hr _ _ (k _ (.inr #[i,rfl,?_])));rw[Kg];intro z;rw[(kJ hs).mp z i ∅]at h
   cases h
  ·by_cases ei:i'=i
   ·rw[ei]; exact h
   ·exact no i' ∅
 ·rintro ρ S1 ⟨⟨a3,rfl⟩,rfl,no⟩;refine hK _ _ (st ?_);dsimp only[wS,wE];exact k _ (.inl #[rfl,(kJ hs).mpr no])
theorem jx (hg:Is defs ("longer_wishes" : HJ) 2 5 bz){m0 b0:W}{N:Hg W}{n l:Ho}{hs:Hg Pt}(hN:N.length=n)(hn:n<=3)(e:S[l]?=gV (.lst (hs.map ap)))(hol:∀h∈hs,h.2.length<=100)(hos:hs.length<=10000)
  (k:∀(q:Ho) (S':aa),S'[q]?=gV (.lst ((cM n hs).map ap))->S.length<=q->Ka S S'->Q (.ref q,S')) :
  wO (aC (ak defs fuel (d+1)) "longer_wishes" 2 [.tup [m0,.tup N,b0],.ref l] S) Q:=by
 refine al hg rfl rfl λQ' hR=>?_
 replace k:∀(q:Ho) (S':aa),S'[q]?=gV (.lst ((cM n hs).map ap))->S.length<=q->Ka S S'->Q' (.rt (.ref q),S'):=λa b c e f=>hR _ _ (k a b c e f)
 clear hR;show wZ _ _ bz [gV (.tup [m0,.tup N,b0]),gV (.ref l),td,td,td] S Q';generalize hR0:W.tup [m0,.tup N,b0]=R;have hlS:=b6 e;dsimp only[bz];refine st ?_;dsimp only[wS,wE,wA,Hw];refine aF λK hK=>?_
 refine jC l (hs.map ap) (λi ρ S'=>(∃a3 a4,ρ=[gV R,gV (.ref l),gV (.ref S.length),a3,a4])/\S'[l]?=gV (.lst (hs.map ap))/\S'[S.length]?=gV (.lst ((cM n (hs.take i)).map ap))/\Ka S S') rfl rfl #[rfl,#[td,td,rfl],ar e,aj,.push] (λi ρ S' h=>h.2.1) ?_ ?_
 ·rintro i w ρ S1 hw ⟨⟨a3,a4,rfl⟩,e0,e1,k1⟩;clear hK k;rw[Hq,Hl]at hw;obtain⟨h,ho,rfl⟩:=hw;have hol:=hol h (HC ho);refine ab (show eL (.tp [3,4]) (ap h) [gV R,gV (.ref l),gV (.ref S.length),a3,a4] S1=gV ([gV R,gV (.ref l),gV (.ref S.length),gV (.int h.1),gV (.tup (ac h.2))],S1)from rfl) ?_
  intro Q2 hn2 _;refine st ?_;dsimp only[wS,wE,wA,wV,wG];refine#[dF e1,?_];refine nQ n (λ_=>true) (λ(w:Ho)=>ap (h.1,h.2++[(w:Hv)])) [gV (.int h.1),gV (.tup (ac h.2))] rfl rfl rfl rfl ∅ ?_ (λx hx S2 k2=>?_) λS2 k2=>?_
  ·dsimp only[wE,wA,wV,wG];subst hR0;refine ae #v[] rfl (ay ?_)
   rw[hN];exact#[rfl,.refl]
  ·dsimp only[fW,wC,wE,wA,wV,wG];refine#[λ_=>ab (bF (dR ?_)) #[rfl,?_,.refl],λz=>by cases z]
   ·rw[Hk,show(ac h.2).length=h.2.length from Hh ..]; show _+1<=_; omega
   ·simp[ap,ac]
  ·rw[c8];have e1':=ar (u:=O.lst ((HG n).map λ(w:Ho)=>ap (h.1,h.2++[(w:Hv)]))) (k2.get _ _ e1)
   have hle:(cM n (hs.take i)).length<=30000:=by
    rw[ma,HX];exact HZ (OP (show min i hs.length<=10000 by omega) hn) #v[]
   refine qA e1' aj (by rw[Hh,Hh,Ic]; omega) (aM (hn2 _ _ #[#[_,_,rfl],?_,?_,((k1.trans k2).trans .push).late (Hz _)]))
   ·rw[bh ∅]; exact ar (k2.get _ _ e0)
   ·rw[bG e1'];unfold cM;rw[Iy,ho];simp
 ·rintro ρ S1 ⟨⟨a3,a4,rfl⟩,e0,e1,k1⟩;rw[Hh,IE]at e1;exact hK _ _ (st (k _ _ e1 (Hz _) k1))
theorem nR {n s:Ho}(hn:n<=3)(hs:s<=5):n ^ s<=243:=HZ (M5 hn s) (MT (n:=3) #v[] hs)
theorem qD {kvs:Hg (T×W)}{u:Wd}{n i:Ho}(hn:n<=3)(hu:u.length<=5):((HG i).flatMap λ(m:Ho)=>cb kvs u n (m:Hv) u.length).length<=i*243:=by
 induction i with
 | zero=>simp
 | succ i ih=>
  rw[Jw,JQ,Hk,Ja,Od,Jl];have:=HZ (eU (kvs:=kvs) (u:=u) (n:=n) (m:=(i:Ho)) u.length) (nR hn hu);omega
theorem ll (h3:Is defs ("three_at" : HJ) 4 6 aX)(hfb:Is defs ("first_bar" : HJ) 2 4 aU)(hlw:Is defs ("longer_wishes" : HJ) 2 5 bz)(hg:Is defs ("wishes_over" : HJ) 3 7 cy){M N:Hg W}{b0:W}{a n q:Ho}{u:Wd}{kvs:Hg (T×W)}(hM:M.length=a)(hN:N.length=n)(ha3:a<=3)(hn3:n<=3)(hu:GoodW a n u)(hul:u.length<=5)(e:S[q]?=gV (.dic kvs))
  (k:∀(l:Ho) (S':aa),S'[l]?=gV (.lst ((gN kvs u a n).map ap))->S.length<=l->Ka S S'->Q (.ref l,S')) :
  wO (aC (ak defs fuel (d+3)) "wishes_over" 3 [.tup [.tup M,.tup N,b0],.ref q,am u] S) Q:=by
 refine al hg rfl rfl λQ' hR=>?_
 replace k:∀(l:Ho) (S':aa),S'[l]?=gV (.lst ((gN kvs u a n).map ap))->S.length<=l->Ka S S'->Q' (.rt (.ref l),S'):=λa b c e f=>hR _ _ (k a b c e f)
 clear hR;show wZ _ _ cy [gV (.tup [.tup M,.tup N,b0]),gV (.ref q),gV (am u),td,td,td,td] S Q';generalize hR0:W.tup [.tup M,.tup N,b0]=R;have hqS:=b6 e;have ul:(u.map ap).length=u.length:=Hh ..;dsimp only[cy];refine st ?_;dsimp only[wS,wE,wA,Hw];refine aF λK hK=>?_
 refine bC (a:Hv) (λi ρ S'=>(∃a4 a5 a6,ρ=[gV R,gV (.ref q),gV (am u),gV (.ref S.length),a4,a5,a6])/\S'[S.length]?=gV (.lst (((HG i).flatMap λ(m:Ho)=>cb kvs u n (m:Hv) u.length).map ap))/\Ka S S') rfl rfl ∅ ?_ ?_ ?_
 ·dsimp only[wE,wA,wV,wG];subst hR0;refine ae #v[] rfl (ay ?_)
  rw[hM];exact#[rfl,#[_,_,_,rfl],aj,.push]
 ·rintro i ρ S1 hi ⟨⟨a4,a5,a6,rfl⟩,e1,k1⟩ Q2 hn2 _;clear hK k;have hl1:=b6 e1;dsimp only[Hw];refine st ?_;dsimp only[wS,wE,wA,wV,wG,Hw];refine aF λK hK=>?_
  refine cx 1 ((u.length:Hv)+1) (λm ρ S'=>∃(t:Ho) (a6:Hn W),ρ=[gV R,gV (.ref q),gV (am u),gV (.ref S.length),gV (.int i),gV (.ref t),a6]/\S'[t]?=gV (.lst ((cb kvs u n i m).map ap))/\Ka S1 S') rfl rfl rfl ∅ ?_ ?_ ?_
  ·dsimp only[wE,wA,wV,wG];refine#[rfl,ay (ab cp ?_)];rw[ul];exact#[rfl,S1.length,a6,rfl,aj,.push]
  ·rintro m ρ S2 hm ⟨t,a6,rfl,e2,k2⟩ Q3 hn3 _;clear hK hn2;have hmu:m < u.length:=∅
   rw[show(1:Hv)+m=((m+1:Ho):Hv) by omega]
   have hhl:(cb kvs u n i m).length<=243:=HZ (eU m) (nR ‹n<=3› ∅)
   have hll:(cM n (cb kvs u n i m)).length<=729:=by rw[ma]; exact OP hhl ‹n<=3›
   dsimp only[Hw];refine st ?_;dsimp only[wS,wE,Hw];refine qC (cM n (cb kvs u n i m)) ap (λh=>gE kvs (u.take (m+1)++[h])) ap [gV (.ref q),gV (.int ((m+1:Ho):Hv)),gV (am u)] rfl rfl rfl rfl ∅ ?_ (λh hh S4 k4=>?_) λS4 k4=>?_
   ·dsimp only[wE,wA,wV,wG];subst hR0;exact jx (d:=d+1) hlw hN ‹n<=3› e2 (λh hh=>by have:=((dX ∅).mp hh).2.1; omega) ∅ λl S3 e3 _ k3=>#[l,rfl,e3,k3]
   ·have hgd:GoodW a n (u.take (m+1)++[h]):=by
     unfold cM at hh;obtain⟨h0,hm0,hw⟩:=IY.mp hh;obtain⟨w,hwr,rfl⟩:=HQ.mp hw;obtain⟨g1,g2,g3,_⟩:=(dX ∅).mp hm0
     have hwr:=HI.mp hwr;refine(ur hu).snoc (by rw[g1]; omega) (by rw[Hk,g2,HX,Ij]; omega) λx hx=>?_
     rcases HY.mp hx with z|z
     ·exact g3 x z
     ·rw[HB.mp z]; omega
    have hvl:(u.take (m+1)++[h]).length=m+2:=by rw[Hk,HX,Ij]; omega
    dsimp only[fW,wC,wT,wE,wA,wP,wV,wG,wN];refine ab (show jg (am u) td (gV ((m+1:Ho):Hv)) S4=gV (.tup ((u.map ap).take (m+1)),S4) by simp only[am,jg,eh]) ?_
    dsimp only;have ev:(u.map ap).take (m+1)++[ap h]=(u.take (m+1)++[h]).map ap:=by rw[HR,KZ]; rfl
    refine ab (bF (dR (by rw[ev,Hh]; omega))) ?_
    dsimp only;rw[ev];refine jn (d:=d) (v:=u.take (m+1)++[h]) h3 hfb hgd ∅ ∅ (k4.get _ _ (k2.get _ _ (k1.get _ _ e))) λw hw=>?_
    refine ab (show aL .is w .non S4=gV (.bl (gE kvs (u.take (m+1)++[h])),S4) by rcases hw with⟨rfl,hb⟩|⟨i,rfl,hb⟩ <;> rw[hb] <;> rfl) ?_
    dsimp only[wB];exact#[λz=>#[z,rfl,.refl],λz=>#[z,.refl]]
   ·exact aM (hn3 _ _ #[_,_,rfl,aj,(k2.trans k4).trans .push])
  ·rintro ρ S2 ⟨t,a6,rfl,e2,k2⟩;rw[show((u.length:Hv)+1 - 1).toNat=u.length by omega]at e2
   refine hK _ _ ?_;clear hK K;have e1':=k2.get _ _ e1;have hhl:(cb kvs u n i u.length).length<=243:=HZ (eU _) (nR hn3 hul);have hfl:=qD (kvs:=kvs) (i:=i) hn3 hul;refine st ?_;dsimp only[wS,wE,wA,wV,wG];refine#[dF e1',qA e1' e2 (by rw[Hh,Hh]; omega) (aM (hn2 _ _ #[#[_,_,_,rfl],?_,(k1.trans k2).late (Hz _)]))]
   rw[bG e1',Jw,JQ,HR];simp
 ·rintro ρ S1 ⟨⟨a4,a5,a6,rfl⟩,e1,k1⟩;rw[HF]at e1;exact hK _ _ (st (k _ _ e1 (Hz _) k1))
end
noncomputable def aG:Ss:=
 #v[.asg [4,5] (.ix (.v 2) (.v 3)),.loop (.nm 6) (.rng2 #v[.c (.int 1),.v 3]) #v[.loop (.nm 7) (.rng #v[.v 6]) #v[.ite (.cmp .isin (.tup #v[.tup #v[.ix (.ix (.v 2) (.v 7)) (.c (.int 0)),.tup .nil],.tup #v[.ix (.ix (.v 2) (.v 6)) (.c (.int 0)),.tup #v[.ix (.ix (.ix (.v 2) (.v 6)) (.c (.int 1))) (.v 7)]],.tup #v[.v 4,.tup #v[.ix (.v 5) (.v 7),.ix (.v 5) (.v 6)]]]) (.v 1)) #v[.ret (.c (.bl false))] .nil]],.ret (.c (.bl true))]
noncomputable def bI (kvs:Hg (T×W))(u:Wd)(s:Ho)(h:Pt):HU:=(HG s).all λq=>(HG q).all λp=>!bS kvs u h p q
theorem bq {kvs:Hg (T×W)}{u:Wd}{s:Ho}{h:Pt}:bI kvs u s h=true↔∀q < s,∀p < q,bS kvs u h p q=false:=by
 unfold bI;simp only[HP,HI,Kf]
theorem kK {α β:Type}{d:α}(n:Ho)(f:α->Ho->β)(h:0 < n):∀xs:Hg α,(HG (xs.length*n)).map (λi=>f (xs.getD (i / n) d) (i % n))=xs.flatMap λx=>(HG n).map (f x)
 | []=>by simp
 | x::xs=>by
  rw[Ja,<- kK n f h xs,Iw,Lz,Pe,List.range_add,HR,JW];congr 1
  ·refine IM λi hi=>?_
   have hi:=HI.mp hi;rw[Nat.div_eq_of_lt hi,Nat.mod_eq_of_lt hi]; rfl
  ·refine IM λi hi=>?_
   dsimp only[O6];rw[Nat.add_div_left _ h,Nat.add_mod_left]; rfl
theorem xL {n k:Ho}(h:0 < n):kz n (k+1)=(kz n k).flatMap λds=>(HG n).map λ(w:Ho)=>ds++[(w:Hv)]:=by
 rw[kz];exact kK (d:=[]) n (λds (w:Ho)=>ds++[(w:Hv)]) h (kz n k)
theorem i9 {kvs:Hg (T×W)}{u:Wd}{n:Ho}{m:Hv}(h:0 < n):∀s:Ho,s<=u.length->cb kvs u n m s=((kz n s).map λds=>(m,ds)).filter (bI kvs u s)
 | 0,_=>rfl
 | s+1,hs=>by
  rw[cb,i9 h s ∅,xL h]
  unfold cM;have len:∀ds∈kz n s,ds.length=s:=λds hd=>(CY hd).1
  generalize kz n s=D at len
  induction D with
  | nil=>rfl
  | cons ds D ih=>
   have ih:=ih λx hx=>len x (II _ hx)
   have hl:=len ds (Jh ..);have st:∀w:Ho,bI kvs u (s+1) (m,ds++[(w:Hv)])=(bI kvs u s (m,ds)&&gE kvs (u.take (s+1)++[(m,ds++[(w:Hv)])])):=λw=>by
    rw[l7 ∅,Kb,Hs,bq,bq,HP]
    constructor
    ·intro z;refine#[λq hq p hp=>?_,λp hp=>?_]
     ·rw[<- fq (x:=(w:Hv)) hp ∅]; exact z q ∅ p hp
     ·rw[z s (JE s) p (HI.mp hp)]; rfl
    ·rintro⟨z1,z2⟩ q hq p hp
     by_cases e:q=s
     ·subst e
      simpa using z2 p (HI.mpr hp)
     ·rw[fq hp ∅]; exact z1 q ∅ p hp
   rw[Ja,HR,JG,<- ih,IZ,JW]
   by_cases hm:bI kvs u s (m,ds)=true
   ·rw[Mc hm,Ja,JG];congr 1;rw[show((λds=>(m,ds))∘λ(w:Ho)=>ds++[(w:Hv)])=λ(w:Ho)=>(m,ds++[(w:Hv)])from rfl]
    refine L0 λx hx=>?_
    obtain⟨w,_,rfl⟩:=HQ.mp hx;dsimp only;rw[st w,hm]; rfl
   ·rw[Mf hm];have:((HG n).map ((λds=>(m,ds))∘λ(w:Ho)=>ds++[(w:Hv)])).filter (bI kvs u (s+1))=[]:=by
     rw[Ms];intro x hx;obtain⟨w,_,rfl⟩:=HQ.mp hx;dsimp only[O6];rw[st w,Kg.mpr hm];exact HK
    rw[this,Mw]
theorem qE {kvs kvs':Hg (T×W)}{u:Wd}{a n:Ho}(hn:0 < n)(h:∀t,(aK kvs t).isSome=(aK kvs' t).isSome):gN kvs u a n=gN kvs' u a n:=by
 unfold gN;refine kA λm _=>?_
 rw[i9 hn _ (Hz _),i9 hn _ (Hz _)];refine L0 λx _=>?_
 have:∀p q,bS kvs u x p q=bS kvs' u x p q:=λp q=>h _
 unfold bI;simp only[this]
section
variable{defs:Hg (HJ×Df)}{fuel d:Ho}{S:aa}{Q:QW}
theorem kL (hg:Is defs ("_law_last_may" : HJ) 4 8 aG){R:W}{a n q:Ho}{u:Wd}{h:Pt}{kvs:Hg (T×W)}(hu:GoodW a n u)(hh:h.2.length=u.length)(hl:u.length<=1000)(e:S[q]?=gV (.dic kvs))(k:Q (.bl (bI kvs u u.length h),S)) :
  wO (aC (ak defs fuel (d+1)) "_law_last_may" 4 [R,.ref q,am (u++[h]),.int (u.length:Hv)] S) Q:=by
 refine al hg rfl rfl λQ' hR=>?_
 replace k:=hR _ _ k;clear hR;show wZ _ _ aG [gV R,gV (.ref q),gV (am (u++[h])),gV (.int (u.length:Hv)),td,td,td,td] S Q';have hvl:u.length < (u++[h]).length:=by rw[Hk,Ij]; omega
 have at':∀p < u.length,(((u++[h]).map ap)[((p:Ho):Hv).toNat]?=gV (ap (u.getD p (0,[])))):=λp hp=>by
  rw[cY ∅,aE hp]
 have hw:∀p < u.length,(ac h.2)[((p:Ho):Hv).toNat]?=gV (.int (h.2.getD p 0)):=λp hp=>by
  rw[HF]; unfold ac; rw[Hq,aq (d:=0) ∅]; rfl
 dsimp only[aG];refine st ?_;dsimp only[wS,wE,wV,wG];refine ae (Hu _) (cY hvl) ?_;rw[bP];dsimp only[wU,ap];refine ab (show cK [4,5] [.int h.1,.tup (h.2.map W.int)] [gV R,gV (.ref q),gV (am (u++[h])),gV (.int (u.length:Hv)),td,td,td,td]=gV [gV R,gV (.ref q),gV (am (u++[h])),gV (.int (u.length:Hv)),gV (.int h.1),gV (.tup (ac h.2)),td,td]from rfl) ?_
 refine aF λK hK=>?_
 refine cx 1 (u.length:Hv) (λm ρ S'=>(∃a6 a7,ρ=[gV R,gV (.ref q),gV (am (u++[h])),gV (.int (u.length:Hv)),gV (.int h.1),gV (.tup (ac h.2)),a6,a7])/\S'=S/\∀j < m+1,∀p < j,bS kvs u h p j=false) rfl rfl rfl ∅ #[rfl,rfl,#[_,_,rfl],rfl,λj hj p hp=>∅] ?_ ?_
 ·rintro m ρ S1 hm ⟨⟨a6,a7,rfl⟩,rfl,no⟩ Q2 hn2 hr2;clear hK;rw[show(1:Hv)+m=((m+1:Ho):Hv) by omega]
  have hmu:m+1 < u.length:=∅
  generalize hj:m+1=j at hmu hn2 no;dsimp only[Hw];refine aF λK hK=>?_
  refine bC (j:Hv) (λi ρ S'=>(∃a7,ρ=[gV R,gV (.ref q),gV (am (u++[h])),gV (.int (u.length:Hv)),gV (.int h.1),gV (.tup (ac h.2)),gV (.int (j:Hv)),a7])/\S'=S1/\∀p < i,bS kvs u h p j=false) rfl rfl ∅ #[rfl,#[_,rfl],rfl,λp hp=>∅] ?_ ?_
  ·rintro i ρ S2 hi ⟨⟨a7,rfl⟩,rfl,no2⟩ Q3 hn3 hr3;clear hK;have hij:i < j:=∅
   have hiu:i < u.length:=∅
   have lj:i < (u.getD j (0,[])).2.length:=by rw[hu.len j _ (aq (d:=(0,[])) hmu)]; exact hij
   dsimp only[Hw];refine aF λK hK=>?_
   dsimp only[wS,wT,wE,wA,wV,wG];refine ae (Hu i) (at' i hiu) (ae #v[] rfl (ae (Hu j) (at' j hmu) (ae #v[] rfl (ae (Hu j) (at' j hmu) (ae #v[] rfl (ae (w:=.int ((u.getD j (0,[])).2.getD i 0)) (Hu i) (by rw[HF,Hq,aq (d:=0) lj]; rfl) (ae (Hu i) (hw i hiu) (ae (Hu j) (hw j hmu) ?_))))))))
   refine ab (show aL .isin (am [((u.getD i (0,[])).1,[]),((u.getD j (0,[])).1,[(u.getD j (0,[])).2.getD i 0]),(h.1,[h.2.getD i 0,h.2.getD j 0])]) (.ref q) S2=gV (.bl (bS kvs u h i j),S2) by simp only[aL,bJ e,gW]; rfl) ?_
   dsimp only[wB];refine ah (Q0:=Q3) (λhb Q5 _ hr5=>?_) (λhb Q5 hn5 _=>aM (hn5 _ _ (hK _ _ (aM (hn3 _ _ #[#[_,rfl],rfl,λp hp=>?_])))))
   ·refine st ?_;dsimp only[wS,wE];have:bI kvs u u.length h=false:=by
     rw[Kg];intro z;rw[bq.mp z j hmu i hij]at hb;cases hb
    rw[this]at k;exact hr5 _ _ (hr3 _ _ (hr2 _ _ k))
   ·by_cases ep:p=i
    ·rw[ep]; exact hb
    ·exact no2 p ∅
  ·rintro ρ S2 ⟨⟨a7,rfl⟩,rfl,no2⟩;rw[HF]at no2;refine hK _ _ (aM (hn2 _ _ #[#[_,_,rfl],rfl,λj' hj' p hp=>?_]))
   by_cases ej:j'=j
   ·subst ej; exact no2 p hp
   ·exact no j' ∅ p hp
 ·rintro ρ S1 ⟨⟨a6,a7,rfl⟩,rfl,no⟩;refine hK _ _ (st ?_);dsimp only[wS,wE];rw[bq.mpr λq hq p hp=>no q ∅ p hp]at k
  exact k
end
theorem C3 {bs:Hg Hv}{a:Ho}{v:Wd}{i j:Ho}(hb:GoodB bs)(hv:GoodW a bs.length v)(hi:i < v.length)(hj:j < v.length)(hij:i≠j):0<=bM bs v i j/\bM bs v i j < (bs.length:Hv):=by
 unfold bM
 by_cases h:j < i
 ·rw[HV h];have hp:=aq (d:=(0,[])) hi;have hw:j < (v.getD i (0,[])).2.length:=by rw[hv.len i _ hp]; exact h
  exact hv.way i _ hp _ (HC (aq (d:=0) hw))
 ·rw[Iv h];have hp:=aq (d:=(0,[])) hj;have hw:i < (v.getD j (0,[])).2.length:=by rw[hv.len j _ hp]; omega
  obtain⟨g1,g2⟩:=hv.way j _ hp _ (HC (aq (d:=0) hw));exact(hb.at g1 g2).2
theorem md {bs:Hg Hv}{a:Ho}{v:Wd}{ps:Hg Ho}(hb:GoodB bs)(hv:GoodW a bs.length v)(hps:∀p∈ps,p < v.length)(hnd:ps.Nodup):GoodW a bs.length (au bs v ps):=by
 have at':∀(k:Ho) (q:Pt),(au bs v ps)[k]?=gV q->∃hk:k < ps.length,q=((v.getD ps[k] (0,[])).1,(ps.take k).map λj=>bM bs v ps[k] j):=λk q e=>by
  have hk:k < ps.length:=by
   have:=(HD.mp e).1;rw[bv]at this; exact this
  refine#[hk,?_];unfold au at e;rw[Hq,JP hk,Iq,show ps.getD k 0=ps[k] by simp[hk]]at e
  exact(IS e).symm
 refine#[λk q e=>?_,λk q e=>?_,λk q e=>?_]
 ·obtain⟨hk,rfl⟩:=at' k q e;have:=hv.mark _ _ (aq (d:=(0,[])) (hps _ (IQ hk)));exact this
 ·obtain⟨hk,rfl⟩:=at' k q e;dsimp only;rw[Hh,HX]; omega
 ·obtain⟨hk,rfl⟩:=at' k q e;intro w hw;obtain⟨j,hj,rfl⟩:=HQ.mp hw;have hjm:=KJ hj;refine C3 hb hv (hps _ (IQ hk)) (hps _ hjm) λe=>?_
  obtain⟨m,hm,e2⟩:=Lr.mp hj;rw[HX]at hm;rw[Lf]at e2;have:=(JX hnd).mp (e.trans e2.symm);omega
section
variable{defs:Hg (HJ×Df)}{fuel d:Ho}{S:aa}{Q:QW}
theorem C4 (hd:Is defs ("_law_flow" : HJ) 1 1 ee){ns:Hg Hv}{u:Ho}(hu:S[u]?=gV (.fro (ns.map W.int)))(k:∀r S',Ka S S'->Fl S' r->Q (.ref r,S')) :
  wO (aC (ak defs fuel (d+1)) "_law_flow" 1 [.ref u] S) Q:=by
 refine al hd rfl rfl λQ' hR=>?_
 show wZ _ _ ee [gV (.ref u)] S Q';dsimp only[ee];refine st ?_;dsimp only[wS,wE,wA,wV,wG];have e:Bi.list.fn [.ref u] S=gV (.ref S.length,S++[.lst (ns.map W.int)]):=by
  have h1:zd S u=td:=by simp[zd,hu]
  simp only[Bi.fn,Ee,lF,h1,hW,eO,z9 hu]
 refine ab e (hR _ _ (k _ _ (Ka.push.trans .push) #[S.length,ns,0,0,1,0,?_,?_,?_,#v[],#v[],#v[],#v[]]))
 ·exact aj
 ·exact ar aj
 ·simp
end
structure Ord (n:Ho)(o:Hg Ho):Prop where
 nd:o.Nodup
 lt:∀p∈o,p < n
noncomputable def xM:Ho->Hg (Hg Ho)
 | 0=>[[]]
 | k+1=>(xM k).flatMap λo=>(HG (k+1)).map λi=>o.take i++[k]++o.drop i
theorem nS:∀ {n:Ho} {o:Hg Ho},o∈xM n↔Ord n o/\o.length=n
 | 0,o=>by
  rw[xM,HB];exact#[λh=>by subst h; exact#[#[.nil,λp hp=>nomatch hp],rfl],λh=>Ls h.2]
 | n+1,o=>by
  rw[xM,IY];constructor
  ·rintro⟨o',h1,h2⟩;obtain⟨i,hi,rfl⟩:=HQ.mp h2;obtain⟨⟨nd,lt⟩,hl⟩:=nS.mp h1;have hi:=HI.mp hi;have hp:(o'.take i++[n]++o'.drop i).Perm (n::o'):=by
    have e:o'.take i++[n]++o'.drop i=o'.take i++n::o'.drop i:=by simp
    rw[e];refine Oe.trans ?_;rw[Ky]
   refine#[#[hp.nodup_iff.mpr (Js.mpr #[λz=>absurd (lt _ z) (IX _),nd]),λp hpm=>?_],by rw[hp.length_eq,Iw,hl]]
   rcases HW.mp (hp.mem_iff.mp hpm)with z|z
   ·omega
   ·have:=lt p z; omega
  ·rintro⟨⟨nd,lt⟩,hl⟩;have hm:n∈o:=by
    by_cases z:n∈o
    ·exact z
    ·have h1:=nL o (HG n) nd λp hp=>HI.mpr (by
      have:=lt p hp;have:p≠n:=λe=>z (e ▸ hp)
      omega)
     rw[Ic]at h1;omega
   obtain⟨a,b,rfl⟩:=List.append_of_mem hm;have hp:(a++n::b).Perm (n::(a++b)):=Oe;have nd2:=hp.nodup_iff.mp nd;obtain⟨nn,nd3⟩:=Js.mp nd2;refine#[a++b,nS.mpr #[#[nd3,λp hpm=>?_],?_],HQ.mpr #[a.length,HI.mpr ?_,?_]]
   ·have h1:=lt p (hp.mem_iff.mpr (II _ hpm));have:p≠n:=λe=>nn (e ▸ hpm)
    omega
   ·have:=hp.length_eq;rw[hl,Iw]at this;omega
   ·rw[Hk,Iw]at hl;omega
   ·rw[List.take_left',List.drop_left'] <;> simp
theorem eV {bs:Hg Hv}{u:Wd}{o:Hg Ho}{i:Ho}(hi:i < o.length):(au bs u o).getD i (0,[])=((u.getD (o.getD i 0) (0,[])).1,(o.take i).map λj=>bM bs u (o.getD i 0) j):=by
 unfold au;rw[HL,Hq,JP hi]; rfl
theorem pE {bs:Hg Hv}{u:Wd}{o:Hg Ho}{i j:Ho}(hi:i < o.length)(hj:j < i):((au bs u o).getD i (0,[])).2.getD j 0=bM bs u (o.getD i 0) (o.getD j 0):=by
 rw[eV hi];dsimp only;rw[HL,Hq,KS hj,aq (d:=0) (show j < o.length by omega)]; rfl
theorem xN {bs:Hg Hv}{a:Ho}{u:Wd}{o:Hg Ho}{i j:Ho}(hb:GoodB bs)(hu:GoodW a bs.length u)(hO:Ord u.length o)(hi:i < o.length)(hj:j < o.length)(hij:i≠j):bM bs (au bs u o) i j=bM bs u (o.getD i 0) (o.getD j 0):=by
 have gi:=aq (d:=0) hi;have gj:=aq (d:=0) hj;have li:=hO.lt _ (HC gi);have lj:=hO.lt _ (HC gj);have ne:o.getD i 0≠o.getD j 0:=λe=>by
  have h1:o[i]=o.getD i 0:=by simp[hi]
  have h2:o[j]=o.getD j 0:=by simp[hj]
  exact hij ((JX hO.nd).mp (by rw[h1,h2,e]))
 by_cases h:j < i
 ·have:bM bs (au bs u o) i j=((au bs u o).getD i (0,[])).2.getD j 0:=by unfold bM; rw[HV h]
  rw[this,pE hi h]
 ·have:bM bs (au bs u o) i j=bs.getD (((au bs u o).getD j (0,[])).2.getD i 0).toNat 0:=by unfold bM; rw[Iv h]
  rw[this,pE hj ∅]
  generalize o.getD i 0=x at *
  generalize o.getD j 0=y at *
  unfold bM
  by_cases h2:x < y
  ·rw[HV h2,Iv ∅]
  ·rw[Iv h2,HV ∅]
   have hp:=aq (d:=(0,[])) li;have hw:y < (u.getD x (0,[])).2.length:=by rw[hu.len x _ hp]; omega
   obtain⟨w0,w1⟩:=hu.way x _ hp _ (HC (aq (d:=0) hw));have:=hb.inv ((u.getD x (0,[])).2.getD y 0).toNat ∅
   rw[this]; omega
theorem jb {bs:Hg Hv}{a:Ho}{u:Wd}{o p:Hg Ho}(hb:GoodB bs)(hu:GoodW a bs.length u)(hO:Ord u.length o)(hP:Ord o.length p):au bs (au bs u o) p=au bs u (p.map λi=>o.getD i 0):=by
 refine Lm (by rw[bv,bv,Hh]) λk h1 h2=>?_
 rw[bv]at h1;have e1:=eV (bs:=bs) (u:=au bs u o) (o:=p) h1;have e2:=eV (bs:=bs) (u:=u) (o:=p.map λi=>o.getD i 0) (i:=k) (by rw[Hh]; exact h1)
 have hk:p.getD k 0 < o.length:=hP.lt _ (HC (aq (d:=0) h1));have ek:(p.map λi=>o.getD i 0).getD k 0=o.getD (p.getD k 0) 0:=by
  rw[HL,Hq,aq (d:=0) h1]; rfl
 rw[ek]at e2;rw[eV hk]at e1;have f:∀(v:Wd) (hv:k < v.length),v[k]=v.getD k (0,[]):=λv hv=>by simp[hv]
 rw[f _ (by rw[bv]; exact h1),f _ h2,e1,e2]
 congr 1;rw[<- KZ,JW];refine IM λj hj=>?_
 obtain⟨m,hm,rfl⟩:=Lr.mp hj;rw[HX]at hm;rw[Lf];have hpm:p[m]=p.getD m 0:=by simp[show m < p.length by omega]
 rw[hpm];refine xN hb hu hO hk (hP.lt _ (HC (aq (d:=0) (show m < p.length by omega)))) λe=>?_
 have h3:p[k]=p.getD k 0:=by simp[h1]
 have:=(JX hP.nd).mp (h3.trans (e.trans hpm.symm));omega
theorem eW {n:Ho}{x:Hv}(h:x∈ey n):0<=x/\x < n:=by
 obtain⟨k,hk,rfl⟩:=HQ.mp h;have:=HI.mp hk;omega
theorem qF {a n:Ho}{u:Wd}(h:u∈pc a n):GoodW a n u/\u.length=3:=by
 unfold pc at h;simp only[IY,HQ]at h;obtain⟨m0,h0,m1,h1,m2,h2,w1,g1,w2,g2,w3,g3,rfl⟩:=h;refine#[?_,rfl];have s1:GoodW a n ([]++[(m0,[])]):=GoodW.nil.snoc (eW h0) rfl (λw hw=>nomatch hw)
 have s2:GoodW a n ([(m0,[])]++[(m1,[w1])]):=s1.snoc (eW h1) rfl (λw hw=>by rw[HB.mp hw]; exact eW g1)
 exact s2.snoc (eW h2) rfl (λw hw=>by
  simp only[HW,IR,Kr]at hw;rcases hw with rfl|rfl
  ·exact eW g2
  ·exact eW g3)
theorem ut {a:Ho}{bs:Hg Hv}{g:Wd}(hb:GoodB bs)(h:g∈aN a bs):GoodW a bs.length g/\g.length=3:=by
 unfold aN at h;rw[LK]at h;obtain⟨u,hu,rfl⟩:=HQ.mp h;obtain⟨gu,u3⟩:=qF hu;unfold kn;have hm:nq ((aw.map (au bs u)).map dq) < (aw.map (au bs u)).length:=by
  unfold nq;refine Nv (fj _ _) ?_;rw[Hh,Hh]; decide
 have:=HC (aq (d:=[]) hm);obtain⟨t,ht,e⟩:=HQ.mp this;rw[<- e];have tk:∀t∈aw,t.length=3/\t.Nodup/\∀p∈t,p < 3:=by decide
 obtain⟨t1,t2,t3⟩:=tk t ht;exact#[md hb gu (λp hp=>by have:=t3 p hp; omega) t2,by rw[bv]; exact t1]
theorem uu {a n:Ho}{u:Wd}(hu:GoodW a n u):GoodW a n u.dropLast:=by
 have key:∀(k:Ho) (x:Pt),(u.dropLast)[k]?=gV x->u[k]?=gV x:=λk x e=>by
  rw[Mt]at e;split at e
  ·exact e
  ·cases e
 exact#[λk x e=>hu.mark k x (key k x e),λk x e=>hu.len k x (key k x e),λk x e=>hu.way k x (key k x e)]
theorem jc {t:Hg Ho}:t∈aw↔Ord 3 t/\t.length=3:=by
 constructor
 ·intro h;have:∀t∈aw,t.Nodup/\(∀p∈t,p < 3)/\t.length=3:=by decide
  obtain⟨h1,h2,h3⟩:=this t h;exact#[#[h1,h2],h3]
 ·intro h;have h1:=nS.mpr h;have:∀t∈xM 3,t∈aw:=by decide
  exact this t h1
noncomputable def jd:Ss:=
 #v[.ret (.ix (.ix (.ix (.v 0) (.c (.int 1))) (.v 1)) (.c (.int 1)))]
noncomputable def dy:Ss:=
 #v[.ret (.own "all_bars" 5 #v[.v 0,.own "barred_threes" 1 #v[.v 0],.v 1,.v 2,.v 3])]
noncomputable def fu:Ss:=
 #v[.set 5 (.comp (.own "first_bar" 2 #v[.v 2,.own "with_both" 5 #v[.v 6,.v 3,.v 4,.v 5,.v 1]]) (.nm 1) (.rng #v[.bi .len #v[.ix (.v 0) (.c (.int 1))]]) .nil [td,td,gV 1,gV 2,gV 3,gV 4,gV 0]),.ret (.bi .tuple #v[.op .add (.v 5) (.lst #v[.own "same_bar" 2 #v[.v 3,.v 4]])])]
noncomputable def dz:Ss:=
 #v[.ret (.op .add (.v 1) (.tup #v[.v 2,.tup #v[.ix (.v 3) (.c (.int 0)),.op .add (.ix (.v 3) (.c (.int 1))) (.tup #v[.own "back" 2 #v[.v 0,.v 4]])]]))]
noncomputable def en:Ss:=
 #v[.ite (.cmp .ne (.ix (.v 0) (.c (.int 0))) (.ix (.v 1) (.c (.int 0)))) #v[.ret (.neg (.c (.int 1)))] .nil,.set 2 (.comp (.v 1) (.nm 1) (.rng #v[.bi .len #v[.ix (.v 0) (.c (.int 1))]]) #v[.cmp .ne (.ix (.ix (.v 2) (.c (.int 1))) (.v 1)) (.ix (.ix (.v 3) (.c (.int 1))) (.v 1))] [td,td,gV 0,gV 1]),.ret (.ite (.v 2) (.ix (.v 2) (.c (.int 0))) (.c .non))]
noncomputable def bX (P:Ho->HU)(s:Ho):W:=match (HG s).find? P with
 | some i=>.int (i:Hv)
 | none=>.non
theorem qG {P:Ho->HU}{s:Ho}(h:∀i < s,P i=false):bX P s=.non:=by
 unfold bX;have:(HG s).find? P=td:=J2.mpr λi hi=>by rw[h i (HI.mp hi)]; exact HK
 rw[this]
theorem gY {P:Ho->HU}:∀ {s i:Ho},i < s->P i=true->(∀j < i,P j=false)->(HG s).find? P=gV i
 | s+1,i,hi,hp,hn=>by
  rw[Jw,List.find?_append]
  by_cases e:i=s
  ·subst e;have:(HG i).find? P=td:=J2.mpr λj hj=>by rw[hn j (HI.mp hj)]; exact HK
   rw[this];simp[hp]
  ·rw[gY ∅ hp hn]; rfl
theorem qH {P:Ho->HU}{s i:Ho}(hi:i < s)(hp:P i=true)(hn:∀j < i,P j=false):bX P s=.int (i:Hv):=by
 unfold bX;rw[gY hi hp hn]
theorem qI {P:Ho->HU}{s:Ho}:(((HG s).filter P).map (λ(i:Ho)=>W.int (i:Hv))++[.non])[0]?=gV (bX P s):=by
 unfold bX;rw[<- List.head?_filter];cases(HG s).filter P <;> rfl
theorem jo (P:Ho->HU)(s:Ho):bX P s=.non\/∃i:Hv,bX P s=.int i:=by
 unfold bX;cases(HG s).find? P with
 | none=>exact .inl rfl
 | some i=>exact .inr #[_,rfl]
noncomputable def cQ (bs:Hg Hv)(u:Wd)(one other:Pt)(n:Ho):Wd:=u++[one]++[(other.1,other.2++[bs.getD n 0])]
noncomputable def iE (one other:Pt):W:=if one.1=other.1 then bX (λp=>!(one.2.getD p 0==other.2.getD p 0)) one.2.length else .int (-1)
noncomputable def dA (P:Wd->Ho->HU)(bs:Hg Hv)(u:Wd)(one other:Pt):Hg W:=(HG bs.length).map (λn=>bX (P (cQ bs u one other n)) u.length)++[iE one other]
theorem qJ (one other:Pt):iE one other=.non\/∃i:Hv,iE one other=.int i:=by
 unfold iE;split
 ·exact jo _ _
 ·exact .inr #[_,rfl]
structure GoodP (a n k:Ho)(p:Pt):Prop where
 mark:0<=p.1/\p.1 < a
 len:p.2.length=k
 way:∀w∈p.2,0<=w/\w < (n:Hv)
theorem uw {bs:Hg Hv}{a:Ho}{u:Wd}{one other:Pt}{n:Ho}(hb:GoodB bs)(hu:GoodW a bs.length u)(h1:GoodP a bs.length u.length one)(h2:GoodP a bs.length u.length other)(hn:n < bs.length):GoodW a bs.length (cQ bs u one other n)/\(cQ bs u one other n).length=u.length+2:=by
 refine#[(hu.snoc (m:=one.1) (ws:=one.2) h1.mark h1.len h1.way).snoc h2.mark ?_ λw hw=>?_,?_]
 ·rw[Hk,Hk,h2.len]; rfl
 ·rcases HY.mp hw with z|z
  ·exact h2.way w z
  ·rw[HB.mp z];obtain⟨b,hb1,hb2,hb3⟩:=hb.rng n hn;rw[getD_some hb1]; exact#[hb2,hb3]
 ·unfold cQ;rw[Hk,Hk]; rfl
section
variable{defs:Hg (HJ×Df)}{fuel d:Ho}{S:aa}{Q:QW}
theorem pG (h3:Is defs ("three_at" : HJ) 4 6 aX)(hg:Is defs ("first_bar" : HJ) 2 4 aU){a n q s:Ho}{v:Wd}{kvs:Hg (T×W)}(hv:GoodW a n v)(hs:v.length=s+2)(hl:v.length<=1000)(e:S[q]?=gV (.dic kvs))(k:Q (bX (λp=>bH kvs v p s (s+1)) s,S)) :
  wO (aC (ak defs fuel (d+2)) "first_bar" 2 [.ref q,am v] S) Q:=by
 refine al hg rfl rfl λQ' hR=>?_
 replace k:=hR _ _ k;clear hR;show wZ _ _ aU [gV (.ref q),gV (am v),td,td] S Q';have ul:(v.map ap).length=v.length:=Hh ..;dsimp only[aU];refine st ?_;dsimp only[wS,wE,wA,wV,wG,Hw];refine ay (ab gK ?_);rw[ul,show((v.length:Ho):Hv) - 1=((s+1:Ho):Hv) by omega]
 refine aF λK hK=>?_
 refine bC (s:Hv) (λi ρ S'=>(∃a3,ρ=[gV (.ref q),gV (am v),gV (.int ((s+1:Ho):Hv)),a3])/\S'=S/\∀i' < i,bH kvs v i' s (s+1)=false) rfl rfl ∅ ?_ ?_ ?_
 ·dsimp only[wE,wV,wG];refine ab gK #[?_,#[_,rfl],rfl,λi' z=>∅]
  dsimp only;rw[show((s+1:Ho):Hv) - 1=(s:Hv) by omega]
 ·rintro i ρ S1 hi ⟨⟨a3,rfl⟩,rfl,no⟩ Q2 hn hr;clear hK;dsimp only[Hw];refine aF λK hK=>?_
  dsimp only[wS,wT,wE,wA,wV,wG];refine ab gK ?_;dsimp only;rw[show((s+1:Ho):Hv) - 1=(s:Hv) by omega]
  refine nP (d:=d) h3 hv ∅ (JE s) ∅ ?_
  refine ab (show aL .isin (am (bW v i s (s+1))) (.ref q) S1=gV (.bl (bH kvs v i s (s+1)),S1) by simp only[aL,bJ e,gW]; rfl) ?_
  dsimp only[wB];refine ah (Q0:=Q2) (λh Q5 _ hr5=>?_) (λh Q5 hn5 _=>aM (hn5 _ _ (hK _ _ (aM (hn _ _ #[#[_,rfl],rfl,λi' z=>?_])))))
  ·refine st ?_;dsimp only[wS,wE,wV,wG];rw[qH (P:=λp=>bH kvs v p s (s+1)) ∅ h no]at k
   exact hr5 _ _ (hr _ _ k)
  ·by_cases ei:i'=i
   ·rw[ei]; exact h
   ·exact no i' ∅
 ·rintro ρ S1 ⟨⟨a3,rfl⟩,rfl,no⟩;refine hK _ _ (st ?_);dsimp only[wS,wE];rw[qG (P:=λp=>bH kvs v p s (s+1)) λi hi=>no i ∅]at k
  exact k
theorem C5 (hg:Is defs ("back" : HJ) 2 2 jd){m0 b0:W}{ns:Hg HJ}{bs:Hg Hv}{n:Ho}(hnl:ns.length=bs.length)(hn:n < bs.length)(k:Q (.int (bs.getD n 0),S)) :
  wO (aC (ak defs fuel (d+1)) "back" 2 [.tup [m0,.tup (Hy aB ns bs),b0],.int n] S) Q:=by
 refine al hg rfl rfl λQ' hR=>?_
 replace k:=hR _ _ k;show wZ _ _ jd [gV (.tup [m0,.tup (Hy aB ns bs),b0]),gV (.int n)] S Q';have hb:=aq (d:=0) hn;dsimp only[jd];refine st ?_;dsimp only[wS,wE,wV,wG];exact ae #v[] rfl (ae (Hu n) (by rw[HF]; exact i4 (HE ∅) hb) (ae #v[] rfl k))
theorem pH (hbk:Is defs ("back" : HJ) 2 2 jd)(hg:Is defs ("with_both" : HJ) 5 5 dz){m0 b0:W}{ns:Hg HJ}{bs:Hg Hv}{u:Wd}{one other:Pt}{n:Ho}(hnl:ns.length=bs.length)(hn:n < bs.length)(hu:u.length<=900)(ho:other.2.length<=900)(k:Q (am (cQ bs u one other n),S)) :
  wO (aC (ak defs fuel (d+2)) "with_both" 5 [.tup [m0,.tup (Hy aB ns bs),b0],am u,ap one,ap other,.int n] S) Q:=by
 refine al hg rfl rfl λQ' hR=>?_
 replace k:=hR _ _ k;show wZ _ _ dz [gV (.tup [m0,.tup (Hy aB ns bs),b0]),gV (am u),gV (ap one),gV (ap other),gV (.int n)] S Q';dsimp only[dz];refine st ?_;dsimp only[wS,wE,wA,wV,wG];refine ae #v[] rfl (ae #v[] rfl ?_)
 refine C5 (d:=d) hbk hnl hn ?_;refine ab (bF (dR ?_)) ?_
 ·rw[Hk,Hh]; show _+1<=_; omega
 dsimp only;have ev:u.map ap++[ap one,.tup [.int other.1,.tup (other.2.map W.int++[.int (bs.getD n 0)])]]=(cQ bs u one other n).map ap:=by
  unfold cQ;simp[ap]
 unfold am at k ⊢;refine ab (bF (dR ?_)) ?_
 ·rw[Hk,Hh]; show _+2<=_; omega
 dsimp only;rw[ev];exact k
theorem qK (hg:Is defs ("same_bar" : HJ) 2 3 en){one other:Pt}(h:other.2.length=one.2.length)(hl:one.2.length<=900)(k:∀S',Ka S S'->Q (iE one other,S')) :
  wO (aC (ak defs fuel (d+1)) "same_bar" 2 [ap one,ap other] S) Q:=by
 refine al hg rfl rfl λQ' hR=>?_
 replace k:∀S',Ka S S'->Q' (.rt (iE one other),S'):=λS' a=>hR _ _ (k S' a)
 clear hR;show wZ _ _ en [gV (ap one),gV (ap other),td] S Q';have wl:∀(p:Pt) (i:Ho),i < p.2.length->(p.2.map W.int)[((i:Ho):Hv).toNat]?=gV (.int (p.2.getD i 0)):=λp i hi=>by
  rw[HF,Hq,aq (d:=0) hi]; rfl
 dsimp only[en];refine aF λK hK=>?_
 dsimp only[wS,wT,wE,wV,wG];refine ae #v[] rfl (ae #v[] rfl (ab t8 ?_))
 dsimp only[wB];unfold iE at k;refine ah (Q0:=Q') (λhm Q2 _ hr=>?_) (λhm Q2 hn _=>aM (hn _ _ (hK _ _ ?_)))
 ·have hm:one.1≠other.1:=λz=>by rw[z]at hm; simp at hm
  refine st ?_;dsimp only[wS,wE,wN];rw[Iv hm]at k;exact hr _ _ (k S .refl)
 clear hK K hn;have hm:one.1=other.1:=by
  by_cases z:one.1=other.1
  ·exact z
  ·have:(!(one.1==other.1))=true:=by simp[z]
   rw[this]at hm; cases hm
 rw[HV hm]at k;refine st ?_;dsimp only[wS,wE,Hw];refine nQ one.2.length (λp=>!(one.2.getD p 0==other.2.getD p 0)) (λ(i:Ho)=>W.int (i:Hv)) [gV (ap one),gV (ap other)] rfl rfl rfl rfl ∅ ?_ (λi hi S2 k2=>?_) λS2 k2=>?_
 ·dsimp only[wE,wA,wV,wG];refine ae #v[] rfl (ay ?_)
  rw[Hh];exact#[rfl,.refl]
 ·dsimp only[fW,wC,wT,wE,wV,wG];refine ae #v[] rfl (ae (Hu i) (wl one i hi) (ae #v[] rfl (ae (Hu i) (wl other i ∅) (ab t8 ?_))))
  dsimp only[wB];exact#[λz=>#[z,rfl,.refl],λz=>#[z,.refl]]
 ·have hh:=qI (P:=λp=>!(one.2.getD p 0==other.2.getD p 0)) (s:=one.2.length)
  refine st ?_;dsimp only[wS,wE,wT,wV,wG];cases hL:((HG one.2.length).filter λp=>!(one.2.getD p 0==other.2.getD p 0))with
  | nil=>
   rw[hL]at hh;refine ab (show cw (S2++[O.lst []]) (.ref S2.length)=gV false by simp only[cw,aJ aj]; rfl) #[λz=>(by cases z),λ_=>?_]
   have e:bX (λp=>!(one.2.getD p 0==other.2.getD p 0)) one.2.length=.non:=(IS hh).symm
   rw[e]at k;exact k _ (k2.trans .push)
  | cons x L=>
   rw[hL]at hh;refine ab (show cw (S2++[O.lst ((x::L).map λ(i:Ho)=>W.int (i:Hv))]) (.ref S2.length)=gV true by simp only[cw,aJ aj]; rfl) #[λ_=>?_,λz=>by cases z]
   have e:bX (λp=>!(one.2.getD p 0==other.2.getD p 0)) one.2.length=.int (x:Hv):=(IS hh).symm
   rw[e]at k;exact ef (i:=0) aj rfl (k _ (k2.trans .push))
end
noncomputable def E1:W->HU
 | .non=>true
 | _=>false
noncomputable def NI (w:W):Prop:=w=.non\/∃i:Hv,w=.int i
noncomputable def PB (X:Hg T)(s:Ho)(v:Wd)(p:Ho):HU:=decide (dq (bW v p s (s+1))∈X)
theorem mf {P:Wd->Ho->HU}{bs:Hg Hv}{u:Wd}{one other:Pt}:(dA P bs u one other).length=bs.length+1:=by
 unfold dA;rw[Hk,Hh,Ic]; rfl
theorem xO {S:aa}{xs:Hg W}(h:xs≠[]):ju (.tup xs) (.int (-1)) S=gV (xs.getLastD (.int 0),S):=by
 have hp:0 < xs.length:=Lx.mpr h;have hs:rg xs.length (-1)=gV (xs.length - 1):=by
  unfold rg;rw[Iv #v[]]
  exact(HV ∅).trans (by congr 1; omega)
 have hg:xs[xs.length - 1]?=gV (xs.getLastD (.int 0)):=by
  rw[LQ,LR];have:xs.length - 1 < xs.length:=∅
  simp[this]
 simp only[ju,tj,ol,hs,hg,Option.bind_some,Iq]
section
variable{defs:Hg (HJ×Df)}{fuel d:Ho}{S:aa}{Q:QW}
structure Fil (defs:Hg (HJ×Df)):Prop where
 parts:Parts defs
 part:Is defs ("part" : HJ) 3 3 gX
 longer:Is defs ("longer_orders" : HJ) 2 4 aW
 barred:Is defs ("barred_threes" : HJ) 1 5 bx
 three:Is defs ("three_at" : HJ) 4 6 aX
 fbar:Is defs ("first_bar" : HJ) 2 4 aU
 back:Is defs ("back" : HJ) 2 2 jd
 both:Is defs ("with_both" : HJ) 5 5 dz
 same:Is defs ("same_bar" : HJ) 2 3 en
 all:Is defs ("all_bars" : HJ) 5 6 fu
theorem gZ (F:Fil defs){m0 b0:W}{ns:Hg HJ}{bs:Hg Hv}{a q:Ho}{u:Wd}{one other:Pt}{kvs:Hg (T×W)}(hb:GoodB bs)(hnl:ns.length=bs.length)(hu:GoodW a bs.length u)(h1:GoodP a bs.length u.length one)(h2:GoodP a bs.length u.length other)(hul:u.length<=800)(e:S[q]?=gV (.dic kvs))
  (k:∀S',Ka S S'->Q (.tup (dA (λv p=>bH kvs v p u.length (u.length+1)) bs u one other),S')) :
  wO (aC (ak defs fuel (d+3)) "all_bars" 5 [.tup [m0,.tup (Hy aB ns bs),b0],.ref q,am u,ap one,ap other] S) Q:=by
 refine al F.all rfl rfl λQ' hR=>?_
 replace k:∀S',Ka S S'->Q' (.rt (.tup (dA (λv p=>bH kvs v p u.length (u.length+1)) bs u one other)),S'):=λS' a=>hR _ _ (k S' a)
 clear hR;show wZ _ _ fu [gV (.tup [m0,.tup (Hy aB ns bs),b0]),gV (.ref q),gV (am u),gV (ap one),gV (ap other),td] S Q';generalize hR0:W.tup [m0,.tup (Hy aB ns bs),b0]=R;have hb3:bs.length<=3:=by rcases hb with rfl|rfl|rfl|rfl|rfl|rfl <;> decide
 dsimp only[fu];refine st ?_;dsimp only[wS,wE,Hw];refine nQ bs.length (λ_=>true) (λn=>bX (λp=>bH kvs (cQ bs u one other n) p u.length (u.length+1)) u.length) [gV (.ref q),gV (am u),gV (ap one),gV (ap other),gV R] rfl rfl rfl rfl ∅ ?_ (λn hn S2 k2=>?_) λS2 k2=>?_
 ·dsimp only[wE,wA,wV,wG];subst hR0;refine ae #v[] rfl (ay ?_)
  rw[Jf,hnl,JU];exact#[rfl,.refl]
 ·obtain⟨g1,g2⟩:=uw hb hu h1 h2 hn;dsimp only[fW,wC,wE,wA,wV,wG];subst hR0;refine#[λ_=>?_,λz=>by cases z]
  refine pH (d:=d) F.back F.both hnl hn ∅ (by rw[h2.len]; omega) ?_
  exact pG (d:=d) F.three F.fbar g1 g2 ∅ (k2.get _ _ e) #[rfl,rfl,.refl]
 ·rw[c8];refine st ?_;dsimp only[wS,wE,wA,wV,wG];refine qK (d:=d+1) F.same (by rw[h1.len,h2.len]) (by rw[h1.len]; omega) λS3 k3=>?_
  dsimp only;refine ab (nG (ar (k3.get _ _ aj)) aj (dR ?_)) (fH aj (k _ (((k2.trans .push).trans k3).trans (Ka.push.trans .push))));rw[Hk,Hh,Ic]; show _+1<=_; omega
theorem pI (hfu:20 < fuel)(F:Fil defs)(hby:Is defs ("barred_by" : HJ) 4 4 dy){m0:W}{ns:Hg HJ}{bs:Hg Hv}{a:Ho}{gs:Hg Wd}{u:Wd}{one other:Pt}(hb:GoodB bs)(hnl:ns.length=bs.length)(hgs:∀g∈gs,GoodW a bs.length g/\g.length=3)(h64:gs.length<=100)(hu:GoodW a bs.length u)(h1:GoodP a bs.length u.length one)(h2:GoodP a bs.length u.length other)(hul:u.length<=800)
  (k:∀S',Ka S S'->Q (.tup (dA (PB ((br bs gs).map dq) u.length) bs u one other),S')) :
  wO (aC (ak defs fuel (d+5)) "barred_by" 4 [.tup [m0,.tup (Hy aB ns bs),.tup (gs.map am)],am u,ap one,ap other] S) Q:=by
 refine al hby rfl rfl λQ' hR=>?_
 show wZ _ _ dy [gV (.tup [m0,.tup (Hy aB ns bs),.tup (gs.map am)]),gV (am u),gV (ap one),gV (ap other)] S Q';dsimp only[dy];refine st ?_;dsimp only[wS,wE,wA,wV,wG];refine kC (d:=d) hfu F.parts F.part F.longer F.barred hb hnl hgs h64 λq kvs S1 e1 hk _ k1=>?_
 have ep:(λ(v:Wd) p=>bH kvs v p u.length (u.length+1))=PB ((br bs gs).map dq) u.length:=funext λv=>funext λp=>hk.get _
 refine gZ (d:=d+1) F hb hnl hu h1 h2 hul e1 λS2 k2=>hR _ _ ?_
 rw[ep];exact k S2 (k1.trans k2)
end
noncomputable def cF:Ss:=
 #v[.set 1 (.own "_law_pick" 2 #v[.v 0,.c (.int 8)]),.ite (.cmp .lt (.v 1) (.c (.int 4))) #v[.ret (.own "_law_any_rule" 1 #v[.v 0])] .nil,.ite (.cmp .lt (.v 1) (.c (.int 7))) #v[.ret (.own "_law_laying_rule" 1 #v[.v 0])] .nil,.ret (.own "_law_unlaying_rule" 1 #v[.v 0])]
noncomputable def cG:Ss:=
 #v[.set 4 (.own "_law_pick" 2 #v[.v 0,.bi .len #v[.ix (.v 1) (.c (.int 0))]]),.loop (.nm 5) (.rng #v[.bi .len #v[.ix (.v 1) (.c (.int 0))]]) #v[.set 6 (.op .mod (.op .add (.v 4) (.v 5)) (.bi .len #v[.ix (.v 1) (.c (.int 0))])),.set 7 (.own "_law_new_ways" 6 #v[.v 0,.v 1,.v 2,.v 3,.v 6,.tup .nil]),.ite (.cmp .isnot (.v 7) (.c .non)) #v[.ret (.tup #v[.v 6,.v 7])] .nil],.ret (.c .non)]
noncomputable def fA:Ss:=
 #v[.asg [5,6] (.v 4),.set 7 (.own "_law_pick" 2 #v[.v 0,.c (.int 4)]),.ite (.cmp .eq (.v 7) (.c (.int 1))) #v[.set 5 (.own "_law_pick" 2 #v[.v 0,.bi .len #v[.ix (.v 1) (.c (.int 0))]])] #v[.ite (.and (.cmp .gt (.v 7) (.c (.int 1))) (.cmp .ne (.v 6) (.tup .nil))) #v[.set 8 (.own "_law_pick" 2 #v[.v 0,.bi .len #v[.v 6]]),.set 6 (.op .add (.op .add (.sl (.v 6) .no (.yes (.v 8))) (.tup #v[.own "_law_pick" 2 #v[.v 0,.bi .len #v[.ix (.v 1) (.c (.int 1))]]])) (.sl (.v 6) (.yes (.op .add (.v 8) (.c (.int 1)))) .no))] .nil],.ite (.own "_law_last_may" 4 #v[.v 1,.v 2,.op .add (.v 3) (.tup #v[.tup #v[.v 5,.v 6]]),.bi .len #v[.v 3]]) #v[.ret (.tup #v[.v 5,.v 6])] .nil,.ret (.v 4)]
noncomputable def fB:Ss:=
 #v[.set 4 (.own "_law_world" 4 #v[.v 0,.v 1,.v 2,.v 3]),.set 5 (.own "_law_new_point" 4 #v[.v 0,.v 1,.v 2,.v 4]),.ite (.cmp .is (.v 5) (.c .non)) #v[.set 5 (.ix (.v 4) (.neg (.c (.int 1)))),.set 4 (.sl (.v 4) .no (.yes (.neg (.c (.int 1)))))] .nil,.set 6 (.c .non),.ite (.cmp .eq (.own "_law_pick" 2 #v[.v 0,.c (.int 2)]) (.c (.int 0))) #v[.set 6 (.own "_law_new_point" 4 #v[.v 0,.v 1,.v 2,.v 4])] .nil,.ite (.cmp .is (.v 6) (.c .non)) #v[.set 6 (.own "_law_near" 5 #v[.v 0,.v 1,.v 2,.v 4,.v 5])] .nil,.ret (.tup #v[.v 4,.v 5,.v 6])]
theorem E2 {S:aa}{xs:Hg Hv}:aL .ne (.tup (ac xs)) (.tup []) S=gV (.bl (!decide (xs=[])),S):=by
 cases xs <;> rfl
theorem Std.last {kvs:Hg (T×W)}{u:Wd}(h:Std kvs u):Std kvs u.dropLast/\bI kvs u.dropLast u.dropLast.length (u.getD (u.length - 1) (0,[]))=true:=by
 have e:∀p,p < u.length - 1->u.dropLast.getD p (0,[])=u.getD p (0,[]):=λp hp=>by
  rw[HL,HL,Mt,HV hp]
 refine#[λk hk j hj i hi=>?_,bq.mpr λj hj i hi=>?_]
 ·rw[JM]at hk;have:=h k ∅ j hj i hi
  unfold bH bW at this ⊢;rw[e i ∅,e j ∅,e k hk]
  exact this
 ·rw[JM]at hj;have:=h (u.length - 1) ∅ j hj i hi
  unfold bH bW at this;unfold bS;rw[e i ∅,e j ∅]
  exact this
section
variable{defs:Hg (HJ×Df)}{fuel d:Ho}{S:aa}{r:Ho}{Q:QW}
structure Pai (defs:Hg (HJ×Df)):Prop where
 un:Is defs ("_law_unlaying_rule" : HJ) 1 10 bc
 some':Is defs ("_law_some_rule" : HJ) 1 2 cF
 ways:Is defs ("_law_new_ways" : HJ) 6 11 aP
 world:Is defs ("_law_world" : HJ) 4 8 dw
 lmay:Is defs ("_law_last_may" : HJ) 4 8 aG
 point:Is defs ("_law_new_point" : HJ) 4 8 cG
 near:Is defs ("_law_near" : HJ) 5 9 fA
 pair:Is defs ("_law_pair" : HJ) 4 7 fB
theorem pJ (hfu:20 < fuel)(G:Gen defs)(P:Pai defs)(hf:Fl S r)(k:∀w S',dg w->Fl S' r->Kp r S S'->Q (w,S')):wO (aC (ak defs fuel (d+8)) "_law_some_rule" 1 [.ref r] S) Q:=by
 refine al P.some' rfl rfl λQ' hR=>?_
 replace k:∀w S',dg w->Fl S' r->Kp r S S'->Q' (.rt w,S'):=λz S' a b c=>hR _ _ (k z S' a b c)
 clear hR;show wZ _ _ cF [gV (.ref r),td] S Q';dsimp only[cF];refine aF λK hK=>?_
 dsimp only[wS,wE,wA,wV,wG,Hw];refine aT (d:=d+6) G.pick hf #v[] #v[] λv S1 v0 v7 f1 k1=>hK _ _ ?_
 clear hK K;refine aF λK hK=>?_
 dsimp only[wS,wT,wE,wV,wG,wD,aO,wB];refine ah (Q0:=Q') (λ_ Q2 _ hr=>?_) (λ_ Q2 hn _=>aM (hn _ _ (hK _ _ ?_)))
 ·refine st ?_;dsimp only[wS,wE,wA,wV,wG];exact qv (d:=d+1) hfu G f1 λw S2 a b c=>hr _ _ (k w S2 a b (k1.trans c))
 clear hK K hn;refine aF λK hK=>?_
 dsimp only[wS,wT,wE,wV,wG,wD,aO,wB];refine ah (Q0:=Q') (λ_ Q2 _ hr=>?_) (λ_ Q2 hn _=>aM (hn _ _ (hK _ _ ?_)))
 ·refine st ?_;dsimp only[wS,wE,wA,wV,wG];exact xE (d:=d) hfu G f1 λw S2 a b c=>hr _ _ (k w S2 a b (k1.trans c))
 refine st ?_;dsimp only[wS,wE,wA,wV,wG];exact qy (d:=d+1) hfu G P.un f1 λw S2 a b c=>k w S2 a b (k1.trans c)
theorem qL (G:Gen defs)(hg:Is defs ("_law_new_ways" : HJ) 6 11 aP){m0 b0:W}{N:Hg W}{a n q:Ho}{u:Wd}{mk:Hv}{kvs:Hg (T×W)}(hN:N.length=n)(hn3:n<=3)(hu:GoodW a n u)(hl:u.length<=900)(e:S[q]?=gV (.dic kvs))(hqr:q≠r)(hf:Fl S r)
  (k:∀w S',((w=.non/\u≠[])\/∃to:Hg Hv,w=.tup (ac to)/\to.length=u.length/\(∀x∈to,0<=x/\x < (n:Hv))/\∀j < u.length,∀i < j,bp kvs u mk i j (to.getD i 0) (to.getD j 0)=false)->Fl S' r->Kp r S S'->Q (w,S')) :
  wO (aC (ak defs fuel (d+2)) "_law_new_ways" 6 [.ref r,.tup [m0,.tup N,b0],.ref q,am u,.int mk,.tup []] S) Q:=by
 by_cases z:u=[]
 ·subst z;refine al hg rfl rfl λQ' hR=>?_
  show wZ _ _ aP [gV (.ref r),gV (.tup [m0,.tup N,b0]),gV (.ref q),gV (am []),gV (.int mk),gV (.tup (ac [])),td,td,td,td,td] S Q';dsimp only[aP];refine aF λK hK=>?_
  refine cx 0 0 (λm ρ S'=>ρ=[gV (.ref r),gV (.tup [m0,.tup N,b0]),gV (.ref q),gV (am []),gV (.int mk),gV (.tup (ac [])),td,td,td,td,td]/\S'=S) rfl rfl rfl #v[] ?_ (λm ρ S1 hm=>∅) ?_
  ·dsimp only[wE,wA,wV,wG];exact ay #[rfl,ay #[rfl,rfl,rfl]]
  ·rintro ρ S1 ⟨rfl,rfl⟩;refine hK _ _ (st ?_);dsimp only[wS,wE,wV,wG];exact hR _ _ (k _ _ (.inr #[[],rfl,rfl,(λx hx=>nomatch hx),λj hj=>by cases hj]) hf .refl)
 ·refine kD G hg hN hn3 hu hl e hqr hf λw S' hw f' k'=>k w S' ?_ f' k'
  rcases hw with h|h
  ·exact .inl #[h,z]
  ·exact .inr h
theorem jp (G:Gen defs)(P:Pai defs){M N:Hg W}{b0:W}{a n q:Ho}{u:Wd}{kvs:Hg (T×W)}(hM:M.length=a)(ha1:0 < a)(ha3:a<=3)(hN:N.length=n)(hn3:n<=3)(hu:GoodW a n u)(hl:u.length<=900)(e:S[q]?=gV (.dic kvs))(hqr:q≠r)(hf:Fl S r)
  (k:∀w S',((w=.non/\u≠[])\/∃p,w=ap p/\GoodP a n u.length p/\bI kvs u u.length p=true)->Fl S' r->Kp r S S'->Q (w,S')) :
  wO (aC (ak defs fuel (d+3)) "_law_new_point" 4 [.ref r,.tup [.tup M,.tup N,b0],.ref q,am u] S) Q:=by
 refine al P.point rfl rfl λQ' hR=>?_
 replace k:∀w S',((w=.non/\u≠[])\/∃p,w=ap p/\GoodP a n u.length p/\bI kvs u u.length p=true)->Fl S' r->Kp r S S'->Q' (.rt w,S'):=λw S' h1 h2 h3=>hR _ _ (k w S' h1 h2 h3)
 clear hR;show wZ _ _ cG [gV (.ref r),gV (.tup [.tup M,.tup N,b0]),gV (.ref q),gV (am u),td,td,td,td] S Q';generalize hR0:W.tup [.tup M,.tup N,b0]=R;dsimp only[cG];refine aF λK hK=>?_
 dsimp only[wS,wE,wA,wV,wG,Hw];have lm:∀(S:aa) (Q:QW),Q (.int (a:Hv),S)->wO (ju R (.int 0) S) λp=>wO (Bi.len.fn [p.1] p.2) Q:=λS Q q=>by
  subst hR0;refine ae #v[] rfl (ay ?_)
  rw[hM]; exact q
 refine lm _ _ ?_;refine aT (d:=d+1) G.pick hf ∅ ∅ λv S1 v0 v1 f1 k1=>hK _ _ ?_
 clear hK K;refine aF λK hK=>?_
 refine bC (a:Hv) (λi ρ S'=>(∃a5 a6 a7,ρ=[gV (.ref r),gV R,gV (.ref q),gV (am u),gV (.int v),a5,a6,a7])/\(u=[]->i=0)/\Fl S' r/\Kp r S S') rfl rfl ∅ ?_ ?_ ?_
 ·dsimp only[wE,wA,wV,wG];exact lm _ _ #[rfl,#[_,_,_,rfl],λ_=>rfl,f1,k1]
 ·rintro i ρ S2 hi ⟨⟨a5,a6,a7,rfl⟩,_,f2,k2⟩ Q2 hn2 hr2;clear hK;dsimp only[Hw];refine st ?_;dsimp only[wS,wE,wA,wV,wG,Hw];refine ab cp (lm _ _ (ab (ke ∅) ?_))
  have m0:0<=(v+(i:Hv)) % (a:Hv):=J9 _ ∅
  have m1:(v+(i:Hv)) % (a:Hv) < a:=JF _ ∅
  generalize(v+(i:Hv)) % (a:Hv)=m at m0 m1;refine st ?_;dsimp only[wS,wE,wA,wV,wG,Hw];subst hR0;refine qL (d:=d) G P.ways hN hn3 hu hl (k2.get _ _ hqr e) hqr f2 λw S3 hw f3 k3=>?_
  refine aF λK hK=>?_
  dsimp only[wS,wT,wE,wA,wV,wG];rcases hw with⟨rfl,hne⟩|⟨to,rfl,htl,hto,hbp⟩
  ·refine ab (show aL .isnot .non .non S3=gV (.bl false,S3)from rfl) ?_
   dsimp only[wB];exact ah (Q0:=Q2) (λz=>by cases z) (λ_ Q5 hn5 _=>aM (hn5 _ _ (hK _ _ (aM (hn2 _ _ #[#[_,_,_,rfl],λz=>absurd z hne,f3,k2.trans k3])))))
  ·refine ab (show aL .isnot (.tup (ac to)) .non S3=gV (.bl true,S3)from rfl) ?_
   dsimp only[wB];refine ah (Q0:=Q2) (λ_ Q5 _ hr5=>?_) (λz=>by cases z)
   refine st ?_;dsimp only[wS,wE,wA,wV,wG];exact hr5 _ _ (hr2 _ _ (k _ _ (.inr #[(m,to),rfl,#[#[m0,m1],htl,hto],bq.mpr hbp]) f3 (k2.trans k3)))
 ·rintro ρ S2 ⟨⟨a5,a6,a7,rfl⟩,hz,f2,k2⟩;rw[HF]at hz;refine hK _ _ (st ?_);dsimp only[wS,wE];exact k _ _ (.inl #[rfl,λz=>by have:=hz z; omega]) f2 k2
theorem C6 (G:Gen defs)(P:Pai defs){M N:Hg W}{b0:W}{a n q:Ho}{u:Wd}{p:Pt}{kvs:Hg (T×W)}(hM:M.length=a)(ha1:0 < a)(ha3:a<=3)(hN:N.length=n)(hn1:0 < n)(hn3:n<=3)(hu:GoodW a n u)(hp:GoodP a n u.length p)(hpm:bI kvs u u.length p=true)(hl:u.length<=900)(e:S[q]?=gV (.dic kvs))(hqr:q≠r)(hf:Fl S r)
  (k:∀p' S',GoodP a n u.length p'->bI kvs u u.length p'=true->Fl S' r->Kp r S S'->Q (ap p',S')) :
  wO (aC (ak defs fuel (d+2)) "_law_near" 5 [.ref r,.tup [.tup M,.tup N,b0],.ref q,am u,ap p] S) Q:=by
 refine al P.near rfl rfl λQ' hR=>?_
 replace k:∀p' S',GoodP a n u.length p'->bI kvs u u.length p'=true->Fl S' r->Kp r S S'->Q' (.rt (ap p'),S'):=λw S' h1 h2 h3 h4=>hR _ _ (k w S' h1 h2 h3 h4)
 clear hR;show wZ _ _ fA [gV (.ref r),gV (.tup [.tup M,.tup N,b0]),gV (.ref q),gV (am u),gV (ap p),td,td,td,td] S Q';generalize hR0:W.tup [.tup M,.tup N,b0]=R;have lm:∀(S:aa) (Q:QW),Q (.int (a:Hv),S)->wO (ju R (.int 0) S) λp=>wO (Bi.len.fn [p.1] p.2) Q:=λS Q q=>by
  subst hR0;refine ae #v[] rfl (ay ?_)
  rw[hM]; exact q
 have lw:∀(S:aa) (Q:QW),Q (.int (n:Hv),S)->wO (ju R (.int 1) S) λp=>wO (Bi.len.fn [p.1] p.2) Q:=λS Q q=>by
  subst hR0;refine ae #v[] rfl (ay ?_)
  rw[hN]; exact q
 have ul:(u.map ap).length=u.length:=Hh ..;dsimp only[fA];refine st ?_;dsimp only[wS,wE,wV,wG,wU,ap];refine ab (show cK [5,6] [.int p.1,.tup (p.2.map W.int)] [gV (.ref r),gV R,gV (.ref q),gV (am u),gV (.tup [.int p.1,.tup (p.2.map W.int)]),td,td,td,td]=gV [gV (.ref r),gV R,gV (.ref q),gV (am u),gV (ap p),gV (.int p.1),gV (.tup (ac p.2)),td,td]from rfl) ?_
 refine aF λK hK=>?_
 dsimp only[wS,wE,wA,wV,wG,Hw];refine aT (d:=d) G.pick hf #v[] #v[] λv S1 _ _ f1 k1=>hK _ _ ?_
 clear hK K;refine aF λK hK=>?_
 have tl:∀(m:Hv) (to:Hg Hv) (a8:Hn W) (S2:aa),GoodP a n u.length (m,to)->Fl S2 r->Kp r S S2->K [gV (.ref r),gV R,gV (.ref q),gV (am u),gV (ap p),gV (.int m),gV (.tup (ac to)),gV (.int v),a8] S2:=by
  intro m to a8 S2 hg f2 k2;refine hK _ _ ?_;clear hK K;refine aF λK hK=>?_
  dsimp only[wS,wT,wE,wA,wV,wG,am];have ev:u.map ap++[.tup [.int m,.tup (ac to)]]=(u++[(m,to)]).map ap:=by rw[HR]; rfl
  refine ab (bF (dR (by rw[ev,Hh,Hk,Ij]; omega))) (ay ?_)
  dsimp only;rw[ev,ul];have lmay:=λ(Q:QW)=>kL (fuel:=fuel) (d:=d) (Q:=Q) (R:=R) (h:=(m,to)) P.lmay hu hg.len ∅ (k2.get _ _ hqr e)
  unfold am at lmay;refine lmay _ ?_;refine ab (show cw S2 (.bl (bI kvs u u.length (m,to)))=gV (bI kvs u u.length (m,to))from rfl) ?_
  refine ah (Q0:=Q') (λhmt Q2 _ hr=>?_) (λ_ Q2 hn _=>aM (hn _ _ (hK _ _ (st ?_))))
  ·refine st ?_;dsimp only[wS,wE,wA,wV,wG];exact hr _ _ (k (m,to) S2 hg hmt f2 k2)
  ·dsimp only[wS,wE,wV,wG];exact k p S2 hp hpm f2 k2
 dsimp only[wS,wT,wE,wV,wG,kg,aO,wB];refine ah (Q0:=Q') (λ_ Q2 hn _=>?_) (λ_ Q2 hn _=>?_)
 ·refine st ?_;dsimp only[wS,wE,wA,wV,wG,Hw];refine lm _ _ (aT (d:=d) G.pick f1 ∅ ∅ λm S2 m0 m1 f2 k2=>aM (hn _ _ (tl m p.2 td S2 #[#[m0,m1],hp.len,hp.way] f2 (k1.trans k2))))
 ·refine aF λK2 hK2=>?_
  dsimp only[wS,wT,wE,wA,wV,wG];have stay:K2 [gV (.ref r),gV R,gV (.ref q),gV (am u),gV (ap p),gV (.int p.1),gV (.tup (ac p.2)),gV (.int v),td] S1:=hK2 _ _ (aM (hn _ _ (tl p.1 p.2 td S1 hp f1 k1)));refine ab CN ?_;dsimp only[wB];refine#[λ_=>ab E2 ?_,λ_=>ah (Q0:=Q2) (λz=>by cases z) λ_ Q3 hn3 _=>aM (hn3 _ _ stay)]
  dsimp only[wB];refine ah (Q0:=Q2) (λhne Q3 hn3 _=>?_) (λ_ Q3 hn3 _=>aM (hn3 _ _ stay))
  have hne:p.2≠[]:=by simpa using hne
  have hpl:0 < p.2.length:=Lx.mpr hne;have il:(ac p.2).length=p.2.length:=Hh ..;have hpe:=hp.len;refine st ?_;dsimp only[wS,wE,wA,wV,wG,Hw];refine ay ?_;rw[il];refine aT (d:=d) G.pick f1 ∅ ∅ λv2 S2 v0 v1 f2 k2=>?_
  obtain⟨at',rfl⟩ : ∃k:Ho,v2=k:=#[v2.toNat,∅]
  refine st ?_;dsimp only[wS,wE,wA,wP,wV,wG,wN,Hw];refine ab (show jg (.tup (ac p.2)) td (gV ((at':Ho):Hv)) S2=gV (.tup ((ac p.2).take at'),S2) by simp only[jg,eh]) ?_
  dsimp only;refine lw _ _ (aT (d:=d) G.pick f2 ∅ ∅ λw S3 w0 w1 f3 k3=>?_)
  refine ab (bF (dR (by rw[Hk,HX,il]; show _+1<=_; omega))) ?_
  dsimp only;refine ab cp ?_;dsimp only;refine ab (show jg (.tup (ac p.2)) (gV ((at':Hv)+1)) td S3=gV (.tup ((ac p.2).drop (at'+1)),S3) by rw[show(at':Hv)+1=((at'+1:Ho):Hv) by omega]; simp only[jg,wL]) ?_
  dsimp only;refine ab (bF (dR (by rw[Hk,Hk,HX,Kq,il]; show _+1+_<=_; omega))) ?_
  have es:(ac p.2).take at'++[.int w]++(ac p.2).drop (at'+1)=ac (p.2.set at' w):=by
   unfold ac;rw[Pi,List.set_eq_take_append_cons_drop,HV (by rw[Hh]; omega)]
   simp
  dsimp only;rw[es];refine aM (hn3 _ _ (hK2 _ _ (aM (hn _ _ (tl p.1 (p.2.set at' w) _ S3 #[hp.mark,?_,λx hx=>?_] f3 ((k1.trans k2).trans k3))))))
  ·show(p.2.set at' w).length=_;rw[On]; exact hpe
  ·rcases List.mem_or_eq_of_mem_set hx with z|z
   ·exact hp.way x z
   ·rw[z]; exact#[w0,w1]
theorem C7 (G:Gen defs)(P:Pai defs){M N:Hg W}{b0:W}{a n q many:Ho}{kvs:Hg (T×W)}(hM:M.length=a)(ha1:0 < a)(ha3:a<=3)(hN:N.length=n)(hn1:0 < n)(hn3:n<=3)(hm:many<=800)(e:S[q]?=gV (.dic kvs))(hqr:q≠r)(hf:Fl S r)
  (k:∀(u:Wd) (one other:Pt) S',u.length<=many->GoodW a n u->Std kvs u->GoodP a n u.length one->bI kvs u u.length one=true->GoodP a n u.length other->bI kvs u u.length other=true->Fl S' r->Kp r S S'->Q (.tup [am u,ap one,ap other],S')) :
  wO (aC (ak defs fuel (d+4)) "_law_pair" 4 [.ref r,.tup [.tup M,.tup N,b0],.ref q,.int many] S) Q:=by
 refine al P.pair rfl rfl λQ' hR=>?_
 replace k:∀(u:Wd) (one other:Pt) S',u.length<=many->GoodW a n u->Std kvs u->GoodP a n u.length one->bI kvs u u.length one=true->GoodP a n u.length other->bI kvs u u.length other=true->Fl S' r->Kp r S S'->Q' (.rt (.tup [am u,ap one,ap other]),S'):=λu x y S' h1 h2 h3 h4 h5 h6 h7 h8 h9=>hR _ _ (k u x y S' h1 h2 h3 h4 h5 h6 h7 h8 h9)
 clear hR;show wZ _ _ fB [gV (.ref r),gV (.tup [.tup M,.tup N,b0]),gV (.ref q),gV (.int many),td,td,td] S Q';generalize hR0:W.tup [.tup M,.tup N,b0]=R;dsimp only[fB];refine aF λK hK=>?_
 dsimp only[wS,wE,wA,wV,wG,Hw];subst hR0;refine Au (d:=d) G P.ways P.world hM ha1 ha3 hN hn3 ∅ e hqr hf λu S1 hul hu hst f1 k1=>hK _ _ ?_
 clear hK K;refine aF λK hK=>?_
 dsimp only[wS,wE,wA,wV,wG,Hw];refine jp (d:=d) G P hM ha1 ha3 hN hn3 hu ∅ (k1.get _ _ hqr e) hqr f1 λw S2 hw f2 k2=>hK _ _ ?_
 clear hK K;have k12:=k1.trans k2;clear f1 k1 k2;refine aF λK hK=>?_
 have tl:∀(u:Wd) (one:Pt),u.length<=many->GoodW a n u->Std kvs u->GoodP a n u.length one->bI kvs u u.length one=true->K [gV (.ref r),gV (.tup [.tup M,.tup N,b0]),gV (.ref q),gV (.int many),gV (am u),gV (ap one),td] S2:=by
  intro u one hul hu hst h1 h1m;refine hK _ _ ?_;clear hK K;refine st ?_;dsimp only[wS,wE,Hw];refine aF λK hK=>?_
  have tl2:∀(w:W) (S3:aa),(w=.non\/∃p,w=ap p/\GoodP a n u.length p/\bI kvs u u.length p=true)->Fl S3 r->Kp r S S3->K [gV (.ref r),gV (.tup [.tup M,.tup N,b0]),gV (.ref q),gV (.int many),gV (am u),gV (ap one),gV w] S3:=by
   intro w S3 hw f3 k3;refine hK _ _ ?_;clear hK K;refine aF λK hK=>?_
   dsimp only[wS,wT,wE,wV,wG];have ret:∀(p:Pt) (S4:aa),GoodP a n u.length p->bI kvs u u.length p=true->Fl S4 r->Kp r S S4->K [gV (.ref r),gV (.tup [.tup M,.tup N,b0]),gV (.ref q),gV (.int many),gV (am u),gV (ap one),gV (ap p)] S4:=λp S4 hp hpm f4 k4=>hK _ _ (st (by
    dsimp only[wS,wE,wA,wV,wG];exact k u one p S4 hul hu hst h1 h1m hp hpm f4 k4))
   rcases hw with rfl|⟨p,rfl,hp,hpm⟩
   ·refine ab (show aL .is .non .non S3=gV (.bl true,S3)from rfl) ?_
    dsimp only[wB];refine ah (Q0:=Q') (λ_ Q2 hn _=>?_) (λz=>by cases z)
    refine st ?_;dsimp only[wS,wE,wA,wV,wG,Hw];exact C6 (d:=d+1) G P hM ha1 ha3 hN hn1 hn3 hu h1 h1m ∅ (k3.get _ _ hqr e) hqr f3 λp S4 hp hpm f4 k4=>aM (hn _ _ (ret p S4 hp hpm f4 (k3.trans k4)))
   ·refine ab (show aL .is (ap p) .non S3=gV (.bl false,S3)from rfl) ?_
    dsimp only[wB];exact ah (Q0:=Q') (λz=>by cases z) (λ_ Q2 hn _=>aM (hn _ _ (ret p S3 hp hpm f3 k3)))
  dsimp only[wS,wT,wE,wA,wV,wG];refine aT (d:=d+2) G.pick f2 #v[] #v[] λv S3 _ _ f3 k3=>?_
  dsimp only[kg,aO,wB];refine ah (Q0:=Q') (λ_ Q2 hn _=>?_) (λ_ Q2 hn _=>aM (hn _ _ (tl2 .non S3 (.inl rfl) f3 (k12.trans k3))))
  refine st ?_;dsimp only[wS,wE,wA,wV,wG,Hw];refine jp (d:=d) G P hM ha1 ha3 hN hn3 hu ∅ (k3.get _ _ hqr (k12.get _ _ hqr e)) hqr f3 λw S4 hw f4 k4=>aM (hn _ _ (tl2 w S4 ?_ f4 ((k12.trans k3).trans k4)))
  rcases hw with⟨h,_⟩|h
  ·exact .inl h
  ·exact .inr h
 dsimp only[wS,wT,wE,wV,wG];rcases hw with⟨rfl,hne⟩|⟨p,rfl,hp,hpm⟩
 ·refine ab (show aL .is .non .non S2=gV (.bl true,S2)from rfl) ?_
  dsimp only[wB];refine ah (Q0:=Q') (λ_ Q2 hn _=>?_) (λz=>by cases z)
  have hup:0 < u.length:=Lx.mpr hne;have hlt:u.length - 1 < u.length:=∅
  have gl:=aq (d:=(0,[])) hlt;refine st ?_;dsimp only[wS,wE,wV,wG,wN,Hw];have el:(u.map ap).getLastD (.int 0)=ap (u.getD (u.length - 1) (0,[])):=by
   rw[LQ,LR,Hh,Hq,gl]; rfl
  refine ab (xO (xs:=u.map ap) (by simpa using hne)) ?_
  rw[el];refine st ?_;dsimp only[wS,wE,wP,wV,wG,wN,Hw];refine ab (show jg (am u) td (gV (-1)) S2=gV (am u.dropLast,S2) by simp only[am,jg,pA,NV]) ?_
  refine aM (hn _ _ (tl u.dropLast (u.getD (u.length - 1) (0,[])) (by rw[JM]; omega) (uu hu) hst.last.1 #[hu.mark _ _ gl,?_,hu.way _ _ gl] hst.last.2))
  rw[hu.len _ _ gl,JM]
 ·refine ab (show aL .is (ap p) .non S2=gV (.bl false,S2)from rfl) ?_
  dsimp only[wB];exact ah (Q0:=Q') (λz=>by cases z) (λ_ Q2 hn _=>aM (hn _ _ (tl u p hul hu hst hp hpm)))
end
noncomputable def dh:Ss:=
 #v[.ret (.op .add (.v 1) (.tup #v[.v 2,.tup #v[.ix (.v 3) (.c (.int 0)),.op .add (.ix (.v 3) (.c (.int 1))) (.tup #v[.ix (.ix (.ix (.v 0) (.c (.int 1))) (.v 4)) (.c (.int 1))])]]))]
section
variable{defs:Hg (HJ×Df)}{fuel d:Ho}{S:aa}{Q:QW}
theorem qM (hg:Is defs ("_law_both" : HJ) 5 5 dh){m0 b0:W}{ns:Hg HJ}{bs:Hg Hv}{u:Wd}{one other:Pt}{n:Ho}(hnl:ns.length=bs.length)(hn:n < bs.length)(hu:u.length<=900)(ho:other.2.length<=900)(k:Q (am (cQ bs u one other n),S)) :
  wO (aC (ak defs fuel (d+1)) "_law_both" 5 [.tup [m0,.tup (Hy aB ns bs),b0],am u,ap one,ap other,.int n] S) Q:=by
 refine al hg rfl rfl λQ' hR=>?_
 replace k:=hR _ _ k;show wZ _ _ dh [gV (.tup [m0,.tup (Hy aB ns bs),b0]),gV (am u),gV (ap one),gV (ap other),gV (.int n)] S Q';have hb:=aq (d:=0) hn;dsimp only[dh];refine st ?_;dsimp only[wS,wE,wA,wV,wG];refine ae #v[] rfl (ae #v[] rfl ?_)
 refine ae #v[] rfl (ae (Hu n) (by rw[HF]; exact i4 (HE ∅) hb) (ae #v[] rfl ?_))
 refine ab (bF (dR ?_)) ?_
 ·rw[Hk,Hh]; show _+1<=_; omega
 dsimp only;have ev:u.map ap++[ap one,.tup [.int other.1,.tup (other.2.map W.int++[.int (bs.getD n 0)])]]=(cQ bs u one other n).map ap:=by
  unfold cQ;simp[ap]
 unfold am at k ⊢;refine ab (bF (dR ?_)) ?_
 ·rw[Hk,Hh]; show _+2<=_; omega
 dsimp only;rw[ev];exact k
end
noncomputable def iF (u:Wd)(one other:Pt)(b:Hv)(p:Ho):Wd:=[((u.getD p (0,[])).1,[]),(one.1,[one.2.getD p 0]),(other.1,[other.2.getD p 0,b])]
theorem qN {bs:Hg Hv}{a k:Ho}{u:Wd}{one other:Pt}{n p:Ho}(h1:GoodP a k u.length one)(h2:GoodP a k u.length other)(hp:p < u.length):bW (cQ bs u one other n) p u.length (u.length+1)=iF u one other (bs.getD n 0) p:=by
 have l1:(u++[one]).length=u.length+1:=by rw[Hk]; rfl
 have g0:(cQ bs u one other n).getD p (0,[])=u.getD p (0,[]):=by
  unfold cQ;rw[aE ∅,aE hp]
 have g1:(cQ bs u one other n).getD u.length (0,[])=one:=by
  unfold cQ;rw[aE ∅,bP]
 have g2:(cQ bs u one other n).getD (u.length+1) (0,[])=(other.1,other.2++[bs.getD n 0]):=by
  unfold cQ;rw[<- l1,bP]
 unfold bW iF;rw[g0,g1,g2];dsimp only;rw[aY (by rw[h2.len]; exact hp)]
 have:(other.2++[bs.getD n 0]).getD u.length 0=bs.getD n 0:=by
  rw[<- h2.len,HL,IA (Hz _),KL]; rfl
 rw[this]
noncomputable def iG (X:Hg T)(bs:Hg Hv)(u:Wd)(one other:Pt)(i p:Ho):HU:=decide (dq (iF u one other (bs.getD i 0) p)∈X)
noncomputable def nT (one other:Pt)(s:Ho):HU:=(one.1==other.1)&&(HG s).all λp=>one.2.getD p 0==other.2.getD p 0
noncomputable def fI (B:Ho->Ho->HU)(sm:HU)(n s:Ho):Hg Hv:=((HG n).filter λi=>(HG s).all λp=>!B i p).map (λ(i:Ho)=>(i:Hv))++(if sm then[-1]else[])
theorem mj {P:Ho->HU}{s:Ho}:E1 (bX P s)=(HG s).all λp=>!P p:=by
 rw[Kb,HP];unfold bX;constructor
 ·intro h p hp;cases hf:(HG s).find? P with
  | none=>
   have:=J2.mp hf p hp
   simpa using this
  | some i=>rw[hf]at h; cases h
 ·intro h;have:(HG s).find? P=td:=J2.mpr λp hp=>by simpa using h p hp
  rw[this]; rfl
theorem mn {B:Ho->Ho->HU}{sm:HU}{n s:Ho}{z:Hv}:z∈fI B sm n s↔(∃i:Ho,z=i/\i < n/\∀p < s,B i p=false)\/(z = -1/\sm=true):=by
 unfold fI;rw[HY,HQ];constructor
 ·rintro(⟨i,hi,rfl⟩|h)
  ·obtain⟨h1,h2⟩:=JB.mp hi;exact .inl #[i,rfl,HI.mp h1,λp hp=>by simpa using HP.mp h2 p (HI.mpr hp)]
  ·cases sm with
   | true=>exact .inr #[HB.mp h,rfl]
   | false=>cases h
 ·rintro(⟨i,rfl,h1,h2⟩|⟨rfl,rfl⟩)
  ·exact .inl #[i,JB.mpr #[HI.mpr h1,HP.mpr λp hp=>by simpa using h2 p (HI.mp hp)],rfl]
  ·exact .inr (HB.mpr rfl)
noncomputable def bm (p:Pt)(ps:Hg Ho):Pt:=(p.1,ps.map λk=>p.2.getD k 0)
theorem mo {a n s:Ho}{p:Pt}{ps:Hg Ho}(h:GoodP a n s p)(hps:∀k∈ps,k < s):GoodP a n ps.length (bm p ps):=by
 refine#[h.mark,by unfold bm; rw[Hh],λw hw=>?_]
 unfold bm at hw;obtain⟨k,hk,rfl⟩:=HQ.mp hw;exact h.way _ (HC (aq (d:=0) (by rw[h.len]; exact hps k hk)))
theorem dY {p:Pt}{ps:Hg Ho}{i:Ho}(h:i < ps.length):(bm p ps).2.getD i 0=p.2.getD (ps.getD i 0) 0:=by
 unfold bm;rw[HL,Hq,aq (d:=0) h]; rfl
theorem pK {bs:Hg Hv}{u:Wd}{one other:Pt}{b:Hv}{ps:Hg Ho}{i:Ho}(h:i < ps.length):iF (au bs u ps) (bm one ps) (bm other ps) b i=iF u one other b (ps.getD i 0):=by
 unfold iF;rw[eV h,dY h,dY h]; rfl
theorem Av {Φ:HJ->FF}{fuel:Ho}{ρ:Fm}{S:aa}{K:Fm->aa->Prop}{Q:QO}{tg:Tg}{a:E}{b:Ss}(xs:Hg W)(I:Ho->Fm->aa->Prop)(oa:dM a=true)(ok:fT b=true)(he:wE Φ a ρ S λp=>Fj p.1=gV xs/\I 0 ρ p.2)
  (hstep:∀(i:Ho) (x:W) (ρ:Fm) (S:aa),xs[i]?=gV x->I i ρ S->wO (eL tg (.tup [.int i,x]) ρ S) λq=>t9 Φ fuel b q.1 q.2 (I (i+1)) Q) (hend:∀ρ S,I xs.length ρ S->K ρ S):Wp (fJ Φ fuel (.loop tg (.enu #v[a]) b) ρ S) (o5 K Q):=by
 obtain⟨x,S1,e1,h1,h0⟩:=bV oa he;have hl:(iU xs).length=xs.length:=by simp[iU]
 refine fU (mi:=.its (iU xs)) (S1:=S1) (xs:=iU xs) I ok (by simp only[jv,db,dH,ik,wa,e1,h1]) (λ_ _ _ _=>rfl) rfl h0 (λi w ρ S hw hI=>?_) λρ S hI=>hend ρ S (hl ▸ hI)
 obtain⟨y,hy,rfl⟩:=jZ hw;exact hstep i y ρ S hy hI
noncomputable def dB:Ss:=
 #v[.set 5 (.lst .nil),.loop (.nm 6) (.rng #v[.bi .len #v[.ix (.v 0) (.c (.int 1))]]) #v[.ite (.own "_law_last_may" 4 #v[.v 0,.v 1,.own "_law_both" 5 #v[.v 0,.v 2,.v 3,.v 4,.v 6],.op .add (.bi .len #v[.v 2]) (.c (.int 1))]) #v[.ex (.me .append (.v 5) #v[.v 6])] .nil],.ret (.op .add (.v 5) (.op .mul (.lst #v[.neg (.c (.int 1))]) (.bi .int #v[.cmp .eq (.v 3) (.v 4)])))]
theorem qO {xs:Hg Hv}{b:Hv}:(xs++[b]).getD xs.length 0=b:=by
 rw[HL,IA (Hz _),KL]; rfl
theorem xP {X:Hg T}{kvs:Hg (T×W)}{bs:Hg Hv}{a:Ho}{u:Wd}{one other:Pt}{n:Ho}(hk:∀t,(aK kvs t).isSome=decide (t∈X))(h2:GoodP a bs.length u.length other)(hm:bI kvs u u.length other=true) :
  bI kvs (u++[one]) (u++[one]).length (other.1,other.2++[bs.getD n 0])=(HG u.length).all λp=>!iG X bs u one other n p:=by
 have hl:(u++[one]).length=u.length+1:=by rw[Hk]; rfl
 have key:∀p < u.length,bS kvs (u++[one]) (other.1,other.2++[bs.getD n 0]) p u.length=iG X bs u one other n p:=λp hp=>by
  unfold bS iG iF;dsimp only;rw[aE hp,bP,aY (by rw[h2.len]; exact hp),hk]
  have:(other.2++[bs.getD n 0]).getD u.length 0=bs.getD n 0:=by rw[<- h2.len]; exact qO
  rw[this]
 rw[Kb,bq,HP,hl];constructor
 ·intro h p hp;have hp:=HI.mp hp;rw[<- key p hp,h u.length ∅ p hp]; rfl
 ·intro h q hq p hp
  by_cases e:q=u.length
  ·subst e;have:=h p (HI.mpr hp);rw[key p hp]
   simpa using this
  ·have hq':q < u.length:=∅
   have:=bq.mp hm q hq' p hp;unfold bS at this ⊢;dsimp only;rw[aE (JT hp hq'),aE hq',aY (by rw[h2.len]; omega),aY (by rw[h2.len]; omega)]
   exact this
theorem E3 {one other:Pt}{s:Ho}(h1:one.2.length=s)(h2:other.2.length=s):decide (one=other)=nT one other s:=by
 unfold nT;rw[Kb,Io,Hs,beq_iff_eq,HP];constructor
 ·rintro rfl;exact#[rfl,λp _=>by rw[IJ]]
 ·rintro⟨e,h⟩;refine Po e (LX λi=>?_)
  by_cases hi:i < s
  ·have:=eq_of_beq (h i (HI.mpr hi));rw[aq (d:=0) ∅,aq (d:=0) ∅,this]
  ·rw[Kx ∅,Kx ∅]
theorem pL {P:Ho->HU}{n:Ho}:(((HG n).filter P).map λ(i:Ho)=>(i:Hv)).length<=n:=by
 rw[Hh];exact HZ (Jq _ _) (by rw[Ic]; exact Hz _)
section
variable{defs:Hg (HJ×Df)}{fuel d:Ho}{S:aa}{Q:QW}
theorem sF (hm:Is defs ("_law_last_may" : HJ) 4 8 aG)(hbo:Is defs ("_law_both" : HJ) 5 5 dh)(hg:Is defs ("_law_fills" : HJ) 5 7 dB){m0 b0:W}{ns:Hg HJ}{bs:Hg Hv}{a q:Ho}{X:Hg T}{u:Wd}{one other:Pt}{kvs:Hg (T×W)}(hb:GoodB bs)(hnl:ns.length=bs.length)(hu:GoodW a bs.length u)(h1:GoodP a bs.length u.length one)(h2:GoodP a bs.length u.length other)(hul:u.length<=800)(e:S[q]?=gV (.dic kvs))
  (hk:∀t,(aK kvs t).isSome=decide (t∈X)) (hmay:bI kvs u u.length other=true)
  (k:∀(l:Ho) S',S'[l]?=gV (.lst (ac (fI (iG X bs u one other) (nT one other u.length) bs.length u.length)))->S.length<=l->Ka S S'->Q (.ref l,S')) :
  wO (aC (ak defs fuel (d+2)) "_law_fills" 5 [.tup [m0,.tup (Hy aB ns bs),b0],.ref q,am u,ap one,ap other] S) Q:=by
 refine al hg rfl rfl λQ' hR=>?_
 replace k:∀(l:Ho) S',S'[l]?=gV (.lst (ac (fI (iG X bs u one other) (nT one other u.length) bs.length u.length)))->S.length<=l->Ka S S'->Q' (.rt (.ref l),S'):=λl S' a b c=>hR _ _ (k l S' a b c)
 clear hR;show wZ _ _ dB [gV (.tup [m0,.tup (Hy aB ns bs),b0]),gV (.ref q),gV (am u),gV (ap one),gV (ap other),td,td] S Q';have hb3:bs.length<=3:=by rcases hb with rfl|rfl|rfl|rfl|rfl|rfl <;> decide
 have ul:(u.map ap).length=u.length:=Hh ..;have sl:((u++[one]).length:Hv)=(u.length:Hv)+1:=by rw[Hk,Ij]; rfl
 have hul2:(u++[one]).length<=1000:=by rw[Hk,Ij]; omega
 have gu:GoodW a bs.length (u++[one]):=hu.snoc (m:=one.1) (ws:=one.2) h1.mark h1.len h1.way;generalize hR0:W.tup [m0,.tup (Hy aB ns bs),b0]=R;have lw:∀(S:aa) (Q:QW),Q (.int (bs.length:Hv),S)->wO (ju R (.int 1) S) λp=>wO (Bi.len.fn [p.1] p.2) Q:=λS Q q=>by
  subst hR0;refine ae #v[] rfl (ay ?_)
  rw[Jf,hnl,JU]; exact q
 have lb:∀(n:Ho) (S:aa) (Q:QW),n < bs.length->Q (am (u++[one]++[(other.1,other.2++[bs.getD n 0])]),S)->wO (aC (ak defs fuel (d+1)) "_law_both" 5 [R,am u,ap one,ap other,.int n] S) Q:=λn S Q hn q=>by
  subst hR0;exact qM (d:=d) hbo hnl hn ∅ (by rw[h2.len]; omega) q
 clear hR0;have hP:=λn=>xP (n:=n) (one:=one) hk h2 hmay
 unfold fI at k;generalize hPd:(λi=>(HG u.length).all λp=>!iG X bs u one other i p)=P at k
 have hP:∀n,bI kvs (u++[one]) (u++[one]).length (other.1,other.2++[bs.getD n 0])=P n:=λn=>by rw[hP n,<- hPd]
 clear hPd;dsimp only[dB];refine st ?_;dsimp only[wS,wE,wA,Hw];refine aF λK hK=>?_
 refine bC (bs.length:Hv) (λi ρ S'=>(∃a6,ρ=[gV R,gV (.ref q),gV (am u),gV (ap one),gV (ap other),gV (.ref S.length),a6])/\S'[S.length]?=gV (.lst (ac (((HG i).filter P).map λ(i:Ho)=>(i:Hv))))/\Ka S S') rfl rfl ∅ ?_ ?_ ?_
 ·dsimp only[wE,wA,wV,wG];exact lw _ _ #[rfl,#[_,rfl],aj,.push]
 ·rintro i ρ S2 hi ⟨⟨a6,rfl⟩,e2,k2⟩ Q2 hn _;clear hK;have hib:i < bs.length:=∅
  dsimp only[Hw];refine aF λK hK=>?_
  dsimp only[wS,wT,wE,wA,wV,wG];refine lb i _ _ hib (ay ?_);rw[ul];refine ab cp ?_;dsimp only;rw[<- sl];refine kL (d:=d) hm gu (by show(other.2++[_]).length=_; rw[Hk,h2.len,Hk]; rfl) hul2 (k2.get _ _ e) ?_
  rw[hP];refine ab (show cw S2 (.bl (P i))=gV (P i)from rfl) ?_
  refine ah (Q0:=Q2) (λhp Q3 hn3 _=>?_) (λhp Q3 hn3 _=>aM (hn3 _ _ (hK _ _ (aM (hn _ _ #[#[_,rfl],?_,k2])))))
  ·refine st ?_;dsimp only[wS,wE,wA,wV,wG];refine#[dF e2,lV e2 ?_ (aM (hn3 _ _ (hK _ _ (aM (hn _ _ #[#[_,rfl],?_,k2.late (Hz _)])))))]
   ·have:=pL (P:=P) (n:=i);unfold ac;rw[Hh];omega
   ·rw[bG e2,Jw,JG,HR,Of,hp];unfold ac;rw[HR]; rfl
  ·rw[Jw,JG,Of,hp]
   simpa using e2
 ·rintro ρ S2 ⟨⟨a6,rfl⟩,e2,k2⟩;rw[HF]at e2;refine hK _ _ ?_;clear hK K;refine st ?_;dsimp only[wS,wE,wA,wV,wG,wN];refine ab EZ ?_;rw[E3 h1.len h2.len];generalize nT one other u.length=c at k;obtain⟨g,hg,eg,er⟩ : ∃g:Ho,g<=1/\(∀S,Bi.int.fn [.bl c] S=gV (.int (g:Hv),S))/\ac (if c then[-1]else[])=Ih g (W.int (-1)):=by
   cases c
   ·exact#[0,#v[],λ_=>rfl,rfl]
   ·exact#[1,#v[],λ_=>rfl,rfl]
  refine ab (eg _) ?_;dsimp only;refine Bd aj ∅ ?_
  have hl:=pL (P:=P) (n:=bs.length);refine ab (nG (ar (ar e2)) aj (dR (by unfold ac; rw[Hk,Lg,Hh]; omega))) (k _ _ ?_ ?_ (((k2.trans .push).trans .push).trans .push))
  ·unfold ac at er ⊢;rw[HR,er];exact aj
  ·have:=k2.len;simp; omega
end
noncomputable def bd (kvs:Hg (T×W))(w:Wd):HU:=(aK kvs (dq w)).isSome
noncomputable def Cl (bs:Hg Hv)(kvs:Hg (T×W)):Prop:=∀(w:Wd) (t:Hg Ho),t∈aw->bd kvs w=true->bd kvs (au bs w t)=true
theorem E4 {bs:Hg Hv}{a:Ho}{gs:Hg Wd}{kvs:Hg (T×W)}(hb:GoodB bs)(hgs:∀g∈gs,GoodW a bs.length g/\g.length=3)(h:HasD kvs (br bs gs)):Cl bs kvs:=by
 intro w t ht hw;unfold bd at hw ⊢;rw[h.get,Io]at hw ⊢;obtain⟨w',hw',e⟩:=HQ.mp hw;have e:=nN e;subst e;refine HQ.mpr #[_,?_,rfl];unfold br at hw' ⊢;obtain⟨g,hg,h⟩:=IY.mp hw';obtain⟨s,hs,rfl⟩:=HQ.mp h;obtain⟨gg,g3⟩:=hgs g hg;obtain⟨s1,s2⟩:=jc.mp hs;refine IY.mpr #[g,hg,?_];rw[jb hb gg (by rw[g3]; exact s1) (by rw[s2]; exact(jc.mp ht).1)]
 have:∀s∈aw,∀t∈aw,(t.map λi=>s.getD i 0)∈aw:=by decide
 exact HQ.mpr #[_,this s hs t ht,rfl]
theorem mv {bs:Hg Hv}{u:Wd}{i j k:Ho}(h1:i < j)(h2:j < k):bW u i j k=au bs u [i,j,k]:=by
 have e1:bM bs u j i=(u.getD j (0,[])).2.getD i 0:=by unfold bM; rw[HV h1]
 have e2:bM bs u k i=(u.getD k (0,[])).2.getD i 0:=by unfold bM; rw[HV (JT h1 h2)]
 have e3:bM bs u k j=(u.getD k (0,[])).2.getD j 0:=by unfold bM; rw[HV h2]
 show _=[((u.getD i (0,[])).1,[]),((u.getD j (0,[])).1,[bM bs u j i]),((u.getD k (0,[])).1,[bM bs u k i,bM bs u k j])];rw[e1,e2,e3];rfl
theorem Aw {bs:Hg Hv}{a:Ho}{kvs:Hg (T×W)}{u:Wd}{x y z:Ho}(hb:GoodB bs)(cl:Cl bs kvs)(hu:GoodW a bs.length u)(hs:Std kvs u)(hO:Ord u.length [x,y,z]):bd kvs (au bs u [x,y,z])=false:=by
 rw[Kg];intro h;have go:∀(i j k:Ho) (t:Hg Ho),t∈aw->(t.map λi=>[x,y,z].getD i 0)=[i,j,k]->i < j->j < k->k < u.length->IV:=λi j k t ht e h1 h2 h3=>by
  have:=cl _ t ht h;rw[jb hb hu hO (jc.mp ht).1,e,<- mv h1 h2]at this;have h4:=hs k h3 j h2 i h1;unfold bH at h4;unfold bd at this;rw[this]at h4; cases h4
 have lx:=hO.lt x (by simp)
 have ly:=hO.lt y (by simp)
 have lz:=hO.lt z (by simp)
 have nd:=hO.nd;simp only[Js,HW,IR,Kr,Ph]at nd;obtain⟨⟨n1,n2⟩,n3,_⟩:=nd;rcases Ku n1 with h1|h1
 ·rcases Ku n3 with h2|h2
  ·exact go x y z [0,1,2] #v[] rfl h1 h2 lz
  ·rcases Ku n2 with h3|h3
   ·exact go x z y [0,2,1] #v[] rfl h3 h2 ly
   ·exact go z x y [2,0,1] #v[] rfl h3 h1 ly
 ·rcases Ku n2 with h2|h2
  ·exact go y x z [1,0,2] #v[] rfl h1 h2 lz
  ·rcases Ku n3 with h3|h3
   ·exact go y z x [1,2,0] #v[] rfl h3 h2 lx
   ·exact go z y x [2,1,0] #v[] rfl h3 h1 lx
theorem qP {ps:Hg Ho}(h:ps.Nodup){i j:Ho}(hi:i < ps.length)(hj:j < ps.length)(e:ps.getD i 0=ps.getD j 0):i=j:=by
 rw[HL,HL,HE hi,HE hj]at e;exact(JX h).mp e
theorem Std.part {bs:Hg Hv}{a:Ho}{kvs:Hg (T×W)}{u:Wd}{ps:Hg Ho}(hb:GoodB bs)(cl:Cl bs kvs)(hu:GoodW a bs.length u)(hs:Std kvs u)(hO:Ord u.length ps):Std kvs (au bs u ps):=by
 intro k hk j hj i hi;rw[bv]at hk;have hO3:Ord ps.length [i,j,k]:=#[by simp only[Js,HW,IR,Kr,Ph]; exact#[#[∅,∅],∅,by simp],λp hp=>by
  simp only[HW,IR,Kr]at hp;rcases hp with rfl|rfl|rfl <;> omega]
 show bd kvs (bW (au bs u ps) i j k)=false;rw[mv (bs:=bs) hi hj,jb hb hu hO hO3];have gm:∀m,m < ps.length->ps.getD m 0∈ps:=λm hm=>HC (aq (d:=0) hm)
 refine Aw hb cl hu hs #[?_,λp hp=>?_]
 ·simp only[Js,HW,IR,Kr,Ph];exact#[#[λe=>by have:=qP hO.nd ∅ ∅ e; omega,λe=>by have:=qP hO.nd ∅ ∅ e; omega],λe=>by have:=qP hO.nd ∅ ∅ e; omega,by simp]
 ·simp only[HW,IR,Kr]at hp;rcases hp with rfl|rfl|rfl <;> exact hO.lt _ (gm _ ∅)
theorem Std.both {kvs:Hg (T×W)}{u:Wd}{p:Pt}:Std kvs (u++[p])↔Std kvs u/\bI kvs u u.length p=true:=by
 constructor
 ·intro h;have:=h.last;rw[List.dropLast_concat,Hk,Ij,Np,bP]at this;exact this
 ·rintro⟨h1,h2⟩;exact h1.snoc (m:=p.1) (to:=p.2) (bq.mp h2)
theorem xQ {bs:Hg Hv}{u:Wd}{p:Pt}{ps:Hg Ho}(h:∀k∈ps,k < u.length):au bs (u++[p]) ps=au bs u ps:=by
 unfold au;refine IM λk hk=>?_
 have hk:=HI.mp hk;have g1:=h _ (HC (aq (d:=0) hk));rw[aE g1];congr 1;refine IM λj hj=>?_
 have g2:=h j (KJ hj);unfold bM;rw[aE g1,aE g2]
theorem uy {bs:Hg Hv}{u:Wd}{p:Pt}{ps:Hg Ho}(h:∀k∈ps,k < u.length):au bs (u++[p]) (ps++[u.length])=au bs u ps++[bm p ps]:=by
 rw[l5,xQ h];congr 2;unfold sE bm;rw[bP];congr 1;refine IM λj hj=>?_
 unfold bM;rw[HV (h j hj),bP]
structure Cf (a n:Ho)(kvs:Hg (T×W))(u:Wd)(p q:Pt):Prop where
 gu:GoodW a n u
 su:Std kvs u
 gp:GoodP a n u.length p
 mp:bI kvs u u.length p=true
 gq:GoodP a n u.length q
 mq:bI kvs u u.length q=true
theorem GoodP.snoc {a n:Ho}{u:Wd}{p:Pt}(hu:GoodW a n u)(h:GoodP a n u.length p):GoodW a n (u++[p]):=hu.snoc (m:=p.1) (ws:=p.2) h.mark h.len h.way
theorem Ax {n:Ho}{ps:Hg Ho}(h:Ord n ps):Ord (n+1) (ps++[n]):=#[by
 rw[LY];exact#[h.nd,by simp,λx hx y hy e=>by
  rw[HB.mp hy]at e;have:=h.lt x hx; omega],λp hp=>by
 rcases HY.mp hp with h1|h1
 ·have:=h.lt p h1; omega
 ·rw[HB.mp h1]; omega]
theorem Cf.part {bs:Hg Hv}{a:Ho}{kvs:Hg (T×W)}{u:Wd}{p q:Pt}{ps:Hg Ho}(hb:GoodB bs)(cl:Cl bs kvs)(h:Cf a bs.length kvs u p q)(hO:Ord u.length ps):Cf a bs.length kvs (au bs u ps) (bm p ps) (bm q ps):=by
 have pl:(au bs u ps).length=ps.length:=bv ..;have one:∀p:Pt,GoodP a bs.length u.length p->bI kvs u u.length p=true->bI kvs (au bs u ps) (au bs u ps).length (bm p ps)=true:=λp gp mp=>by
  have s1:Std kvs (u++[p]):=Std.both.mpr #[h.su,mp];have l1:(u++[p]).length=u.length+1:=by rw[Hk]; rfl
  have s2:=s1.part hb cl (gp.snoc h.gu) (ps:=ps++[u.length]) (by rw[l1]; exact Ax hO)
  rw[uy hO.lt]at s2;exact(Std.both.mp s2).2
 exact#[md hb h.gu hO.lt hO.nd,h.su.part hb cl h.gu hO,by rw[pl]; exact mo h.gp hO.lt,one p h.gp h.mp,by rw[pl]; exact mo h.gq hO.lt,one q h.gq h.mq]
noncomputable def aV (kvs:Hg (T×W))(bs:Hg Hv)(u:Wd)(p q:Pt)(i:Ho):HU:=if i < bs.length then(HG u.length).any λk=>bd kvs (iF u p q (bs.getD i 0) k)else !nT p q u.length
noncomputable def Full (kvs:Hg (T×W))(bs:Hg Hv)(c:Ho)(u:Wd)(p q:Pt):Prop:=∀i < c,aV kvs bs u p q i=true
theorem eG {kvs:Hg (T×W)}{bs:Hg Hv}{u:Wd}{p q:Pt}{i:Ho}(hi:i < bs.length):aV kvs bs u p q i=true↔∃k < u.length,bd kvs (iF u p q (bs.getD i 0) k)=true:=by
 unfold aV;rw[HV hi,Og];exact#[λ#[k,h1,h2]=>#[k,HI.mp h1,h2],λ#[k,h1,h2]=>#[k,HI.mpr h1,h2]]
theorem xR {p q:Pt}{s:Ho}:nT p q s=false↔p.1≠q.1\/∃k < s,p.2.getD k 0≠q.2.getD k 0:=by
 unfold nT;rw[Lh,NP];constructor
 ·rintro(h|⟨k,h1,h2⟩)
  ·exact .inl (by simpa using h)
  ·exact .inr #[k,HI.mp h1,by simpa using h2]
 ·rintro(h|⟨k,h1,h2⟩)
  ·exact .inl (by simpa using h)
  ·exact .inr #[k,HI.mpr h1,by simpa using h2]
theorem gb {kvs:Hg (T×W)}{bs:Hg Hv}{u:Wd}{p q:Pt}{i:Ho}(hi:¬ i < bs.length):aV kvs bs u p q i=true↔p.1≠q.1\/∃k < u.length,p.2.getD k 0≠q.2.getD k 0:=by
 unfold aV;rw[Iv hi,Kf,xR]
theorem sG {ps:Hg Ho}{k:Ho}:(ps++[k]).getD ps.length 0=k:=by
 rw[HL,IA (Hz _),KL]; rfl
theorem sH {ps:Hg Ho}{k:Ho}(h:k∈ps):∃j < ps.length,ps.getD j 0=k:=by
 obtain⟨j,hj,e⟩:=M6 h;exact#[j,hj,by rw[HL,HE hj]; exact e]
theorem xS {kvs:Hg (T×W)}{bs:Hg Hv}{u:Wd}{p q:Pt}{ps:Hg Ho}{i:Ho}(h:aV kvs bs u p q i=true)(hn:aV kvs bs (au bs u ps) (bm p ps) (bm q ps) i=false):∃k < u.length,k∉ps/\aV kvs bs (au bs u (ps++[k])) (bm p (ps++[k])) (bm q (ps++[k])) i=true:=by
 have pl:∀ps,(au bs u ps).length=ps.length:=λps=>bv ..
 have no:¬ aV kvs bs (au bs u ps) (bm p ps) (bm q ps) i=true:=by rw[hn]; exact HK
 have el:∀k,ps.length < (ps++[k]).length:=λk=>by rw[Hk,Ij]; omega
 by_cases hi:i < bs.length
 ·rw[eG hi]at h no;obtain⟨k,hk,hb⟩:=h;refine#[k,hk,λz=>?_,?_]
  ·obtain⟨j,hj,e⟩:=sH z;exact no #[j,by rw[pl]; exact hj,by rw[pK hj,e]; exact hb]
  ·rw[eG hi];exact#[ps.length,by rw[pl]; exact el k,by rw[pK (el k),sG]; exact hb]
 ·rw[gb hi]at h no;rcases h with h|⟨k,hk,hb⟩
  ·exact absurd (.inl h) no
  refine#[k,hk,λz=>?_,?_]
  ·obtain⟨j,hj,e⟩:=sH z;exact no (.inr #[j,by rw[pl]; exact hj,by rw[dY hj,dY hj,e]; exact hb])
  ·rw[gb hi];exact .inr #[ps.length,by rw[pl]; exact el k,by rw[dY (el k),dY (el k),sG]; exact hb]
theorem xT {kvs:Hg (T×W)}{bs:Hg Hv}{u:Wd}{p q x:Pt}{v w:Hv}{i:Ho}(hp:p.2.length=u.length)(hq:q.2.length=u.length)(h:aV kvs bs u p q i=true):aV kvs bs (u++[x]) (p.1,p.2++[v]) (q.1,q.2++[w]) i=true:=by
 have l1:(u++[x]).length=u.length+1:=by rw[Hk]; rfl
 by_cases hi:i < bs.length
 ·rw[eG hi]at h ⊢;obtain⟨k,hk,hb⟩:=h;refine#[k,∅,?_]
  unfold iF at hb ⊢;dsimp only;rw[aE hk,aY ∅,aY ∅]
  exact hb
 ·rw[gb hi]at h ⊢;rcases h with h|⟨k,hk,hb⟩
  ·exact .inl h
  ·refine .inr #[k,∅,?_]
   dsimp only;rw[aY ∅,aY ∅]
   exact hb
noncomputable def sI (kvs:Hg (T×W))(bs:Hg Hv)(c:Ho)(u:Wd)(p q:Pt):Ho:=((HG c).filter λi=>!aV kvs bs u p q i).length
theorem Ay {c i:Ho}{f g:Ho->HU}(hi:i < c)(h:∀j,f j=true->g j=true)(h1:f i=false)(h2:g i=true):((HG c).filter λj=>!g j).length < ((HG c).filter λj=>!f j).length:=by
 have e:(HG c).filter (λj=>!g j)=((HG c).filter λj=>!f j).filter λj=>!g j:=by
  rw[List.filter_filter];refine L0 λj _=>?_
  cases hf:f j with
  | true=>rw[h j hf]; rfl
  | false=>simp
 rw[e];exact List.length_filter_lt_length_iff_exists.mpr #[i,JB.mpr #[HI.mpr hi,by rw[h1]; rfl],by rw[h2]; exact HK]
noncomputable def g5 (kvs:Hg (T×W))(v:Wd)(n:Ho)(p:Pt):Hg Pt:=((HG n).map λ(w:Ho)=>(p.1,p.2++[(w:Hv)])).filter λh=>gE kvs (v++[h])
noncomputable def gF (kvs:Hg (T×W))(a n:Ho)(u:Wd)(p q:Pt):Hg (Wd×Pt×Pt):=(gN kvs u a n).flatMap λx=>(g5 kvs (u++[x]) n p).flatMap λh=>(g5 kvs (u++[x]) n q).map λh'=>(u++[x],h,h')
theorem nU {kvs:Hg (T×W)}{u:Wd}{x p h:Pt}{n:Ho}:h∈g5 kvs (u++[x]) n p↔∃w:Ho,w < n/\h=(p.1,p.2++[(w:Hv)])/\∀i < u.length,bS kvs (u++[x]) h i u.length=false:=by
 have l1:(u++[x]).length=u.length+1:=by rw[Hk]; rfl
 have key:∀h:Pt,gE kvs (u++[x]++[h])=true↔∀i < u.length,bS kvs (u++[x]) h i u.length=false:=λh=>by
  rw[kJ (s:=u.length) (by rw[Hk,l1]; rfl)]
  constructor <;> intro z i hi
  ·have:=z i hi;rw[<- l1,kG hi ∅]at this; exact this
  ·rw[<- l1,kG hi ∅]; exact z i hi
 unfold g5;rw[JB,key,HQ];exact#[λ#[#[w,hw,e],z]=>#[w,HI.mp hw,e.symm,z],λ#[w,hw,e,z]=>#[#[w,HI.mpr hw,e.symm],z]]
theorem Bg {kvs:Hg (T×W)}{u:Wd}{x p h:Pt}{a n:Ho}(gp:GoodP a n u.length p)(mp:bI kvs u u.length p=true)(hh:h∈g5 kvs (u++[x]) n p):GoodP a n (u++[x]).length h/\bI kvs (u++[x]) (u++[x]).length h=true:=by
 have l1:(u++[x]).length=u.length+1:=by rw[Hk]; rfl
 obtain⟨w,hw,rfl,hb⟩:=nU.mp hh;have gl:=gp.len;refine#[#[gp.mark,?_,λz hz=>?_],bq.mpr λq hq i hi=>?_]
 ·rw[l1,Hk,gl]; rfl
 ·rcases HY.mp hz with z1|z1
  ·exact gp.way z z1
  ·rw[HB.mp z1]; omega
 ·by_cases e:q=u.length
  ·subst e; exact hb i hi
  ·have hq':q < u.length:=∅
   have:=bq.mp mp q hq' i hi;unfold bS at this ⊢;dsimp only;rw[aE (JT hi hq'),aE hq',aY ∅,aY ∅]
   exact this
theorem Az {bs:Hg Hv}{kvs:Hg (T×W)}{u:Wd}{p q:Pt}{a n:Ho}{c:Wd×Pt×Pt}(h:Cf a n kvs u p q)(hc:c∈gF kvs a n u p q):Cf a n kvs c.1 c.2.1 c.2.2/\c.1.length=u.length+1/\∀i,aV kvs bs u p q i=true->aV kvs bs c.1 c.2.1 c.2.2 i=true:=by
 unfold gF at hc;obtain⟨x,hx,hc⟩:=IY.mp hc;obtain⟨h1,hh1,hc⟩:=IY.mp hc;obtain⟨h2,hh2,rfl⟩:=HQ.mp hc;obtain⟨g1,g2,g3,g4⟩:=kI.mp hx;obtain⟨p1,p2⟩:=Bg h.gp h.mp hh1;obtain⟨q1,q2⟩:=Bg h.gq h.mq hh2;refine#[#[h.gu.snoc (m:=x.1) (ws:=x.2) g1 g2 g3,Std.both.mpr #[h.su,bq.mpr λj hj i hi=>g4 i j hi hj],p1,p2,q1,q2],by rw[Hk]; rfl,λi hi=>?_]
 obtain⟨w1,_,rfl,_⟩:=nU.mp hh1;obtain⟨w2,_,rfl,_⟩:=nU.mp hh2;exact xT h.gp.len h.gq.len hi
theorem uz {p:Pt}{ps:Hg Ho}{k:Ho}:bm p (ps++[k])=((bm p ps).1,(bm p ps).2++[p.2.getD k 0]):=by
 unfold bm;rw[HR]; rfl
theorem xU {bs:Hg Hv}{kvs:Hg (T×W)}{u:Wd}{p q:Pt}{a:Ho}{ps:Hg Ho}{k:Ho}(hb:GoodB bs)(cl:Cl bs kvs)(h:Cf a bs.length kvs u p q)(hO:Ord u.length (ps++[k])):(au bs u (ps++[k]),bm p (ps++[k]),bm q (ps++[k]))∈gF kvs a bs.length (au bs u ps) (bm p ps) (bm q ps):=by
 have C:=h.part hb cl hO;have hk:k < u.length:=hO.lt k (by simp)
 rw[l5]at C ⊢;generalize sE bs u ps k=x at C;generalize au bs u ps=v at C;have l1:(v++[x]).length=v.length+1:=by rw[Hk]; rfl
 have hx:(v++[x])[v.length]?=gV x:=by rw[IA (Hz _),KL]; rfl
 obtain⟨_,mx⟩:=Std.both.mp C.su;have one:∀r:Pt,GoodP a bs.length u.length r->bI kvs (v++[x]) (v++[x]).length (bm r (ps++[k]))=true->bm r (ps++[k])∈g5 kvs (v++[x]) bs.length (bm r ps):=λr gr mr=>by
  obtain⟨w0,w1⟩:=gr.way _ (HC (aq (d:=0) (by rw[gr.len]; exact hk)))
  refine nU.mpr #[(r.2.getD k 0).toNat,∅,?_,λi hi=>bq.mp mr v.length ∅ i hi]
  rw[uz,Kn w0]
 unfold gF;refine IY.mpr #[x,kI.mpr #[C.gu.mark _ _ hx,C.gu.len _ _ hx,C.gu.way _ _ hx,λi j hi hj=>bq.mp mx j hj i hi],IY.mpr #[_,one p h.gp C.mp,HQ.mpr #[_,one q h.gq C.mq,rfl]]]
noncomputable def Sub (bs:Hg Hv)(U:Wd)(P Q:Pt)(u:Wd)(p q:Pt):Prop:=∃ps,Ord U.length ps/\u=au bs U ps/\p=bm P ps/\q=bm Q ps
noncomputable def gd (a:Ho)(bs:Hg Hv)(kvs:Hg (T×W))(c:Ho)(u:Wd)(p q:Pt):Prop:=∀U P Q,Cf a bs.length kvs U P Q->Full kvs bs c U P Q->¬ Sub bs U P Q u p q
theorem C8 {bs:Hg Hv}{kvs:Hg (T×W)}{u:Wd}{p q:Pt}{a c i:Ho}(hb:GoodB bs)(cl:Cl bs kvs)(hi:i < c)(hn:aV kvs bs u p q i=false)(h:∀x∈gF kvs a bs.length u p q,aV kvs bs x.1 x.2.1 x.2.2 i=true->gd a bs kvs c x.1 x.2.1 x.2.2):gd a bs kvs c u p q:=by
 rintro U P Q hC hF ⟨ps,hO,rfl,rfl,rfl⟩;obtain⟨k,hk,hkp,hh⟩:=xS (hF i hi) hn;have hO':Ord U.length (ps++[k]):=#[by
  rw[LY];exact#[hO.nd,by simp,λx hx y hy e=>by rw[HB.mp hy]at e; exact hkp (e ▸ hx)],λx hx=>by
  rcases HY.mp hx with h1|h1
  ·exact hO.lt x h1
  ·rw[HB.mp h1]; exact hk]
 exact h _ (xU hb cl hC hO') hh U P Q hC hF #[_,hO',rfl,rfl,rfl]
theorem uA {bs:Hg Hv}{u:Wd}{one other:Pt}{b:Hv}{p:Ho}:au bs (iF u one other b p) [0,2,1]=iF u other one (bs.getD b.toNat 0) p:=rfl
theorem Full.turn {bs:Hg Hv}{kvs:Hg (T×W)}{u:Wd}{p q:Pt}{c:Ho}(hb:GoodB bs)(cl:Cl bs kvs)(hc:bs.length<=c)(h:Full kvs bs c u p q):Full kvs bs c u q p:=by
 intro i hi
 by_cases hn:i < bs.length
 ·obtain⟨b,hb1,hb2,hb3⟩:=hb.rng i hn;have hj:(bs.getD i 0).toNat < bs.length:=by rw[getD_some hb1]; omega
  obtain⟨k,hk,hh⟩:=(eG hj).mp (h _ (Ig hj hc));rw[hb.inv i hn]at hh;refine(eG hn).mpr #[k,hk,?_];have:=cl _ [0,2,1] #v[] hh
  rw[uA,HF]at this;exact this
 ·refine(gb hn).mpr ?_;rcases(gb hn).mp (h i hi)with z|⟨k,hk,z⟩
  ·exact .inl λe=>z e.symm
  ·exact .inr #[k,hk,λe=>z e.symm]
theorem Cf.turn {a n:Ho}{kvs:Hg (T×W)}{u:Wd}{p q:Pt}(h:Cf a n kvs u p q):Cf a n kvs u q p:=#[h.gu,h.su,h.gq,h.mq,h.gp,h.mp]
theorem AA {bs:Hg Hv}{U:Wd}{P Q:Pt}:Sub bs U P Q [] (P.1,[]) (Q.1,[]):=#[[],#[.nil,λ_ h=>nomatch h],rfl,rfl,rfl]
noncomputable def GB (a:Ho)(bs:Hg Hv)(kvs:Hg (T×W))(c:Ho):Prop:=∃U P Q,Cf a bs.length kvs U P Q/\Full kvs bs c U P Q
theorem E5 {bs:Hg Hv}{kvs:Hg (T×W)}{a c:Ho}(hb:GoodB bs)(cl:Cl bs kvs)(hc:bs.length<=c)(h:∀i j:Ho,i < a->i<=j->j < a->gd a bs kvs c [] ((i:Hv),[]) ((j:Hv),[])):¬ GB a bs kvs c:=by
 rintro⟨U,P,Q,hC,hF⟩;have go:∀P Q:Pt,Cf a bs.length kvs U P Q->Full kvs bs c U P Q->P.1<=Q.1->IV:=λP Q hC hF hle=>by
  obtain⟨p0,p1⟩:=hC.gp.mark;obtain⟨q0,q1⟩:=hC.gq.mark;have:=h P.1.toNat Q.1.toNat ∅ ∅ ∅ U P Q hC hF
  rw[Kn p0,Kn q0]at this;exact this AA
 rcases Int.le_total P.1 Q.1 with hle|hle
 ·exact go P Q hC hF hle
 ·exact go Q P hC.turn (hF.turn hb cl hc) hle
noncomputable def bD:Ss:=
 #v[.set 4 (.comp (.tup #v[.ix (.v 2) (.c (.int 0)),.op .add (.ix (.v 2) (.c (.int 1))) (.tup #v[.v 1])]) (.nm 1) (.rng #v[.bi .len #v[.ix (.v 0) (.c (.int 1))]]) .nil [td,td,gV 3]),.ret (.comp (.v 1) (.nm 1) (.seq (.v 4)) #v[.cmp .is (.own "first_bar" 2 #v[.v 2,.op .add (.v 3) (.tup #v[.v 1])]) (.c .non)] [td,td,gV 1,gV 2])]
noncomputable def bK:Ss:=
 #v[.set 3 (.lst .nil),.loop (.nm 4) (.seq (.own "wishes_over" 3 #v[.v 0,.v 1,.ix (.v 2) (.c (.int 0))])) #v[.set 5 (.op .add (.ix (.v 2) (.c (.int 0))) (.tup #v[.v 4])),.set 6 (.own "longer_by_a_way" 4 #v[.v 0,.v 1,.v 5,.ix (.v 2) (.c (.int 2))]),.loop (.nm 7) (.seq (.own "longer_by_a_way" 4 #v[.v 0,.v 1,.v 5,.ix (.v 2) (.c (.int 1))])) #v[.ex (.me .extend (.v 3) #v[.comp (.tup #v[.v 2,.v 3,.v 1]) (.nm 1) (.seq (.v 6)) .nil [td,td,gV 5,gV 7]])]],.ret (.v 3)]
noncomputable def cW (c:Wd×Pt×Pt):W:=.tup [am c.1,ap c.2.1,ap c.2.2]
theorem nV {kvs:Hg (T×W)}{v:Wd}{n:Ho}{p:Pt}:(g5 kvs v n p).length<=n:=by
 unfold g5;exact HZ (Jq _ _) (by rw[Hh,Ic]; exact Hz _)
theorem iH {α β:Type}{m:Ho}{F:α->Hg β}(h:∀x,(F x).length<=m):∀xs:Hg α,(xs.flatMap F).length<=xs.length*m
 | []=>by simp
 | x::xs=>by
  rw[Ja,Hk,Iw,Nat.add_mul,Nat.one_mul];have:=iH h xs;have:=h x;omega
theorem xV {kvs:Hg (T×W)}{u:Wd}{a n:Ho}(ha:a<=3)(hn:n<=3)(hu:u.length<=3):(gN kvs u a n).length<=81:=by
 have h1:n ^ u.length<=27:=HZ (M5 hn _) (MT (n:=3) #v[] hu)
 have:=iH (F:=λ(m:Ho)=>cb kvs u n (m:Hv) u.length) (λm=>HZ (eU u.length) h1) (HG a)
 rw[Ic]at this;exact HZ this ∅
section
variable{defs:Hg (HJ×Df)}{fuel d:Ho}{S:aa}{Q:QW}
theorem xW (h3:Is defs ("three_at" : HJ) 4 6 aX)(hfb:Is defs ("first_bar" : HJ) 2 4 aU)(hg:Is defs ("longer_by_a_way" : HJ) 4 5 bD){m0 b0:W}{N:Hg W}{a n q:Ho}{v:Wd}{p:Pt}{kvs:Hg (T×W)}(hN:N.length=n)(hn3:n<=3)(hv:GoodW a n v)(hv1:1<=v.length)(hvl:v.length<=10)(hp0:0<=p.1/\p.1 < a)(hpl:p.2.length+1=v.length)(hpw:∀w∈p.2,0<=w/\w < (n:Hv))(e:S[q]?=gV (.dic kvs))
  (k:∀(l:Ho) S',S'[l]?=gV (.lst ((g5 kvs v n p).map ap))->S.length<=l->Ka S S'->Q (.ref l,S')) :
  wO (aC (ak defs fuel (d+3)) "longer_by_a_way" 4 [.tup [m0,.tup N,b0],.ref q,am v,ap p] S) Q:=by
 refine al hg rfl rfl λQ' hR=>?_
 replace k:∀(l:Ho) S',S'[l]?=gV (.lst ((g5 kvs v n p).map ap))->S.length<=l->Ka S S'->Q' (.rt (.ref l),S'):=λl S' a b c=>hR _ _ (k l S' a b c)
 clear hR;show wZ _ _ bD [gV (.tup [m0,.tup N,b0]),gV (.ref q),gV (am v),gV (ap p),td] S Q';dsimp only[bD];refine st ?_;dsimp only[wS,wE,Hw];refine nQ n (λ_=>true) (λ(w:Ho)=>ap (p.1,p.2++[(w:Hv)])) [gV (ap p)] rfl rfl rfl rfl ∅ ?_ (λw hw S2 k2=>?_) λS2 k2=>?_
 ·dsimp only[wE,wA,wV,wG];refine ae #v[] rfl (ay ?_)
  rw[hN];exact#[rfl,.refl]
 ·dsimp only[fW,wC,wE,wA,wV,wG];refine#[λ_=>?_,λz=>by cases z]
  refine ae #v[] rfl (ae #v[] rfl ?_)
  refine ab (bF (dR (by rw[Hk,Hh]; show _+1<=_; omega))) ?_
  refine#[rfl,?_,.refl];unfold ap;dsimp only;rw[HR]; rfl
 ·rw[c8];refine st ?_;dsimp only[wS,wE];have em:((HG n).map λ(w:Ho)=>ap (p.1,p.2++[(w:Hv)]))=(((HG n).map λ(w:Ho)=>((p.1,p.2++[(w:Hv)]):Pt)).map ap):=by rw[JW]; rfl
  rw[em];refine qC ((HG n).map λ(w:Ho)=>((p.1,p.2++[(w:Hv)]):Pt)) ap (λh=>gE kvs (v++[h])) ap [gV (.ref q),gV (am v)] rfl rfl rfl rfl (by rw[Hh,Ic]; omega) #[_,rfl,aj,.refl] (λh hh S3 k3=>?_) λS3 k3=>?_
  ·obtain⟨w,hw,rfl⟩:=HQ.mp hh;have hw:=HI.mp hw;have gv:GoodW a n (v++[(p.1,p.2++[(w:Hv)])]):=hv.snoc hp0 (by rw[Hk]; exact hpl) λx hx=>by
    rcases HY.mp hx with z|z
    ·exact hpw x z
    ·rw[HB.mp z]; omega
   generalize((p.1,p.2++[(w:Hv)]):Pt)=h at gv;have vl:(v++[h]).length=v.length+1:=by rw[Hk]; rfl
   dsimp only[fW,wC,wT,wE,wA,wV,wG,am];have ev:v.map ap++[ap h]=(v++[h]).map ap:=by rw[HR]; rfl
   refine ab (bF (dR (by rw[ev,Hh]; omega))) ?_
   dsimp only;rw[ev];have fb:=λ(Q:QW)=>jn (fuel:=fuel) (d:=d) (Q:=Q) h3 hfb gv ∅ ∅ ((k2.trans (Ka.push.trans k3)).get _ _ e)
   unfold am at fb;refine fb _ λz hz=>?_
   rcases hz with⟨rfl,hz⟩|⟨i,rfl,hz⟩
   ·refine ab (show aL .is .non .non S3=gV (.bl true,S3)from rfl) ?_
    dsimp only[wB];exact#[λ_=>#[hz,rfl,.refl],λz=>by cases z]
   ·refine ab (show aL .is (.int i) .non S3=gV (.bl false,S3)from rfl) ?_
    dsimp only[wB];exact#[λz=>(by cases z),λ_=>#[hz,.refl]]
  ·refine k _ _ aj ?_ ((k2.trans (Ka.push.trans k3)).trans .push);have:=(k2.trans (Ka.push.trans k3)).len;exact this
structure Sea (defs:Hg (HJ×Df)):Prop where
 three:Is defs ("three_at" : HJ) 4 6 aX
 fbar:Is defs ("first_bar" : HJ) 2 4 aU
 lwish:Is defs ("longer_wishes" : HJ) 2 5 bz
 wover:Is defs ("wishes_over" : HJ) 3 7 cy
 byway:Is defs ("longer_by_a_way" : HJ) 4 5 bD
 bypt:Is defs ("longer_by_a_point" : HJ) 3 8 bK
theorem qQ (X:Sea defs){M N:Hg W}{b0:W}{a n q:Ho}{u:Wd}{p r:Pt}{kvs:Hg (T×W)}(hM:M.length=a)(hN:N.length=n)(ha3:a<=3)(hn3:n<=3)(hC:Cf a n kvs u p r)(hul:u.length<=3)(e:S[q]?=gV (.dic kvs))
  (k:∀(l:Ho) S',S'[l]?=gV (.lst ((gF kvs a n u p r).map cW))->S.length<=l->Ka S S'->Q (.ref l,S')) :
  wO (aC (ak defs fuel (d+4)) "longer_by_a_point" 3 [.tup [.tup M,.tup N,b0],.ref q,.tup [am u,ap p,ap r]] S) Q:=by
 refine al X.bypt rfl rfl λQ' hR=>?_
 replace k:∀(l:Ho) S',S'[l]?=gV (.lst ((gF kvs a n u p r).map cW))->S.length<=l->Ka S S'->Q' (.rt (.ref l),S'):=λl S' a b c=>hR _ _ (k l S' a b c)
 clear hR;show wZ _ _ bK [gV (.tup [.tup M,.tup N,b0]),gV (.ref q),gV (.tup [am u,ap p,ap r]),td,td,td,td,td] S Q';have wl:=xV (kvs:=kvs) (u:=u) ha3 hn3 hul;have ww:=λ(S:aa) (Q:QW) e=>ll (defs:=defs) (fuel:=fuel) (d:=d) (S:=S) (Q:=Q) (M:=M) (N:=N) (b0:=b0) (q:=q) X.three X.fbar X.lwish X.wover hM hN ha3 hn3 hC.gu (HZ hul #v[]) (kvs:=kvs) e
 have bw:=λ(v:Wd) (p:Pt) (S:aa) (Q:QW) hv hv1 hvl hp0 hpl hpw e=>xW (defs:=defs) (fuel:=fuel) (d:=d) (S:=S) (Q:=Q) (m0:=.tup M) (N:=N) (b0:=b0) (q:=q) (a:=a) (n:=n) (kvs:=kvs) (v:=v) (p:=p) X.three X.fbar X.byway hN hn3 hv hv1 hvl hp0 hpl hpw e
 generalize W.tup [.tup M,.tup N,b0]=R at ww bw;have hF:∀x:Pt,((g5 kvs (u++[x]) n p).flatMap λh=>(g5 kvs (u++[x]) n r).map λh'=>(u++[x],h,h')).length<=9:=λx=>by
  have h1:=iH (F:=λh=>(g5 kvs (u++[x]) n r).map λh'=>(u++[x],h,h')) (m:=3) (λh=>by rw[Hh]; exact HZ nV hn3) (g5 kvs (u++[x]) n p)
  have h2:=nV (kvs:=kvs) (v:=u++[x]) (n:=n) (p:=p);omega
 unfold gF at k;generalize hwF:gN kvs u a n=ws at k wl ww;dsimp only[bK];refine st ?_;dsimp only[wS,wE,wA,Hw];refine aF λK hK=>?_
 refine c7 rfl rfl ?_;dsimp only[wE,wA,wV,wG];refine ae #v[] rfl (ww _ _ (ar e) λt S2 e2 ht k2=>?_)
 have hSt:S.length < t:=by
  have h1:(S++[O.lst []]).length=S.length+1:=by simp
  have h2:(S++[O.lst []]).length<=t:=ht;omega
 refine#[t,ws.map ap,λi ρ S'=>(∃a4 a5 a6 a7,ρ=[gV R,gV (.ref q),gV (.tup [am u,ap p,ap r]),gV (.ref S.length),a4,a5,a6,a7])/\S'[S.length]?=gV (.lst (((ws.take i).flatMap λx=>(g5 kvs (u++[x]) n p).flatMap λh=>(g5 kvs (u++[x]) n r).map λh'=>(u++[x],h,h')).map cW))/\S'[t]?=gV (.lst (ws.map ap))/\Ka S S',rfl,#[#[_,_,_,_,rfl],k2.get _ _ aj,e2,Ka.push.trans k2],λ_ _ _ h=>h.2.2.1,?_,?_]
 ·rintro i w ρ S3 hw ⟨⟨a4,a5,a6,a7,rfl⟩,e3,t3,k3⟩;clear hK;rw[Hq,Hl]at hw;obtain⟨x,hx,rfl⟩:=hw;have hxm:=HC hx;rw[<- hwF]at hxm;obtain⟨g1,g2,g3,_⟩:=kI.mp hxm;have gv:GoodW a n (u++[x]):=hC.gu.snoc (m:=x.1) (ws:=x.2) g1 g2 g3;have vl:(u++[x]).length=u.length+1:=by rw[Hk]; rfl
  have hil:i < ws.length:=(HD.mp hx).1;refine ab (show eL (.nm 4) (ap x) [gV R,gV (.ref q),gV (.tup [am u,ap p,ap r]),gV (.ref S.length),a4,a5,a6,a7] S3=gV ([gV R,gV (.ref q),gV (.tup [am u,ap p,ap r]),gV (.ref S.length),gV (ap x),a5,a6,a7],S3)from rfl) ?_
  intro Q3 hn _;refine st ?_;dsimp only[wS,wE,wA,wV,wG,Hw];refine ae #v[] rfl ?_
  dsimp only[am];have ev:u.map ap++[ap x]=(u++[x]).map ap:=by rw[HR]; rfl
  refine ab (bF (dR (by rw[ev,Hh]; omega))) ?_
  dsimp only;rw[ev];have hs:∀xs:Wd,W.tup (xs.map ap)=am xs:=λ_=>rfl
  rw[hs,hs];refine st ?_;dsimp only[wS,wE,wA,wV,wG,Hw];refine ae #v[] rfl (bw (u++[x]) r _ _ gv ∅ ∅ hC.gq.mark (by rw[hC.gq.len,vl]) hC.gq.way (k3.get _ _ e) λt6 S4 e6 ht6 k4=>?_)
  have t4:=k4.get _ _ t3;have e4:=k4.get _ _ e3;have hS3:=b6 t3;refine aF λK hK=>?_
  refine c7 rfl rfl ?_;dsimp only[wE,wA,wV,wG];refine ae #v[] rfl (bw (u++[x]) p _ _ gv ∅ ∅ hC.gp.mark (by rw[hC.gp.len,vl]) hC.gp.way ((k3.trans k4).get _ _ e) λt7 S5 e7 ht7 k5=>?_)
  have lp:=nV (kvs:=kvs) (v:=u++[x]) (n:=n) (p:=p);have lr:=nV (kvs:=kvs) (v:=u++[x]) (n:=n) (p:=r);have hF':=hF x;have eD:ws.take (i+1)=ws.take i++[x]:=by rw[Iy,hx]; rfl
  have fl:=iH (F:=λx=>(g5 kvs (u++[x]) n p).flatMap λh=>(g5 kvs (u++[x]) n r).map λh'=>(u++[x],h,h')) hF (ws.take i)
  rw[HX]at fl;have h46:=b6 e6;have h4:S.length < t6:=by have:S3.length<=t6:=ht6; omega
  have h7:S.length < t7:=by have:S4.length<=t7:=ht7; have:=k4.len; omega
  refine#[t7,(g5 kvs (u++[x]) n p).map ap,λj ρ S'=>(∃a7,ρ=[gV R,gV (.ref q),gV (.tup [am u,ap p,ap r]),gV (.ref S.length),gV (ap x),gV (am (u++[x])),gV (.ref t6),a7])/\S'[S.length]?=gV (.lst (((ws.take i).flatMap (λx=>(g5 kvs (u++[x]) n p).flatMap λh=>(g5 kvs (u++[x]) n r).map λh'=>(u++[x],h,h'))++((g5 kvs (u++[x]) n p).take j).flatMap λh=>(g5 kvs (u++[x]) n r).map λh'=>(u++[x],h,h')).map cW))/\S'[t7]?=gV (.lst ((g5 kvs (u++[x]) n p).map ap))/\S'[t6]?=gV (.lst ((g5 kvs (u++[x]) n r).map ap))/\S'[t]?=gV (.lst (ws.map ap))/\Ka S S',rfl,#[#[_,rfl],by rw[MS,Od,Jl]; exact k5.get _ _ e4,e7,k5.get _ _ e6,k5.get _ _ t4,(k3.trans k4).trans k5],λ_ _ _ h=>h.2.2.1,?_,?_]
  ·rintro j w ρ S6 hw ⟨⟨a7,rfl⟩,e8,f7,f6,ft,k8⟩;clear hK hn;rw[Hq,Hl]at hw;obtain⟨h,hh,rfl⟩:=hw;have hjl:j < (g5 kvs (u++[x]) n p).length:=(HD.mp hh).1;refine ab (show eL (.nm 7) (ap h) [gV R,gV (.ref q),gV (.tup [am u,ap p,ap r]),gV (.ref S.length),gV (ap x),gV (am (u++[x])),gV (.ref t6),a7] S6=gV ([gV R,gV (.ref q),gV (.tup [am u,ap p,ap r]),gV (.ref S.length),gV (ap x),gV (am (u++[x])),gV (.ref t6),gV (ap h)],S6)from rfl) ?_
   intro Q4 hn4 _;refine st ?_;dsimp only[wS,wE,wA,wV,wG];refine#[dF e8,?_];refine qC (g5 kvs (u++[x]) n r) ap (λ_=>true) (λh'=>cW (u++[x],h,h')) [gV (am (u++[x])),gV (ap h)] rfl rfl rfl rfl ∅ #[t6,rfl,f6,.refl] (λh' _ S7 k7=>?_) λS7 k7=>?_
   ·dsimp only[fW,wC,wE,wA,wV,wG];exact#[λ_=>#[rfl,rfl,.refl],λz=>by cases z]
   ·rw[c8];have kk:=k7.trans (Ka.push (o:=O.lst ((g5 kvs (u++[x]) n r).map λh'=>cW (u++[x],h,h'))))
    have gl:=iH (F:=λh=>(g5 kvs (u++[x]) n r).map λh'=>(u++[x],h,h')) (m:=3) (λh=>by rw[Hh]; omega) ((g5 kvs (u++[x]) n p).take j)
    rw[HX]at gl;refine EY (kk.get _ _ e8) aj ?_ (aM (hn4 _ _ #[#[_,rfl],?_,?_,?_,?_,(k8.trans kk).late (Hz _)]))
    ·rw[Hh,Hk,Hh];omega
    ·rw[bG (kk.get _ _ e8),Iy,hh];simp[JQ,HR,cW,LW]
    ·rw[bh ∅]; exact kk.get _ _ f7
    ·rw[bh ∅]; exact kk.get _ _ f6
    ·rw[bh ∅]; exact kk.get _ _ ft
  ·rintro ρ S6 ⟨⟨a7,rfl⟩,e8,f7,f6,ft,k8⟩;rw[Hh,IE]at e8;refine hK _ _ (aM (hn _ _ #[#[_,_,_,_,rfl],?_,ft,k8]));rw[eD,JQ,List.flatMap_singleton];exact e8
 ·rintro ρ S3 ⟨⟨a4,a5,a6,a7,rfl⟩,e3,t3,k3⟩;rw[Hh,IE]at e3;refine hK _ _ (st ?_);dsimp only[wS,wE,wV,wG];exact k _ _ e3 (Hz _) k3
end
noncomputable def bE:Ss:=
 #v[.set 4 (.sl (.own "all_bars" 5 #v[.v 0,.v 1,.ix (.v 2) (.c (.int 0)),.ix (.v 2) (.c (.int 1)),.ix (.v 2) (.c (.int 2))]) .no (.yes (.v 3))),.ite (.cmp .notin (.c .non) (.v 4)) #v[.ret (.v 2)] .nil,.set 5 (.me .index (.v 4) #v[.c .non]),.loop (.nm 6) (.seq (.own "longer_by_a_point" 3 #v[.v 0,.v 1,.v 2])) #v[.ite (.cmp .isnot (.ix (.own "all_bars" 5 #v[.v 0,.v 1,.ix (.v 6) (.c (.int 0)),.ix (.v 6) (.c (.int 1)),.ix (.v 6) (.c (.int 2))]) (.v 5)) (.c .non)) #v[.set 7 (.own "unfilled_behind" 4 #v[.v 0,.v 1,.v 6,.v 3]),.ite (.cmp .isnot (.v 7) (.c .non)) #v[.ret (.v 7)] .nil] .nil],.ret (.c .non)]
noncomputable def ci:Ss:=
 #v[.set 2 (.own "barred_threes" 1 #v[.v 0]),.loop (.nm 3) (.rng #v[.bi .len #v[.ix (.v 0) (.c (.int 0))]]) #v[.loop (.nm 4) (.rng2 #v[.v 3,.bi .len #v[.ix (.v 0) (.c (.int 0))]]) #v[.set 5 (.own "unfilled_behind" 4 #v[.v 0,.v 2,.tup #v[.tup .nil,.tup #v[.v 3,.tup .nil],.tup #v[.v 4,.tup .nil]],.v 1]),.ite (.cmp .isnot (.v 5) (.c .non)) #v[.ret (.v 5)] .nil]],.ret (.c .non)]
noncomputable def iI:Ss:=
 #v[.ret (.own "first_unfilled" 2 #v[.v 0,.op .add (.bi .len #v[.ix (.v 0) (.c (.int 1))]) (.c (.int 1))])]
theorem kM {kvs:Hg (T×W)}{bs:Hg Hv}{a k:Ho}{u:Wd}{p q:Pt}{i:Ho}(h1:GoodP a k u.length p)(h2:GoodP a k u.length q)(hi:i<=bs.length):∃w,(dA (λv p=>bH kvs v p u.length (u.length+1)) bs u p q)[i]?=gV w/\NI w/\E1 w = !aV kvs bs u p q i:=by
 by_cases hn:i < bs.length
 ·refine#[bX (λk=>bH kvs (cQ bs u p q i) k u.length (u.length+1)) u.length,?_,jo _ _,?_]
  ·unfold dA;rw[Ii (by rw[Hh,Ic]; exact hn),Hq,JP hn]; rfl
  ·unfold aV;rw[HV hn,mj,List.not_any_eq_all_not];rw[Kb,HP,HP];have key:∀k∈HG u.length,bH kvs (cQ bs u p q i) k u.length (u.length+1)=bd kvs (iF u p q (bs.getD i 0) k):=λk hk=>by
    unfold bH bd;rw[qN h1 h2 (HI.mp hk)]
   exact#[λh k hk=>by rw[<- key k hk]; exact h k hk,λh k hk=>by rw[key k hk]; exact h k hk]
 ·obtain rfl:i=bs.length:=∅
  refine#[iE p q,?_,qJ _ _,?_]
  ·unfold dA;rw[IA (by rw[Hh,Ic]; exact Hz _),Hh,Ic,KL]; rfl
  ·unfold aV;rw[Iv hn,NW];unfold iE nT
   by_cases e:p.1=q.1
   ·rw[HV e,mj,h1.len,e,IJ,KW];congr 1
    funext p
    rw[NW]
   ·rw[Iv e,show(p.1==q.1)=false by simpa using e]; rfl
theorem nW {w:W}(h:NI w):mO w .non=E1 w:=by
 rcases h with rfl|⟨i,rfl⟩ <;> rfl
theorem mw {Y:Hg W}{c:Ho}{f:Ho->HU}(hl:Y.length=c)(h:∀i < c,∃w,Y[i]?=gV w/\NI w/\E1 w = !f i):(∀w∈Y,NI w)/\(((Y.any λz=>mO z .non)=false/\∀i < c,f i=true)\/∃i < c,(Y.any λz=>mO z .non)=true/\(Y.findIdx? λz=>mO z .non)=gV i/\f i=false/\∀j < i,f j=true):=by
 have ni:∀w∈Y,NI w:=λw hw=>by
  obtain⟨i,hi,e⟩:=M6 hw;obtain⟨w',h1,h2,_⟩:=h i ∅
  rw[HE hi,e]at h1;cases h1; exact h2
 refine#[ni,?_];cases hf:Y.findIdx? λz=>mO z .non with
 | none=>
  rw[List.findIdx?_eq_none_iff]at hf;refine .inl #[NU.mpr λx hx=>by rw[hf x hx]; exact HK,λi hi=>?_]
  obtain⟨w,h1,h2,h3⟩:=h i hi;have:=hf w (HC h1);rw[nW h2,h3]at this
  simpa using this
 | some i=>
  obtain⟨hi,h1,h0⟩:=J5.mp hf;obtain⟨w,h2,h3,h4⟩:=h i ∅
  rw[HE hi]at h2;cases h2;rw[nW h3,h4]at h1;refine .inr #[i,∅,Og.mpr #[_,IQ hi,by rw[nW h3,h4]; exact h1],rfl,by simpa using h1,λj hj=>?_]
  obtain⟨w,w2,w3,w4⟩:=h j ∅
  have:=h0 j hj;rw[HE ∅]at w2
  cases w2;rw[nW w3,w4]at this
  simpa using this
theorem sJ {Y:Hg W}(h:∀w∈Y,NI w):Y.all bB=true:=HP.mpr λw hw=>by
 rcases h w hw with rfl|⟨i,rfl⟩ <;> rfl
theorem pM {S:aa}{Y:Hg W}(h:∀w∈Y,NI w):aL .notin .non (.tup Y) S=gV (.bl (!(Y.any λz=>mO z .non)),S):=by
 have hf:(bB .non&&Y.all bB)=true:=by rw[sJ h]; rfl
 simp only[aL,dJ,uF,y8,eO,hf,Km,Iq]
theorem xX {S:aa}{w:W}(h:NI w):aL .isnot w .non S=gV (.bl (!E1 w),S):=by
 rcases h with rfl|⟨i,rfl⟩ <;> rfl
theorem AB {S:aa}{Y:Hg W}{i:Ho}{Q:QW}(h:∀w∈Y,NI w)(hi:(Y.findIdx? λz=>mO z .non)=gV i)(q:Q (.int (i:Hv),S)):wO (Me.index.fn (.tup Y) [.non] S) Q:=by
 refine ab ?_ q;show ib (.tup Y) [.non] S=_;simp only[ib,sJ h,Km,hi,Iq]
noncomputable def di (kvs:Hg (T×W))(bs:Hg Hv)(a c:Ho):Ho->Wd×Pt×Pt->Hn (Wd×Pt×Pt)
 | 0,x=>match (HG c).find? λi=>!aV kvs bs x.1 x.2.1 x.2.2 i with
  | none=>gV x
  | some _=>td
 | m+1,x=>match (HG c).find? λi=>!aV kvs bs x.1 x.2.1 x.2.2 i with
  | none=>gV x
  | some i=>(gF kvs a bs.length x.1 x.2.1 x.2.2).findSome? λy=>if aV kvs bs y.1 y.2.1 y.2.2 i then di kvs bs a c m y else td
noncomputable def E6:Hn (Wd×Pt×Pt)->W
 | none=>.non
 | some x=>cW x
theorem pN {kvs:Hg (T×W)}{bs:Hg Hv}{a c m:Ho}{u:Wd}{p r:Pt}(h:∀i < c,aV kvs bs u p r i=true):di kvs bs a c m (u,p,r)=gV (u,p,r):=by
 have e:((HG c).find? λi=>!aV kvs bs u p r i)=td:=J2.mpr λi hi=>by rw[h i (HI.mp hi)]; exact HK
 cases m <;> (unfold di; dsimp only; rw[e])
theorem xY {kvs:Hg (T×W)}{bs:Hg Hv}{a c m i:Ho}{u:Wd}{p r:Pt}(hi:i < c)(h:aV kvs bs u p r i=false)(h0:∀j < i,aV kvs bs u p r j=true):di kvs bs a c (m+1) (u,p,r)=(gF kvs a bs.length u p r).findSome? λy=>if aV kvs bs y.1 y.2.1 y.2.2 i then di kvs bs a c m y else td:=by
 have e:((HG c).find? λi=>!aV kvs bs u p r i)=gV i:=gY (P:=λi=>!aV kvs bs u p r i) hi (by rw[h]; rfl) λj hj=>by rw[h0 j hj]; rfl
 rw[di];dsimp only;rw[e]
theorem AC {α β:Type}{L:Hg α}{G:α->Hn β}{j:Ho}{x:α}{z:β}(hx:L[j]?=gV x)(h0:∀y∈L.take j,G y=td)(h1:G x=gV z):L.findSome? G=gV z:=by
 obtain⟨hj,e⟩:=HD.mp hx;have:L=L.take j++x::L.drop (j+1):=by
  conv=>lhs; rw[<- Ky j L]
  rw[List.drop_eq_getElem_cons hj,e]
 rw[this,List.findSome?_append,LL.mpr h0,List.findSome?_cons,h1]; rfl
noncomputable def GR (a:Ho)(bs:Hg Hv)(kvs:Hg (T×W))(c:Ho)(u:Wd)(p q:Pt)(w:W):Prop:=(w=.non/\gd a bs kvs c u p q)\/∃x:Wd×Pt×Pt,w=cW x/\Cf a bs.length kvs x.1 x.2.1 x.2.2/\Full kvs bs c x.1 x.2.1 x.2.2/\x.1.length<=c
section
variable{defs:Hg (HJ×Df)}{fuel:Ho}
theorem qR (F:Fil defs)(X:Sea defs)(hg:Is defs ("unfilled_behind" : HJ) 4 8 bE){ms:Hg W}{b0:W}{ns:Hg HJ}{bs:Hg Hv}{a q c:Ho}{kvs:Hg (T×W)}(hb:GoodB bs)(hnl:ns.length=bs.length)(hml:ms.length=a)(ha3:a<=3)(cl:Cl bs kvs)(hc1:c<=bs.length+1) :
  ∀(m d:Ho) (S:aa) (Q:QW) (u:Wd) (p r:Pt),Cf a bs.length kvs u p r->sI kvs bs c u p r<=m->u.length+m<=c->S[q]?=gV (.dic kvs)->(∀w S',GR a bs kvs c u p r w->w=E6 (di kvs bs a c m (u,p,r))->Ka S S'->Q (w,S'))->
  wO (aC (ak defs fuel (d+m+5)) "unfilled_behind" 4 [.tup [.tup ms,.tup (Hy aB ns bs),b0],.ref q,.tup [am u,ap p,ap r],.int (c:Hv)] S) Q:=by
 have hb3:bs.length<=3:=by rcases hb with rfl|rfl|rfl|rfl|rfl|rfl <;> decide
 have zl:(Hy aB ns bs).length=bs.length:=by rw[Jf,hnl]; omega
 intro m
 induction m with
 | zero=>?_
 | succ m ih=>?_
 all_goals
  intro d S Q u p r hC hleft hlen e k;refine al hg rfl rfl λQ' hR=>?_
  replace k:=λw S' x z y=>hR _ _ (k w S' x z y)
  clear hR;show wZ _ _ bE [gV (.tup [.tup ms,.tup (Hy aB ns bs),b0]),gV (.ref q),gV (.tup [am u,ap p,ap r]),gV (.int (c:Hv)),td,td,td,td] S Q';dsimp only[bE];refine aF λK hK=>?_
  dsimp only[wS,wE,wA,wP,wV,wG,Hw];refine ae #v[] rfl (ae #v[] rfl (ae #v[] rfl ?_))
  have bl:(dA (λv p=>bH kvs v p u.length (u.length+1)) bs u p r).length=bs.length+1:=mf
  have lk:=mw (c:=c) (Y:=(dA (λv p=>bH kvs v p u.length (u.length+1)) bs u p r).take c) (f:=aV kvs bs u p r) (by rw[HX]; omega) (λi hi=>by rw[Nw,HV hi]; exact kM hC.gp hC.gq ∅)
  refine gZ F hb hnl hC.gu hC.gp hC.gq ∅ e λS1 k1=>?_
  dsimp only[wN];refine ab (show jg (.tup (dA (λv p=>bH kvs v p u.length (u.length+1)) bs u p r)) td (gV (c:Hv)) S1=gV (.tup ((dA (λv p=>bH kvs v p u.length (u.length+1)) bs u p r).take c),S1) by simp only[jg,eh]) ?_
  refine hK _ _ ?_;clear hK K;generalize(dA (λv p=>bH kvs v p u.length (u.length+1)) bs u p r).take c=Y at lk
  clear bl;obtain⟨ni,lk⟩:=lk;refine aF λK hK=>?_
  dsimp only[wS,wT,wE,wV,wG];refine ab (pM ni) ?_;dsimp only[wB]
 ·rcases lk with⟨h1,h2⟩|⟨i,hi,_,_,h4,_⟩
  ·rw[h1];refine ah (Q0:=Q') (λ_ Q2 _ hr=>?_) (λz=>by cases z)
   refine st ?_;dsimp only[wS,wE,wV,wG];exact hr _ _ (k _ _ (.inr #[(u,p,r),rfl,hC,h2,by show u.length<=c; omega]) (by rw[pN h2]; rfl) k1)
  ·have:0 < sI kvs bs c u p r:=Mq (JB.mpr #[HI.mpr hi,by rw[h4]; rfl])
   omega
 ·rcases lk with⟨h1,h2⟩|⟨i,hi,h1,h3,h4,h5⟩
  ·rw[h1];refine ah (Q0:=Q') (λ_ Q2 _ hr=>?_) (λz=>by cases z)
   refine st ?_;dsimp only[wS,wE,wV,wG];exact hr _ _ (k _ _ (.inr #[(u,p,r),rfl,hC,h2,by show u.length<=c; omega]) (by rw[pN h2]; rfl) k1)
  ·rw[h1];refine ah (Q0:=Q') (λz=>by cases z) (λ_ Q2 hn _=>aM (hn _ _ (hK _ _ ?_)))
   clear hn hK K;refine aF λK hK=>?_
   dsimp only[wS,wE,wA,wV,wG,Hw];refine#[rfl,AB ni h3 (hK _ _ ?_)];clear hK K;refine aF λK hK=>?_
   refine c7 rfl rfl ?_;dsimp only[wE,wA,wV,wG];refine qQ (d:=d+m+1) X hml zl ha3 hb3 hC ∅ (k1.get _ _ e) λl S2 e2 hl2 k2=>?_
   have ho:=λ(x:Wd×Pt×Pt) (hx:x∈gF kvs a bs.length u p r)=>Az (bs:=bs) hC hx
   have hns:(∀x∈gF kvs a bs.length u p r,aV kvs bs x.1 x.2.1 x.2.2 i=true->gd a bs kvs c x.1 x.2.1 x.2.2)->gd a bs kvs c u p r:=C8 hb cl hi h4;rw[xY hi h4 h5]at k;generalize gF kvs a bs.length u p r=L at e2 ho hns k;refine#[l,L.map cW,λj ρ S'=>(∃a6 a7,ρ=[gV (.tup [.tup ms,.tup (Hy aB ns bs),b0]),gV (.ref q),gV (.tup [am u,ap p,ap r]),gV (.int (c:Hv)),gV (.tup Y),gV (.int (i:Hv)),a6,a7])/\(∀x∈L.take j,aV kvs bs x.1 x.2.1 x.2.2 i=true->gd a bs kvs c x.1 x.2.1 x.2.2/\di kvs bs a c m x=td)/\S'[l]?=gV (.lst (L.map cW))/\Ka S S',rfl,#[#[_,_,rfl],(λx hx=>by cases hx),e2,k1.trans k2],λ_ _ _ h=>h.2.2.1,?_,?_]
   ·rintro j w ρ S3 hw ⟨⟨a6,a7,rfl⟩,hno,e3,k3⟩;clear hK;rw[Hq,Hl]at hw;obtain⟨x,hx,rfl⟩:=hw;obtain⟨xC,xl,xh⟩:=ho x (HC hx);have more:(aV kvs bs x.1 x.2.1 x.2.2 i=true->gd a bs kvs c x.1 x.2.1 x.2.2/\di kvs bs a c m x=td)->∀y∈L.take (j+1),aV kvs bs y.1 y.2.1 y.2.2 i=true->gd a bs kvs c y.1 y.2.1 y.2.2/\di kvs bs a c m y=td:=λh y hy=>by
     rw[Iy,hx]at hy;rcases HY.mp hy with z|z
     ·exact hno y z
     ·obtain rfl:y=x:=by simpa using z
      exact h
    refine ab (show eL (.nm 6) (cW x) [gV (.tup [.tup ms,.tup (Hy aB ns bs),b0]),gV (.ref q),gV (.tup [am u,ap p,ap r]),gV (.int (c:Hv)),gV (.tup Y),gV (.int (i:Hv)),a6,a7] S3=gV ([gV (.tup [.tup ms,.tup (Hy aB ns bs),b0]),gV (.ref q),gV (.tup [am u,ap p,ap r]),gV (.int (c:Hv)),gV (.tup Y),gV (.int (i:Hv)),gV (.tup [am x.1,ap x.2.1,ap x.2.2]),a7],S3)from rfl) ?_
    intro Q3 hn3 hr3;refine aF λK hK=>?_
    dsimp only[wS,wT,wE,wA,wV,wG];refine ae #v[] rfl (ae #v[] rfl (ae #v[] rfl ?_))
    refine gZ (d:=d+m+2) F hb hnl xC.gu xC.gp xC.gq ∅ (k3.get _ _ e) λS4 k4=>?_
    obtain⟨w,w1,w2,w3⟩:=kM (bs:=bs) (i:=i) (kvs:=kvs) xC.gp xC.gq ∅
    refine ae (Hu i) (by rw[HF]; exact w1) (ab (xX w2) ?_)
    dsimp only[wB];rw[w3,NW];refine ah (Q0:=Q3) (λhh Q5 hn5 hr5=>?_) (λhh Q5 hn5 _=>aM (hn5 _ _ (hK _ _ (aM (hn3 _ _ #[#[_,_,rfl],more (λz=>by rw[z]at hh; cases hh),k4.get _ _ e3,k3.trans k4])))))
    refine st ?_;dsimp only[wS,wE,wA,wV,wG,Hw];refine ih d _ _ x.1 x.2.1 x.2.2 xC ?_ ∅ ((k3.trans k4).get _ _ e) λw S5 hw hwe k5=>?_
    ·have:=Ay (c:=c) hi xh h4 hh;unfold sI at hleft ⊢;omega
    refine aF λK2 hK2=>?_
    dsimp only[wS,wT,wE,wV,wG];have hun:∀z,di kvs bs a c m x=gV z->w=cW z:=λz hz=>by rw[hwe,hz]; rfl
    rcases hw with⟨rfl,hw⟩|⟨y,rfl,y1⟩
    ·refine ab (show aL .isnot .non .non S5=gV (.bl false,S5)from rfl) ?_
     dsimp only[wB];exact ah (Q0:=Q5) (λz=>by cases z) (λ_ Q6 hn6 _=>aM (hn6 _ _ (hK2 _ _ (aM (hn5 _ _ (hK _ _ (aM (hn3 _ _ #[#[_,_,rfl],more λ_=>#[hw,by cases hz:di kvs bs a c m x with|none=>rfl|some z=>exact nomatch hun z hz],(k4.trans k5).get _ _ e3,(k3.trans k4).trans k5]))))))))
    ·refine ab (show aL .isnot (cW y) .non S5=gV (.bl true,S5)from rfl) ?_
     dsimp only[wB];refine ah (Q0:=Q5) (λ_ Q6 _ hr6=>?_) (λz=>by cases z)
     refine st ?_;dsimp only[wS,wE,wV,wG];exact hr6 _ _ (hr5 _ _ (hr3 _ _ (k _ _ (.inr #[y,rfl,y1]) (by
      rw[hwe];cases hz:di kvs bs a c m x with
      | none=>rw[hz]at hwe; cases hwe
      | some z=>rw[AC hx (λy' hy'=>by cases hq:aV kvs bs y'.1 y'.2.1 y'.2.2 i with|true=>rw[HV rfl]; exact(hno y' hy' hq).2|false=>rfl) (by rw[hh,HV rfl]; exact hz)]) ((k3.trans k4).trans k5))))
   ·rintro ρ S3 ⟨⟨a6,a7,rfl⟩,hno,e3,k3⟩;rw[Hh,IE]at hno;refine hK _ _ (st ?_);dsimp only[wS,wE];exact k _ _ (.inl #[rfl,hns λx hx hq=>(hno x hx hq).1]) (by rw[LL.mpr λy' hy'=>by cases hq:aV kvs bs y'.1 y'.2.1 y'.2.2 i with|true=>rw[HV rfl]; exact(hno y' hy' hq).2|false=>rfl]; rfl) k3
end
noncomputable def xZ (a:Ho)(bs:Hg Hv)(kvs:Hg (T×W))(c:Ho)(w:W):Prop:=(w=.non/\¬ GB a bs kvs c)\/∃x:Wd×Pt×Pt,w=cW x/\Cf a bs.length kvs x.1 x.2.1 x.2.2/\Full kvs bs c x.1 x.2.1 x.2.2/\x.1.length<=c
noncomputable def C9 (a:Ho)(bs:Hg Hv)(kvs:Hg (T×W))(c:Ho)(w:W):Prop:=(w=.non/\∀i j:Ho,i<=j->j < a->di kvs bs a c c ([],((i:Hv),[]),((j:Hv),[]))=td)\/∃i j:Ho,i<=j/\j < a/\(∃y,w=cW y/\di kvs bs a c c ([],((i:Hv),[]),((j:Hv),[]))=gV y)/\∀i' j':Ho,i'<=j'->j' < a->(i' < i\/(i'=i/\j' < j))->di kvs bs a c c ([],((i':Hv),[]),((j':Hv),[]))=td
theorem uB {kvs kvs':Hg (T×W)}{a n:Ho}{u:Wd}{p q:Pt}(hn:0 < n)(h:∀t,(aK kvs t).isSome=(aK kvs' t).isSome):gF kvs a n u p q=gF kvs' a n u p q:=by
 unfold gF g5 gE bH;rw[qE hn h];simp only[h]
theorem gz {kvs kvs':Hg (T×W)}{bs:Hg Hv}{u:Wd}{p q:Pt}{i:Ho}(h:∀t,(aK kvs t).isSome=(aK kvs' t).isSome):aV kvs bs u p q i=aV kvs' bs u p q i:=by
 unfold aV bd;simp only[h]
theorem my {kvs kvs':Hg (T×W)}{a c:Ho}{bs:Hg Hv}(hn:0 < bs.length)(h:∀t,(aK kvs t).isSome=(aK kvs' t).isSome):∀(m:Ho) (x:Wd×Pt×Pt),di kvs bs a c m x=di kvs' bs a c m x
 | 0,x=>by
  have e:(λi=>!aV kvs bs x.1 x.2.1 x.2.2 i)=λi=>!aV kvs' bs x.1 x.2.1 x.2.2 i:=funext λi=>by rw[gz h]
  rw[di,di,e]
 | m+1,x=>by
  have e:(λi=>!aV kvs bs x.1 x.2.1 x.2.2 i)=λi=>!aV kvs' bs x.1 x.2.1 x.2.2 i:=funext λi=>by rw[gz h]
  rw[di,di,e];cases(HG c).find? λi=>!aV kvs' bs x.1 x.2.1 x.2.2 i with
  | none=>rfl
  | some i=>
   dsimp only;rw[uB hn h];congr 1
   funext y
   rw[gz h,my hn h m y]
theorem ya {kvs kvs':Hg (T×W)}{a c:Ho}{bs:Hg Hv}{w w':W}(hn:0 < bs.length)(h:∀t,(aK kvs t).isSome=(aK kvs' t).isSome)(h1:C9 a bs kvs c w)(h2:C9 a bs kvs' c w'):w=w':=by
 have e:=my (a:=a) (c:=c) hn h c;rcases h1 with⟨rfl,h1⟩|⟨i,j,ij,ja,⟨y,rfl,hy⟩,h1⟩
 ·rcases h2 with⟨rfl,_⟩|⟨i,j,ij,ja,⟨y,rfl,hy⟩,_⟩
  ·rfl
  ·rw[<- e,h1 i j ij ja]at hy; cases hy
 ·rcases h2 with⟨rfl,h2⟩|⟨i',j',ij',ja',⟨y',rfl,hy'⟩,h2⟩
  ·rw[e,h2 i j ij ja]at hy; cases hy
  ·by_cases lt:i < i'\/(i=i'/\j < j')
   ·rw[e,h2 i j ij ja lt]at hy; cases hy
   ·by_cases gt:i' < i\/(i'=i/\j' < j)
    ·rw[<- e,h1 i' j' ij' ja' gt]at hy'; cases hy'
    ·obtain rfl:i=i':=∅
     obtain rfl:j=j':=∅
     rw[e,hy']at hy;rw[IS hy]
theorem sK {u v:Wd}(h:am u=am v):u=v:=by
 have:=congrArg W.t h;rw[wW,wW]at this;exact nN (IS this)
theorem sL {p q:Pt}(h:ap p=ap q):p=q:=by
 have:am [p]=am [q]:=by
  show W.tup [ap p]=W.tup [ap q];rw[h]
 exact Qd (sK this) |>.1
theorem Da {x y:Wd×Pt×Pt}(h:cW x=cW y):x=y:=by
 obtain⟨u,p,q⟩:=x;obtain⟨u',p',q'⟩:=y;unfold cW at h;simp only[W.tup.injEq,P7,and_true]at h;obtain⟨h1,h2,h3⟩:=h;rw[sK h1,sL h2,sL h3]
theorem Db {a n i j:Ho}{kvs:Hg (T×W)}(hi:i < a)(hj:j < a):Cf a n kvs [] ((i:Hv),[]) ((j:Hv),[]):=
 #[.nil,λk hk=>(by cases hk),#[#[Hu _,by show(i:Hv) < a; omega],rfl,λw hw=>nomatch hw],rfl,#[#[Hu _,by show(j:Hv) < a; omega],rfl,λw hw=>nomatch hw],rfl]
section
variable{defs:Hg (HJ×Df)}{fuel d:Ho}{S:aa}{Q:QW}
structure Unl (defs:Hg (HJ×Df)):Prop where
 fil:Fil defs
 sea:Sea defs
 behind:Is defs ("unfilled_behind" : HJ) 4 8 bE
 first:Is defs ("first_unfilled" : HJ) 2 6 ci
 unlaid:Is defs ("unlaid" : HJ) 1 1 iI
theorem je (hfu:20 < fuel)(L:Unl defs){ms:Hg W}{ns:Hg HJ}{bs:Hg Hv}{a c:Ho}{gs:Hg Wd}(hb:GoodB bs)(hnl:ns.length=bs.length)(hml:ms.length=a)(ha3:a<=3)(hgs:∀g∈gs,GoodW a bs.length g/\g.length=3)(h64:gs.length<=100)(hc:bs.length<=c)(hc1:c<=bs.length+1)
  (k:∀w kvs S',HasD kvs (br bs gs)->xZ a bs kvs c w->C9 a bs kvs c w->Ka S S'->Q (w,S')) :
  wO (aC (ak defs fuel (d+c+6)) "first_unfilled" 2 [.tup [.tup ms,.tup (Hy aB ns bs),.tup (gs.map am)],.int (c:Hv)] S) Q:=by
 refine al L.first rfl rfl λQ' hR=>?_
 replace k:∀w kvs S',HasD kvs (br bs gs)->xZ a bs kvs c w->C9 a bs kvs c w->Ka S S'->Q' (.rt w,S'):=λw x S' h1 h2 h3 h4=>hR _ _ (k w x S' h1 h2 h3 h4)
 clear hR;show wZ _ _ ci [gV (.tup [.tup ms,.tup (Hy aB ns bs),.tup (gs.map am)]),gV (.int (c:Hv)),td,td,td,td] S Q';dsimp only[ci];refine aF λK hK=>?_
 dsimp only[wS,wE,wA,wV,wG,Hw];refine kC (d:=d+c+1) hfu L.fil.parts L.fil.part L.fil.longer L.fil.barred hb hnl hgs h64 λq kvs S1 e1 h1 _ k1=>hK _ _ ?_
 clear hK K;have cl:=E4 hb hgs h1;have hk:∀w S',xZ a bs kvs c w->C9 a bs kvs c w->Ka S S'->Q' (.rt w,S'):=λw S'=>k w kvs S' h1
 have un:∀(i j:Ho) (S:aa) (Q:QW),i < a->j < a->S[q]?=gV (.dic kvs)->(∀w S',GR a bs kvs c [] ((i:Hv),[]) ((j:Hv),[]) w->w=E6 (di kvs bs a c c ([],((i:Hv),[]),((j:Hv),[])))->Ka S S'->Q (w,S'))->wO (aC (ak defs fuel (d+c+5)) "unfilled_behind" 4 [.tup [.tup ms,.tup (Hy aB ns bs),.tup (gs.map am)],.ref q,.tup [.tup [],.tup [.int i,.tup []],.tup [.int j,.tup []]],.int (c:Hv)] S) Q:=λi j S Q hi hj e h=>qR L.fil L.sea L.behind hb hnl hml ha3 cl hc1 c d S Q [] ((i:Hv),[]) ((j:Hv),[]) (Db hi hj) (by
  unfold sI;exact HZ (Jq _ _) (by rw[Ic]; exact Hz _)) (by simp) e h
 have la:∀(S:aa) (Q:QW),Q (.int (a:Hv),S)->wO (ju (.tup [.tup ms,.tup (Hy aB ns bs),.tup (gs.map am)]) (.int 0) S) λp=>wO (Bi.len.fn [p.1] p.2) Q:=λS Q q=>by
  refine ae #v[] rfl (ay ?_)
  rw[hml]; exact q
 clear k;generalize W.tup [.tup ms,.tup (Hy aB ns bs),.tup (gs.map am)]=R at un la;refine aF λK hK=>?_
 refine bC (a:Hv) (λi ρ S'=>(∃a3 a4 a5,ρ=[gV R,gV (.int (c:Hv)),gV (.ref q),a3,a4,a5])/\(∀i' j',i' < i->i'<=j'->j' < a->gd a bs kvs c [] ((i':Hv),[]) ((j':Hv),[])/\di kvs bs a c c ([],((i':Hv),[]),((j':Hv),[]))=td)/\S'[q]?=gV (.dic kvs)/\Ka S S') rfl rfl ∅ ?_ ?_ ?_
 ·dsimp only[wE,wA,wV,wG];exact la _ _ #[rfl,#[_,_,_,rfl],(λi' j' h=>∅),e1,k1]
 ·rintro i ρ S2 hi ⟨⟨a3,a4,a5,rfl⟩,hno,e2,k2⟩ Q2 hn2 hr2;clear hK;have hia:i < a:=∅
  dsimp only[Hw];refine aF λK hK=>?_
  refine cx (i:Hv) (a:Hv) (λm ρ S'=>(∃a4 a5,ρ=[gV R,gV (.int (c:Hv)),gV (.ref q),gV (.int i),a4,a5])/\(∀j',i<=j'->j' < i+m->gd a bs kvs c [] ((i:Hv),[]) ((j':Hv),[])/\di kvs bs a c c ([],((i:Hv),[]),((j':Hv),[]))=td)/\S'[q]?=gV (.dic kvs)/\Ka S S') rfl rfl rfl ∅ ?_ ?_ ?_
  ·dsimp only[wE,wA,wV,wG];exact#[rfl,la _ _ #[rfl,#[_,_,rfl],(λj' h1 h2=>∅),e2,k2]]
  ·rintro m ρ S3 hm ⟨⟨a4,a5,rfl⟩,hno3,e3,k3⟩ Q3 hn3 hr3;clear hK;rw[show(i:Hv)+m=((i+m:Ho):Hv) by omega]
   have hja:i+m < a:=∅
   generalize hj:i+m=j at hja;dsimp only[Hw];refine st ?_;dsimp only[wS,wE,wA,wV,wG,Hw];refine un i j _ _ hia hja e3 λw S4 hw hwe k4=>?_
   refine aF λK hK=>?_
   dsimp only[wS,wT,wE,wV,wG];rcases hw with⟨rfl,hw⟩|⟨y,rfl,y1⟩
   ·refine ab (show aL .isnot .non .non S4=gV (.bl false,S4)from rfl) ?_
    dsimp only[wB];refine ah (Q0:=Q3) (λz=>by cases z) (λ_ Q6 hn6 _=>aM (hn6 _ _ (hK _ _ (aM (hn3 _ _ #[#[_,_,rfl],λj' h1 h2=>?_,k4.get _ _ e3,k3.trans k4])))))
    by_cases ej:j'=j
    ·rw[ej];refine#[hw,?_];cases hz:di kvs bs a c c ([],((i:Hv),[]),((j:Hv),[]))with
     | none=>rfl
     | some z=>rw[hz]at hwe; cases hwe
    ·exact hno3 j' h1 ∅
   ·refine ab (show aL .isnot (cW y) .non S4=gV (.bl true,S4)from rfl) ?_
    dsimp only[wB];refine ah (Q0:=Q3) (λ_ Q6 _ hr6=>?_) (λz=>by cases z)
    refine st ?_;dsimp only[wS,wE,wV,wG];exact hr6 _ _ (hr3 _ _ (hr2 _ _ (hk _ _ (.inr #[y,rfl,y1]) (.inr #[i,j,∅,hja,#[y,rfl,by
     cases hz:di kvs bs a c c ([],((i:Hv),[]),((j:Hv),[]))with
     | none=>rw[hz]at hwe; cases hwe
     | some z=>rw[hz]at hwe; rw[Da hwe]],λi' j' h1 h2 h3=>by
     rcases h3 with h3|⟨rfl,h3⟩
     ·exact(hno i' j' h3 h1 h2).2
     ·exact(hno3 j' h1 ∅).2]) (k3.trans k4))))
  ·rintro ρ S3 ⟨⟨a4,a5,rfl⟩,hno3,e3,k3⟩;refine hK _ _ (aM (hn2 _ _ #[#[_,_,_,rfl],λi' j' h1 h2 h3=>?_,e3,k3]))
   by_cases ei:i'=i
   ·subst ei;exact hno3 j' h2 ∅
   ·exact hno i' j' ∅ h2 h3
 ·rintro ρ S2 ⟨⟨a3,a4,a5,rfl⟩,hno,e2,k2⟩;refine hK _ _ (st ?_);dsimp only[wS,wE];refine hk _ _ (.inl #[rfl,E5 hb cl hc λi j h1 h2 h3=>(hno i j ∅ h2 h3).1]) (.inl #[rfl,λi j h1 h2=>(hno i j ∅ h1 h2).2]) k2
theorem yb (hfu:20 < fuel)(L:Unl defs){ms:Hg W}{ns:Hg HJ}{bs:Hg Hv}{a:Ho}{gs:Hg Wd}(hb:GoodB bs)(hnl:ns.length=bs.length)(hml:ms.length=a)(ha3:a<=3)(hgs:∀g∈gs,GoodW a bs.length g/\g.length=3)(h64:gs.length<=100)
  (k:∀w kvs S',HasD kvs (br bs gs)->xZ a bs kvs (bs.length+1) w->C9 a bs kvs (bs.length+1) w->Ka S S'->Q (w,S')) :
  wO (aC (ak defs fuel (d+11)) "unlaid" 1 [.tup [.tup ms,.tup (Hy aB ns bs),.tup (gs.map am)]] S) Q:=by
 refine al L.unlaid rfl rfl λQ' hR=>?_
 show wZ _ _ iI [gV (.tup [.tup ms,.tup (Hy aB ns bs),.tup (gs.map am)])] S Q';have hb3:bs.length<=3:=by rcases hb with rfl|rfl|rfl|rfl|rfl|rfl <;> decide
 dsimp only[iI];refine st ?_;dsimp only[wS,wE,wA,wV,wG];refine ae #v[] rfl (ay ?_)
 rw[Jf,hnl,JU];refine ab cp ?_;dsimp only;rw[show(bs.length:Hv)+1=((bs.length+1:Ho):Hv) by omega,show d+10=(d+3 - bs.length)+(bs.length+1)+6 by omega]
 exact je hfu L hb hnl hml ha3 hgs h64 ∅ ∅ λw kvs S' h1 h2 h3 h4=>hR _ _ (k w kvs S' h1 h2 h3 h4)
end
noncomputable def fD:Ss:=
 #v[.ret (.and (.isi "int" (.v 0)) (.not (.isi "bool" (.v 0))))]
noncomputable def bU:Ss:=
 #v[.ret (.and (.isi "tuple" (.v 0)) (.cmp .eq (.bi .len #v[.v 0]) (.v 1)))]
noncomputable def dS:Ss:=
 #v[.ret (.and (.own "is_tuple_of" 2 #v[.v 0,.v 1]) (.bi .all #v[.comp (.own "is_whole" 1 #v[.v 1]) (.nm 1) (.seq (.v 0)) .nil [td,td]]))]
noncomputable def fE:Ss:=
 #v[.ret (.and (.isi "tuple" (.v 1)) (.bi .all #v[.comp (.own "is_point" 3 #v[.v 3,.v 2,.v 1]) (.tp [1,2]) (.enu #v[.v 1]) .nil [td,td,td,gV 0]]))]
noncomputable def fF:Ss:=
 #v[.ite (.not (.own "has_point_form" 2 #v[.v 1,.v 2])) #v[.ret (.c (.bl false))] .nil,.set 3 (.chn .le .lt (.c (.int 0)) (.ix (.v 1) (.c (.int 0))) (.bi .len #v[.ix (.v 0) (.c (.int 0))])),.ret (.and (.v 3) (.bi .all #v[.comp (.chn .le .lt (.c (.int 0)) (.v 1) (.bi .len #v[.ix (.v 2) (.c (.int 1))])) (.nm 1) (.seq (.ix (.v 1) (.c (.int 1)))) .nil [td,td,gV 0]]))]
noncomputable def cj:Ss:=
 #v[.ret (.and (.own "is_tuple_of" 2 #v[.v 0,.c (.int 2)]) (.and (.own "is_whole" 1 #v[.ix (.v 0) (.c (.int 0))]) (.own "is_numbers" 2 #v[.ix (.v 0) (.c (.int 1)),.v 1])))]
noncomputable def aR:Ss:=
 #v[.ite (.or (.not (.own "is_tuple_of" 2 #v[.v 1,.c (.int 3)])) (.not (.own "is_world" 2 #v[.v 0,.ix (.v 1) (.c (.int 0))]))) #v[.ret (.c (.bl false))] .nil,.ite (.not (.bi .all #v[.comp (.own "is_point" 3 #v[.v 2,.v 1,.bi .len #v[.ix (.v 3) (.c (.int 0))]]) (.nm 1) (.seq (.sl (.v 1) (.yes (.c (.int 1))) .no)) .nil [td,td,gV 0,gV 1]])) #v[.ret (.c (.bl false))] .nil,.ret (.bi .all #v[.comp (.cmp .is (.own "first_barred" 2 #v[.v 2,.op .add (.ix (.v 3) (.c (.int 0))) (.tup #v[.v 1])]) (.c .non)) (.nm 1) (.seq (.sl (.v 1) (.yes (.c (.int 1))) .no)) .nil [td,td,gV 0,gV 1]])]
theorem iJ {α:Type}(L:Hg α):(L.map λ_=>W.bl true)=Ih L.length (.bl true):=List.map_const' ..
theorem kN {S:aa}{l n:Ho}{Q:QW}(h:S[l]?=gV (.lst (Ih n (.bl true))))(q:Q (.bl true,S)):wO (Bi.all.fn [.ref l] S) Q:=by
 refine ab ?_ q;simp only[Bi.fn,B6,aJ h,l4,Iq,At]
theorem mz {S:aa}{x y:Hv}(h0:0<=x)(h1:x < y):uF .le (.int 0) (.int x) S=gV true/\dJ .lt (.int x) (.int y) S=gV (.bl true,S):=by
 refine#[?_,?_]
 ·show gV (decide (0<=x))=_;rw[IW h0]
 ·show gV (W.bl (decide (x < y)),S)=_;rw[IW h1]
section
variable{defs:Hg (HJ×Df)}{fuel d:Ho}{S:aa}{Q:QW}
structure Knd (defs:Hg (HJ×Df)):Prop where
 whole:Is defs ("is_whole" : HJ) 1 1 fD
 tup:Is defs ("is_tuple_of" : HJ) 2 2 bU
 nums:Is defs ("is_numbers" : HJ) 2 2 dS
 world:Is defs ("is_world" : HJ) 2 2 fE
 point:Is defs ("is_point" : HJ) 3 4 fF
 form:Is defs ("has_point_form" : HJ) 2 2 cj
theorem kO (X:Knd defs){i:Hv}(k:Q (.bl true,S)):wO (aC (ak defs fuel (d+1)) "is_whole" 1 [.int i] S) Q:=by
 refine al X.whole rfl rfl λQ' hR=>?_
 show wZ _ _ fD [gV (.int i)] S Q';dsimp only[fD];refine st ?_;dsimp only[wS,wE,wV,wG];refine ab (show ny S (.int i) "int" = gV true from rfl) #[λ_=>?_,λz=>by cases z]
 exact ab (show ny S (.int i) "bool" = gV false from rfl) (hR _ _ k)
theorem g6 (X:Knd defs){xs:Hg W}{n:Ho}(h:xs.length=n)(k:Q (.bl true,S)):wO (aC (ak defs fuel (d+1)) "is_tuple_of" 2 [.tup xs,.int (n:Hv)] S) Q:=by
 refine al X.tup rfl rfl λQ' hR=>?_
 show wZ _ _ bU [gV (.tup xs),gV (.int (n:Hv))] S Q';dsimp only[bU];refine st ?_;dsimp only[wS,wE,wA,wV,wG];refine ab (show ny S (.tup xs) "tuple" = gV true from rfl) #[λ_=>?_,λz=>by cases z]
 refine ay (ab kg ?_);rw[h,IJ];exact hR _ _ k
theorem qS (X:Knd defs){n:Ho}(k:Q (.bl false,S)):wO (aC (ak defs fuel (d+1)) "is_tuple_of" 2 [.non,.int (n:Hv)] S) Q:=by
 refine al X.tup rfl rfl λQ' hR=>?_
 show wZ _ _ bU [gV .non,gV (.int (n:Hv))] S Q';dsimp only[bU];refine st ?_;dsimp only[wS,wE,wA,wV,wG];exact ab (show ny S .non "tuple" = gV false from rfl) #[λz=>(by cases z),λ_=>hR _ _ k]
theorem nX (X:Knd defs){xs:Hg Hv}{n:Ho}(h:xs.length=n)(hn:n<=1000)(k:∀S',Ka S S'->Q (.bl true,S')):wO (aC (ak defs fuel (d+2)) "is_numbers" 2 [.tup (ac xs),.int (n:Hv)] S) Q:=by
 refine al X.nums rfl rfl λQ' hR=>?_
 show wZ _ _ dS [gV (.tup (ac xs)),gV (.int (n:Hv))] S Q';dsimp only[dS];refine st ?_;dsimp only[wS,wE,wA,wV,wG];refine g6 (d:=d) X (by unfold ac; rw[Hh]; exact h) #[λ_=>?_,λz=>by cases z]
 refine kF xs W.int (λ_=>true) (λ_=>.bl true) [] rfl rfl rfl rfl ∅ #[rfl,.refl] (λx _ S2 k2=>?_) λS2 k2=>?_
 ·dsimp only[fW,wC,wE,wA,wV,wG];exact#[λ_=>kO (d:=d) X #[rfl,rfl,.refl],λz=>by cases z]
 ·rw[c8,iJ];exact kN aj (hR _ _ (k _ (k2.trans .push)))
theorem qT (X:Knd defs){p:Pt}{n:Ho}(h:p.2.length=n)(hn:n<=1000)(k:∀S',Ka S S'->Q (.bl true,S')):wO (aC (ak defs fuel (d+3)) "has_point_form" 2 [ap p,.int (n:Hv)] S) Q:=by
 refine al X.form rfl rfl λQ' hR=>?_
 show wZ _ _ cj [gV (.tup [.int p.1,.tup (ac p.2)]),gV (.int (n:Hv))] S Q';dsimp only[cj];refine st ?_;dsimp only[wS,wE,wA,wV,wG];refine g6 (d:=d+1) (n:=2) X rfl #[λ_=>?_,λz=>by cases z]
 refine ae #v[] rfl (kO (d:=d+1) X #[λ_=>?_,λz=>by cases z])
 exact ae #v[] rfl (nX (d:=d) X h hn λS' a=>hR _ _ (k S' a))
theorem kP (X:Knd defs){M N:Hg W}{b0:W}{a n s:Ho}{p:Pt}(hM:M.length=a)(hN:N.length=n)(h:GoodP a n s p)(hs:s<=1000)(k:∀S',Ka S S'->Q (.bl true,S')):wO (aC (ak defs fuel (d+4)) "is_point" 3 [.tup [.tup M,.tup N,b0],ap p,.int (s:Hv)] S) Q:=by
 refine al X.point rfl rfl λQ' hR=>?_
 replace k:∀S',Ka S S'->Q' (.rt (.bl true),S'):=λS' a=>hR _ _ (k S' a)
 clear hR;show wZ _ _ fF [gV (.tup [.tup M,.tup N,b0]),gV (ap p),gV (.int (s:Hv)),td] S Q';dsimp only[fF];refine aF λK hK=>?_
 dsimp only[wS,wT,wE,wA,wV,wG];refine qT (d:=d) X h.len hs λS1 k1=>?_
 refine ab (show cw S1 (.bl true)=gV true from rfl) ?_
 refine ah (Q0:=Q') (λz=>by cases z) (λ_ Q2 hn _=>aM (hn _ _ (hK _ _ ?_)))
 clear hn hK K;refine st ?_;dsimp only[wS,wE,wA,wV,wG,Hw,ap];refine ae #v[] rfl ?_
 refine ab (mz h.mark.1 h.mark.2).1 #[λ_=>?_,λz=>by cases z]
 refine ae #v[] rfl (ay ?_)
 rw[hM];refine ab (mz h.mark.1 h.mark.2).2 ?_;refine st ?_;dsimp only[wS,wE,wA,wV,wG];refine#[λ_=>?_,λz=>by cases z]
 refine kF p.2 W.int (λ_=>true) (λ_=>.bl true) [gV (.tup [.tup M,.tup N,b0])] rfl rfl rfl rfl (by rw[h.len]; omega) ?_ (λx hx S2 k2=>?_) λS2 k2=>?_
 ·dsimp only[wE,wV,wG];exact ae #v[] rfl #[rfl,.refl]
 ·obtain⟨x0,x1⟩:=h.way x hx;dsimp only[fW,wC,wE,wA,wV,wG];refine#[λ_=>ab (mz x0 x1).1 #[λ_=>?_,λz=>by cases z],λz=>by cases z]
  refine ae #v[] rfl (ay ?_)
  rw[hN];exact ab (mz x0 x1).2 #[rfl,rfl,.refl]
 ·rw[c8,iJ];exact kN aj (k _ (k1.trans (k2.trans .push)))
theorem GoodW.pt {a n k:Ho}{u:Wd}{p:Pt}(h:GoodW a n u)(hp:u[k]?=gV p):GoodP a n k p:=#[h.mark k p hp,h.len k p hp,h.way k p hp]
theorem qU (X:Knd defs){M N:Hg W}{b0:W}{a n:Ho}{u:Wd}(hM:M.length=a)(hN:N.length=n)(h:GoodW a n u)(hs:u.length<=1000)(k:∀S',Ka S S'->Q (.bl true,S')):wO (aC (ak defs fuel (d+5)) "is_world" 2 [.tup [.tup M,.tup N,b0],am u] S) Q:=by
 refine al X.world rfl rfl λQ' hR=>?_
 show wZ _ _ fE [gV (.tup [.tup M,.tup N,b0]),gV (am u)] S Q';dsimp only[fE];refine st ?_;dsimp only[wS,wE,wA,wV,wG];refine ab (show ny S (am u) "tuple" = gV true from rfl) #[λ_=>?_,λz=>by cases z]
 refine sf (u.map ap) (λi ys ρ2 S2=>(∃a1 a2,ρ2=[td,a1,a2,gV (.tup [.tup M,.tup N,b0])])/\ys=Ih i (.bl true)/\Ka S S2) rfl rfl rfl #[rfl,#[_,_,rfl],rfl,.refl] ?_ ?_
 ·rintro i x ys ρ2 S2 hx ⟨⟨a1,a2,rfl⟩,rfl,k2⟩;rw[Hq,Hl]at hx;obtain⟨p,hp,rfl⟩:=hx;have hi:i < u.length:=(HD.mp hp).1;refine ab (show eL (.tp [1,2]) (.tup [.int i,ap p]) [td,a1,a2,gV (.tup [.tup M,.tup N,b0])] S2=gV ([td,gV (.int i),gV (ap p),gV (.tup [.tup M,.tup N,b0])],S2)from rfl) ?_
  dsimp only[fW,wC,wE,wA,wV,wG];refine#[λ_=>kP (d:=d) X hM hN (h.pt hp) ∅ λS3 k3=>#[#[_,_,rfl],?_,k2.trans k3],λz=>by cases z]
  rw[List.replicate_succ']
 ·rintro ys ρ2 S2 ⟨_,rfl,k2⟩;rw[Hh];exact#[ki (by rw[Lg]; exact hs),kN aj (hR _ _ (k _ (k2.trans .push)))]
end
section
variable{defs:Hg (HJ×Df)}{fuel d:Ho}{S:aa}{Q:QW}
structure Bwt (defs:Hg (HJ×Df)):Prop where
 knd:Knd defs
 ft:Is defs ("first_three" : HJ) 2 5 bT
 fb:Is defs ("first_barred" : HJ) 2 2 b9
 by':Is defs ("barred_by" : HJ) 4 4 dy
 bwt:Is defs ("is_base_with_two" : HJ) 2 2 aR
theorem uC {kvs:Hg (T×W)}{bs:Hg Hv}{gs:Hg Wd}{u:Wd}{w:W}(h:HasD kvs (br bs gs))(hs:Std kvs u)(hw:Ans (λi j k=>decide (dq (bW u i j k)∈(br bs gs).map dq)) u.length w):w=.non:=by
 rcases hw with⟨h1,_⟩|⟨i,j,k,_,h1,h2,h3,h4,_⟩
 ·exact h1
 ·have:=hs k h3 j h2 i h1;unfold bH at this;have h4:decide (dq (bW u i j k)∈(br bs gs).map dq)=true:=h4;rw[h.get,h4]at this; cases this
theorem qV (hfu:20 < fuel)(F:Fil defs)(B:Bwt defs){ms:Hg W}{ns:Hg HJ}{bs:Hg Hv}{a:Ho}{gs:Hg Wd}{kvs:Hg (T×W)}{x:Wd×Pt×Pt}(hb:GoodB bs)(hnl:ns.length=bs.length)(hml:ms.length=a)(hgs:∀g∈gs,GoodW a bs.length g/\g.length=3)(h64:gs.length<=100)(hk:HasD kvs (br bs gs))(hC:Cf a bs.length kvs x.1 x.2.1 x.2.2)(hxl:x.1.length<=500)
  (k:∀S',Ka S S'->Q (.bl true,S')) :
  wO (aC (ak defs fuel (d+7)) "is_base_with_two" 2 [.tup [.tup ms,.tup (Hy aB ns bs),.tup (gs.map am)],cW x] S) Q:=by
 refine al B.bwt rfl rfl λQ' hR=>?_
 replace k:∀S',Ka S S'->Q' (.rt (.bl true),S'):=λS' a=>hR _ _ (k S' a)
 clear hR;obtain⟨u,p,q⟩:=x;dsimp only at hC hxl;show wZ _ _ aR [gV (.tup [.tup ms,.tup (Hy aB ns bs),.tup (gs.map am)]),gV (.tup [am u,ap p,ap q])] S Q';have zl:(Hy aB ns bs).length=bs.length:=by rw[Jf,hnl,JU]
 have ul:(u.map ap).length=u.length:=Hh ..;have iw:=λ(S:aa) (Q:QW)=>qU (defs:=defs) (fuel:=fuel) (d:=d+1) (S:=S) (Q:=Q) (b0:=.tup (gs.map am)) B.knd hml zl hC.gu ∅
 have ip:=λ(h:Pt) (gh:GoodP a bs.length u.length h) (S:aa) (Q:QW)=>kP (defs:=defs) (fuel:=fuel) (d:=d+2) (S:=S) (Q:=Q) (b0:=.tup (gs.map am)) B.knd hml zl gh ∅
 have fb:=λ(h:Pt) (gh:GoodP a bs.length u.length h) (S:aa) (Q:QW)=>kE (defs:=defs) (fuel:=fuel) (d:=d+1) (S:=S) (Q:=Q) (m0:=.tup ms) hfu F.parts F.part F.longer F.barred F.three B.ft B.fb hb hnl hgs h64 (gh.snoc hC.gu) (by rw[Hk,Ij]; omega)
 generalize W.tup [.tup ms,.tup (Hy aB ns bs),.tup (gs.map am)]=R at iw ip fb;dsimp only[aR];refine aF λK hK=>?_
 dsimp only[wS,wT,wE,wA,wV,wG];refine g6 (d:=d+5) (n:=3) B.knd rfl ?_;refine ab (show cw S (.bl true)=gV true from rfl) #[λz=>(by cases z),λ_=>?_]
 refine ae #v[] rfl (iw _ _ λS1 k1=>?_)
 refine ab (show cw S1 (.bl true)=gV true from rfl) ?_
 refine ah (Q0:=Q') (λz=>by cases z) (λ_ Q2 hn _=>aM (hn _ _ (hK _ _ ?_)))
 clear hn hK K;refine aF λK hK=>?_
 dsimp only[wS,wT,wE,wA];refine kF [p,q] ap (λ_=>true) (λ_=>.bl true) [gV R,gV (.tup [am u,ap p,ap q])] rfl rfl rfl rfl (J4 rfl) ?_ (λh hh S2 k2=>?_) λS2 k2=>?_
 ·dsimp only[wE,wP,wV,wG,wN];exact ab (show jg (.tup [am u,ap p,ap q]) (gV 1) td S1=gV (.tup ([p,q].map ap),S1)from rfl) #[rfl,.refl]
 ·have gh:GoodP a bs.length u.length h:=by
   rcases HW.mp hh with rfl|hh
   ·exact hC.gp
   ·cases HB.mp hh; exact hC.gq
  dsimp only[fW,wC,wE,wA,wV,wG];refine#[λ_=>ae #v[] rfl (ay ?_),λz=>by cases z]
  rw[ul];exact ip h gh _ _ λS3 k3=>#[rfl,rfl,k3]
 rw[c8,iJ];dsimp only;refine kN aj ?_;refine ab (show cw _ (.bl true)=gV true from rfl) ?_
 refine ah (Q0:=Q') (λz=>by cases z) (λ_ Q2 hn _=>aM (hn _ _ (hK _ _ ?_)))
 clear hn hK K;have k2':=k1.trans (k2.trans (Ka.push (o:=O.lst (Ih [p,q].length (.bl true)))));generalize S2++[O.lst (Ih [p,q].length (W.bl true))]=S3 at k2';refine st ?_;dsimp only[wS,wE,wA];refine kF [p,q] ap (λ_=>true) (λ_=>.bl true) [gV R,gV (.tup [am u,ap p,ap q])] rfl rfl rfl rfl (J4 rfl) ?_ (λh hh S4 k4=>?_) λS4 k4=>?_
 ·dsimp only[wE,wP,wV,wG,wN];exact ab (show jg (.tup [am u,ap p,ap q]) (gV 1) td S3=gV (.tup ([p,q].map ap),S3)from rfl) #[rfl,.refl]
 ·have gh:GoodP a bs.length u.length h/\bI kvs u u.length h=true:=by
   rcases HW.mp hh with rfl|hh
   ·exact#[hC.gp,hC.mp]
   ·cases HB.mp hh; exact#[hC.gq,hC.mq]
  dsimp only[fW,wC,wE,wA,wV,wG];refine#[λ_=>ae #v[] rfl ?_,λz=>by cases z]
  dsimp only[am];have ev:u.map ap++[ap h]=(u++[h]).map ap:=by rw[HR]; rfl
  refine ab (bF (dR (by rw[Hk,ul]; show _+1<=_; omega))) ?_
  dsimp only;rw[ev];have fb1:=λ(Q:QW)=>fb h gh.1 S4 Q
  unfold am at fb1;refine fb1 _ λw S5 hw k5=>?_
  rw[uC hk (Std.both.mpr #[hC.su,gh.2]) hw];exact ab (show aL .is .non .non S5=gV (.bl true,S5)from rfl) #[rfl,rfl,k5]
 ·rw[c8,iJ];exact kN aj (k _ (k2'.trans (k4.trans .push)))
theorem qW (B:Bwt defs){R:W}(k:Q (.bl false,S)):wO (aC (ak defs fuel (d+2)) "is_base_with_two" 2 [R,.non] S) Q:=by
 refine al B.bwt rfl rfl λQ' hR=>?_
 show wZ _ _ aR [gV R,gV .non] S Q';dsimp only[aR];refine aF λK hK=>?_
 dsimp only[wS,wT,wE,wA,wV,wG];refine qS (d:=d) (n:=3) B.knd ?_;refine ab (show cw S (.bl false)=gV false from rfl) #[λ_=>?_,λz=>by cases z]
 refine ah (Q0:=Q') (λ_ Q2 _ hr=>?_) (λz=>by cases z)
 refine st ?_;dsimp only[wS,wE];exact hr _ _ (hR _ _ k)
theorem Dc {kvs:Hg (T×W)}{bs:Hg Hv}{gs:Hg Wd}{u:Wd}{p q:Pt}(h:HasD kvs (br bs gs)):dA (PB ((br bs gs).map dq) u.length) bs u p q=dA (λv p=>bH kvs v p u.length (u.length+1)) bs u p q:=by
 have:PB ((br bs gs).map dq) u.length=λv p=>bH kvs v p u.length (u.length+1):=funext λv=>funext λp=>(h.get _).symm
 rw[this]
end
noncomputable def eX:Ss:=
 #v[.loop (.nm 3) (.rng2 #v[.c (.int 2),.bi .len #v[.v 2]]) #v[.ite (.not (.own "_law_last_may" 4 #v[.v 0,.v 1,.v 2,.v 3])) #v[.ret (.c (.bl false))] .nil],.ret (.c (.bl true))]
noncomputable def ce:Ss:=
 #v[.loop (.tp [2,3]) (.enu #v[.v 1]) #v[.ite (.or (.not (.isi "tuple" (.v 3))) (.or (.cmp .ne (.bi .len #v[.v 3]) (.c (.int 2))) (.or (.not (.isi "tuple" (.ix (.v 3) (.c (.int 1))))) (.cmp .ne (.bi .len #v[.ix (.v 3) (.c (.int 1))]) (.v 2))))) #v[.ret (.c (.bl false))] .nil,.set 5 (.op .add (.lst #v[.tup #v[.ix (.v 3) (.c (.int 0)),.bi .len #v[.ix (.v 0) (.c (.int 0))]]]) (.comp (.tup #v[.v 1,.bi .len #v[.ix (.v 2) (.c (.int 1))]]) (.nm 1) (.seq (.ix (.v 3) (.c (.int 1)))) .nil [td,td,gV 0])),.loop (.tp [4,6]) (.seq (.v 5)) #v[.ite (.or (.isi "bool" (.v 4)) (.or (.not (.isi "int" (.v 4))) (.not (.chn .le .lt (.c (.int 0)) (.v 4) (.v 6))))) #v[.ret (.c (.bl false))] .nil]],.ret (.c (.bl true))]
section
variable{defs:Hg (HJ×Df)}{fuel d:Ho}{S:aa}{Q:QW}
theorem qX (hg:Is defs ("_law_last_may" : HJ) 4 8 aG){R:W}{a n q k:Ho}{u:Wd}{kvs:Hg (T×W)}(hu:GoodW a n u)(hk:k < u.length)(hl:u.length<=1000)(e:S[q]?=gV (.dic kvs))(hm:bI kvs u k (u.getD k (0,[]))=true)(kk:Q (.bl true,S)) :
  wO (aC (ak defs fuel (d+1)) "_law_last_may" 4 [R,.ref q,am u,.int (k:Hv)] S) Q:=by
 refine al hg rfl rfl λQ' hR=>?_
 replace kk:=hR _ _ kk;clear hR;show wZ _ _ aG [gV R,gV (.ref q),gV (am u),gV (.int (k:Hv)),td,td,td,td] S Q';have hh:(u.getD k (0,[])).2.length=k:=hu.len k _ (aq (d:=(0,[])) hk);have at':∀p < k,((u.map ap)[((p:Ho):Hv).toNat]?=gV (ap (u.getD p (0,[])))):=λp hp=>cY ∅
 have hw:∀p < k,(ac (u.getD k (0,[])).2)[((p:Ho):Hv).toNat]?=gV (.int ((u.getD k (0,[])).2.getD p 0)):=λp hp=>by
  rw[HF]; unfold ac; rw[Hq,aq (d:=0) ∅]; rfl
 have hm:=bq.mp hm;dsimp only[aG];refine st ?_;dsimp only[wS,wE,wV,wG];refine ae (Hu _) (cY hk) ?_;generalize u.getD k (0,[])=h at hh hw hm;dsimp only[wU,ap];refine ab (show cK [4,5] [.int h.1,.tup (h.2.map W.int)] [gV R,gV (.ref q),gV (am u),gV (.int (k:Hv)),td,td,td,td]=gV [gV R,gV (.ref q),gV (am u),gV (.int (k:Hv)),gV (.int h.1),gV (.tup (ac h.2)),td,td]from rfl) ?_
 refine aF λK hK=>?_
 refine cx 1 (k:Hv) (λm ρ S'=>(∃a6 a7,ρ=[gV R,gV (.ref q),gV (am u),gV (.int (k:Hv)),gV (.int h.1),gV (.tup (ac h.2)),a6,a7])/\S'=S) rfl rfl rfl ∅ #[rfl,rfl,#[_,_,rfl],rfl] ?_ ?_
 ·rintro m ρ S1 hm1 ⟨⟨a6,a7,rfl⟩,rfl⟩ Q2 hn2 hr2;clear hK;rw[show(1:Hv)+m=((m+1:Ho):Hv) by omega]
  have hmu:m+1 < k:=∅
  generalize hj:m+1=j at hmu hn2;dsimp only[Hw];refine aF λK hK=>?_
  refine bC (j:Hv) (λi ρ S'=>(∃a7,ρ=[gV R,gV (.ref q),gV (am u),gV (.int (k:Hv)),gV (.int h.1),gV (.tup (ac h.2)),gV (.int (j:Hv)),a7])/\S'=S1) rfl rfl ∅ #[rfl,#[_,rfl],rfl] ?_ ?_
  ·rintro i ρ S2 hi ⟨⟨a7,rfl⟩,rfl⟩ Q3 hn3 hr3;clear hK;have hij:i < j:=∅
   have lj:i < (u.getD j (0,[])).2.length:=by rw[hu.len j _ (aq (d:=(0,[])) ∅)]; exact hij
   dsimp only[Hw];refine aF λK hK=>?_
   dsimp only[wS,wT,wE,wA,wV,wG];refine ae (Hu i) (at' i ∅) (ae #v[] rfl (ae (Hu j) (at' j hmu) (ae #v[] rfl (ae (Hu j) (at' j hmu) (ae #v[] rfl (ae (w:=.int ((u.getD j (0,[])).2.getD i 0)) (Hu i) (by rw[HF,Hq,aq (d:=0) lj]; rfl) (ae (Hu i) (hw i ∅) (ae (Hu j) (hw j hmu) ?_))))))))
   refine ab (show aL .isin (am [((u.getD i (0,[])).1,[]),((u.getD j (0,[])).1,[(u.getD j (0,[])).2.getD i 0]),(h.1,[h.2.getD i 0,h.2.getD j 0])]) (.ref q) S2=gV (.bl (bS kvs u h i j),S2) by simp only[aL,bJ e,gW]; rfl) ?_
   dsimp only[wB];rw[hm j hmu i hij];exact ah (Q0:=Q3) (λz=>by cases z) (λ_ Q5 hn5 _=>aM (hn5 _ _ (hK _ _ (aM (hn3 _ _ #[#[_,rfl],rfl])))))
  ·rintro ρ S2 ⟨⟨a7,rfl⟩,rfl⟩;exact hK _ _ (aM (hn2 _ _ #[#[_,_,rfl],rfl]))
 ·rintro ρ S1 ⟨⟨a6,a7,rfl⟩,rfl⟩;refine hK _ _ (st ?_);dsimp only[wS,wE];exact kk
theorem uD (hlm:Is defs ("_law_last_may" : HJ) 4 8 aG)(hg:Is defs ("_law_may" : HJ) 3 4 eX){R:W}{a n q:Ho}{u:Wd}{kvs:Hg (T×W)}(hu:GoodW a n u)(hl:u.length<=1000)(e:S[q]?=gV (.dic kvs))(hs:Std kvs u)(k:Q (.bl true,S)) :
  wO (aC (ak defs fuel (d+2)) "_law_may" 3 [R,.ref q,am u] S) Q:=by
 refine al hg rfl rfl λQ' hR=>?_
 show wZ _ _ eX [gV R,gV (.ref q),gV (am u),td] S Q';have ul:(u.map ap).length=u.length:=Hh ..;dsimp only[eX];refine aF λK hK=>?_
 refine cx 2 (u.length:Hv) (λm ρ S'=>(∃a3,ρ=[gV R,gV (.ref q),gV (am u),a3])/\S'=S) rfl rfl rfl ∅ ?_ ?_ ?_
 ·dsimp only[wE,wA,wV,wG];refine#[rfl,ay ?_];rw[ul];exact#[rfl,#[_,rfl],rfl]
 ·rintro m ρ S1 hm ⟨⟨a3,rfl⟩,rfl⟩ Q2 hn2 _;clear hK;rw[show(2:Hv)+m=((m+2:Ho):Hv) by omega]
  have hmu:m+2 < u.length:=∅
  generalize hj:m+2=j at hmu hn2;dsimp only[Hw];refine aF λK hK=>?_
  dsimp only[wS,wT,wE,wA,wV,wG];refine qX (d:=d) hlm hu hmu hl e (bq.mpr λy hy x hx=>hs j hmu y hy x hx) ?_
  refine ab (show cw S1 (.bl true)=gV true from rfl) ?_
  exact ah (Q0:=Q2) (λz=>by cases z) (λ_ Q5 hn5 _=>aM (hn5 _ _ (hK _ _ (aM (hn2 _ _ #[#[_,rfl],rfl])))))
 ·rintro ρ S1 ⟨⟨a3,rfl⟩,rfl⟩;refine hK _ _ (st ?_);dsimp only[wS,wE];exact hR _ _ k
theorem kQ (hg:Is defs ("_law_is_world" : HJ) 2 7 ce){M N:Hg W}{b0:W}{a n:Ho}{u:Wd}(hM:M.length=a)(hN:N.length=n)(hu:GoodW a n u)(hl:u.length<=500)(k:∀S',Ka S S'->Q (.bl true,S')) :
  wO (aC (ak defs fuel (d+1)) "_law_is_world" 2 [.tup [.tup M,.tup N,b0],am u] S) Q:=by
 refine al hg rfl rfl λQ' hR=>?_
 replace k:∀S',Ka S S'->Q' (.rt (.bl true),S'):=λS' a=>hR _ _ (k S' a)
 clear hR;show wZ _ _ ce [gV (.tup [.tup M,.tup N,b0]),gV (am u),td,td,td,td,td] S Q';have l0:∀(S:aa) (Q:QW),Q (.int (a:Hv),S)->wO (ju (.tup [.tup M,.tup N,b0]) (.int 0) S) λp=>wO (Bi.len.fn [p.1] p.2) Q:=λS Q q=>by
  refine ae #v[] rfl (ay ?_)
  rw[hM]; exact q
 have l1:∀(S:aa) (Q:QW),Q (.int (n:Hv),S)->wO (ju (.tup [.tup M,.tup N,b0]) (.int 1) S) λp=>wO (Bi.len.fn [p.1] p.2) Q:=λS Q q=>by
  refine ae #v[] rfl (ay ?_)
  rw[hN]; exact q
 generalize W.tup [.tup M,.tup N,b0]=R at l0 l1;dsimp only[ce];refine aF λK hK=>?_
 refine Av (u.map ap) (λi ρ S'=>(∃a2 a3 a4 a5 a6,ρ=[gV R,gV (am u),a2,a3,a4,a5,a6])/\Ka S S') rfl rfl #[rfl,#[_,_,_,_,_,rfl],.refl] ?_ ?_
 ·rintro i x ρ S1 hx ⟨⟨a2,a3,a4,a5,a6,rfl⟩,k1⟩;clear hK;rw[Hq,Hl]at hx;obtain⟨p,hp,rfl⟩:=hx;have hi:i < u.length:=(HD.mp hp).1;have gp:=hu.pt hp;refine ab (show eL (.tp [2,3]) (.tup [.int i,ap p]) [gV R,gV (am u),a2,a3,a4,a5,a6] S1=gV ([gV R,gV (am u),gV (.int i),gV (.tup [.int p.1,.tup (p.2.map W.int)]),a4,a5,a6],S1)from rfl) ?_
  intro Q2 hn2 hr2;refine aF λK hK=>?_
  dsimp only[wS,wT,wE,wA,wV,wG];refine ab (show ny S1 (.tup [.int p.1,.tup (p.2.map W.int)]) "tuple" = gV true from rfl) #[λz=>(by cases z),λ_=>?_]
  refine ay (ab t8 #[λz=>(by cases z),λ_=>?_])
  refine ae #v[] rfl ?_
  refine ab (show ny S1 (.tup (p.2.map W.int)) "tuple" = gV true from rfl) #[λz=>(by cases z),λ_=>?_]
  refine ae #v[] rfl (ay (ab t8 ?_))
  rw[Hh,gp.len,IJ];dsimp only[wB];refine ah (Q0:=Q2) (λz=>by cases z) (λ_ Q5 hn5 _=>aM (hn5 _ _ (hK _ _ ?_)))
  clear hn5 hK K;refine st ?_;dsimp only[wS,wE,wA,wV,wG,Hw];refine ae #v[] rfl (l0 _ _ ?_)
  refine kF p.2 W.int (λ_=>true) (λz=>.tup [.int z,.int (n:Hv)]) [gV R] rfl rfl rfl rfl (by rw[gp.len]; omega) ?_ (λz hz S3 k3=>?_) λS3 k3=>?_
  ·dsimp only[wE,wV,wG];exact ae #v[] rfl #[rfl,.refl]
  ·dsimp only[fW,wC,wE,wA,wV,wG];exact#[λ_=>l1 _ _ #[rfl,rfl,.refl],λz=>by cases z]
  rw[c8];dsimp only;have k3':=k1.trans (Ka.push.trans k3);have e1:=k3.get _ _ (aj (S:=S1) (o:=O.lst [.tup [.int p.1,.int (a:Hv)]]));refine ab (nG (ar e1) aj (dR (by rw[Hk,Hh,gp.len]; show 1+_<=_; omega))) ?_
  have kk:=(k3'.trans (Ka.push (o:=O.lst (p.2.map λz=>W.tup [.int z,.int (n:Hv)])))).trans (Ka.push (o:=O.lst ([.tup [.int p.1,.int (a:Hv)]]++p.2.map λz=>W.tup [.int z,.int (n:Hv)])))
  have e5:(S3++[O.lst (p.2.map λz=>W.tup [.int z,.int (n:Hv)])]++[O.lst ([.tup [.int p.1,.int (a:Hv)]]++p.2.map λz=>W.tup [.int z,.int (n:Hv)])])[(S3++[O.lst (p.2.map λz=>W.tup [.int z,.int (n:Hv)])]).length]?=gV (O.lst ([.tup [.int p.1,.int (a:Hv)]]++p.2.map λz=>W.tup [.int z,.int (n:Hv)])):=aj
  generalize S3++[O.lst (p.2.map λz=>W.tup [.int z,.int (n:Hv)])]++[O.lst ([.tup [.int p.1,.int (a:Hv)]]++p.2.map λz=>W.tup [.int z,.int (n:Hv)])]=S5 at kk e5
  generalize(S3++[O.lst (p.2.map λz=>W.tup [.int z,.int (n:Hv)])]).length=t5 at e5
  refine aF λK hK=>?_
  refine jC t5 ([.tup [.int p.1,.int (a:Hv)]]++p.2.map λz=>W.tup [.int z,.int (n:Hv)]) (λj ρ S'=>(∃a4 a6,ρ=[gV R,gV (am u),gV (.int i),gV (.tup [.int p.1,.tup (p.2.map W.int)]),a4,gV (.ref t5),a6])/\S'=S5) rfl rfl #[rfl,#[_,_,rfl],rfl] (λ_ _ _ h=>by rw[h.2]; exact e5) ?_ ?_
  ·rintro j w ρ S6 hw ⟨⟨a4,a6,rfl⟩,rfl⟩;clear hK;obtain⟨z,y,rfl,z0,z1⟩ : ∃z y:Hv,w=.tup [.int z,.int y]/\0<=z/\z < y:=by
    rcases HY.mp (HC hw)with h|h
    ·exact#[_,_,HB.mp h,gp.mark.1,gp.mark.2]
    ·obtain⟨z,hz,rfl⟩:=HQ.mp h;exact#[_,_,rfl,(gp.way z hz).1,(gp.way z hz).2]
   refine ab (show eL (.tp [4,6]) (.tup [.int z,.int y]) [gV R,gV (am u),gV (.int i),gV (.tup [.int p.1,.tup (p.2.map W.int)]),a4,gV (.ref t5),a6] S6=gV ([gV R,gV (am u),gV (.int i),gV (.tup [.int p.1,.tup (p.2.map W.int)]),gV (.int z),gV (.ref t5),gV (.int y)],S6)from rfl) ?_
   intro Q3 hn3 _;refine aF λK hK=>?_
   dsimp only[wS,wT,wE,wA,wV,wG];refine ab (show ny S6 (.int z) "bool" = gV false from rfl) #[λz=>(by cases z),λ_=>?_]
   refine ab (show ny S6 (.int z) "int" = gV true from rfl) #[λz=>(by cases z),λ_=>?_]
   refine ab (mz z0 z1).1 #[λ_=>ab (mz z0 z1).2 ?_,λz=>by cases z]
   dsimp only[wB];exact ah (Q0:=Q3) (λz=>by cases z) (λ_ Q5 hn5 _=>aM (hn5 _ _ (hK _ _ (aM (hn3 _ _ #[#[_,_,rfl],rfl])))))
  ·rintro ρ S6 ⟨⟨a4,a6,rfl⟩,rfl⟩;exact hK _ _ (aM (hn2 _ _ #[#[_,_,_,_,_,rfl],kk]))
 ·rintro ρ S1 ⟨⟨a2,a3,a4,a5,a6,rfl⟩,k1⟩;refine hK _ _ (st ?_);dsimp only[wS,wE];exact k _ k1
end
noncomputable def c9:Ss:=
 #v[.ite (.or (.not (.isi "tuple" (.v 2))) (.or (.cmp .ne (.bi .len #v[.v 2]) (.c (.int 3))) (.not (.isi "tuple" (.ix (.v 2) (.c (.int 0))))))) #v[.ret (.c (.bl false))] .nil,.asg [4,5,6] (.v 2),.loop (.nm 7) (.seq (.tup #v[.v 5,.v 6])) #v[.ite (.or (.not (.own "_law_is_world" 2 #v[.v 0,.op .add (.v 4) (.tup #v[.v 7])])) (.not (.own "_law_may" 3 #v[.v 0,.v 1,.op .add (.v 4) (.tup #v[.v 7])]))) #v[.ret (.c (.bl false))] .nil],.set 8 (.own "_law_fills" 5 #v[.v 0,.v 1,.v 4,.v 5,.v 6]),.ret (.or (.cmp .eq (.v 8) (.lst .nil)) (.and (.v 3) (.cmp .eq (.v 8) (.lst #v[.neg (.c (.int 1))]))))]
noncomputable def cm:Ss:=
 #v[.set 4 (.op .sub (.op .add (.bi .len #v[.ix (.v 0) (.c (.int 1))]) (.c (.int 1))) (.bi .int #v[.v 3])),.ret (.or (.cmp .is (.v 2) (.c .non)) (.and (.own "_law_unfilled" 4 #v[.v 0,.v 1,.v 2,.v 3]) (.cmp .le (.bi .len #v[.ix (.v 2) (.c (.int 0))]) (.v 4))))]
noncomputable def bn:Ss:=
 #v[.loop (.nm 5) (.rng #v[.v 3]) #v[.asg [6,7,8] (.own "_law_pair" 4 #v[.v 0,.v 1,.v 2,.op .add (.c (.int 1)) (.own "_law_pick" 2 #v[.v 0,.c (.int 6)])]),.set 9 (.own "_law_fills" 5 #v[.v 1,.v 2,.v 6,.v 7,.v 8]),.ite (.or (.cmp .eq (.v 9) (.lst .nil)) (.and (.v 4) (.cmp .eq (.v 9) (.lst #v[.neg (.c (.int 1))])))) #v[.ret (.c (.bl false))] .nil],.ret (.c (.bl true))]
noncomputable def yc (n:Ho)(bw:HU):Ho:=if bw then n else n+1
theorem qY {X:Hg T}{kvs:Hg (T×W)}{bs:Hg Hv}{u:Wd}{p q:Pt}{i k:Ho}(hk:∀t,(aK kvs t).isSome=decide (t∈X)):iG X bs u p q i k=bd kvs (iF u p q (bs.getD i 0) k):=(hk _).symm
theorem pO {X:Hg T}{kvs:Hg (T×W)}{bs:Hg Hv}{u:Wd}{p q:Pt}{bw:HU}(hk:∀t,(aK kvs t).isSome=decide (t∈X)):Full kvs bs (yc bs.length bw) u p q↔(fI (iG X bs u p q) (nT p q u.length) bs.length u.length=[]\/(bw=true/\fI (iG X bs u p q) (nT p q u.length) bs.length u.length=[-1])):=by
 have key:∀i < bs.length,((i:Hv)∈fI (iG X bs u p q) (nT p q u.length) bs.length u.length↔aV kvs bs u p q i=false):=λi hi=>by
  rw[mn];constructor
  ·rintro(⟨j,e,_,h⟩|⟨e,_⟩)
   ·obtain rfl:i=j:=∅
    rw[Kg];intro z;obtain⟨k,hk1,hk2⟩:=(eG hi).mp z;have:=h k hk1;rw[qY hk,hk2]at this; cases this
   ·omega
  ·intro h;refine .inl #[i,rfl,hi,λk hk1=>?_]
   rw[Kg];intro z;rw[qY hk]at z;rw[(eG hi).mpr #[k,hk1,z]]at h; cases h
 have keyS:((-1:Hv)∈fI (iG X bs u p q) (nT p q u.length) bs.length u.length↔aV kvs bs u p q bs.length=false):=by
  rw[mn];have:aV kvs bs u p q bs.length = !nT p q u.length:=by unfold aV; rw[Iv (IX _)]
  rw[this];constructor
  ·rintro(⟨j,e,_,_⟩|⟨_,h⟩)
   ·omega
   ·rw[h]; rfl
  ·intro h;exact .inr #[rfl,by simpa using h]
 have ways:(∀i < bs.length,aV kvs bs u p q i=true)->fI (iG X bs u p q) (nT p q u.length) bs.length u.length=if nT p q u.length then[-1]else[]:=λh=>by
  have e:(HG bs.length).filter (λi=>(HG u.length).all λk=>!iG X bs u p q i k)=[]:=Ms.mpr λi hi=>by
   have hi:=HI.mp hi;obtain⟨k,hk1,hk2⟩:=(eG hi).mp (h i hi);intro z;have:=HP.mp z k (HI.mpr hk1);rw[qY hk,hk2]at this; cases this
  unfold fI;rw[e]; rfl
 generalize hL:fI (iG X bs u p q) (nT p q u.length) bs.length u.length=L at key keyS ways;unfold Full yc;cases bw with
 | true=>
  rw[HV rfl];constructor
  ·intro h;rw[ways h];cases nT p q u.length
   ·exact .inl rfl
   ·exact .inr #[rfl,rfl]
  ·intro h i hi;cases hh:aV kvs bs u p q i with
   | true=>rfl
   | false=>
    have:=(key i hi).mpr hh;rcases h with h|⟨_,h⟩
    ·rw[h]at this; cases this
    ·rw[h]at this;have:=HB.mp this;omega
 | false=>
  rw[Iv HK];constructor
  ·intro h;have hw:=ways λi hi=>h i ∅
   have hs:nT p q u.length=false:=by
    have:=h bs.length (JE _);unfold aV at this;rw[Iv (IX _)]at this
    simpa using this
   rw[hs]at hw;exact .inl hw
  ·intro h i hi;have h:L=[]:=by
    rcases h with h|⟨z,_⟩
    ·exact h
    ·cases z
   cases hh:aV kvs bs u p q i with
   | true=>rfl
   | false=>
    by_cases hn:i < bs.length
    ·have:=(key i hn).mpr hh;rw[h]at this; cases this
    ·obtain rfl:i=bs.length:=∅
     have:=keyS.mpr hh;rw[h]at this; cases this
section
variable{defs:Hg (HJ×Df)}{fuel d:Ho}{S:aa}{Q:QW}
theorem AD {Φ:HJ->FF}{ρ:Fm}{i j l:Ho}{bw:HU}{L:Hg Hv}(e:S[l]?=gV (.lst (ac L)))(hi:∀P:W->Prop,P (.ref l)->wV ρ i P)(hj:∀P:W->Prop,P (.bl bw)->wV ρ j P)
  (k:∀(c:HU) S',(c=true↔(L=[]\/(bw=true/\L=[-1])))->Ka S S'->Q (.bl c,S')) :
  wE Φ (.or (.cmp .eq (.v i) (.lst .nil)) (.and (.v j) (.cmp .eq (.v i) (.lst #v[.neg (.c (.int 1))])))) ρ S Q:=by
 dsimp only[wE,wA,wN];refine hi _ (ab (sy (ar e) aj) ?_);dsimp only[wB];have e0:(ac L).isEmpty=L.isEmpty:=by cases L <;> rfl
 rw[e0];refine#[λh=>k true _ #[λ_=>.inl (Lo.mp h),λ_=>rfl] .push,λh=>?_]
 have hne:L≠[]:=λz=>by rw[z]at h; cases h
 refine hj _ ?_;dsimp only[wB];refine#[λhb=>hi _ (ab (xI (xs:=L) (ys:=[-1]) (ar (ar e)) aj) ?_),λhb=>k false _ #[λz=>(by cases z),λz=>?_] .push]
 ·refine k _ _ #[λz=>.inr #[hb,IT z],λz=>?_] (Ka.push.trans .push)
  rcases z with z|⟨_,z⟩
  ·exact absurd z hne
  ·exact IW z
 ·rcases z with z|⟨z,_⟩
  ·exact absurd z hne
  ·rw[hb]at z; cases z
theorem yd {Φ:HJ->FF}{ρ:Fm}{i j l:Ho}{bw:HU}{L:Hg Hv}{Q:QB}(e:S[l]?=gV (.lst (ac L)))(hi:∀P:W->Prop,P (.ref l)->wV ρ i P)(hj:∀P:W->Prop,P (.bl bw)->wV ρ j P)
  (hno:¬ (L=[]\/(bw=true/\L=[-1]))) (k:∀S',Ka S S'->Q (false,S')) :
  wT Φ (.or (.cmp .eq (.v i) (.lst .nil)) (.and (.v j) (.cmp .eq (.v i) (.lst #v[.neg (.c (.int 1))])))) ρ S Q:=by
 dsimp only[wT,wE,wA,wN];refine hi _ (ab (sy (ar e) aj) ?_);dsimp only[wB];have e0:(ac L).isEmpty=L.isEmpty:=by cases L <;> rfl
 rw[e0];refine#[λh=>absurd (.inl (Lo.mp h)) hno,λh=>?_]
 refine hj _ (ab (show cw _ (.bl bw)=gV bw from rfl) ?_)
 refine#[λhb=>hi _ (ab (xI (xs:=L) (ys:=[-1]) (ar (ar e)) aj) ?_),λhb=>k _ .push]
 dsimp only[wB];rw[Im λz=>hno (.inr #[hb,z])]
 exact k _ (Ka.push.trans .push)
structure Tol (defs:Hg (HJ×Df)):Prop where
 lmay:Is defs ("_law_last_may" : HJ) 4 8 aG
 both:Is defs ("_law_both" : HJ) 5 5 dh
 fills:Is defs ("_law_fills" : HJ) 5 7 dB
 may:Is defs ("_law_may" : HJ) 3 4 eX
 isw:Is defs ("_law_is_world" : HJ) 2 7 ce
 unf:Is defs ("_law_unfilled" : HJ) 4 9 c9
 told:Is defs ("_law_told_right" : HJ) 4 5 cm
theorem kR (V:Tol defs){ms:Hg W}{b0:W}{ns:Hg HJ}{bs:Hg Hv}{a q:Ho}{bw:HU}{X:Hg T}{kvs:Hg (T×W)}{x:Wd×Pt×Pt}(hb:GoodB bs)(hnl:ns.length=bs.length)(hml:ms.length=a)(hk:∀t,(aK kvs t).isSome=decide (t∈X))(e:S[q]?=gV (.dic kvs))(hC:Cf a bs.length kvs x.1 x.2.1 x.2.2)(hF:Full kvs bs (yc bs.length bw) x.1 x.2.1 x.2.2)(hxl:x.1.length<=400)
  (k:∀S',Ka S S'->Q (.bl true,S')) :
  wO (aC (ak defs fuel (d+3)) "_law_unfilled" 4 [.tup [.tup ms,.tup (Hy aB ns bs),b0],.ref q,cW x,.bl bw] S) Q:=by
 refine al V.unf rfl rfl λQ' hR=>?_
 replace k:∀S',Ka S S'->Q' (.rt (.bl true),S'):=λS' a=>hR _ _ (k S' a)
 clear hR;obtain⟨u,p,r⟩:=x;dsimp only at hC hF hxl;show wZ _ _ c9 [gV (.tup [.tup ms,.tup (Hy aB ns bs),b0]),gV (.ref q),gV (.tup [am u,ap p,ap r]),gV (.bl bw),td,td,td,td,td] S Q';have zl:(Hy aB ns bs).length=bs.length:=by rw[Jf,hnl,JU]
 have ul:(u.map ap).length=u.length:=Hh ..;have fl:=λ(S:aa) (Q:QW) e=>sF (defs:=defs) (fuel:=fuel) (d:=d) (S:=S) (Q:=Q) (m0:=.tup ms) (b0:=b0) (q:=q) V.lmay V.both V.fills hb hnl hC.gu hC.gp hC.gq ∅ e hk hC.mq
 have iw:=λ(h:Pt) (gh:GoodP a bs.length u.length h) (S:aa) (Q:QW)=>kQ (defs:=defs) (fuel:=fuel) (d:=d+1) (S:=S) (Q:=Q) (b0:=b0) V.isw hml zl (gh.snoc hC.gu) (by rw[Hk,Ij]; omega)
 have im:=λ(R:W) (h:Pt) (gh:GoodP a bs.length u.length h) (mh:bI kvs u u.length h=true) (S:aa) (Q:QW) e=>uD (defs:=defs) (fuel:=fuel) (d:=d) (S:=S) (Q:=Q) (R:=R) (q:=q) V.lmay V.may (gh.snoc hC.gu) (by rw[Hk,Ij]; omega) e (Std.both.mpr #[hC.su,mh])
 generalize W.tup [.tup ms,.tup (Hy aB ns bs),b0]=R at fl iw;dsimp only[c9];refine aF λK hK=>?_
 dsimp only[wS,wT,wE,wA,wV,wG];refine ab (show ny S (.tup [am u,ap p,ap r]) "tuple" = gV true from rfl) #[λz=>(by cases z),λ_=>?_]
 refine ay (ab t8 #[λz=>(by cases z),λ_=>?_])
 refine ae #v[] rfl ?_
 refine ab (show ny S (am u) "tuple" = gV true from rfl) ?_
 refine ah (Q0:=Q') (λz=>by cases z) (λ_ Q2 hn _=>aM (hn _ _ (hK _ _ ?_)))
 clear hn hK K;refine st ?_;dsimp only[wS,wE,wV,wG,wU];refine ab (show cK [4,5,6] [am u,ap p,ap r] [gV R,gV (.ref q),gV (.tup [am u,ap p,ap r]),gV (.bl bw),td,td,td,td,td]=gV [gV R,gV (.ref q),gV (.tup [am u,ap p,ap r]),gV (.bl bw),gV (am u),gV (ap p),gV (ap r),td,td]from rfl) ?_
 refine aF λK hK=>?_
 refine for_tup [ap p,ap r] (λi ρ S'=>(∃a7,ρ=[gV R,gV (.ref q),gV (.tup [am u,ap p,ap r]),gV (.bl bw),gV (am u),gV (ap p),gV (ap r),a7,td])/\Ka S S') rfl rfl #[rfl,#[_,rfl],.refl] ?_ ?_
 ·rintro i w ρ S1 hw ⟨⟨a7,rfl⟩,k1⟩;clear hK;obtain⟨h,rfl,gh,mh⟩ : ∃h,w=ap h/\GoodP a bs.length u.length h/\bI kvs u u.length h=true:=by
   rcases HW.mp (HC hw)with rfl|hw
   ·exact#[p,rfl,hC.gp,hC.mp]
   ·cases HB.mp hw; exact#[r,rfl,hC.gq,hC.mq]
  refine ab (show eL (.nm 7) (ap h) [gV R,gV (.ref q),gV (.tup [am u,ap p,ap r]),gV (.bl bw),gV (am u),gV (ap p),gV (ap r),a7,td] S1=gV ([gV R,gV (.ref q),gV (.tup [am u,ap p,ap r]),gV (.bl bw),gV (am u),gV (ap p),gV (ap r),gV (ap h),td],S1)from rfl) ?_
  intro Q2 hn2 _;refine aF λK hK=>?_
  dsimp only[wS,wT,wE,wA,wV,wG,am];have ev:u.map ap++[ap h]=(u++[h]).map ap:=by rw[HR]; rfl
  have fw:(u.map ap++[ap h]).length<=1000000:=by rw[Hk,ul]; show _+1<=_; omega
  refine ab (bF (dR fw)) ?_;dsimp only;rw[ev];have iw1:=λ(Q:QW)=>iw h gh S1 Q
  unfold am at iw1;refine iw1 _ λS2 k2=>?_
  refine ab (show cw S2 (.bl true)=gV true from rfl) #[λz=>(by cases z),λ_=>?_]
  refine ab (bF (dR fw)) ?_;dsimp only;rw[ev];have im1:=λ(Q:QW)=>im R h gh mh S2 Q ((k1.trans k2).get _ _ e)
  unfold am at im1;refine im1 _ ?_;refine ab (show cw S2 (.bl true)=gV true from rfl) ?_
  exact ah (Q0:=Q2) (λz=>by cases z) (λ_ Q5 hn5 _=>aM (hn5 _ _ (hK _ _ (aM (hn2 _ _ #[#[_,rfl],k1.trans k2])))))
 rintro ρ S1 ⟨⟨a7,rfl⟩,k1⟩;refine hK _ _ ?_;clear hK K;refine aF λK hK=>?_
 dsimp only[wS,wE,wA,wV,wG,Hw];refine fl _ _ (k1.get _ _ e) λl8 S2 e8 _ k2=>hK _ _ ?_
 clear hK K;refine st ?_;dsimp only[wS];refine AD e8 (λ_ h=>h) (λ_ h=>h) λc S3 hc k3=>?_
 rw[hc.mpr ((pO hk).mp hF)];exact k _ ((k1.trans k2).trans k3)
theorem De (V:Tol defs){ms:Hg W}{b0:W}{ns:Hg HJ}{bs:Hg Hv}{a q:Ho}{bw:HU}{X:Hg T}{kvs:Hg (T×W)}{w:W}(hb:GoodB bs)(hnl:ns.length=bs.length)(hml:ms.length=a)(hk:∀t,(aK kvs t).isSome=decide (t∈X))(e:S[q]?=gV (.dic kvs))(hw:xZ a bs kvs (yc bs.length bw) w)
  (k:∀S',Ka S S'->Q (.bl true,S')) :
  wO (aC (ak defs fuel (d+4)) "_law_told_right" 4 [.tup [.tup ms,.tup (Hy aB ns bs),b0],.ref q,w,.bl bw] S) Q:=by
 refine al V.told rfl rfl λQ' hR=>?_
 replace k:∀S',Ka S S'->Q' (.rt (.bl true),S'):=λS' a=>hR _ _ (k S' a)
 clear hR;show wZ _ _ cm [gV (.tup [.tup ms,.tup (Hy aB ns bs),b0]),gV (.ref q),gV w,gV (.bl bw),td] S Q';have hb3:bs.length<=3:=by rcases hb with rfl|rfl|rfl|rfl|rfl|rfl <;> decide
 have zl:(Hy aB ns bs).length=bs.length:=by rw[Jf,hnl,JU]
 dsimp only[cm];refine aF λK hK=>?_
 dsimp only[wS,wE,wA,wV,wG,Hw];refine ae #v[] rfl (ay ?_)
 rw[zl];refine ab cp ?_;have ei:Bi.int.fn [.bl bw] S=gV (.int (if bw then 1 else 0),S):=rfl
 refine ab ei (ab gK (hK _ _ ?_));clear hK K;have ec:(bs.length:Hv)+1 - (if bw then 1 else 0)=((yc bs.length bw:Ho):Hv):=by
  unfold yc;cases bw
  ·show(bs.length:Hv)+1 - 0=((bs.length+1:Ho):Hv); omega
  ·show(bs.length:Hv)+1 - 1=((bs.length:Ho):Hv); omega
 rw[ec];have hc4:yc bs.length bw<=4:=by unfold yc; split <;> omega
 refine st ?_;dsimp only[wS,wE,wA,wV,wG];rcases hw with⟨rfl,_⟩|⟨x,rfl,hC,hF,hxl⟩
 ·exact ab (show aL .is .non .non S=gV (.bl true,S)from rfl) #[λ_=>k _ .refl,λz=>by cases z]
 ·refine ab (show aL .is (cW x) .non S=gV (.bl false,S)from rfl) #[λz=>(by cases z),λ_=>?_]
  refine kR (d:=d) V hb hnl hml hk e hC hF ∅ λS1 k1=>#[λ_=>?_,λz=>by cases z]
  obtain⟨u,p,r⟩:=x;dsimp only[cW,am];dsimp only at hxl;refine ae #v[] rfl (ay ?_)
  rw[Hh];refine ab (show aL .le (.int (u.length:Hv)) (.int ((yc bs.length bw:Ho):Hv)) S1=gV (.bl (decide ((u.length:Hv)<=((yc bs.length bw:Ho):Hv))),S1)from rfl) ?_
  rw[IW ∅]
  exact k _ k1
theorem ye (G:Gen defs)(P:Pai defs)(V:Tol defs)(hg:Is defs ("_law_drawn_filled" : HJ) 5 10 bn){ms:Hg W}{b0:W}{ns:Hg HJ}{bs:Hg Hv}{a q r:Ho}{bw:HU}{X:Hg T}{kvs:Hg (T×W)}(hb:GoodB bs)(hnl:ns.length=bs.length)(hml:ms.length=a)(ha1:0 < a)(ha3:a<=3)(hk:∀t,(aK kvs t).isSome=decide (t∈X))(e:S[q]?=gV (.dic kvs))(hqr:q≠r)(hf:Fl S r)(hno:¬ GB a bs kvs (yc bs.length bw))
  (k:∀S',Fl S' r->Kp r S S'->Q (.bl true,S')) :
  wO (aC (ak defs fuel (d+5)) "_law_drawn_filled" 5 [.ref r,.tup [.tup ms,.tup (Hy aB ns bs),b0],.ref q,.int 10,.bl bw] S) Q:=by
 refine al hg rfl rfl λQ' hR=>?_
 replace k:∀S',Fl S' r->Kp r S S'->Q' (.rt (.bl true),S'):=λS' a b=>hR _ _ (k S' a b)
 clear hR;show wZ _ _ bn [gV (.ref r),gV (.tup [.tup ms,.tup (Hy aB ns bs),b0]),gV (.ref q),gV (.int 10),gV (.bl bw),td,td,td,td,td] S Q';have hb3:1<=bs.length/\bs.length<=3:=by rcases hb with rfl|rfl|rfl|rfl|rfl|rfl <;> decide
 have zl:(Hy aB ns bs).length=bs.length:=by rw[Jf,hnl,JU]
 dsimp only[bn];refine aF λK hK=>?_
 refine bC 10 (λi ρ S'=>(∃a5 a6 a7 a8 a9,ρ=[gV (.ref r),gV (.tup [.tup ms,.tup (Hy aB ns bs),b0]),gV (.ref q),gV (.int 10),gV (.bl bw),a5,a6,a7,a8,a9])/\Fl S' r/\Kp r S S') rfl rfl #v[] #[rfl,#[_,_,_,_,_,rfl],hf,.refl] ?_ ?_
 ·rintro i ρ S1 hi ⟨⟨a5,a6,a7,a8,a9,rfl⟩,f1,k1⟩ Q2 hn2 _;clear hK;dsimp only[Hw];refine aF λK hK=>?_
  dsimp only[wS,wE,wA,wV,wG];refine aT (d:=d+3) G.pick f1 #v[] #v[] λv S2 v0 v1 f2 k2=>?_
  refine ab cp ?_;dsimp only;obtain⟨m,rfl⟩ : ∃m:Ho,v=m:=#[v.toNat,∅]
  rw[show(1:Hv)+(m:Hv)=((m+1:Ho):Hv) by omega]
  refine C7 (d:=d) G P hml ha1 ha3 zl hb3.1 hb3.2 ∅ ((k1.trans k2).get _ _ hqr e) hqr f2 λu p w S3 hul hu hst gp mp gq mq f3 k3=>?_
  dsimp only[wU];refine ab (show cK [6,7,8] [am u,ap p,ap w] [gV (.ref r),gV (.tup [.tup ms,.tup (Hy aB ns bs),b0]),gV (.ref q),gV (.int 10),gV (.bl bw),gV (.int i),a6,a7,a8,a9]=gV [gV (.ref r),gV (.tup [.tup ms,.tup (Hy aB ns bs),b0]),gV (.ref q),gV (.int 10),gV (.bl bw),gV (.int i),gV (am u),gV (ap p),gV (ap w),a9]from rfl) (hK _ _ ?_)
  clear hK K;have k13:=(k1.trans k2).trans k3;refine aF λK hK=>?_
  dsimp only[wS,wE,wA,wV,wG,Hw];refine sF (d:=d+2) V.lmay V.both V.fills hb hnl hu gp gq ∅ (k13.get _ _ hqr e) hk mq λl9 S4 e9 _ k4=>hK _ _ ?_
  clear hK K;refine aF λK hK=>?_
  dsimp only[wS];refine yd e9 (λ_ h=>h) (λ_ h=>h) (λz=>hno #[u,p,w,#[hu,hst,gp,mp,gq,mq],(pO hk).mpr z]) λS5 k5=>?_
  have k45:=k4.trans k5;exact ah (Q0:=Q2) (λz=>by cases z) (λ_ Q5 hn5 _=>aM (hn5 _ _ (hK _ _ (aM (hn2 _ _ #[#[_,_,_,_,_,rfl],f3.ka k45,k13.trans (k45.kp r)])))))
 ·rintro ρ S1 ⟨⟨a5,a6,a7,a8,a9,rfl⟩,f1,k1⟩;refine hK _ _ (st ?_);dsimp only[wS,wE];exact k _ f1 k1
end
noncomputable def dC:Ss:=
 #v[.ret (.and (.own "is_base_with_two" 2 #v[.v 0,.v 1]) (.cmp .notin (.c .non) (.own "barred_by" 4 #v[.v 0,.ix (.v 1) (.c (.int 0)),.ix (.v 1) (.c (.int 1)),.ix (.v 1) (.c (.int 2))])))]
noncomputable def jE:Ss:=
 #v[.set 1 (.own "_law_flow" 1 #v[.v 0]),.set 2 (.own "_law_some_rule" 1 #v[.v 1]),.set 3 (.own "_law_bad" 1 #v[.v 2]),.set 4 (.own "unlaid" 1 #v[.v 2]),.set 5 (.own "_law_told_right" 4 #v[.v 2,.v 3,.v 4,.c (.bl false)]),.ite (.or (.not (.v 5)) (.and (.cmp .is (.v 4) (.c .non)) (.not (.own "_law_drawn_filled" 5 #v[.v 1,.v 2,.v 3,.c (.int 10),.c (.bl false)])))) #v[.ret (.c (.bl false))] .nil,.ite (.not (.own "_law_alike" 2 #v[.own "is_unlaid" 2 #v[.v 2,.v 4],.cmp .isnot (.v 4) (.c .non)])) #v[.ret (.c (.bl false))] .nil,.set 6 (.op .add (.sl (.v 2) .no (.yes (.c (.int 2)))) (.tup #v[.sl (.ix (.v 2) (.c (.int 2))) .no (.yes (.neg (.c (.int 1))))])),.ret (.and (.own "_law_told_right" 4 #v[.v 6,.own "_law_bad" 1 #v[.v 6],.own "unlaid" 1 #v[.v 6],.c (.bl false)]) (.cmp .eq (.own "unlaid" 1 #v[.v 2]) (.v 4)))]
structure Lw28 (defs:Hg (HJ×Df)):Prop where
 gen:Gen defs
 unl:Unl defs
 bwt:Bwt defs
 isu:Is defs ("is_unlaid" : HJ) 2 2 dC
 pai:Pai defs
 tol:Tol defs
 drw:Is defs ("_law_drawn_filled" : HJ) 5 10 bn
 flow:Is defs ("_law_flow" : HJ) 1 1 ee
 bad:Is defs ("_law_bad" : HJ) 1 4 eT
 alike:Is defs ("_law_alike" : HJ) 2 2 du
 law:Is defs ("law" : HJ) 1 7 jE
theorem Bh {kvs kvs':Hg (T×W)}{a n:Ho}{u:Wd}{p q:Pt}(h:∀t,(aK kvs t).isSome=(aK kvs' t).isSome)(hC:Cf a n kvs u p q):Cf a n kvs' u p q:=by
 have hm:∀p:Pt,bI kvs u u.length p=true->bI kvs' u u.length p=true:=λp mp=>bq.mpr λq hq i hi=>by
  have:=bq.mp mp q hq i hi;unfold bS at this ⊢;rw[<- h]; exact this
 refine#[hC.gu,λk hk j hj i hi=>?_,hC.gp,hm p hC.mp,hC.gq,hm q hC.mq]
 have:=hC.su k hk j hj i hi;unfold bH at this ⊢;rw[<- h]; exact this
theorem sM {kvs kvs':Hg (T×W)}{bs:Hg Hv}{c:Ho}{u:Wd}{p q:Pt}(h:∀t,(aK kvs t).isSome=(aK kvs' t).isSome)(hF:Full kvs bs c u p q):Full kvs' bs c u p q:=λi hi=>by rw[<- gz h]; exact hF i hi
theorem yf {kvs kvs':Hg (T×W)}{a c:Ho}{bs:Hg Hv}{w:W}(h:∀t,(aK kvs t).isSome=(aK kvs' t).isSome)(hF:xZ a bs kvs c w):xZ a bs kvs' c w:=by
 rcases hF with⟨rfl,hu⟩|⟨x,rfl,h1,h2,h3⟩
 ·exact .inl #[rfl,λ#[U,P,Q,hC,hF]=>hu #[U,P,Q,Bh (λt=>(h t).symm) hC,sM (λt=>(h t).symm) hF]]
 ·exact .inr #[x,rfl,Bh h h1,sM h h2,h3]
theorem E7 {S:aa}{a c:Ho}{bs:Hg Hv}{kvs:Hg (T×W)}{w:W}(h:xZ a bs kvs c w):aL .eq w w S=gV (.bl true,S):=by
 rcases h with⟨rfl,_⟩|⟨x,rfl,_⟩
 ·rfl
 ·show(fL (gP S (17+2)) [am x.1,ap x.2.1,ap x.2.2] [am x.1,ap x.2.1,ap x.2.2]).map _=_;have e1:gP S (17+2) (am x.1) (am x.1)=gV true:=by
   show fL (gP S (16+2)) (x.1.map ap) (x.1.map ap)=_;rw[pv,IW rfl]
  have e2:∀p:Pt,gP S (17+2) (ap p) (ap p)=gV true:=λp=>by rw[qz,IW rfl]
  simp only[fL,e1,e2];rfl
section
variable{defs:Hg (HJ×Df)}{fuel d:Ho}{S:aa}{Q:QW}
theorem yg (hg:Is defs ("_law_alike" : HJ) 2 2 du){b:HU}(k:Q (.bl true,S)):wO (aC (ak defs fuel (d+1)) "_law_alike" 2 [.bl b,.bl b] S) Q:=by
 refine al hg rfl rfl λQ' hR=>?_
 show wZ _ _ du [gV (.bl b),gV (.bl b)] S Q';dsimp only[du];refine aF λK hK=>?_
 dsimp only[wS,wT,wE,wV,wG];refine ab (show aL .is (.bl b) .non S=gV (.bl false,S)from rfl) ?_
 dsimp only[wB];refine ah (Q0:=Q') (λz=>by cases z) (λ_ Q2 hn2 _=>aM (hn2 _ _ (hK _ _ ?_)))
 clear hn2 hK K;refine aF λK hK=>?_
 dsimp only[wS,wT,wE,wV,wG];have hb:ny S (.bl b) "bool" = gV true:=rfl;refine ab hb #[λ_=>?_,λz=>by cases z]
 refine ah (Q0:=Q') (λ_ Q2 _ hr2=>?_) (λz=>by cases z)
 refine st ?_;dsimp only[wS,wE,wV,wG];refine ab hb #[λ_=>ab hb #[λ_=>ab (show aL .eq (.bl b) (.bl b) S=gV (.bl (b==b),S)from rfl) ?_,λz=>by cases z],λz=>by cases z]
 rw[IJ];exact hr2 _ _ (hR _ _ k)
theorem pP (hfu:20 < fuel)(F:Fil defs)(B:Bwt defs)(hg:Is defs ("is_unlaid" : HJ) 2 2 dC){ms:Hg W}{ns:Hg HJ}{bs:Hg Hv}{a:Ho}{gs:Hg Wd}{kvs:Hg (T×W)}{w:W}(hb:GoodB bs)(hnl:ns.length=bs.length)(hml:ms.length=a)(hgs:∀g∈gs,GoodW a bs.length g/\g.length=3)(h64:gs.length<=100)(hk:HasD kvs (br bs gs))(hw:xZ a bs kvs (bs.length+1) w)
  (k:∀(b:HU) S',(∀S,aL .isnot w .non S=gV (.bl b,S))->Ka S S'->Q (.bl b,S')) :
  wO (aC (ak defs fuel (d+8)) "is_unlaid" 2 [.tup [.tup ms,.tup (Hy aB ns bs),.tup (gs.map am)],w] S) Q:=by
 refine al hg rfl rfl λQ' hR=>?_
 replace k:∀(b:HU) S',(∀S,aL .isnot w .non S=gV (.bl b,S))->Ka S S'->Q' (.rt (.bl b),S'):=λb S' x y=>hR _ _ (k b S' x y)
 clear hR;show wZ _ _ dC [gV (.tup [.tup ms,.tup (Hy aB ns bs),.tup (gs.map am)]),gV w] S Q';have hb3:bs.length<=3:=by rcases hb with rfl|rfl|rfl|rfl|rfl|rfl <;> decide
 dsimp only[dC];refine st ?_;dsimp only[wS,wE,wA,wV,wG];rcases hw with⟨rfl,_⟩|⟨x,rfl,hC,hF,hxl⟩
 ·exact qW (d:=d+5) B #[λz=>(by cases z),λ_=>k false _ (λ_=>rfl) .refl]
 refine qV (d:=d) hfu F B hb hnl hml hgs h64 hk hC ∅ λS1 k1=>#[λ_=>?_,λz=>by cases z]
 replace k:=λS' a=>k true S' (λ_=>rfl) a
 obtain⟨u,p,q⟩:=x;dsimp only at hC hF hxl;dsimp only[cW];refine ae #v[] rfl (ae #v[] rfl (ae #v[] rfl ?_))
 refine pI (d:=d+2) hfu F B.by' hb hnl hgs h64 hC.gu hC.gp hC.gq ∅ λS2 k2=>?_
 rw[Dc hk];have bl:(dA (λv p=>bH kvs v p u.length (u.length+1)) bs u p q).length=bs.length+1:=mf
 have lk:=mw (c:=bs.length+1) (Y:=dA (λv p=>bH kvs v p u.length (u.length+1)) bs u p q) (f:=aV kvs bs u p q) bl (λi hi=>kM hC.gp hC.gq ∅)
 obtain⟨ni,⟨h1,_⟩|⟨i,hi,_,_,h4,_⟩⟩:=lk
 ·refine ab (pM ni) ?_;rw[h1];exact k _ (k1.trans k2)
 ·rw[hF i hi]at h4; cases h4
theorem yh (hfu:50 < fuel)(L:Lw28 defs){zs:Hg Hv}:∃S',ak defs fuel (d+12) "law" [.ref 0] [.fro (zs.map W.int)]=gV (.bl true,S'):=by
 suffices h:wO (aC (ak defs fuel (d+12)) "law" 1 [.ref 0] [.fro (zs.map W.int)]) (λp=>p.1=.bl true) by
  obtain⟨⟨v,S'⟩,e,q⟩:=bR h;cases(show v=.bl true from q)
  exact#[S',e]
 have G:=L.gen;refine al L.law rfl rfl λQ' hR=>?_
 show wZ _ _ jE [gV (.ref 0),td,td,td,td,td,td] [.fro (zs.map W.int)] Q';unfold jE;refine aF λK hK=>?_
 dsimp only[wS,wE,wA,wV,wG,Hw];refine C4 (d:=d+10) L.flow (ns:=zs) rfl λr S1 _ f1=>hK _ _ ?_
 clear hK K;refine aF λK hK=>?_
 dsimp only[wS,wE,wA,wV,wG,Hw];refine pJ (d:=d+3) ∅ G L.pai f1 λw S2 hw f2 _=>hK _ _ ?_
 clear hK K f1;obtain⟨a,bs,ms,ns,gs0,rfl,hr⟩:=hw;have hb:=hr.size.good;have hnl:=hr.nl;have hml:=hr.ml;have hpos:=hr.size.pos;have ha3:=hr.size.a3;have pm:(iA gs0).Perm gs0:=vF;have hgs:∀g∈iA gs0,GoodW a bs.length g/\g.length=3:=λg hg=>ut hb (hr.mem g (pm.mem_iff.mp hg))
 have h64:(iA gs0).length<=100:=by
  have h1:=nL gs0 _ hr.nd hr.mem;have h2:=nM hr.size;rw[pm.length_eq]; omega
 clear hr pm;unfold cq;generalize iA gs0=gs at hgs h64;clear gs0;have hb1:0 < bs.length:=by rcases hb with rfl|rfl|rfl|rfl|rfl|rfl <;> decide
 have ml:(ms.map W.str).length=a:=by rw[Hh,hml]
 refine aF λK hK=>?_
 dsimp only[wS,wE,wA,wV,wG,Hw];refine Bf (d:=d+8) G L.bad hb hnl hgs h64 λq kvs S3 e3 h3 hq k3=>hK _ _ ?_
 clear hK K;have f3:=f2.ka k3;have hqr:q≠r:=by have:=f2.lt; omega
 clear k3 hq f2;have ul:∀(gs:Hg Wd) (S:aa) (Q:QW),(∀g∈gs,GoodW a bs.length g/\g.length=3)->gs.length<=100->(∀w kvs S',HasD kvs (br bs gs)->xZ a bs kvs (bs.length+1) w->C9 a bs kvs (bs.length+1) w->Ka S S'->Q (w,S'))->wO (aC (ak defs fuel (d+11)) "unlaid" 1 [.tup [.tup (ms.map W.str),.tup (Hy aB ns bs),.tup (gs.map am)]] S) Q:=λgs S Q h1 h2 h=>yb (d:=d) ∅ L.unl hb hnl ml ha3 h1 h2 h
 have tk:∀(kvs:Hg (T×W)) (X:Hg T) (q:Ho) (b0 w:W) (S:aa) (Q:QW),(∀t,(aK kvs t).isSome=decide (t∈X))->S[q]?=gV (.dic kvs)->xZ a bs kvs (bs.length+1) w->(∀S',Ka S S'->Q (.bl true,S'))->wO (aC (ak defs fuel (d+11)) "_law_told_right" 4 [.tup [.tup (ms.map W.str),.tup (Hy aB ns bs),b0],.ref q,w,.bl false] S) Q:=λkvs X q b0 w S Q h1 h2 h3 h=>De (d:=d+7) L.tol (bw:=false) hb hnl ml h1 h2 h3 h
 refine aF λK hK=>?_
 dsimp only[wS,wE,wA,wV,wG,Hw];refine ul gs _ _ hgs h64 λw kvs1 S4 h4 hf1 hd1 k4=>hK _ _ ?_
 clear hK K;have same:∀kvs':Hg (T×W),HasD kvs' (br bs gs)->∀t,(aK kvs' t).isSome=(aK kvs t).isSome:=λkvs' h t=>by rw[h.get,h3.get]
 have hf:=yf (same _ h4) hf1;have e4:=k4.get _ _ e3;have f4:=f3.ka k4;clear hf1 e3 f3 k4;refine aF λK hK=>?_
 dsimp only[wS,wE,wA,wV,wG,Hw];refine tk kvs _ q _ w _ _ h3.get e4 hf λS5 k5=>hK _ _ ?_
 clear hK K;have e5:=k5.get _ _ e4;have f5:=f4.ka k5;clear e4 f4 k5;refine aF λK hK=>?_
 have tl:∀S6:aa,K [gV (.ref 0),gV (.ref r),gV (.tup [.tup (ms.map W.str),.tup (Hy aB ns bs),.tup (gs.map am)]),gV (.ref q),gV w,gV (.bl true),td] S6:=by
  intro S6;refine hK _ _ ?_;clear hK K;refine aF λK hK=>?_
  dsimp only[wS,wT,wE,wA,wV,wG];refine pP (d:=d+3) ∅ L.unl.fil L.bwt L.isu hb hnl ml hgs h64 h3 hf λb S7 hbn _=>?_
  refine ab (hbn _) ?_;refine yg (d:=d+10) L.alike ?_;dsimp only;generalize S7=S8;refine ab (show cw S8 (.bl true)=gV true from rfl) ?_
  refine ah (Q0:=Q') (λz=>by cases z) (λ_ Q2 hn2 _=>aM (hn2 _ _ (hK _ _ ?_)))
  clear hn2 hK K;refine aF λK hK=>?_
  dsimp only[wS,wE,wA,wP,wV,wG,wN,Hw];refine ab (show jg (.tup [.tup (ms.map W.str),.tup (Hy aB ns bs),.tup (gs.map am)]) td (gV 2) S8=gV (.tup [.tup (ms.map W.str),.tup (Hy aB ns bs)],S8)from rfl) ?_
  dsimp only;refine ae #v[] rfl ?_
  refine ab (show jg (.tup (gs.map am)) td (gV (-1)) S8=gV (.tup (gs.dropLast.map am),S8) by simp only[jg,pA,NV]) ?_
  dsimp only;refine ab (bF (dR (J4 rfl))) (hK _ _ ?_);clear hK K;dsimp only[List.cons_append,Mw];have hgs':∀g∈gs.dropLast,GoodW a bs.length g/\g.length=3:=λg hg=>hgs g (List.dropLast_subset _ hg)
  have h64':gs.dropLast.length<=100:=by rw[JM]; omega
  refine st ?_;dsimp only[wS,wE,wA,wV,wG];refine Bf (d:=d+8) G L.bad hb hnl hgs' h64' λq9 kvs9 S9 e9 h9 _ _=>?_
  refine ul gs.dropLast _ _ hgs' h64' λw10 kvs10 S10 h10 hf10 _ k10=>?_
  refine tk kvs9 _ q9 _ w10 _ _ h9.get (k10.get _ _ e9) (yf (λt=>by rw[h10.get,h9.get]) hf10) λS11 _=>?_
  dsimp only[wB];refine#[λ_=>?_,λz=>by cases z]
  refine ul gs _ _ hgs h64 λw12 kvs12 S12 h12 _ hd12 _=>?_
  rw[ya hb1 (λt=>by rw[h12.get,h4.get]) hd12 hd1]
  exact ab (E7 hf) (hR _ _ rfl)
 dsimp only[wS,wT,wE,wA,wV,wG];refine ab (show cw S5 (.bl true)=gV true from rfl) #[λz=>(by cases z),λ_=>?_]
 have hf':=hf;rcases hf' with⟨rfl,hno⟩|⟨x,rfl,_⟩
 ·refine ab (show aL .is .non .non S5=gV (.bl true,S5)from rfl) #[λ_=>?_,λz=>by cases z]
  refine ye (d:=d+6) (bw:=false) G L.pai L.tol L.drw hb hnl ml hpos ha3 h3.get e5 hqr f5 hno λS6 _ _=>?_
  refine ab (show cw S6 (.bl true)=gV true from rfl) ?_
  exact ah (Q0:=Q') (λz=>by cases z) (λ_ Q2 hn2 _=>aM (hn2 _ _ (tl S6)))
 ·refine ab (show aL .is (cW x) .non S5=gV (.bl false,S5)from rfl) #[λz=>(by cases z),λ_=>?_]
  exact ah (Q0:=Q') (λz=>by cases z) (λ_ Q2 hn2 _=>aM (hn2 _ _ (tl S5)))
end
noncomputable def mB (i:Ho):Kk:=PySem.Challenge.pw_layworld_k28_unlaid.main.body.getD i (.Pass #[0,0,0,0])
noncomputable def Bj:Df:=#[["_law_script"],["_law_script","_law_flow_here","_law_rule","_law_bad_here","_law_told","_law_good","_law_looser"],jE]
noncomputable abbrev Tw:=HJ×Ho×Df×Ho
noncomputable abbrev tw (x:HJ)(i:Ho)(d:Df)(a:Ho):Tw:=(x,i,d,a)
noncomputable def TL:Hg Tw:=[tw "is_whole" 1 #[["thing"],["thing"],fD] 21,tw "is_tuple_of" 2 #[["thing","size"],["thing","size"],bU] 28,tw "is_numbers" 3 #[["thing","size"],["thing","size"],dS] 33,tw "is_world" 5 #[["rule","thing"],["rule","thing"],fE] 38,tw "is_point" 6 #[["rule","thing","ahead"],["rule","thing","ahead","mark_there"],fF] 43,tw "has_point_form" 7 #[["thing","ahead"],["thing","ahead"],cj] 50,tw "way" 8 #[["rule","world","i","j"],["rule","world","i","j"],sD] 57,tw "part" 10 #[["rule","world","points"],["rule","world","points"],gX] 62,tw "point_over" 11 #[["rule","world","ahead","point"],["rule","world","ahead","point"],dQ] 67,tw "longer_orders" 12 #[["orders","size"],["orders","size","longer","order"],aW] 72,tw "back" 14 #[["rule","way"],["rule","way"],jd] 79,tw "barred_threes" 16 #[["rule"],["rule","orders","barred","figure","order"],bx] 86,tw "three_at" 17 #[["world","i","j","k"],["world","i","j","k","one","two"],aX] 93,tw "first_barred" 18 #[["rule","world"],["rule","world"],b9] 100,tw "first_three" 19 #[["barred","world"],["barred","world","i","j","k"],bT] 107,tw "first_bar" 20 #[["barred","world"],["barred","world","last","point"],aU] 114,tw "wishes_over" 21 #[["rule","barred","world"],["rule","barred","world","found","mark","heads","size"],cy] 119,tw "longer_wishes" 22 #[["rule","heads"],["rule","heads","longer","mark","ways"],bz] 124,tw "barred_by" 24 #[["rule","base","one","other"],["rule","base","one","other"],dy] 131,tw "all_bars" 25 #[["rule","barred","base","one","other"],["rule","barred","base","one","other","bars"],fu] 136,tw "with_both" 26 #[["rule","base","one","other","number"],["rule","base","one","other","number"],dz] 143,tw "same_bar" 27 #[["one","other"],["one","other","apart"],en] 148,tw "unlaid" 29 #[["rule"],["rule"],iI] 155,tw "first_unfilled" 30 #[["rule","counted"],["rule","counted","barred","mark","other","found"],ci] 162,tw "unfilled_behind" 31 #[["rule","barred","tried","counted"],["rule","barred","tried","counted","bars","place","longer","found"],bE] 169,tw "longer_by_a_point" 32 #[["rule","barred","tried"],["rule","barred","tried","longer","point","base","others","one"],bK] 174,tw "longer_by_a_way" 33 #[["rule","barred","base","wish"],["rule","barred","base","wish","longer"],bD] 179,tw "is_unlaid" 34 #[["rule","thing"],["rule","thing"],dC] 186,tw "is_base_with_two" 35 #[["rule","thing"],["rule","thing"],aR] 191,tw "_law_flow" 37 #[["_law_script"],["_law_script"],ee] 198,tw "_law_pick" 38 #[["_law_flow_here","_law_many"],["_law_flow_here","_law_many","_law_cell","_law_digit"],cL] 205,tw "_law_names" 39 #[["_law_flow_here","_law_many"],["_law_flow_here","_law_many"],eF] 210,tw "_law_between" 40 #[["_law_rule","_law_world_here","_law_i","_law_j"],["_law_rule","_law_world_here","_law_i","_law_j"],dk] 217,tw "_law_part" 41 #[["_law_rule","_law_world_here","_law_points"],["_law_rule","_law_world_here","_law_points","_law_told","_law_k","_law_i"],fg] 222,tw "_law_turns" 42 #[[],[],fX] 229,tw "_law_figure" 43 #[["_law_rule","_law_three"],["_law_rule","_law_three"],dN] 234,tw "_law_bad" 44 #[["_law_rule"],["_law_rule","_law_bad_here","_law_three","_law_points"],eT] 241,tw "_law_may" 45 #[["_law_rule","_law_bad_here","_law_world_here"],["_law_rule","_law_bad_here","_law_world_here","_law_k"],eX] 248,tw "_law_last_may" 46 #[["_law_rule","_law_bad_here","_law_world_here","_law_k"],["_law_rule","_law_bad_here","_law_world_here","_law_k","_law_mark","_law_to","_law_j","_law_i"],aG] 255,tw "_law_backs" 47 #[["_law_flow_here","_law_many"],["_law_flow_here","_law_many","_law_menu"],eC] 262,tw "_law_rule_of" 48 #[["_law_flow_here","_law_marks","_law_backs_here","_law_barred"],["_law_flow_here","_law_marks","_law_backs_here","_law_barred","_law_names_here","_law_ways"],dm] 267,tw "_law_free_three" 49 #[["_law_flow_here","_law_marks","_law_ways"],["_law_flow_here","_law_marks","_law_ways","_law_told","_law_k"],cg] 272,tw "_law_sizes" 50 #[["_law_flow_here"],["_law_flow_here","_law_menu"],eE] 279,tw "_law_any_rule" 51 #[["_law_flow_here"],["_law_flow_here","_law_marks","_law_ways","_law_rule","_law_barred","_law_k"],cX] 286,tw "_law_laying_kind" 52 #[["_law_flow_here"],["_law_flow_here","_law_menu"],b7] 293,tw "_law_breaks" 53 #[["_law_backs_here","_law_must","_law_to_one","_law_to_two","_law_between_here"],["_law_backs_here","_law_must","_law_to_one","_law_to_two","_law_between_here","_law_to","_law_pair_here","_law_x","_law_y","_law_z"],dO] 300,tw "_law_numbered" 54 #[["_law_flow_here","_law_backs_here","_law_must"],["_law_flow_here","_law_backs_here","_law_must","_law_many","_law_menu","_law_some","_law_numbers","_law_told","_law_k","_law_other","_law_u","_law_v"],bj] 305,tw "_law_laying_rule" 55 #[["_law_flow_here"],["_law_flow_here","_law_form","_law_backs_here","_law_must","_law_most","_law_marks","_law_rule","_law_barred","_law_many","_law_at","_law_one","_law_two","_law_between_here","_law_some","_law_first"],b8] 312,tw "_law_rising" 56 #[["_law_marks"],["_law_marks","_law_told","_law_i","_law_j"],dP] 317,tw "_law_free_rule" 57 #[["_law_flow_here"],["_law_flow_here","_law_marks","_law_ways","_law_rule","_law_k","_law_own","_law_free","_law_barred","_law_three"],cD] 322,tw "_law_one_way_rule" 58 #[["_law_flow_here"],["_law_flow_here","_law_marks","_law_barred"],bO] 327,tw "_law_unlaying_rule" 59 #[["_law_flow_here"],["_law_flow_here","_law_form","_law_rule","_law_barred","_law_some","_law_one","_law_two","_law_between_here","_law_first","_law_marks"],bc] 332,tw "_law_new_ways" 60 #[["_law_flow_here","_law_rule","_law_bad_here","_law_world_here","_law_mark","_law_to"],["_law_flow_here","_law_rule","_law_bad_here","_law_world_here","_law_mark","_law_to","_law_k","_law_left","_law_w","_law_seen","_law_i"],aP] 339,tw "_law_world" 61 #[["_law_flow_here","_law_rule","_law_bad_here","_law_many"],["_law_flow_here","_law_rule","_law_bad_here","_law_many","_law_world_here","_law_k","_law_mark","_law_to"],dw] 346,tw "_law_alike" 62 #[["_law_found","_law_due"],["_law_found","_law_due"],du] 351,tw "_law_some_rule" 63 #[["_law_flow_here"],["_law_flow_here","_law_form"],cF] 358,tw "_law_new_point" 64 #[["_law_flow_here","_law_rule","_law_bad_here","_law_base"],["_law_flow_here","_law_rule","_law_bad_here","_law_base","_law_first","_law_k","_law_mark","_law_to"],cG] 365,tw "_law_near" 65 #[["_law_flow_here","_law_rule","_law_bad_here","_law_base","_law_point"],["_law_flow_here","_law_rule","_law_bad_here","_law_base","_law_point","_law_mark","_law_to","_law_kind","_law_at"],fA] 372,tw "_law_pair" 66 #[["_law_flow_here","_law_rule","_law_bad_here","_law_many"],["_law_flow_here","_law_rule","_law_bad_here","_law_many","_law_base","_law_one","_law_other"],fB] 379,tw "_law_both" 67 #[["_law_rule","_law_base","_law_one","_law_other","_law_number"],["_law_rule","_law_base","_law_one","_law_other","_law_number"],dh] 386,tw "_law_fills" 68 #[["_law_rule","_law_bad_here","_law_base","_law_one","_law_other"],["_law_rule","_law_bad_here","_law_base","_law_one","_law_other","_law_found","_law_number"],dB] 393,tw "_law_is_world" 69 #[["_law_rule","_law_thing"],["_law_rule","_law_thing","_law_k","_law_point","_law_number","_law_numbers","_law_many"],ce] 398,tw "_law_unfilled" 70 #[["_law_rule","_law_bad_here","_law_thing","_law_by_ways"],["_law_rule","_law_bad_here","_law_thing","_law_by_ways","_law_base","_law_one","_law_other","_law_point","_law_found"],c9] 405,tw "_law_told_right" 71 #[["_law_rule","_law_bad_here","_law_told","_law_by_ways"],["_law_rule","_law_bad_here","_law_told","_law_by_ways","_law_most"],cm] 412,tw "_law_drawn_filled" 72 #[["_law_flow_here","_law_rule","_law_bad_here","_law_turns_here","_law_by_ways"],["_law_flow_here","_law_rule","_law_bad_here","_law_turns_here","_law_by_ways","_law_k","_law_base","_law_one","_law_other","_law_found"],bn] 419,tw "law" 73 Bj 426]
noncomputable def jq:Hg (HJ×Df):=TL.map λp=>(p.1,p.2.2.1)
noncomputable def GC:Hg (HJ×Ho):=TL.map λp=>(p.1,p.2.2.1.ps.length)
noncomputable def AE:Hg HJ:=["range","len","list","tuple","int","sorted","isinstance","bool","str","all","min","enumerate"]
noncomputable def Do:Md:=#[GC,AE]
noncomputable def BD (x:HJ)(st:Kk)(df:Df):Prop:=∀(kV doc pm:Hj) (an:Hn Ht) (cdv ct:Hj) (us:Hg Hj),us.length=df.ps.length->bindArgs (JH x x (dI st) (cz st) (aS st) .none kV doc pm an cdv ct) #[us,[]]=pure (df.ps.zip us)
theorem G5 {us:Hg Hj}(h:us.length=0):us=[]:=match us,h with|[],_=>rfl
theorem G6 {us:Hg Hj}(h:us.length=1):∃a,us=[a]:=match us,h with|[a],_=>#[a,rfl]
theorem G7 {us:Hg Hj}(h:us.length=2):∃a b,us=[a,b]:=match us,h with|[a,b],_=>#[a,b,rfl]
theorem G8 {us:Hg Hj}(h:us.length=3):∃a b c,us=[a,b,c]:=match us,h with|[a,b,c],_=>#[a,b,c,rfl]
theorem G9 {us:Hg Hj}(h:us.length=4):∃a b c d,us=[a,b,c,d]:=match us,h with|[a,b,c,d],_=>#[a,b,c,d,rfl]
theorem Ha {us:Hg Hj}(h:us.length=5):∃a b c d e,us=[a,b,c,d,e]:=match us,h with|[a,b,c,d,e],_=>#[a,b,c,d,e,rfl]
theorem Hb {us:Hg Hj}(h:us.length=6):∃a b c d e f,us=[a,b,c,d,e,f]:=match us,h with|[a,b,c,d,e,f],_=>#[a,b,c,d,e,f,rfl]
noncomputable def DG (p:Tw):Prop:=Ej Do (mB p.2.1) p.2.2.1/\FnScope p.2.2.1.N p.2.2.1.ps (aS (mB p.2.1))/\BD p.1 (mB p.2.1) p.2.2.1
theorem gc {α:Type}{F:α->Prop}{p:α}{L:Hg α}(a:F p)(b:∀q∈L,F q):∀q∈p::L,F q:=List.forall_mem_cons.mpr #[a,b]
theorem gn {α:Type}{F:α->Prop}:∀q∈([]:Hg α),F q:=λ_ h=>nomatch h
theorem Hc {p:Tw}(a:r8 (cS 20 (wt Do (mB p.2.1) p.2.2.1.N)) (cz (mB p.2.1))=gV p.2.2.1.body)(b:FnScope p.2.2.1.N p.2.2.1.ps (aS (mB p.2.1)))(c:BD p.1 (mB p.2.1) p.2.2.1):DG p:=#[a,b,c]
set_option maxHeartbeats 0 in
theorem Bk:∀p∈TL,DG p:=by
 unfold TL
 repeat refine gc (Hc (by kernel_rfl) #[rfl,rfl,rfl,by decide +kernel,rfl,by decide +kernel,by decide +kernel] λ_ _ _ _ _ _ us h=>by
  first
   | (obtain⟨a,rfl⟩:=G6 h; rfl)
   | (obtain⟨a,b,rfl⟩:=G7 h; rfl)
   | (obtain⟨a,b,c,rfl⟩:=G8 h; rfl)
   | (obtain⟨a,b,c,d,rfl⟩:=G9 h; rfl)
   | (obtain⟨a,b,c,d,e,rfl⟩:=Ha h; rfl)
   | (obtain⟨a,b,c,d,e,f,rfl⟩:=Hb h; rfl)
   | (obtain rfl:=G5 h; rfl)) ?_
 exact gn
theorem Hd {f:HJ}{m n:Ho}{b:Ss}(h:((jq.lookup f).map λd=>(d.ps.length,d.N.length,d.body))=gV (m,n,b)):Is jq f m n b:=by
 rw[Hl]at h;obtain⟨d,h1,h2⟩:=h;rw[O7,O7]at h2;exact#[d,h1,h2.1,h2.2.1,h2.2.2]
set_option maxHeartbeats 0 in
theorem E8:Lw28 jq:=by
 repeat' first
  | exact Hd (by kernel_rfl)
  | constructor
theorem kS:∀(L:Hg Tw) (x:HJ) (n:Ho),(L.map λp=>(p.1,p.2.2.1.ps.length)).lookup x=gV n->∃p∈L,p.1=x/\p.2.2.1.ps.length=n/\(L.map λp=>(p.1,p.2.2.1)).lookup x=gV p.2.2.1
 | [],x,n,h=>by cases h
 | p::L,x,n,h=>by
  rw[IZ,Jm]at h;rw[IZ,Jm];cases e:x==p.1 with
  | true=>
   rw[e]at h;cases h;exact#[p,Jh ..,(eq_of_beq e).symm,rfl,rfl]
  | false=>
   rw[e]at h;obtain⟨q,h1,h2,h3,h4⟩:=kS L x n h;exact#[q,II _ h1,h2,h3,h4]
section
variable{P:Ik}{w:Ix}{K:HA}{mg:HJ->Hn Hj}{base:IG}
noncomputable def yi (K:HA)(mg:HJ->Hn Hj)(x:HJ)(st:Kk)(df:Df):Prop:=∃(f:Ht) (fd:J0),Fun K x x st f fd/\mg x=gV (.ref f)/\Jd K (.ref f)=true/\Binds K fd df.ps []
theorem Dg {h:IG}{x:HJ}{st:Kk}{df:Df}{f:Ht}{oc:Hj}{od an:Hn Ht}{osl:IC (Hn Hj)}{kV doc pm cdv ct:Hj}(X:K.In h)(G:h.Ns mainGlobals mg)
  (b:BD x st df)
  (a:KM K mainGlobals x=gV (gV (.ref f))) (l:K.lookup f=gV #[oc,od,.func (JH x x (dI st) (cz st) (aS st) .none kV doc pm an cdv ct),osl]) (c:Ko K cdv x=true) (k:Jd K (.ref f)=true):yi K mg x st df:=
 have F:=u9 (st:=st) l c k
 #[f,_,F,O8 X G a,k,F.binds b]
theorem yj {fuel:Ho}(hb:MdOk w K mg Do)(D:∀p∈TL,yi K mg p.1 (mB p.2.1) p.2.2.1):∀d,AS P w K mg base Do jq fuel d
 | 0=>λf n h=>by
  obtain⟨p,h1,rfl,h2,h3⟩:=kS TL f n h;obtain⟨fa,fd,F,m,kp,b⟩:=D p h1;refine#[fa,fd,p.2.2.1.ps,#[λvs H Q E z=>?_,λA outer s H args us vs Q E hr he hbd hv z=>?_],m,kp,b]
  all_goals
   obtain⟨_,_,_,_,_,_,_,_,z,_⟩:=z;cases z
 | d+1=>λf n h=>by
  obtain⟨p,h1,rfl,h2,h3⟩:=kS TL f n h;obtain⟨g1,g2,_⟩:=Bk p h1;obtain⟨fa,fd,F,m,kp,b⟩:=D p h1;refine#[fa,fd,p.2.2.1.ps,?_,m,kp,b];rw[<- h2];exact AT F g2 h3 g1 hb (yj hb D d)
theorem E9 {h:IG}(X:K.In h)(G:h.Ns mainGlobals mg)(z:∀y∈AE,KM K mainGlobals y=gV td):MdOk w K mg Do:=#[λy hy=>PySem.W.mg_none_of X G (z y hy)]
end
theorem Dh {l:Mx}{w:Ix}{K:HA}{h:IG}{mg:HJ->Hn Hj}{fa f:Ht}(X:K.In h)(G:h.Ns mainGlobals mg)(hfa:mg "law" = gV (.ref fa))(hb:MdOk w K mg Do)(D:∀p∈TL,yi K mg p.1 (mB p.2.1) p.2.2.1)
  {oc:Hj} {od an:Hn Ht} {osl:IC (Hn Hj)} {kV doc pm cdv ct:Hj} (a:KM K mainGlobals "law" = gV (gV (.ref f))) (l':K.lookup f=gV #[oc,od,.func (JH "law" "law" (dI (mB 73)) (cz (mB 73)) (aS (mB 73)) .none kV doc pm an cdv ct),osl]) (c:Ko K cdv "law" = true) (k:Jd K (.ref f)=true) :
  ∃fd:J0,(∀(s:Hm) (v:Hj),ND s fd #[[v],[]] [("_law_script",v)])/\∀base:IG,K.In base->base.Ns mainGlobals mg->FnOk l.prog w K mg base uE 12 fa fd ["_law_script"] (vQ w K 1 (ak jq 100 12 "law")):=by
 have e:=hfa.symm.trans (O8 X G a);cases e;have F:=u9 (st:=mB 73) l' c k;exact#[JH "law" "law" (dI (mB 73)) (cz (mB 73)) (aS (mB 73)) .none kV doc pm an cdv ct,λs v=>.of_eq rfl,λbase _ _=>AT (df:=Bj) F #[rfl,rfl,rfl,by decide +kernel,rfl,by decide +kernel,by decide +kernel] (by rfl) (by rfl) hb (yj hb D 11)]
theorem GD {l:Mx}{q:Ik}{loose:Hg HJ}{XP:(HJ->Hn Hj)->IG->Prop}{YP:Ix->IG->Prop}{d:DefRec}{K:No->HA}(hn:l.most=gV 63)(hdf:d.params.defaults=[])
  (hY:∀(w:Ix) (h:IG),YP w h->(K w.params).In h)
  (F:∀(w:Ix) (mg:HJ->Hn Hj) (fa:Ht) (h:IG),(K w.params).In h->h.Ns mainGlobals mg->mg d.name=gV (.ref fa)->
   ∃fd:J0,(∀(s:Hm) (u:Hj),ND s fd #[[u],[]] [("_law_script",u)])/\∀base:IG,(K w.params).In base->base.Ns mainGlobals mg->FnOk l.prog w (K w.params) mg base uE 12 fa fd ["_law_script"] (vQ w (K w.params) 1 (ak jq 100 12 "law"))) :
  OZ q loose XP YP l.row.toRowW d [] (λf vs=>OE f vs):=
 L2.yP (n:=63) (k:=12) (x:="_law_script") (CX:=λ_=>uE) (sp:=λw=>vQ w (K w.params) 1 (ak jq 100 12 "law")) hn #v[] hdf #[rfl,#v[],#v[]] hY F
  (λw H a ns hl hO hS=>CB (yh (defs:=jq) (fuel:=100) (d:=0) #v[] E8) hO hS) λ_ _ _ _ _ z=>z
end Mi
open PySem PySem.W PyProof.Rows L2
set_option maxHeartbeats 0
namespace Mi
section
noncomputable def pw:Ik:=MU
noncomputable def ge (P:No)(n:HJ)(t:Ho)(v:Hj):JN:=#[PyData.keyHash P n,.str n t,v]
noncomputable def kd (a:Ho)(es:Hg JN)(n:Ho):Ht×Jo:=(a,#[.type "dict",td,.dict es.toArray n,#[]])
noncomputable def kc (a:Ho)(vs:Hg Hj):Ht×Jo:=(a,#[.type "code",td,.fields vs.toArray,#[]])
noncomputable def kf (a:Ho)(st:Kk)(n:HJ)(pm cd:Hj):Ht×Jo:=(a,#[.type "function",td,.func (JH n n (dI st) (cz st) (aS st) .none .none .none pm td cd .none),#[]])
noncomputable def GF (i:Ho):Hj:=if i<=3 then(.str "layworld.kinds" 187)else if i<=8 then(.str "layworld.worlds" 210)else if i<=12 then(.str "layworld.parts" 242)else if i<=14 then(.str "layworld.rules" 262)else if i<=22 then(.str "layworld.threes" 272)else if i<=27 then(.str "layworld.fillings" 338)else if i<=35 then(.str "layworld.always" 373)else(.str "law_layworld_k28_unlaid" 434)
noncomputable def kx (a:Ho)(b:HU)(i:Ho)(s:HJ)(t:Ho)(l p:Hv)(m:Ho)(R:HA):HA:=kc a [.str s t,.str s (t+1),.str "/claim/cut.py" (t+2),.int l 0,.int p 0,.int 0 0,.int 0 0,.int 3 0,.ref (if b then a - 5 else a - 3),.bool true,.int 181 0,.ref (if b then a - 4 else a - 2),.none,if b then .ref (a - 3)else .none,if b then .ref (a - 2)else .none,.ref (a - 1),.int m 0,.int l 0,.str "/claim/cut.py" (m+1)]::kf (a+1) (mB i) s (GF i) (.ref a)::R
noncomputable def K0 (P:No):HA:=kd 3 [ge P "__name__" 165 (.str "law_layworld_k28_unlaid" 434),ge P "__doc__" 166 .none,ge P "__package__" 167 .none,ge P "__loader__" 168 (.builtin "__main__.__loader__#opaque"),ge P "__spec__" 169 .none,ge P "__annotations__" 170 (.ref 6),ge P "__builtins__" 171 (.ref 4),ge P "__file__" 173 (.str "/claim/cut.py" 172),ge P "__cached__" 174 .none,ge P "is_whole" 195 (.ref 21),ge P "is_tuple_of" 203 (.ref 28),ge P "is_numbers" 209 (.ref 33),ge P "is_world" 217 (.ref 38),ge P "is_point" 223 (.ref 43),ge P "has_point_form" 231 (.ref 50),ge P "way" 241 (.ref 57),ge P "part" 249 (.ref 62),ge P "point_over" 255 (.ref 67),ge P "longer_orders" 261 (.ref 72),ge P "back" 271 (.ref 79),ge P "barred_threes" 284 (.ref 86),ge P "three_at" 296 (.ref 93),ge P "first_barred" 304 (.ref 100),ge P "first_three" 315 (.ref 107),ge P "first_bar" 325 (.ref 114),ge P "wishes_over" 331 (.ref 119),ge P "longer_wishes" 337 (.ref 124),ge P "barred_by" 349 (.ref 131),ge P "all_bars" 355 (.ref 136),ge P "with_both" 366 (.ref 143),ge P "same_bar" 372 (.ref 148),ge P "unlaid" 381 (.ref 155),ge P "first_unfilled" 393 (.ref 162),ge P "unfilled_behind" 407 (.ref 169),ge P "longer_by_a_point" 413 (.ref 174),ge P "longer_by_a_way" 419 (.ref 179),ge P "is_unlaid" 427 (.ref 186),ge P "is_base_with_two" 433 (.ref 191),ge P "_law_flow" 442 (.ref 198),ge P "_law_pick" 452 (.ref 205),ge P "_law_names" 458 (.ref 210),ge P "_law_between" 468 (.ref 217),ge P "_law_part" 474 (.ref 222),ge P "_law_turns" 480 (.ref 229),ge P "_law_figure" 486 (.ref 234),ge P "_law_bad" 496 (.ref 241),ge P "_law_may" 506 (.ref 248),ge P "_law_last_may" 520 (.ref 255),ge P "_law_backs" 529 (.ref 262),ge P "_law_rule_of" 535 (.ref 267),ge P "_law_free_three" 541 (.ref 272),ge P "_law_sizes" 549 (.ref 279),ge P "_law_any_rule" 561 (.ref 286),ge P "_law_laying_kind" 569 (.ref 293),ge P "_law_breaks" 585 (.ref 300),ge P "_law_numbered" 591 (.ref 305),ge P "_law_laying_rule" 612 (.ref 312),ge P "_law_rising" 618 (.ref 317),ge P "_law_free_rule" 624 (.ref 322),ge P "_law_one_way_rule" 630 (.ref 327),ge P "_law_unlaying_rule" 636 (.ref 332),ge P "_law_new_ways" 653 (.ref 339),ge P "_law_world" 667 (.ref 346),ge P "_law_alike" 673 (.ref 351),ge P "_law_some_rule" 681 (.ref 358),ge P "_law_new_point" 695 (.ref 365),ge P "_law_near" 710 (.ref 372),ge P "_law_pair" 723 (.ref 379),ge P "_law_both" 734 (.ref 386),ge P "_law_fills" 747 (.ref 393),ge P "_law_is_world" 753 (.ref 398),ge P "_law_unfilled" 768 (.ref 405),ge P "_law_told_right" 779 (.ref 412),ge P "_law_drawn_filled" 795 (.ref 419),ge P "law" 808 (.ref 426)] 75::(kx 20 true 1 "is_whole" 189 2 1 193
 (kx 27 true 2 "is_tuple_of" 196 4 2 201
 (kx 32 false 3 "is_numbers" 204 6 2 207
 (kx 37 false 5 "is_world" 212 9 2 215
 (kx 42 false 6 "is_point" 218 11 3 221
 (kx 49 true 7 "has_point_form" 224 16 2 229
 (kx 56 true 8 "way" 232 18 4 239
 (kx 61 false 10 "part" 244 23 3 247
 (kx 66 false 11 "point_over" 250 25 4 253
 (kx 71 false 12 "longer_orders" 256 27 2 259
 (kx 78 true 14 "back" 264 33 2 269
 (kx 85 true 16 "barred_threes" 274 36 1 282
 (kx 92 true 17 "three_at" 285 45 4 294
 (kx 99 true 18 "first_barred" 297 49 2 302
 (kx 106 true 19 "first_three" 305 51 2 313
 (kx 113 true 20 "first_bar" 316 58 2 323
 (kx 118 false 21 "wishes_over" 326 64 3 329
 (kx 123 false 22 "longer_wishes" 332 72 2 335
 (kx 130 true 24 "barred_by" 340 78 4 347
 (kx 135 false 25 "all_bars" 350 80 5 353
 (kx 142 true 26 "with_both" 356 83 5 364
 (kx 147 false 27 "same_bar" 367 85 2 370
 (kx 154 true 29 "unlaid" 375 91 1 379
 (kx 161 true 30 "first_unfilled" 382 93 2 391
 (kx 168 true 31 "unfilled_behind" 394 101 4 405
 (kx 173 false 32 "longer_by_a_point" 408 112 3 411
 (kx 178 false 33 "longer_by_a_way" 414 120 4 417
 (kx 185 true 34 "is_unlaid" 420 123 2 425
 (kx 190 false 35 "is_base_with_two" 428 125 2 431
 (kx 197 true 37 "_law_flow" 436 132 1 440
 (kx 204 true 38 "_law_pick" 443 134 2 450
 (kx 209 false 39 "_law_names" 453 149 2 456
 (kx 216 true 40 "_law_between" 459 151 4 466
 (kx 221 false 41 "_law_part" 469 155 3 472
 (kx 228 true 42 "_law_turns" 475 161 0 478
 (kx 233 false 43 "_law_figure" 481 163 2 484
 (kx 240 true 44 "_law_bad" 487 165 1 494
 (kx 247 true 45 "_law_may" 497 171 3 504
 (kx 254 true 46 "_law_last_may" 507 176 4 518
 (kx 261 true 47 "_law_backs" 521 183 2 527
 (kx 266 false 48 "_law_rule_of" 530 186 4 533
 (kx 271 false 49 "_law_free_three" 536 190 3 539
 (kx 278 true 50 "_law_sizes" 542 195 1 547
 (kx 285 true 51 "_law_any_rule" 550 198 1 559
 (kx 292 true 52 "_law_laying_kind" 562 205 1 567
 (kx 299 true 53 "_law_breaks" 570 214 5 583
 (kx 304 false 54 "_law_numbered" 586 222 3 589
 (kx 311 true 55 "_law_laying_rule" 592 237 1 610
 (kx 316 false 56 "_law_rising" 613 257 1 616
 (kx 321 false 57 "_law_free_rule" 619 263 1 622
 (kx 326 false 58 "_law_one_way_rule" 625 276 1 628
 (kx 331 false 59 "_law_unlaying_rule" 631 280 1 634
 (kx 338 true 60 "_law_new_ways" 637 295 6 651
 (kx 345 true 61 "_law_world" 654 308 4 665
 (kx 350 false 62 "_law_alike" 668 316 2 671
 (kx 357 true 63 "_law_some_rule" 674 328 1 679
 (kx 364 true 64 "_law_new_point" 682 335 4 693
 (kx 371 true 65 "_law_near" 696 343 5 708
 (kx 378 true 66 "_law_pair" 711 354 4 721
 (kx 385 true 67 "_law_both" 724 366 5 732
 (kx 392 true 68 "_law_fills" 735 368 5 745
 (kx 397 false 69 "_law_is_world" 748 374 2 751
 (kx 404 true 70 "_law_unfilled" 754 383 4 766
 (kx 411 true 71 "_law_told_right" 769 392 4 777
 (kx 418 true 72 "_law_drawn_filled" 780 395 5 793
 (kx 425 true 73 "law" 796 402 1 806 []))))))))))))))))))))))))))))))))))))))))))))))))))))))))))))))))))
noncomputable def GU:Hg Ho:=[3,20,21,27,28,32,33,37,38,42,43,49,50,56,57,61,62,66,67,71,72,78,79,85,86,92,93,99,100,106,107,113,114,118,119,123,124,130,131,135,136,142,143,147,148,154,155,161,162,168,169,173,174,178,179,185,186,190,191,197,198,204,205,209,210,216,217,221,222,228,229,233,234,240,241,247,248,254,255,261,262,266,267,271,272,278,279,285,286,292,293,299,300,304,305,311,312,316,317,321,322,326,327,331,332,338,339,345,346,350,351,357,358,364,365,371,372,378,379,385,386,392,393,397,398,404,405,411,412,418,419,425,426]
noncomputable def vq:Ik:={ pw with main:={ pw.main with body:=[mB 73] } }
noncomputable def lo:Hg HJ:=[("is_whole" : HJ),("is_tuple_of" : HJ),("is_numbers" : HJ),("is_world" : HJ),("is_point" : HJ),("has_point_form" : HJ),("way" : HJ),("part" : HJ),("point_over" : HJ),("longer_orders" : HJ),("back" : HJ),("barred_threes" : HJ),("three_at" : HJ),("first_barred" : HJ),("first_three" : HJ),("first_bar" : HJ),("wishes_over" : HJ),("longer_wishes" : HJ),("barred_by" : HJ),("all_bars" : HJ),("with_both" : HJ),("same_bar" : HJ),("unlaid" : HJ),("first_unfilled" : HJ),("unfilled_behind" : HJ),("longer_by_a_point" : HJ),("longer_by_a_way" : HJ),("is_unlaid" : HJ),("is_base_with_two" : HJ),("_law_flow" : HJ),("_law_pick" : HJ),("_law_names" : HJ),("_law_between" : HJ),("_law_part" : HJ),("_law_turns" : HJ),("_law_figure" : HJ),("_law_bad" : HJ),("_law_may" : HJ),("_law_last_may" : HJ),("_law_backs" : HJ),("_law_rule_of" : HJ),("_law_free_three" : HJ),("_law_sizes" : HJ),("_law_any_rule" : HJ),("_law_laying_kind" : HJ),("_law_breaks" : HJ),("_law_numbered" : HJ),("_law_laying_rule" : HJ),("_law_rising" : HJ),("_law_free_rule" : HJ),("_law_one_way_rule" : HJ),("_law_unlaying_rule" : HJ),("_law_new_ways" : HJ),("_law_world" : HJ),("_law_alike" : HJ),("_law_some_rule" : HJ),("_law_new_point" : HJ),("_law_near" : HJ),("_law_pair" : HJ),("_law_both" : HJ),("_law_fills" : HJ),("_law_is_world" : HJ),("_law_unfilled" : HJ),("_law_told_right" : HJ),("_law_drawn_filled" : HJ)]
noncomputable def EL (K:HA)(p:Tw):Prop:=KM K mainGlobals p.1=gV (gV (.ref p.2.2.2))/\K.lookup p.2.2.2=gV (kf p.2.2.2 (mB p.2.1) p.1 (GF p.2.1) (.ref (p.2.2.2 - 1))).2/\Ko K (.ref (p.2.2.2 - 1)) p.1=true/\Jd K (.ref p.2.2.2)=true
theorem He {K:HA}{p:Tw}(e:KM K mainGlobals p.1=gV (gV (.ref p.2.2.2)))(l:K.lookup p.2.2.2=gV (kf p.2.2.2 (mB p.2.1) p.1 (GF p.2.1) (.ref (p.2.2.2 - 1))).2)(c:Ko K (.ref (p.2.2.2 - 1)) p.1=true)(k:Jd K (.ref p.2.2.2)=true):EL K p:=#[e,l,c,k]
theorem Fa (P:No):∀p∈TL,EL (K0 P) p:=by
 unfold TL
 repeat refine gc (He (by kernel_rfl) (by kernel_rfl) (by kernel_rfl) (by kernel_rfl)) ?_
 exact gn
theorem Fb (P:No):∀y∈AE,KM (K0 P) mainGlobals y=gV td:=by
 unfold AE
 repeat refine gc (F:=λy=>KM (K0 P) mainGlobals y=gV td) (by kernel_rfl) ?_
 exact gn
theorem eK:∀P,GU=(K0 P).map (·.1):=λ_=>by kernel_rfl
noncomputable def hk:PySem.W.Hook:=PySem.W.kHook K0 GU eK
theorem hl:PySem.W.LeftO pw vq lo (λs=>Pj vq [] s&&O9 [] s) hk.obs hk.val 4286:=λw=>by kernel_rfl
theorem s0:PySem.Challenge.rw_layworld_k28_unlaid.row.wellSaid=true:=by kernel_rfl
end
end Mi
end ZZ.Lean
open ZZ.Lean
theorem PySem.Challenge.cw_layworld_k28_unlaid_holds : PySem.Challenge.rw_layworld_k28_unlaid.Holds := by
 w_on
 refine PySem.W.holds_law (Iz (Iz (Iz (Iz (Iz (Iz (Iz (Iz (Iz (Iz (Iz (Iz (Iz (Iz (Iz (Iz (Iz (Iz (Mi.s0) (by kernel_rfl)) (by kernel_rfl)) (by kernel_rfl)) (by kernel_rfl)) (by kernel_rfl)) (by kernel_rfl)) (by kernel_rfl)) (by kernel_rfl)) (by kernel_rfl)) (by kernel_rfl)) (by kernel_rfl)) (by kernel_rfl)) (by kernel_rfl)) (by kernel_rfl)) (by kernel_rfl)) (by kernel_rfl)) (by kernel_rfl)) (by kernel_rfl)) (λsaid=>?_)
 refine PySem.W.holds_open (q:=Mi.vq) (loose:=Mi.lo) (Xt:=λs=>Pj Mi.vq [] s&&O9 [] s) (XP:=PySem.W.XL Mi.vq []) (Yf:=Mi.hk.obs) (Ya:=Mi.hk.val) (YP:=Mi.hk.says) (N:=4286) Mi.hl Mi.hk.of Mi.hk.keeps (λs e=>PySem.W.xl_of s (MV.mp e).1) P4 (by rfl) (by rfl) (by rfl) (λs e=>PySem.W.recFacts_of (MV.mp e).2) (by rfl) said (by decide +kernel) #[rfl,rfl,rfl,rfl,rfl,by decide +kernel] ?hw ?hc
 case hw=>w_witness2
 case hc=>
 refine Mi.GD (l:=MW) (K:=Mi.K0) rfl rfl (λw h Y=>PySem.W.kIn_of Y) ?F
 case F=>
  intro w mg fa h KX G hmg;exact Mi.Dh KX G hmg (Mi.E9 KX G (Mi.Fb w.params)) (λp hp=>let ⟨e,l,c,k⟩:=Mi.Fa w.params p hp; Mi.Dg KX G (Mi.Bk p hp).2.2 e l c k)
   (f:=426) (oc:=.type "function") (od:=td) (an:=td) (osl:=#[]) (kV:=.none) (doc:=.none) (pm:=(.str "law_layworld_k28_unlaid" 434)) (cdv:=.ref 425) (ct:=.none) (by kernel_rfl) (by kernel_rfl) (by kernel_rfl) (by kernel_rfl)
