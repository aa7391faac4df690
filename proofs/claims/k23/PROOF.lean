import PyProof.Rows.All
import Wide.All
import OpenK.AllK
import Wide.FinOn
import Lean
import PyProof.EqAt
import PyProof.EqKinds
import PyProof.TupleCall
import KE.KDictList
import PyProof.SetKind
import PyProof.IsRules
import KE.KSortTup
import PyProof.ZipIter
import PyProof.Draws
import PyProof.EnumMake
import PyProof.WalksEnum
import PySem.Challenge.RW_layworld_k23_fillings
noncomputable section
open Option renaming some→gV,none→td
open _root_ renaming List→HC,Option→HI,Nat→HJ,Int→HY,Bool→Ir,if_pos→Iv,decide_eq_true_eq→Iy,decide_eq_false→ID,if_neg→IK,beq_self_eq_true→IR,Array→IW,of_decide_eq_true→Jm,False→Jn,String→Jp,decide_eq_true→JO,if_false→Kq,if_true→KJ,DecidableEq→KM,of_decide_eq_false→Lb,or_false→Lj,beq_eq_false_iff_ne→LG,decide_eq_false_iff_not→Mn,True→Nz,bne_self_eq_false→NS,dif_pos→PU
open PySem renaming wpAny_bind→HD,Value→HE,Shared→HH,Addr→HN,wpAny_pure→HQ,Str→Ih,Expr→Io,Program→Iz,Around→IJ,World→IM,Heap→IX,wpAny_newObj_type→IY,sizeLine_eq→Ja,wpAny_callSpecial?_slot→Jk,wpAny_call_entry→Js,wpAny_holding→Jx,Obj→JC,codeAny_builtin→JH,NameKind→JK,wpAny_mono→JN,wpAny_field→JU,wpAny_typeNameOfWhole_keyiter→JV,wpAny_truthy_bool→JW,DictEntry→JX,Spec→J8,Pos→J9,FuncData→Kb,wpAny_passesOwn→Ki,Stmt→Kt,wpAny_typeNameOf_keyiter→Kw,mem_of_lookup→Kx,plainId_quiet→KG,Scope→KI,wpAny_seqItems→KS,wpAny_Call_Name_kw→K9,wpAny_dictEntries→Li,call_meets→Lu,wpAny_standAt→Lx,wpAny_letGo→Lz,wpAny_loadPart'→LD,wpAny_typeOf→LJ,IsPart→LQ,wpAny_setField→LS,wpAny_tryCatch→LU,wpAny_pyIter_list→L6,wpAny_attempt→Mb,wpAny_comprehension_free→Mf,noFill_tuple_add→Mg,wpAny_isInstance→Mh,Paired→Mo,codeAny_mono→Mq,ItemsOf→Mt,wpAny_execs_nil→My,wpAny_dictEpoch→MC,wpAny_updateSeq→MD,wpAny_isOneOf_keyiter→ML,GenState→MP,wpAny_of_eq→MS,wpAny_pyIter_keyiter→MT,wpAny_runValue→MV,PassesOwn→M2,Builtin→M3,rangeSize_one→Nc,seq_tuple_add→Nd,wpAny_newList→Ni,wpAny_rule→Nn,wpAny_load→No,wpAny_pyIter_tuple→Nv,Env→NB,wpAny_assign_Name→NC,Operator→NE,BindsTo→NF,concat_meets→NH,wpAny_sequenceKey→NJ,seqIndex_neg→NK,list_append→NL,wpAny_pyIter_enum→NU,wpAny_pyHash_int→NZ,wpAny_pyHash_str→N1,Result→N3,wpAny_forIn_list→N8,seqIndex_of→Oh,wpAny_mkInt→Oi,Keyword→Ot,wpAny_Name→Ou,wpAny_bindName→Ov,typeIs_int→Ox,fitsIndex_both→Oz,Params→OC,call→OD,SetTable→OE,wpAny_fieldsOf→OG,isSubtype_stop→OH,wpAny_newTuple→OJ,intBits_le_64→OT,evalPart_none→OV,call_list_seq→OX,wpAny_handled→O2,small_one→O8,CmpOp→O9,call_range_1→Pc,Sem→Pi,IsRangeIter→Pj,wpAny_throw→Pr,BoolOp→PM,IsEnum→PN,IsRange→PV,Drawn→P3,Model→P4,Walks→P5,Tok→P9
open List renaming length_map→HF,length_append→HM,getElem?_map→HP,set→HV,getElem?_eq_getElem→HX,size_toArray→HZ,range→Ic,getElem?_eq_some_iff→Ig,zipWith→Ii,mem_of_getElem?→Ij,mem_singleton→Im,mem_map→Iq,getD_eq_getElem?_getD→Iu,map_append→Iw,replicate→Ix,all_eq_true→IC,mem_append_right→IE,getElem?_append_left→IF,mem_cons→IG,length_take→IL,mem_range→IN,mem_append→IP,length_cons→IQ,length_range→IU,all_cons→IZ,getElem?_append_right→Jb,getElem_mem→Jc,take_add_one→Jd,mem_cons_of_mem→Jg,length_singleton→Jj,take_length→Jl,append_nil→Jy,length_nil→Jz,not_mem_nil→JA,replicate_succ→JB,map_cons→JF,mem_cons_self→JI,lookup_cons→JM,getElem?_set→JP,getElem?_eq_none_iff→JR,find?_cons→JZ,getElem?_range→J0,map_congr_left→J1,map_map→J5,mem_flatMap→J7,filter_append→Kd,length_replicate→Ke,length_filter_le→Kg,nodup_cons→Kj,range_succ→Km,mem_append_left→Kn,flatten_cons→Kr,length_dropLast→Ks,any_cons→Ku,length_zipWith→Ky,getElem_inj→Kz,length_drop→KA,zip_cons_cons→KD,find?_eq_none→KF,getElem?_eq_none→KH,append_assoc→KL,getLastD_eq_getLast?→KW,filterMap_cons→KY,length_eq_zero_iff→Ld,take_of_length_le→Ll,getElem_take→Lm,take_append_drop→Lo,ext_getElem→Lv,map_take→Ly,mem_of_mem_take→LA,mem_iff_getElem→LB,mem_filter→LC,length_pos_iff→LI,mem_eraseDups→LW,getLast?_eq_getElem?→L3,ext_getElem?→L7,pairwise_map→L8,getElem?_take_of_lt→Ma,filter_cons→Mm,getElem?_set_self→Mp,range_succ_eq_map→Ms,drop_of_length_le→Mw,getElem?_dropLast→Mx,of_mem_zip→Mz,forIn_cons→MB,find?_some→MG,getElem?_set_ne→MQ,nodup_nil→MW,replicate_succ'→MX,dropLast_subset→MY,eraseDups_cons→M9,flatMap_append→Na,filter_eq_self→Nb,mem_filterMap→Np,take_sublist→NG,map_nil→NO,zip_nil_left→NP,flatMap_cons→NV,map_dropLast→NW,filter_congr→NX,any_toArray→N9,isEmpty_iff→Od,perm_middle→Of,length_set→Om,nil_append→Oo,foldr_cons→Op,foldl→Oy,forIn_nil→OL,drop_zero→ON,take_zero→OO,all_map→Pe,map_set→Pg,length→Pk,Nodup→PP,map→P6
open Option renaming map_eq_some_iff→HG,map_some→IH,isSome_iff_exists→Jh,getD_none→N5,getD_some→Oc,bind_some→Og,toList→O4
open PySem.Heap renaming get?_push_of_some→HK,lt_size→Ik,get?_push_size→Il,get?_update_other→Jf,get?_update_self→Kf,SameBut→Ko,get?_update_ne→K1,ExtBut→MR,size_update→Ob,size_push→OM
open Bool renaming and_eq_true→HL,false_ne_true→Ip,false_eq_true→Jq,or_eq_true→JY,true_and→K6,eq_iff_iff→K8,not_eq_true'→Lk,and_eq_false_iff→MH,and_eq_true_iff→MZ,and_true→Nf,not_true→Ng,false_or→Nh,or_false→OW,beq_comm→O5
open Int renaming natCast_nonneg→HR,toNat_natCast→HU,emod_lt_of_pos→JS,emod_nonneg→Kl,zero_add→LM,toNat_of_nonneg→M6,ediv_nonneg→Oq
open PySem.W renaming Frag→HS,mg_none_of→Ji,nsIn→Jt,keepIn→Ju,fnOf→JT,kia_one→Kk,codeIn→KP,methodObj→L4,cellsFrom_some→Mr,OpenLaw→MA,kat_nil→MF,KdlSrc→MU,kas_sort→Oa,WalkO→OY,Looks→O3,mg_of→O6,recOk→O7,xlAt→Ph
open Nat renaming le_refl→HW,ne_of_lt→IA,lt_of_lt_of_le→IB,le_trans→IT,lt_irrefl→Jr,zero_le→J6,ne_of_gt→KC,le_succ→KR,lt_succ_self→KT,le_of_lt→Le,lt_trans→Lh,le_of_ble_eq_true→Ln,succ_le_succ→Ls,min_self→LK,sub_self→LN,lt_of_le_of_lt→Nx,min_eq_right→Oe,min_eq_left→Os,not_lt→OI,add_assoc→O0,succ_mul→Pd,sub_zero→Pf,ble→Qb
open Array renaming length_toList→II,getElem?_toList→JD,getElem?_eq_some_iff→Kc,perm_iff_toList_perm→LV,getElem?_eq_getElem→LZ,append_assoc→Nl,forIn_toList→Nt,toList→Pb,getD→PL
open PySem.Value renaming ref→IS,none→Je,bool→KN,type→KO,int→Lp,str→Lq
open Option.some renaming injEq→IV,inj→Jo
open PySem.Obj renaming mapSeq→Jv,data_mapFields→La,isFreed_of_fields→MM,cls_mapFields→NQ,mapFields→O1
open PySem.Around renaming under_plainId→Jw
open PySem.Builtin.Tuple renaming tupleExact→JE,tupleItemsOf→KQ,tupleHashOf→LX,tupleCompareSizes→NY,tupleIsExact→OF
open ForInStep renaming yield→JG
open PySem.Builtin.Range renaming rangeSize→JJ,small→LH
open PySem.F renaming plainAttrs_list→JL,args_tuple_add_2→K4,entry_tuple_add→Lc,slot_tuple_add→Lf,slot_list_clear→Mk,type_list_clear→Ml,slot_dict_get→MJ
open PyProof.Rows renaming slot_tuple_getitem→JQ,callWith_type1→J2,subscriptTail_builtinR→Lg,assignInOrder_cons→LP,AllBare→L5,listUpdate_at→Mc,SortKind→Mj,get?_update_seq→ME,entry_tuple_getitem→M5,lt_int→M7,args_tuple_getitem→Nq,IsTup→NA,assignInOrder_nil→ND,IntsAre→NN,listItems_at→NR,callWith_builtin1→N4,seqEpoch_at→Oj,slicePart_none→Ow,tupleItemsOf_→OU
open PySem.Str renaming ofString→J3
open PySem.Builtin.List renaming listExtendWith→J4,listTooLong→Kv,listFitsIndex→OB
open PySem.Builtin.Slice renaming slicePlaces→Kh,sliceAdjust→KU,sliceApplied→LR,slicePartIndex→Ol,sliceFields→OP
open PySem.Heap.SameBut renaming update→KZ,refl→PX
open PySem.Builtin.SmallTypes renaming ownedTupleIsFree→K5,nextOf→L1,ownedTupleHandOut→M8
open PySem.NameKind renaming free→K7,cell→P8
open PySem.SeqAt renaming EqAt→Lr,notIn_listAt→Nr,in_tupleAt→N6,in_listAt→On
open True renaming intro→Lw
open PySem.Builtin.Dict_items renaming ownsTuple→LF
open PySem.Builtin.Builtins renaming bindParams→LL
open PySem.Calls renaming Name_function_global→LO,call_function_entry→L0,callWith_builtin→Mu,Constant_str→Nm
open Classical renaming byContradiction→LY,propDecidable→Pa
open PySem.Paired renaming length→L9
open PySem.Env renaming kindOf→Mv
open PySem.Builtin.Dict renaming showsAll→MK,dictSlotNone→OR,pendingCount→OS
open PySem.Challenge renaming pw_layworld_k23_fillings→MN,rw_layworld_k23_fillings→MO
open Sum renaming inl→M0,inr→M1
open PySem.Expr renaming Name→M4
open PySem.SeqAt.EqAt renaming int_str→Nj,str_int→Nk,none_bool→Pn,bool_none→Po,bool_bool→Pp,none_int→Ps,none_str→Pu,bool_int→Pw,bool_str→Px,int_none→Py,int_bool→Pz,str_none→PC,str_bool→PD,int_int→PH,str_str→PJ,same→P1
open PUnit renaming unit→Nu
open PySem.ScopeKind renaming function→Nw
open PySem.AutoListH renaming list___mul___list_int_3→Ny
open PySem.AutoSeq1 renaming list_extend_list_list_0→NM,list_clear_list_0→OA,sub_tuple_tuple→OZ
open Function renaming comp_def→NT
open PyProof.Rows.IsTup renaming new→N2
open PySem.IsL renaming update→N7
open PySem.Builtin.Str renaming tooLong→OQ
open Prod renaming ext→Pl
open PySem.MeetsSeq renaming list_pop_at→Pq
open PySem.Heap.IsSliceOf renaming new→PF
open PySem.Walks renaming list→PK
open List.Nodup renaming sublist→PQ
open List.Pairwise renaming nil→PR
open PySem.Flow renaming next→PY
open PySem.W.Looks renaming ld→PZ
open PySem.W.XL renaming keeps→P0
open PySem.PassesOwn renaming never→P2
open List.Perm renaming map→P7
open PySem.Txt renaming mul→Qa
set_option genSizeOf false
namespace ZZ.Lean
set_option Elab.async false
set_option linter.all false
set_option maxRecDepth 100000
namespace L2
open PySem PySem.Spec PyProof.Rows
noncomputable abbrev nq:=Sum HY Ih
noncomputable def Bp:nq->HE->Ir
 | .inl k,v=>Value.isInt k v
 | .inr x,v=>Value.isStrOf x v
noncomputable def F6 (w:IM):nq->HY
 | .inl k=>hashInt k
 | .inr x=>hashStr w x
theorem b6:∀ {k:nq} {v:HE},Bp k v=true->(∃i t,k=M0 i/\v=Lp i t)\/(∃x t,k=M1 x/\v=Lq x t)
 | .inl i,v,h=>by
  obtain⟨t,e⟩:=Value.isInt_shape (k:=i) (v:=v) h;exact .inl ⟨i,t,rfl,e⟩
 | .inr x,v,h=>by
  obtain⟨t,e⟩:=Value.isStrOf_shape (x:=x) (v:=v) h;exact .inr ⟨x,t,rfl,e⟩
theorem BV (a b:HY):decide ((M0 a:nq)=M0 b)=(a==b):=by
 by_cases e:a=b
 ·subst e; simp
 ·have h:¬ (M0 a:nq)=M0 b:=λq=>e (Sum.inl.inj q)
  rw[ID h];exact(LG.mpr e).symm
theorem BW (a b:Ih):decide ((M1 a:nq)=M1 b)=decide (a=b):=by
 by_cases e:a=b
 ·subst e; simp
 ·have h:¬ (M1 a:nq)=M1 b:=λq=>e (Sum.inr.inj q)
  rw[ID h,ID e]
theorem BX (a:HY)(b:Ih):decide ((M0 a:nq)=M1 b)=false:=ID (λq=>nomatch q)
theorem BY (a:Ih)(b:HY):decide ((M1 a:nq)=M0 b)=false:=ID (λq=>nomatch q)
noncomputable def nr (prog:Iz)(w:IM):PySem.KeyKind prog w nq where
 is:=Bp
 hash:=F6 w
 inj:=λv a b ha hb=>by
  rcases b6 ha with⟨i,t,rfl,rfl⟩|⟨x,t,rfl,rfl⟩
  ·rcases b6 hb with⟨j,u,rfl,e⟩|⟨y,u,rfl,e⟩
   ·injection e with e1 _; rw[e1]
   ·exact nomatch e
  ·rcases b6 hb with⟨j,u,rfl,e⟩|⟨y,u,rfl,e⟩
   ·exact nomatch e
   ·injection e with e1 _; rw[e1]
 byValue:=λk v h=>by
  rcases b6 h with⟨i,t,rfl,rfl⟩|⟨x,t,rfl,rfl⟩ <;> rfl
 pyHash:=λhv h=>by
  rcases b6 hv with⟨i,t,rfl,rfl⟩|⟨x,t,rfl,rfl⟩
  ·exact NZ h
  ·exact N1 h
 eqBool:=λhu hv h=>by
  rcases b6 hu with⟨i,t,rfl,rfl⟩|⟨x,t,rfl,rfl⟩
  ·rcases b6 hv with⟨j,u,rfl,rfl⟩|⟨y,u,rfl,rfl⟩
   ·rw[BV]at h; exact wpAny_eqBool_int h
   ·rw[BX]at h; exact Nj i t y u _ _ _ _ h
  ·rcases b6 hv with⟨j,u,rfl,rfl⟩|⟨y,u,rfl,rfl⟩
   ·rw[BY]at h; exact Nk x t j u _ _ _ _ h
   ·rw[BW]at h; exact wpAny_eqBool_str h
 «strs»:=λk x t v h=>by
  rcases b6 h with⟨i,u,rfl,e⟩|⟨y,u,rfl,e⟩
  ·exact nomatch e
  ·injection e with e1 _
   subst e1;cases v <;> rfl
inductive V where
 | non|bl (b:Ir)|int (i:HY)|str (x:Ih)|byt (b:IW UInt8)|flt (b:UInt64)|ref (a:HN)|ty (n:Jp)
 deriving KM
noncomputable def RelV:V->HE->Prop
 | .non,u=>u=Je
 | .bl b,u=>u=KN b
 | .int i,u=>∃t,u=Lp i t
 | .str x,u=>∃t,u=Lq x t
 | .byt b,u=>∃t,u=Value.bytes b t
 | .flt b,u=>∃t,u=Value.float b t
 | .ref a,u=>u=IS a
 | .ty n,u=>u=KO n
noncomputable abbrev Vals:HC V->HC HE->Prop:=Mo RelV
theorem Vals.length {xs:HC V}{us:HC HE}(r:Vals xs us):xs.length=us.length:=L9 r
theorem Vals.get:∀ {xs:HC V} {us:HC HE} {i:HJ} {x:V},Vals xs us->xs[i]?=gV x->∃u,us[i]?=gV u/\RelV x u
 | _,_,_,_,.nil,e=>by simp at e
 | _,_,0,_,.cons r _,e=>by simp at e; subst e; exact⟨_,rfl,r⟩
 | _,_,i+1,x,.cons _ t,e=>by
  obtain⟨u,h1,h2⟩:=Vals.get (i:=i) (x:=x) t (by simpa using e)
  exact⟨u,by simpa using h1,h2⟩
theorem Vals.set {x:V}{u:HE}(r:RelV x u):∀ {xs:HC V} {us:HC HE} (i:HJ),Vals xs us->Vals (xs.set i x) (us.set i u)
 | _,_,_,.nil=>.nil
 | _,_,0,.cons _ t=>.cons r t
 | _,_,i+1,.cons q t=>.cons q (Vals.set r i t)
theorem Vals.append:∀ {xs ys:HC V} {us ws:HC HE},Vals xs us->Vals ys ws->Vals (xs++ys) (us++ws)
 | _,_,_,_,.nil,s=>s
 | _,_,_,_,.cons r t,s=>.cons r (Vals.append t s)
theorem Vals.take:∀ {xs:HC V} {us:HC HE} (n:HJ),Vals xs us->Vals (xs.take n) (us.take n)
 | _,_,0,_=>.nil
 | _,_,_+1,.nil=>.nil
 | _,_,n+1,.cons r t=>.cons r (Vals.take n t)
theorem Vals.drop:∀ {xs:HC V} {us:HC HE} (n:HJ),Vals xs us->Vals (xs.drop n) (us.drop n)
 | _,_,0,r=>r
 | _,_,_+1,.nil=>.nil
 | _,_,n+1,.cons _ t=>Vals.drop n t
noncomputable def DY:HI V->HI HE->Prop
 | some v,gV u=>RelV v u
 | none,td=>Nz
 | _,_=>Jn
noncomputable def KV {κ:Type}:HC (κ×V)->HC (κ×HE)->Prop:=Mo λ(p:κ×V) (q:κ×HE)=>p.1=q.1/\RelV p.2 q.2
noncomputable def kV:nq->V
 | .inl i=>.int i
 | .inr x=>.str x
inductive HO where
 | lst (xs:HC V)
 | tup (xs:HC V)
 | dK (kvs:HC (nq×V))|dT (kvs:HC (HC nq×V))
 | set (S:HY->Ir) (n:HJ)
 | ins (C dx:HN) (fs:HC (Ih×V))
 | own (x:HN)
 | xd (fs:HC (Ih×V))
 | met (f x:HN)
 | rng (lo hi:HY)
 | frz (o:JC) (u:HO)
 | tbl (ps:IW HE)
 | ext (φ:IX->Prop)
noncomputable abbrev Hp:=HN->HI HO
noncomputable def cv (H:Hp)(a:HN)(o:HO):Hp:=λb=>if b=a then gV o else H b
theorem bF {H:Hp}{a:HN}{o:HO}:cv H a o a=gV o:=by unfold cv; rw[Iv rfl]
theorem aY {H:Hp}{a b:HN}{o:HO}(h:b≠a):cv H a o b=H b:=by unfold cv; rw[IK h]
theorem en {H:Hp}{a b:HN}{o:HO}(h:H a=gV o)(h':H b=td):a≠b:=by
 intro e; subst e; rw[h]at h'; cases h'
section
variable (P:Iz) (w:IM)
noncomputable def ObjOk (H:Hp)(h:IX)(a:HN):HO->Prop
 | .lst xs=>xs.length<=sizeLine/\∃(its:HC HE) (n:HJ),Vals xs its/\h.get? a=gV { cls:=.type "list",data:=.seq its.toArray n }
 | .tup xs=>xs.length<=sizeLine/\∃its:HC HE,Vals xs its/\NA h a its.toArray
 | .dK kvs=>kvs.length<=sizeLine/\(a==sysModules)=false/\∃vs,KV kvs vs/\h.DictOf (nr P w) a vs
 | .dT kvs=>kvs.length<=sizeLine/\(a==sysModules)=false/\∃xs:HC (HC nq×HN×HE),
   Mo (λ(p:HC nq×V) (q:HC nq×HN×HE)=>p.1=q.1/\H q.2.1=gV (.tup (p.1.map kV))/\RelV p.2 q.2.2) kvs xs/\
   ∃o es ep,h.get? a=gV o/\o.ExactDict/\o.data=.dict es ep/\es.toList=xs.map (entryOfKey (tupleKind (nr P w)))/\(xs.map (·.1)).Nodup
 | .set S n=>h.SetOf (intKind P w) a S n
 | .ins C dx fs=>H dx=gV (.own a)/\fs.length<=1000/\dx≠a/\h.get? a=gV (PySem.W.instObj C dx)/\
   ∃mA,h.Ns1 dx mA/\(∀f,DY (fs.lookup f) (mA f))/\PySem.Within mA (fs.map (·.1))
 | .own _=>∃o,h.get? a=gV o
 | .xd fs=>∃mA,h.Ns1 a mA/\∀f,DY (fs.lookup f) (mA f)
 | .rng lo hi=>∃t u v,h.get? a=gV { cls:=.type "range",data:=.fields [.int lo t,.int hi u,.int 1 v].toArray }
 | .frz o u=>h.get? a=gV o/\ObjOk H h a u
 | .tbl ps=>h.get? a=gV { cls:=.none,data:=.fields ps }
 | .met f x=>h.get? a=gV (L4 (.ref f) (.ref x))
 | .ext φ=>φ h/\(∃o,h.get? a=gV o)/\∀h1 h2:IX,φ h1->(∀o,h1.get? a=gV o->h2.get? a=gV o)->φ h2
noncomputable def HOk (H:Hp)(h:IX):Prop:=∀a o,H a=gV o->ObjOk P w H h a o
end
section
variable{P:Iz}{w:IM}{H H':Hp}{h h':IX}{a:HN}{o:HO}
theorem ObjOk.lt (x:ObjOk P w H h a o):a < h.objs.size:=by
 cases o with
 | lst xs=>obtain⟨_,_,_,_,e⟩:=x; exact Ik e
 | tup xs=>obtain⟨_,_,_,p⟩:=x; exact p.lt
 | dK kvs=>obtain⟨_,_,_,_,o,_,_,e,_⟩:=x; exact Ik e
 | dT kvs=>obtain⟨_,_,_,_,o,_,_,e,_⟩:=x; exact Ik e
 | set S n=>obtain⟨o,_,_,_,e,_⟩:=x; exact Ik e
 | ins C dx fs=>obtain⟨_,_,_,e,_⟩:=x; exact Ik e
 | own y=>obtain⟨_,e⟩:=x; exact Ik e
 | xd fs=>obtain⟨_,⟨_,_,_,e,_⟩,_⟩:=x; exact Ik e
 | rng lo hi=>obtain⟨_,_,_,e⟩:=x; exact Ik e
 | frz ob u=>obtain⟨e,_⟩:=x; exact Ik e
 | tbl ps=>exact Ik (show h.get? a=gV _ from x)
 | met f y=>exact Ik (show h.get? a=gV _ from x)
 | ext φ=>obtain⟨_,⟨_,e⟩,_⟩:=x; exact Ik e
theorem Paired.mapP {α β:Type}{F G:α->β->Prop}:∀ {l₁:HC α} {l₂:HC β},Mo F l₁ l₂->(∀a b,F a b->G a b)->Mo G l₁ l₂
 | _,_,.nil,_=>.nil
 | _,_,.cons r t,f=>.cons (f _ _ r) (Paired.mapP t f)
theorem ObjOk.stay (x:ObjOk P w H h a o)(k:∀b u,(b=a\/H b=gV (.own a))->h.get? b=gV u->h'.get? b=gV u)
  (ho:∀b,H b=gV (.own a)->H' b=gV (.own a)) (ht:∀b xs,H b=gV (.tup xs)->H' b=gV (.tup xs)):ObjOk P w H' h' a o:=by
 induction o with
 | lst xs=>obtain⟨z,its,n,r,e⟩:=x; exact⟨z,its,n,r,k _ _ (.inl rfl) e⟩
 | tup xs=>obtain⟨z,its,r,ob,e,c⟩:=x; exact⟨z,its,r,ob,k _ _ (.inl rfl) e,c⟩
 | dK kvs=>obtain⟨z,y,vs,r,ob,es,ep,e,c⟩:=x; exact⟨z,y,vs,r,ob,es,ep,k _ _ (.inl rfl) e,c⟩
 | dT kvs=>
  obtain⟨z,y,xs,r,ob,es,ep,e,c⟩:=x;exact⟨z,y,xs,Paired.mapP r λp q z=>⟨z.1,ht _ _ z.2.1,z.2.2⟩,ob,es,ep,k _ _ (.inl rfl) e,c⟩
 | set S n=>obtain⟨ob,es,ep,t,e,c⟩:=x; exact⟨ob,es,ep,t,k _ _ (.inl rfl) e,c⟩
 | ins C dx fs=>
  obtain⟨d,z,ne,e,mA,⟨od,es,ep,e2,c⟩,r⟩:=x;exact⟨ho _ d,z,ne,k _ _ (.inl rfl) e,mA,⟨od,es,ep,k _ _ (.inr d) e2,c⟩,r⟩
 | own y=>obtain⟨ob,e⟩:=x; exact⟨ob,k _ _ (.inl rfl) e⟩
 | xd fs=>obtain⟨mA,⟨od,es,ep,e,c⟩,r⟩:=x; exact⟨mA,⟨od,es,ep,k _ _ (.inl rfl) e,c⟩,r⟩
 | rng lo hi=>obtain⟨t,u,v,e⟩:=x; exact⟨t,u,v,k _ _ (.inl rfl) e⟩
 | frz ob u ih=>obtain⟨e,q⟩:=x; exact⟨k _ _ (.inl rfl) e,ih q⟩
 | tbl ps=>
  have e:h.get? a=gV { cls:=.none,data:=.fields ps }:=x;show h'.get? a=gV { cls:=.none,data:=.fields ps };exact k a _ (.inl rfl) e
 | met f y=>
  have e:h.get? a=gV (L4 (.ref f) (.ref y)):=x;show h'.get? a=gV (L4 (.ref f) (.ref y));exact k a _ (.inl rfl) e
 | ext φ=>obtain⟨p,⟨o,e⟩,st⟩:=x; exact⟨st _ _ p λo q=>k _ _ (.inl rfl) q,⟨o,k _ _ (.inl rfl) e⟩,st⟩
theorem HOk.lt (x:HOk P w H h)(e:H a=gV o):a < h.objs.size:=(x a o e).lt
theorem HOk.fresh (x:HOk P w H h)(e:h.objs.size<=a):H a=td:=by
 cases q:H a with
 | none=>rfl
 | some u=>exact absurd (IB (x.lt q) e) (Jr _)
theorem HOk.kept (x:HOk P w H h)(k:∀b u,h.get? b=gV u->h'.get? b=gV u):HOk P w H h':=λa o e=>
 (x a o e).stay (λb u _ q=>k b u q) (λ_ q=>q) λ_ _ q=>q
theorem HOk.laid (x:HOk P w H h)(k:∀b u,h.get? b=gV u->h'.get? b=gV u)(hp:h.objs.size<=a)(new:ObjOk P w (cv H a o) h' a o):HOk P w (cv H a o) h':=λb u e=>by
 have hn:=x.fresh hp
 by_cases hb:b=a
 ·subst hb; rw[bF]at e; cases e; exact new
 ·rw[aY hb]at e;exact(x b u e).stay (λc v _ q=>k c v q) (λc q=>by rw[aY (en q hn)]; exact q) λc xs q=>by rw[aY (en q hn)]; exact q
end
noncomputable def Rd (H:Hp)(a:HN)(u:HO):Prop:=H a=gV u\/∃o,H a=gV (.frz o u)
theorem Rd.ok {P:Iz}{w:IM}{H:Hp}{h:IX}{a:HN}{u:HO}(r:Rd H a u)(x:HOk P w H h):ObjOk P w H h a u:=by
 rcases r with r|⟨o,r⟩
 ·exact x a u r
 ·obtain⟨_,q⟩:=x a _ r;exact q
noncomputable def DZ:HI HO->Prop
 | some (.lst _)=>Nz
 | some (.dK _)=>Nz
 | some (.dT _)=>Nz
 | some (.set _ _)=>Nz
 | some (.ins _ _ _)=>Nz
 | some (.ext _)=>Nz
 | _=>Jn
section
variable{P:Iz}{w:IM}{H:Hp}{h h':IX}{x e:HN}{o':HO}
theorem HOk.write (ok:HOk P w H h)(mu:DZ (H x))(he:e=x\/H e=gV (.own x))(k:∀b u,b≠e->h.get? b=gV u->h'.get? b=gV u)(heo:∃u,h'.get? e=gV u)
  (new:ObjOk P w (cv H x o') h' x o'):HOk P w (cv H x o') h':=λb u q=>by
 have nown:∀c y,H c=gV (.own y)->c≠x:=λc y r z=>by subst z; rw[r]at mu; exact mu
 have ntup:∀c xs,H c=gV (.tup xs)->c≠x:=λc xs r z=>by subst z; rw[r]at mu; exact mu
 by_cases hb:b=x
 ·subst hb; rw[bF]at q; cases q; exact new
 ·rw[aY hb]at q
  by_cases hbe:b=e
  ·have q':H b=gV (.own x):=by
    rcases he with z|z
    ·exact absurd (hbe.trans z) hb
    ·rw[hbe]; exact z
   rw[q]at q'; cases q'
   obtain⟨v,hv⟩:=heo;exact⟨v,by rw[hbe]; exact hv⟩
  ·refine(ok b u q).stay (λc v hc r=>k c v ?_ r) (λc r=>by rw[aY (nown c b r)]; exact r) λc xs r=>by rw[aY (ntup c xs r)]; exact r
   rcases hc with rfl|hc
   ·exact hbe
   ·rintro rfl;rcases he with z|z
    ·exact nown c b hc z
    ·rw[hc]at z; cases z; exact hb rfl
end
structure Un (fs ex:HC HN)(H H':Hp)(h h':IX):Prop where
 keep:∀b o,h.get? b=gV o->H b=td->b∉fs->b∉ex->h'.get? b=gV o
 slot:∀b o,h.get? b=gV o->H b=td->b∈fs->b∉ex->∃sl,h'.get? b=gV { o with slots:=sl }
 free:∀b o,h.get? b=gV o->H b=td->b∉ex->H' b=td
 there:∀b o,h.get? b=gV o->b∉ex->∃o',h'.get? b=gV o'
 tups:∀b xs,H b=gV (.tup xs)->H' b=gV (.tup xs)
 frzs:∀b o u,H b=gV (.frz o u)->H' b=gV (.frz o u)
 tbls:∀b ps,H b=gV (.tbl ps)->∃more,H' b=gV (.tbl (ps++more))
section
variable{fs fs' ex ex':HC HN}{H H1 H2:Hp}{h h1 h2 h':IX}{a x e:HN}{o:HO}
theorem Un.any (u:Un fs ex H H1 h h1){b:HN}{ob:JC}(q:h.get? b=gV ob)(n:H b=td)(hx:b∉ex):∃sl,h1.get? b=gV { ob with slots:=sl }:=by
 by_cases hb:b∈fs
 ·exact u.slot b ob q n hb hx
 ·exact⟨ob.slots,u.keep b ob q n hb hx⟩
theorem Un.trans (a:Un fs ex H H1 h h1)(b:Un fs ex H1 H2 h1 h2):Un fs ex H H2 h h2 where
 keep:=λc ob q n hc hx=>b.keep c ob (a.keep c ob q n hc hx) (a.free c ob q n hx) hc hx
 slot:=λc ob q n hc hx=>by
  obtain⟨sl,e1⟩:=a.slot c ob q n hc hx;obtain⟨sl',e2⟩:=b.slot c _ e1 (a.free c ob q n hx) hc hx;exact⟨sl',e2⟩
 free:=λc ob q n hx=>by
  obtain⟨o',e1⟩:=a.there c ob q hx;exact b.free c o' e1 (a.free c ob q n hx) hx
 there:=λc ob q hx=>by
  obtain⟨o',e1⟩:=a.there c ob q hx;exact b.there c o' e1 hx
 tups:=λc xs q=>b.tups c xs (a.tups c xs q)
 frzs:=λc ob xs q=>b.frzs c ob xs (a.frzs c ob xs q)
 tbls:=λc ps q=>by
  obtain⟨m1,e1⟩:=a.tbls c ps q;obtain⟨m2,e2⟩:=b.tbls c _ e1;exact⟨m1++m2,by rw[e2,Nl]⟩
theorem Un.kept (k:∀b u,h.get? b=gV u->h'.get? b=gV u):Un fs ex H H h h':=
 ⟨λb ob q _ _ _=>k b ob q,λb ob q _ _ _=>⟨ob.slots,k b ob q⟩,λ_ _ _ n _=>n,λb ob q _=>⟨ob,k b ob q⟩,λ_ _ q=>q,λ_ _ _ q=>q,λ_ ps q=>⟨#[],by rw[q]; simp⟩⟩
theorem Un.refl:Un fs ex H H h h:=Un.kept λ_ _ q=>q
theorem Un.laid (k:∀b u,h.get? b=gV u->h'.get? b=gV u)(hp:h.objs.size<=a)(hn:H a=td):Un fs ex H (cv H a o) h h' where
 keep:=λb u q _ _ _=>k b u q
 slot:=λb u q _ _ _=>⟨u.slots,k b u q⟩
 free:=λb u q n _=>by rw[aY (IA (IB (Ik q) hp))]; exact n
 there:=λb u q _=>⟨u,k b u q⟩
 tups:=λb xs q=>by rw[aY (en q hn)]; exact q
 frzs:=λb u xs q=>by rw[aY (en q hn)]; exact q
 tbls:=λb ps q=>⟨#[],by rw[aY (en q hn),q]; simp⟩
theorem Un.write (mu:DZ (H x))(he:e=x\/H e=gV (.own x))(k:∀b u,b≠e->h.get? b=gV u->h'.get? b=gV u)(heo:∃u,h'.get? e=gV u):Un fs ex H (cv H x o) h h':=by
 have hx:∀b,H b=td->b≠x:=λb n z=>by subst z; rw[n]at mu; exact mu
 have hb:∀b,H b=td->b≠e:=λb n z=>by
  subst z;rcases he with r|r
  ·exact hx b n r
  ·rw[n]at r; cases r
 have hm:∀b u,H b=gV u->¬ DZ (gV u)->b≠x:=λb u q nm z=>by subst z; rw[q]at mu; exact nm mu
 refine⟨λb u q n _ _=>k b u (hb b n) q,λb u q n _ _=>⟨u.slots,k b u (hb b n) q⟩,λb u q n _=>by rw[aY (hx b n)]; exact n,λb u q _=>?_,
  λb xs q=>by rw[aY (hm b _ q λz=>z)]; exact q,λb u xs q=>by rw[aY (hm b _ q λz=>z)]; exact q,λb ps q=>⟨#[],by rw[aY (hm b _ q λz=>z),q]; simp⟩⟩
 by_cases hbe:b=e
 ·subst hbe; exact heo
 ·exact⟨u,k b u hbe q⟩
end
noncomputable def FU (h:IX)(H:Hp):HC HN:=(Ic h.objs.size).filter λa=>(H a).isSome
noncomputable def nu (h:IX)(H:Hp):IX:=PySem.W.hideAll h (FU h H)
theorem tR (h:IX)(H:Hp):(nu h H).objs.size=h.objs.size:=PySem.W.hideAll_size _ _
theorem vk {h:IX}{H:Hp}{b:HN}{o:JC}(e:h.get? b=gV o)(n:H b=td):(nu h H).get? b=gV o:=
 PySem.W.hideAll_get _ e λhm=>by
  have q:(H b).isSome=true:=(LC.mp hm).2;rw[n]at q; simp at q
theorem yG {h:IX}{H:Hp}{b:HN}{o:JC}(e:(nu h H).get? b=gV o):h.get? b=gV o/\H b=td:=by
 have e':h.get? b=gV o:=PySem.W.of_hideAll (FU h H) e;refine⟨e',?_⟩;cases q:H b with
 | none=>rfl
 | some x=>
  have hm:b∈FU h H:=LC.mpr ⟨IN.mpr (Ik e'),by simp[q]⟩
  have z:(nu h H).get? b=td:=PySem.W.hideAll_none (FU h H) hm;rw[z]at e; cases e
noncomputable def yH (g h:IX)(L:HN):HC (HN×JC):=(Ic h.objs.size).filterMap λa=>if a=L\/(g.get? a).isSome=true then td else(h.get? a).map λo=>(a,o)
noncomputable def dq (g h:IX)(L d:HN):HC (HN×JC):=(yH g h L).filter λp=>decide (p.1≠d)
structure Mod (K:HS)(mg:Ih->HI HE)(base:IX):Prop where
 kin:K.In base
 glob:base.Ns mainGlobals mg
 blt:∃mb,base.Ns builtinsNs mb/\∀x:Ih,x≠"__name__"->mb x=bootBuiltins x
 nolimit:base.NoLimit
structure Cx where
 prog:Iz
 w:IM
 K:HS
 mg:Ih->HI HE
 base:IX
 A:IJ
 N:HC Ih
 s₀:HH
 H₀:Hp
 env:NB
 outer:HC NB
 stack:HC NB
 ex:HC HN
 fn:Ih->Ir
 calm:Ir
 pn:HC (HN×JC)
 xe:HE->HH->Prop
noncomputable def qV (l:HC NB):HC HN:=l.filterMap (·.frame)
noncomputable abbrev Cx.fs (X:Cx):HC HN:=qV X.outer
noncomputable def F7 (sc:KI)(x:Ih):Prop:=sc.names.lookup x=gV .local\/sc.names.lookup x=gV .cell\/sc.names.lookup x=gV .free
noncomputable def yI (sc:KI)(x:Ih):Prop:=sc.names.lookup x=gV .local\/sc.names.lookup x=gV .cell
noncomputable def F8 (env:NB)(h:IX)(m:Ih->HI HE)(x:Ih)(u:HE):Prop:=
 (env.kindOf x=gV .local/\m x=gV u)\/((env.kindOf x=gV .cell\/env.kindOf x=gV .free)/\∃c,env.cells.lookup x=gV c/\h.IsCell c (gV u))
structure Cx.Ok (X:Cx):Prop where
 mod:Mod X.K X.mg X.base
 kind:X.env.scope.kind=.function
 glob:X.env.globals=mainGlobals
 blt:X.env.builtins=builtinsNs
 above:X.s₀.heap.objs.size<=X.env.locals
 inj:∀x y c,X.env.cells.lookup x=gV c->X.env.cells.lookup y=gV c->x=y
 has:∀x,(X.env.kindOf x=gV .cell\/X.env.kindOf x=gV .free)->∃c,X.env.cells.lookup x=gV c
 cab:∀x c,X.fn x=true->X.env.cells.lookup x=gV c->X.s₀.heap.objs.size<=c
 hd:X.calm=true->X.A.handled=td
 frames:X.A.frames=gV X.stack
 stk:X.stack=X.outer\/(X.stack=X.env::X.outer/\X.env.frame=gV X.env.locals)
 exf:∀b∈X.ex,b≠X.env.locals/\∀x c,X.env.cells.lookup x=gV c->c≠b
 bs:∀b o,X.base.get? b=gV o->X.s₀.heap.get? b=gV o/\X.H₀ b=td
 bsz:X.base.objs.size<=X.s₀.heap.objs.size
 noex:∀b o,X.base.get? b=gV o->b∉X.ex
 exfs:∀b∈X.ex,b∉X.fs
 funs:X.s₀.heap.FunFrames X.base X.outer
 frf:∀b∈X.fs,X.H₀ b=td
structure Inv (X:Cx)(pins:HC (HN×JC))(σ:HC (HI V))(H:Hp)(s:HH):Prop where
 ok:X.Ok
 os:s.os=X.s₀.os
 bare:L5 s.gens
 base:Un X.fs X.ex X.H₀ H X.s₀.heap s.heap
 loc:∃m,s.heap.Ns X.env.locals m/\∀(i:HJ) (x:Ih) (v:V),X.N[i]?=gV x->σ[i]?=gV (gV v)->F7 X.env.scope x->∃u,RelV v u/\F8 X.env s.heap m x u
 cell:∀x c,X.env.cells.lookup x=gV c->∃v,s.heap.IsCell c v
 free:H X.env.locals=td
 freeC:∀x c,X.env.cells.lookup x=gV c->H c=td
 pin:∀p∈X.pn++pins,s.heap.get? p.1=gV p.2/\H p.1=td/\p.1≠X.env.locals/\p.1∉X.fs/\∀v,p.2.data≠.cell v
 hok:HOk X.prog X.w H s.heap
 len:σ.length=X.N.length
section
variable{X:Cx}{pins:HC (HN×JC)}{σ:HC (HI V)}{H H':Hp}{s:HH}{h':IX}
theorem Cx.Ok.nofr (ok:X.Ok){b:HN}{o:JC}(e:X.base.get? b=gV o):b∉X.fs:=λhb=>by
 have:=(ok.funs.mem hb).1;rw[e]at this; cases this
theorem Inv.bs (I:Inv X pins σ H s):∀b o,X.base.get? b=gV o->s.heap.get? b=gV o/\H b=td:=λb o e=>
 ⟨I.base.keep b o (I.ok.bs b o e).1 (I.ok.bs b o e).2 (I.ok.nofr e) (I.ok.noex b o e),I.base.free b o (I.ok.bs b o e).1 (I.ok.bs b o e).2 (I.ok.noex b o e)⟩
theorem Inv.bk (I:Inv X pins σ H s):∀b o,X.base.get? b=gV o->s.heap.get? b=gV o:=λb o e=>(I.bs b o e).1
theorem Inv.mod (I:Inv X pins σ H s):Mod X.K X.mg X.base:=I.ok.mod
theorem Inv.kIn (I:Inv X pins σ H s):X.K.In s.heap:=I.ok.mod.kin.keeps I.bk
theorem Inv.lt (I:Inv X pins σ H s):X.env.locals < s.heap.objs.size:=let ⟨_,hn,_⟩:=I.loc; hn.lt
theorem Inv.sz (I:Inv X pins σ H s):X.s₀.heap.objs.size<=s.heap.objs.size:=IT I.ok.above (Le I.lt)
theorem Inv.nofs (I:Inv X pins σ H s){a:HN}(h:s.heap.objs.size<=a):a∉X.fs:=λhb=>by
 obtain⟨_,o,ho,_⟩:=I.ok.funs.mem hb;exact absurd (IB (Ik ho) (IT I.sz h)) (Jr _)
theorem Inv.cne (I:Inv X pins σ H s):∀x c,X.env.cells.lookup x=gV c->c≠X.env.locals:=λx c e z=>by
 obtain⟨v,o,ho,hd⟩:=I.cell x c e;obtain⟨m,⟨o',es,ep,ho',hd',_⟩,_⟩:=I.loc;rw[z,ho']at ho; cases ho; rw[hd']at hd; cases hd
theorem Inv.funs (I:Inv X pins σ H s):s.heap.FunFrames X.base X.outer:=by
 have all:∀(l:HC NB),(∀b∈qV l,b∈X.fs)->X.s₀.heap.FunFrames X.base l->s.heap.FunFrames X.base l:=by
  intro l
  induction l with
  | nil=>intro _ _; trivial
  | cons env r ih=>
   intro hs hl;obtain⟨hk,⟨L,o,hf,hn,ho,hd⟩,hr⟩:=hl;have hL:L∈X.fs:=hs L (by unfold qV; rw[KY,hf]; exact JI)
   obtain⟨sl,e⟩:=I.base.slot L o ho (I.ok.frf L hL) hL λz=>I.ok.exfs L z hL
   exact⟨hk,⟨L,_,hf,hn,e,hd⟩,ih (λb hb=>hs b (by unfold qV; rw[KY,hf]; exact Jg _ hb)) hr⟩
 exact all X.outer (λ_ hb=>hb) I.ok.funs
theorem Inv.stack (I:Inv X pins σ H s):s.heap.FunFrames X.base X.stack:=by
 rcases I.ok.stk with e|⟨e,hf⟩
 ·rw[e]; exact I.funs
 ·rw[e];obtain⟨m,hn,_⟩:=I.loc;refine .cons (by rw[I.ok.kind]; decide) hf hn ?_ I.funs
  exact Heap.get?_none_of_le (IT I.ok.bsz I.ok.above)
theorem Inv.stkSub (I:Inv X pins σ H s):∀b∈qV X.stack,b∈X.env.locals::X.fs:=λb hb=>by
 rcases I.ok.stk with e|⟨e,hf⟩
 ·rw[e]at hb; exact Jg _ hb
 ·rw[e]at hb;unfold qV at hb;rw[KY,hf]at hb;exact hb
theorem Inv.stkFree (I:Inv X pins σ H s):∀b∈qV X.stack,H b=td:=λb hb=>by
 rcases IG.mp (I.stkSub b hb)with e|hb
 ·rw[e]; exact I.free
 ·obtain⟨_,o,ho,_⟩:=I.ok.funs.mem hb;exact I.base.free b o ho (I.ok.frf b hb) λz=>I.ok.exfs b z hb
theorem Inv.step {g':IW MP}{t':HJ}{d':P3}{ch:HC HN}(I:Inv X pins σ H s)
  (hch:∀b∈ch,(b∈X.ex\/X.s₀.heap.objs.size<=b)/\b≠X.env.locals/\(∀x c,X.env.cells.lookup x=gV c->c≠b)/\∀p∈X.pn++pins,p.1≠b)
  (keep:∀b o,b≠X.env.locals->b∉X.fs->b∉ch->s.heap.get? b=gV o->H b=td->h'.get? b=gV o)
  (slot:∀b o,b≠X.env.locals->b∈X.fs->b∉ch->s.heap.get? b=gV o->H b=td->∃sl,h'.get? b=gV { o with slots:=sl }) (free:∀b o,b∉ch->s.heap.get? b=gV o->H b=td->H' b=td)
  (there:∀b o,b∉ch->s.heap.get? b=gV o->∃o',h'.get? b=gV o')
  (tups:∀b xs,H b=gV (.tup xs)->H' b=gV (.tup xs)) (frzs:∀b o u,H b=gV (.frz o u)->H' b=gV (.frz o u)) (tbls:∀b ps,H b=gV (.tbl ps)->∃more,H' b=gV (.tbl (ps++more)))
  (ns:∀m,s.heap.Ns X.env.locals m->h'.Ns X.env.locals m) (hok:HOk X.prog X.w H' h') (hg:L5 g') :
  Inv X pins σ H' { s with heap:=h',gens:=g',drawn:=d',toks:=t' }:=by
 have neL:∀b o,X.s₀.heap.get? b=gV o->b≠X.env.locals:=λb o e=>IA (IB (Ik e) I.ok.above)
 have neC:∀b o,X.s₀.heap.get? b=gV o->b∉X.ex->b∉ch:=λb o e hx hb=>by
  rcases(hch b hb).1 with z|z
  ·exact hx z
  ·exact absurd (IB (Ik e) z) (Jr _)
 have cellK:∀x c,X.env.cells.lookup x=gV c->∀v,s.heap.IsCell c v->h'.IsCell c v:=λx c e v ⟨o,ho,hd⟩=>by
  have nch:c∉ch:=λz=>(hch c z).2.2.1 x c e rfl
  by_cases hc:c∈X.fs
  ·obtain⟨sl,q⟩:=slot c o (I.cne x c e) hc nch ho (I.freeC x c e);exact⟨_,q,hd⟩
  ·exact⟨o,keep c o (I.cne x c e) hc nch ho (I.freeC x c e),hd⟩
 refine⟨I.ok,I.os,hg,⟨λb o e n hb hx=>?_,λb o e n hb hx=>?_,λb o e n hx=>?_,λb o e hx=>?_,λb xs e=>tups b xs (I.base.tups b xs e),λb o xs e=>frzs b o xs (I.base.frzs b o xs e),λb ps e=>?_⟩,?_,λx c e=>?_,?_,λx c e=>?_,λp hp=>?_,hok,I.len⟩
 ·exact keep b o (neL b o e) hb (neC b o e hx) (I.base.keep b o e n hb hx) (I.base.free b o e n hx)
 ·obtain⟨sl,e1⟩:=I.base.slot b o e n hb hx;obtain⟨sl',e2⟩:=slot b _ (neL b o e) hb (neC b o e hx) e1 (I.base.free b o e n hx);exact⟨sl',e2⟩
 ·obtain⟨o',e1⟩:=I.base.there b o e hx;exact free b o' (neC b o e hx) e1 (I.base.free b o e n hx)
 ·obtain⟨o',e1⟩:=I.base.there b o e hx;exact there b o' (neC b o e hx) e1
 ·obtain⟨m1,e1⟩:=I.base.tbls b ps e;obtain⟨m2,e2⟩:=tbls b _ e1;exact⟨m1++m2,by rw[e2,Nl]⟩
 ·obtain⟨m,hn,hl⟩:=I.loc;refine⟨m,ns m hn,λi x v e1 e2 e3=>?_⟩
  obtain⟨u,r,l⟩:=hl i x v e1 e2 e3;refine⟨u,r,?_⟩;rcases l with l|⟨k,c,e,z⟩
  ·exact .inl l
  ·exact .inr ⟨k,c,e,cellK x c e _ z⟩
 ·obtain⟨v,z⟩:=I.cell x c e;exact⟨v,cellK x c e v z⟩
 ·obtain⟨m,⟨o,_,_,ho,_⟩,_⟩:=I.loc;exact free _ o (λz=>(hch _ z).2.1 rfl) ho I.free
 ·obtain⟨v,o,ho,hd⟩:=I.cell x c e;exact free c o (λz=>(hch c z).2.2.1 x c e rfl) ho (I.freeC x c e)
 ·obtain⟨e,n,ne,nf,d⟩:=I.pin p hp;have nch:p.1∉ch:=λz=>(hch p.1 z).2.2.2 p hp rfl
  exact⟨keep p.1 p.2 ne nf nch e n,free p.1 p.2 nch e n,ne,nf,d⟩
theorem Inv.un {t':HJ}(I:Inv X pins σ H s)(u:Un X.fs [] H H' s.heap h')(hok:HOk X.prog X.w H' h'):Inv X pins σ H' { s with heap:=h',toks:=t' }:=by
 obtain⟨m,⟨o,es,ep,ho,r⟩,_⟩:=id I.loc;obtain⟨sl,hL⟩:=u.any ho I.free (by simp)
 exact I.step (g':=s.gens) (d':=s.drawn) (ch:=[]) (λ_ z=>nomatch z) (λb o _ hb _ e n=>u.keep b o e n hb (by simp)) (λb o _ hb _ e n=>u.slot b o e n hb (by simp)) (λb o _ e n=>u.free b o e n (by simp)) (λb o _ e=>u.there b o e (by simp)) u.tups u.frzs u.tbls (λm' hm=>by
  obtain⟨o',es',ep',ho',r'⟩:=hm;rw[ho]at ho'; cases ho'
  exact⟨_,es',ep',hL,r'⟩) hok I.bare
theorem Inv.call {g':IW MP}{t':HJ}{d':P3}{ch:HC HN}(I:Inv X pins σ H s)(u:Un (qV X.stack) ch H H' s.heap h')(hok:HOk X.prog X.w H' h')(hg:L5 g')
  (hch:∀b∈ch,(b∈X.ex\/X.s₀.heap.objs.size<=b)/\b≠X.env.locals/\(∀x c,X.env.cells.lookup x=gV c->c≠b)/\∀p∈X.pn++pins,p.1≠b) :
  Inv X pins σ H' { s with heap:=h',gens:=g',drawn:=d',toks:=t' }:=by
 obtain⟨m,⟨o,es,ep,ho,r⟩,_⟩:=id I.loc;obtain⟨sl,hL⟩:=u.any ho I.free λz=>(hch _ z).2.1 rfl
 exact I.step (ch:=ch) hch (λb o hL hb hc e n=>u.keep b o e n (λz=>(IG.mp (I.stkSub b z)).elim hL hb) hc) (λb o _ _ hc e n=>u.any e n hc) (λb o hc e n=>u.free b o e n hc) (λb o hc e=>u.there b o e hc) u.tups u.frzs u.tbls (λm' hm=>by
  obtain⟨o',es',ep',ho',r'⟩:=hm;rw[ho]at ho'; cases ho'
  exact⟨_,es',ep',hL,r'⟩) hok hg
theorem Inv.turned {t':HJ}{it:HN}(I:Inv X pins σ H s)(k:∀b o,b≠it->s.heap.get? b=gV o->h'.get? b=gV o)(hn:H it=td)(hL:it≠X.env.locals)
  (h1:it∈X.ex\/X.s₀.heap.objs.size<=it) (h2:∀x c,X.env.cells.lookup x=gV c->c≠it) (h3:∀p∈X.pn++pins,p.1≠it):Inv X pins σ H { s with heap:=h',toks:=t' }:=by
 have nit:∀b u,H b=gV u->b≠it:=λb u e z=>by rw[z,hn]at e; cases e
 refine I.step (g':=s.gens) (d':=s.drawn) (ch:=[it]) (λb hb=>?_) (λb o _ _ hc e _=>k b o (λz=>hc (by simp[z])) e) (λb o _ _ hc e _=>⟨o.slots,k b o (λz=>hc (by simp[z])) e⟩) (λ_ _ _ _ n=>n)
  (λb o hc e=>⟨o,k b o (λz=>hc (by simp[z])) e⟩) (λ_ _ e=>e) (λ_ _ _ e=>e) (λb ps e=>⟨#[],by rw[e]; simp⟩) (λm hm=>?_) (λb u e=>?_) I.bare
 ·have e:b=it:=by simpa using hb
  subst e;exact⟨h1,hL,h2,h3⟩
 ·obtain⟨o,es,ep,ho,r⟩:=hm;exact⟨o,es,ep,k _ o (Ne.symm hL) ho,r⟩
 ·refine(I.hok b u e).stay (λc v hc q=>k c v ?_ q) (λ_ q=>q) λ_ _ q=>q
  rcases hc with z|z
  ·rw[z]; exact nit b u e
  ·exact nit c _ z
theorem Inv.tok (I:Inv X pins σ H s)(t:HJ):Inv X pins σ H { s with toks:=t }:=I.un (h':=s.heap) (t':=t) Un.refl I.hok
theorem Inv.kept {t':HJ}(I:Inv X pins σ H s)(k:∀b u,s.heap.get? b=gV u->h'.get? b=gV u):Inv X pins σ H { s with heap:=h',toks:=t' }:=I.un (Un.kept k) (I.hok.kept k)
theorem Inv.laid {a:HN}{o:HO}{t':HJ}(I:Inv X pins σ H s)(k:∀b u,s.heap.get? b=gV u->h'.get? b=gV u)(hp:s.heap.objs.size<=a)(new:ObjOk X.prog X.w (cv H a o) h' a o) :
  Inv X pins σ (cv H a o) { s with heap:=h',toks:=t' }:=I.un (Un.laid k hp (I.hok.fresh hp)) (I.hok.laid k hp new)
theorem Inv.write {x e:HN}{o:HO}{t':HJ}(I:Inv X pins σ H s)(mu:DZ (H x))(he:e=x\/H e=gV (.own x))(k:∀b u,b≠e->s.heap.get? b=gV u->h'.get? b=gV u)(heo:∃u,h'.get? e=gV u)
  (new:ObjOk X.prog X.w (cv H x o) h' x o):Inv X pins σ (cv H x o) { s with heap:=h',toks:=t' }:=I.un (Un.write mu he k heo) (I.hok.write mu he k heo new)
theorem Inv.pins_of {pins':HC (HN×JC)}(I:Inv X pins σ H s)(h:∀p∈pins',s.heap.get? p.1=gV p.2/\H p.1=td/\p.1≠X.env.locals/\p.1∉X.fs/\∀v,p.2.data≠.cell v):Inv X pins' σ H s:=
 ⟨I.ok,I.os,I.bare,I.base,I.loc,I.cell,I.free,I.freeC,λp hp=>(IP.mp hp).elim (λz=>I.pin p (Kn _ z)) (h p),I.hok,I.len⟩
theorem o8 {N:HC Ih}(hN:N.Nodup){i j:HJ}{x:Ih}(a:N[i]?=gV x)(b:N[j]?=gV x):i=j:=by
 obtain⟨h1,e1⟩:=Ig.mp a;obtain⟨h2,e2⟩:=Ig.mp b;exact(Kz hN).mp (e1.trans e2.symm)
theorem tU {M:P4}{A:IJ}{E:HE->HH->Prop}{i:HJ}{x:Ih}{v:V}{u:HE}{Q:Unit->HH->Prop}(I:Inv X pins σ H s)(hN:X.N.Nodup)(hi:X.N[i]?=gV x)(hx:yI X.env.scope x)(r:RelV v u)
  (h:∀s',Inv X pins (σ.set i (gV v)) H s'->(∃a,Ko a s.heap s'.heap/\(a=X.env.locals\/X.env.cells.lookup x=gV a))->Q () s') (hf:X.fn x=true\/X.env.scope.names.lookup x=gV .local):wpAny M A (storeName X.env x u) Q E s:=by
 obtain⟨m,hn,hl⟩:=id I.loc;have hcls:(X.env.scope.kind==.class||(X.env.scope.kind==.module&&X.env.locals != X.env.globals))=false:=by rw[I.ok.kind]; rfl
 have hiσ:i < σ.length:=by rw[I.len]; exact(Ig.mp hi).1
 have cne:=I.cne;have tracked:∀ {a:HN} {h':IX},(∃o,s.heap.get? a=gV o/\H a=td)->Ko a s.heap h'->HOk X.prog X.w H h':=λ{a h'} ha hs b ob e=>by
  obtain⟨_,_,hfree⟩:=ha;refine(I.hok b ob e).stay (λc w' hc q=>(hs.2 c ?_).trans q) (λ_ q=>q) λ_ _ q=>q
  rintro rfl;rcases hc with rfl|hc
  ·rw[hfree]at e; cases e
  ·rw[hfree]at hc; cases hc
 rcases hx with hk|hk
 ·refine wpAny_storeName_local hk hn (λh' hn' hs=>?_) hcls
  obtain⟨oL,_,_,hoL,_⟩:=id hn;refine h _ ⟨I.ok,I.os,I.bare,⟨λb o e n hb hx=>?_,λb o e n hb hx=>?_,I.base.free,λb o e hx=>?_,I.base.tups,I.base.frzs,I.base.tbls⟩,⟨_,hn',λj y v' e1 e2 e3=>?_⟩,λy c e=>?_,I.free,I.freeC,λp hp=>?_,tracked ⟨oL,hoL,I.free⟩ hs,by simpa using I.len⟩ ⟨_,hs,.inl rfl⟩
  ·exact(hs.2 b (IA (IB (Ik e) I.ok.above))).trans (I.base.keep b o e n hb hx)
  ·obtain⟨sl,e1⟩:=I.base.slot b o e n hb hx;exact⟨sl,(hs.2 b (IA (IB (Ik e) I.ok.above))).trans e1⟩
  ·obtain⟨o',e1⟩:=I.base.there b o e hx;exact⟨o',(hs.2 b (IA (IB (Ik e) I.ok.above))).trans e1⟩
  ·by_cases hj:j=i
   ·subst hj;rw[hi]at e1; cases e1
    rw[Mp hiσ]at e2;cases e2;exact⟨u,r,.inl ⟨hk,by simp⟩⟩
   ·rw[MQ (Ne.symm hj)]at e2;obtain⟨u',r',q⟩:=hl j y v' e1 e2 e3;refine⟨u',r',?_⟩;rcases q with⟨k,e⟩|⟨k,c,e,z⟩
    ·refine .inl ⟨k,?_⟩;have:y≠x:=λe=>hj (o8 hN e1 (e ▸ hi))
     simp[this,e]
    ·exact .inr ⟨k,c,e,z.sameBut hs (cne y c e)⟩
  ·obtain⟨w',z⟩:=I.cell y c e;exact⟨w',z.sameBut hs (cne y c e)⟩
  ·obtain⟨e,n,ne,nf,d⟩:=I.pin p hp;exact⟨(hs.2 p.1 ne).trans e,n,ne,nf,d⟩
 ·have hfn:X.fn x=true:=by
   rcases hf with z|z
   ·exact z
   ·rw[z]at hk; cases hk
  obtain⟨c,hc⟩:=I.ok.has x (.inl hk);obtain⟨w',z⟩:=I.cell x c hc;refine wpAny_storeName_cell I.ok.kind hk hc z (λh' hc' hs=>?_)
  obtain⟨oc,hoc,hocd⟩:=id z;refine h { s with heap:=h' } ⟨I.ok,I.os,I.bare,⟨λb o e n hb hx=>?_,λb o e n hb hx=>?_,I.base.free,λb o e hx=>?_,I.base.tups,I.base.frzs,I.base.tbls⟩,⟨m,hn.sameBut hs (Ne.symm (cne x c hc)),λj y v' e1 e2 e3=>?_⟩,λy c' e=>?_,I.free,I.freeC,λp hp=>?_,tracked ⟨oc,hoc,I.freeC x c hc⟩ hs,by simpa using I.len⟩ ⟨c,hs,.inr hc⟩
  ·exact(hs.2 b (IA (IB (Ik e) (I.ok.cab x c hfn hc)))).trans (I.base.keep b o e n hb hx)
  ·obtain⟨sl,e1⟩:=I.base.slot b o e n hb hx;exact⟨sl,(hs.2 b (IA (IB (Ik e) (I.ok.cab x c hfn hc)))).trans e1⟩
  ·obtain⟨o',e1⟩:=I.base.there b o e hx;exact⟨o',(hs.2 b (IA (IB (Ik e) (I.ok.cab x c hfn hc)))).trans e1⟩
  ·by_cases hj:j=i
   ·subst hj;rw[hi]at e1; cases e1
    rw[Mp hiσ]at e2;cases e2;exact⟨u,r,.inr ⟨.inl hk,c,hc,hc'⟩⟩
   ·rw[MQ (Ne.symm hj)]at e2;obtain⟨u',r',q⟩:=hl j y v' e1 e2 e3;refine⟨u',r',?_⟩;rcases q with q|⟨k,c',e,z'⟩
    ·exact .inl q
    ·refine .inr ⟨k,c',e,z'.sameBut hs ?_⟩;rintro rfl;exact hj (o8 hN e1 (I.ok.inj _ _ _ e hc ▸ hi))
  ·by_cases hcc:c'=c
   ·subst hcc; exact⟨_,hc'⟩
   ·obtain⟨w2,z2⟩:=I.cell y c' e;exact⟨w2,z2.sameBut hs hcc⟩
  ·obtain⟨e,n,ne,nf,d⟩:=I.pin p hp;refine⟨(hs.2 p.1 ?_).trans e,n,ne,nf,d⟩;intro q;rw[q,hoc]at e;have q':oc=p.2:=Jo e;exact d w' (by rw[<- q']; exact hocd)
theorem im {M:P4}{A:IJ}{E:HE->HH->Prop}{i:HJ}{x:Ih}{v:V}{u:HE}{Q:Unit->HH->Prop}(I:Inv X pins σ H s)(hN:X.N.Nodup)(hi:X.N[i]?=gV x)(hx:yI X.env.scope x)(r:RelV v u)
  (h:∀s',Inv X pins (σ.set i (gV v)) H s'->Q () s') (hf:X.fn x=true\/X.env.scope.names.lookup x=gV .local):wpAny M A (storeName X.env x u) Q E s:=
 tU I hN hi hx r (λs' I' _=>h s' I') hf
theorem Inv.call' {s':HH}{ch:HC HN}(I:Inv X pins σ H s)(ho:s'.os=s.os)(u:Un (qV X.stack) ch H H' s.heap s'.heap)(hok:HOk X.prog X.w H' s'.heap)(hg:L5 s'.gens)
  (hch:∀b∈ch,(b∈X.ex\/X.s₀.heap.objs.size<=b)/\b≠X.env.locals/\(∀x c,X.env.cells.lookup x=gV c->c≠b)/\∀p∈X.pn++pins,p.1≠b):Inv X pins σ H' s':=by
 obtain⟨h',g',d',t',o'⟩:=s';have e:o'=s.os:=ho;subst e;exact I.call (g':=g') (t':=t') (d':=d') u hok hg hch
end
noncomputable abbrev XK:=HE->HI HN->Hp->Prop
noncomputable abbrev St:=HC (HI V)
noncomputable abbrev VK:=V->Hp->Prop
noncomputable abbrev TE:=St->Hp->VK->Prop
noncomputable abbrev TT:=St->Hp->(Ir->Hp->Prop)->Prop
noncomputable abbrev TA:=St->Hp->(HC V->Hp->Prop)->Prop
structure Ends where
 nx:St->Hp->Prop
 rt:VK
 bk:St->Hp->Prop:=λ_ _=>Jn
 ct:St->Hp->Prop:=λ_ _=>Jn
noncomputable abbrev TS:=Ends->St->Hp->Prop
noncomputable def EP (X:Cx)(pins:HC (HN×JC))(σ:St)(Q:VK)(u:HE)(s':HH):Prop:=∃v H',Inv X pins σ H' s'/\RelV v u/\Q v H'
noncomputable def TP (X:Cx)(pins:HC (HN×JC))(σ:St)(Q:Ir->Hp->Prop)(b:Ir)(s':HH):Prop:=∃H',Inv X pins σ H' s'/\Q b H'
noncomputable def AP (X:Cx)(pins:HC (HN×JC))(σ:St)(Q:HC V->Hp->Prop)(us:HC HE)(s':HH):Prop:=∃vs H',Inv X pins σ H' s'/\Vals vs us/\Q vs H'
noncomputable def SP (X:Cx)(pins:HC (HN×JC))(D:Ends)(f:Flow)(s':HH):Prop:=
 match f with
 | .next=>∃σ' H',Inv X pins σ' H' s'/\D.nx σ' H'
 | .brk=>∃σ' H',Inv X pins σ' H' s'/\D.bk σ' H'
 | .cont=>∃σ' H',Inv X pins σ' H' s'/\D.ct σ' H'
 | .ret u=>∃v σ' H',Inv X pins σ' H' s'/\RelV v u/\D.rt v H'
noncomputable def PE (X:Cx)(e:Io)(t:TE):Prop:=
 ∀(pins:HC (HN×JC)) (s:HH) (σ:St) (H:Hp) (Q:VK),Inv X pins σ H s->t σ H Q->wpAny (model X.prog X.w) X.A (eval e X.env) (EP X pins σ Q) X.xe s
noncomputable def PT (X:Cx)(e:Io)(t:TT):Prop:=
 ∀(pins:HC (HN×JC)) (s:HH) (σ:St) (H:Hp) (Q:Ir->Hp->Prop),Inv X pins σ H s->t σ H Q->wpAny (model X.prog X.w) X.A (isTrue e X.env (eval e X.env)) (TP X pins σ Q) X.xe s
noncomputable def PW (X:Cx)(e:Io)(t:TT):Prop:=
 ∀(whole:Pi HE) (pins:HC (HN×JC)) (s:HH) (σ:St) (H:Hp) (Q:Ir->Hp->Prop),Inv X pins σ H s->t σ H Q->wpAny (model X.prog X.w) X.A (isTrue e X.env whole) (TP X pins σ Q) X.xe s
theorem PW.pt {X:Cx}{e:Io}{t:TT}(h:PW X e t):PT X e t:=h _
noncomputable def PA (X:Cx)(es:HC Io)(t:TA):Prop:=
 ∀(pos:J9) (pins:HC (HN×JC)) (s:HH) (σ:St) (H:Hp) (Q:HC V->Hp->Prop),Inv X pins σ H s->t σ H Q->wpAny (model X.prog X.w) X.A (spliced (backTo pos (starEach es X.env))) (AP X pins σ Q) X.xe s
noncomputable def PS (X:Cx)(st:Kt)(t:TS):Prop:=
 ∀(pins:HC (HN×JC)) (s:HH) (σ:St) (H:Hp) (D:Ends),Inv X pins σ H s->t D σ H->wpAny (model X.prog X.w) X.A (exec st X.env) (SP X pins D) X.xe s
noncomputable def PSs (X:Cx)(st:HC Kt)(t:TS):Prop:=
 ∀(pins:HC (HN×JC)) (s:HH) (σ:St) (H:Hp) (D:Ends),Inv X pins σ H s->t D σ H->wpAny (model X.prog X.w) X.A (execs st X.env) (SP X pins D) X.xe s
theorem b8 {α:Type}{t:Pi α}{Q Q':α->HH->Prop}{M:P4}{A:IJ}{E:HE->HH->Prop}{s:HH}(h:wpAny M A t Q E s)(hQ:∀a s,Q a s->Q' a s):wpAny M A t Q' E s:=JN h hQ λ_ _ x=>x
section
variable{X:Cx}
theorem HB {a b:Io}{ta tb:TE}(ha:PE X a ta)(hb:PE X b tb){pins:HC (HN×JC)}{s:HH}{σ:St}{H:Hp}{R:V->V->Hp->Prop}(I:Inv X pins σ H s)(h:ta σ H λx H1=>tb σ H1 λy H2=>R x y H2)
  {α:Type} {Q:α->HH->Prop} {f:HE->HE->Pi α}
  (hf:∀v u s2 x y H2,Inv X pins σ H2 s2->RelV x v->RelV y u->R x y H2->wpAny (model X.prog X.w) X.A (f v u) Q X.xe s2) :
  wpAny (model X.prog X.w) X.A (eval a X.env) (λv s₁=>wpAny (model X.prog X.w) X.A (eval b X.env) (λu s₂=>wpAny (model X.prog X.w) X.A (f v u) Q X.xe s₂) X.xe s₁) X.xe s:=by
 refine b8 (ha pins s σ H _ I h) λv s1 ⟨x,H1,I1,r1,q1⟩=>?_
 refine b8 (hb pins s1 σ H1 _ I1 q1) λu s2 ⟨y,H2,I2,r2,q2⟩=>?_
 exact hf v u s2 x y H2 I2 r1 r2 q2
noncomputable def D0 (i:HJ):TE:=λσ H Q=>∃v,σ[i]?=gV (gV v)/\Q v H
noncomputable def tC (v:V):TE:=λ_ H Q=>Q v H
theorem BZ {i:HJ}{x:Ih}{pos:J9}(hN:X.N[i]?=gV x)(hv:F7 X.env.scope x)(hd:(x==("__debug__" : Ih))=false:=by decide)(hcd:(x==("__classdict__" : Ih))=false:=by decide):PE X (.Name x pos) (D0 i):=by
 intro pins s σ H Q I h;obtain⟨v,e,h⟩:=h;obtain⟨m,hn,hl⟩:=I.loc;obtain⟨u,r,l⟩:=hl i x v hN e hv;have fin:EP X pins σ Q u s:=⟨v,H,I,r,h⟩;rcases l with⟨hk,hm⟩|⟨hk,c,hc,hcell⟩
 ·exact Ou (wpAny_loadName_local I.ok.kind hk hn hm fin) hd
 ·rcases hk with hk|hk
  ·exact Ou (wpAny_loadName_cell I.ok.kind hk hc hcell fin) hd
  ·exact Ou (wpAny_loadName_free I.ok.kind hk hc hcell fin hcd) hd
theorem vm {i j pos}:PE X (.Constant (.int i) j pos) (tC (.int i)):=λ_ _ _ H _ I h=>wpAny_Constant_int ⟨.int i,H,I.tok _,⟨_,rfl⟩,h⟩
theorem Bq {b j pos}:PE X (.Constant (.bool b) j pos) (tC (.bl b)):=λ_ _ _ H _ I h=>Constant_bool ⟨.bl b,H,I,rfl,h⟩
theorem vn {j pos}:PE X (.Constant .none j pos) (tC .non):=λ_ _ _ H _ I h=>Constant_none ⟨.non,H,I,rfl,h⟩
theorem vo {x j pos}:PE X (.Constant (.str x) j pos) (tC (.str x)):=λ_ _ _ H _ I h=>Nm ⟨.str x,H,I.tok _,⟨_,rfl⟩,h⟩
noncomputable def Gl (X:Cx)(x:Ih):Prop:=X.env.kindOf x=gV .globalImplicit
theorem sd {E:HE->HH->Prop}{pins:HC (HN×JC)}{s:HH}{σ:St}{H:Hp}{x:Ih}{u:HE}{pos:J9}{Q:HE->HH->Prop}(I:Inv X pins σ H s)(hg:Gl X x)(hm:X.mg x=gV u)(h:Q u s)
  (hd:(x==("__debug__" : Ih))=false:=by decide):wpAny (model X.prog X.w) X.A (eval (.Name x pos) X.env) Q E s:=
 LO I.ok.kind hg (Calls.loadGlobal_global (by rw[I.ok.glob]; exact I.mod.glob.keeps I.bk) hm h) hd
theorem iY {E:HE->HH->Prop}{pins:HC (HN×JC)}{s:HH}{σ:St}{H:Hp}{x:Ih}{u:HE}{pos:J9}{Q:HE->HH->Prop}(I:Inv X pins σ H s)(hg:Gl X x)(hm:X.mg x=td)(hv:bootBuiltins x=gV u)(h:Q u s)
  (hn:x≠"__name__":=by decide) (hd:(x==("__debug__" : Ih))=false:=by decide):wpAny (model X.prog X.w) X.A (eval (.Name x pos) X.env) Q E s:=by
 obtain⟨mb,h1,h2⟩:=I.mod.blt;exact LO I.ok.kind hg (Calls.loadGlobal_builtin (by rw[I.ok.glob]; exact I.mod.glob.keeps I.bk) hm (by rw[I.ok.blt]; exact h1.keeps I.bk) ((h2 x hn).trans hv) h) hd
theorem yJ {x:Ih}{v:V}{u:HE}{pos:J9}(hg:Gl X x)(hm:X.mg x=td)(hv:bootBuiltins x=gV u)(r:RelV v u)(hn:x≠"__name__":=by decide)(hd:(x==("__debug__" : Ih))=false:=by decide):PE X (.Name x pos) (tC v):=
 λ_ _ _ H _ I h=>iY I hg hm hv ⟨v,H,I,r,h⟩ hn hd
variable{a b:Io}{ta tb:TE}{pos:J9}
variable{tA tB':TT}{dq:HC Io}
noncomputable def D2 (t u:TT):TT:=λσ H Q=>t σ H λc H1=>if c=true then u σ H1 Q else Q false H1
noncomputable def Hh (t u:TT):TT:=λσ H Q=>t σ H λc H1=>if c=true then Q true H1 else u σ H1 Q
noncomputable def F9 (t:TT):TT:=λσ H Q=>t σ H λc H1=>Q (!c) H1
theorem yK (ha:PT X a tA):PW X (.BoolOp .And [a] pos) tA:=by
 intro wh pins s σ H Q I h;refine isTrue_and (b8 (ha pins s σ H Q I h) λc s1 e=>?_)
 cases c with
 | true=>exact isTrue_and_nil e
 | false=>exact e
theorem B0 (ha:PT X a tA):PW X (.BoolOp .Or [a] pos) tA:=by
 intro wh pins s σ H Q I h;refine isTrue_or (b8 (ha pins s σ H Q I h) λc s1 e=>?_)
 cases c with
 | false=>exact isTrue_or_nil e
 | true=>exact e
theorem B1 (ha:PT X a tA)(hb:PW X (.BoolOp .And (b::dq) pos) tB'):PW X (.BoolOp .And (a::b::dq) pos) (D2 tA tB'):=by
 intro wh pins s σ H Q I h;refine isTrue_and (b8 (ha pins s σ H _ I h) λc s1 ⟨H1,I1,q1⟩=>?_)
 cases c with
 | true=>exact hb wh pins s1 σ H1 Q I1 q1
 | false=>exact⟨H1,I1,q1⟩
theorem D6 (ha:PT X a tA)(hb:PW X (.BoolOp .Or (b::dq) pos) tB'):PW X (.BoolOp .Or (a::b::dq) pos) (Hh tA tB'):=by
 intro wh pins s σ H Q I h;refine isTrue_or (b8 (ha pins s σ H _ I h) λc s1 ⟨H1,I1,q1⟩=>?_)
 cases c with
 | true=>exact⟨H1,I1,q1⟩
 | false=>exact hb wh pins s1 σ H1 Q I1 q1
theorem B2 (ha:PT X a tA):PT X (.UnaryOp .Not a pos) (F9 tA):=by
 intro pins s σ H Q I h;exact isTrue_not (ha pins s σ H (λc H1=>Q (!c) H1) I h)
noncomputable def D8 (ta tb:TE):TE:=λσ H Q=>ta σ H λx H1=>∃c,x=.bl c/\if c=true then tb σ H1 Q else Q (.bl false) H1
noncomputable def Ga (ta tb:TE):TE:=λσ H Q=>ta σ H λx H1=>∃c,x=.bl c/\if c=true then Q (.bl true) H1 else tb σ H1 Q
noncomputable def Ea (ta:TE):TE:=λσ H Q=>ta σ H λx H1=>∃c,x=.bl c/\Q (.bl (!c)) H1
theorem B3 {op}{t:TE}(h:PE X a t):PE X (.BoolOp op [a] pos) t:=λpins s σ H Q I hw=>BoolOp_one (h pins s σ H Q I hw)
theorem B4 (ha:PE X a ta)(hb:PE X (.BoolOp .And (b::dq) pos) tb):PE X (.BoolOp .And (a::b::dq) pos) (D8 ta tb):=by
 intro pins s σ H Q I h;refine BoolOp_and (b8 (ha pins s σ H _ I h) λv s1 ⟨x,H1,I1,r1,q1⟩=>?_)
 obtain⟨c,rfl,q1⟩:=q1;cases r1;refine JW ?_;cases c with
 | true=>exact hb pins s1 σ H1 Q I1 q1
 | false=>exact⟨.bl false,H1,I1,rfl,q1⟩
theorem Eb (ha:PE X a ta)(hb:PE X (.BoolOp .Or (b::dq) pos) tb):PE X (.BoolOp .Or (a::b::dq) pos) (Ga ta tb):=by
 intro pins s σ H Q I h;refine BoolOp_or (b8 (ha pins s σ H _ I h) λv s1 ⟨x,H1,I1,r1,q1⟩=>?_)
 obtain⟨c,rfl,q1⟩:=q1;cases r1;refine JW ?_;cases c with
 | false=>exact hb pins s1 σ H1 Q I1 q1
 | true=>exact⟨.bl true,H1,I1,rfl,q1⟩
theorem B5 (ha:PE X a ta):PE X (.UnaryOp .Not a pos) (Ea ta):=by
 intro pins s σ H Q I h;refine UnaryOp_ (b8 (ha pins s σ H _ I h) λv s1 ⟨x,H1,I1,r1,q1⟩=>?_)
 obtain⟨c,rfl,q1⟩:=q1;cases r1;exact not_of (JW ⟨.bl (!c),H1,I1,rfl,q1⟩)
noncomputable def Hq (t:TT)(ta tb:TE):TE:=λσ H Q=>t σ H λc H1=>if c=true then ta σ H1 Q else tb σ H1 Q
theorem vp {c:Io}(hc:PT X c tA)(ha:PE X a ta)(hb:PE X b tb):PE X (.IfExp c a b pos) (Hq tA ta tb):=by
 intro pins s σ H Q I h;refine wpAny_IfExp (b8 (hc pins s σ H _ I h) λd s1 ⟨H1,I1,q1⟩=>?_)
 cases d with
 | true=>exact ha pins s1 σ H1 Q I1 q1
 | false=>exact hb pins s1 σ H1 Q I1 q1
end
noncomputable def SqL (K:HS)(H:Hp)(a:HN)(xs:HC V):Prop:=
 Rd H a (.lst xs)\/
  ∃(o:JC) (its:IW HE) (n:HJ),K.lookup a=gV o/\o.cls=.type "list"/\o.dict=td/\o.data=.seq its n/\its.size<=sizeLine/\Vals xs its.toList
noncomputable def SqT (K:HS)(H:Hp)(a:HN)(xs:HC V):Prop:=
 Rd H a (.tup xs)\/
  ∃(o:JC) (its:IW HE) (n:HJ),K.lookup a=gV o/\o.cls=.type "tuple"/\o.data=.seq its n/\its.size<=sizeLine/\Vals xs its.toList
noncomputable def Gb:HE->HI V
 | .none=>gV .non
 | .bool b=>gV (.bl b)
 | .int i _=>gV (.int i)
 | .str x _=>gV (.str x)
 | .bytes b _=>gV (.byt b)
 | .float b _=>gV (.flt b)
 | .ref a=>gV (.ref a)
 | .type n=>gV (.ty n)
 | _=>td
theorem RelV.abs {x:V}{u:HE}(r:RelV x u):Gb u=gV x:=by
 cases x with
 | non=>cases r; rfl
 | bl _=>cases r; rfl
 | int _=>obtain⟨t,rfl⟩:=r; rfl
 | str _=>obtain⟨t,rfl⟩:=r; rfl
 | byt _=>obtain⟨t,rfl⟩:=r; rfl
 | flt _=>obtain⟨t,rfl⟩:=r; rfl
 | ref _=>cases r; rfl
 | ty _=>cases r; rfl
theorem RelV.inj {x y:V}{u:HE}(r:RelV x u)(q:RelV y u):x=y:=Jo (r.abs.symm.trans q.abs)
theorem Vals.inj:∀ {xs ys:HC V} {us:HC HE},Vals xs us->Vals ys us->xs=ys
 | _,_,_,.nil,.nil=>rfl
 | _,_,_,.cons r t,.cons r' t'=>by rw[r.inj r',Vals.inj t t']
section
variable{X:Cx}{pins:HC (HN×JC)}{σ:St}{H:Hp}{s:HH}{a:HN}{xs ys:HC V}
theorem SqL.of {K:HS}(h:H a=gV (.lst xs)):SqL K H a xs:=.inl (.inl h)
theorem SqT.of {K:HS}(h:H a=gV (.tup xs)):SqT K H a xs:=.inl (.inl h)
theorem Inv.list (I:Inv X pins σ H s)(h:SqL X.K H a xs):∃its:HC HE,Vals xs its/\PlainL s.heap a its.toArray/\xs.length<=sizeLine:=by
 rcases h with h|⟨o,its,n,hk,hc,hd,hs,hz,r⟩
 ·obtain⟨z,its,n,r,e⟩:=h.ok I.hok;exact⟨its,r,⟨_,n,e,rfl,rfl,rfl⟩,z⟩
 ·refine⟨its.toList,r,⟨o,n,I.kIn a o hk,hc,hd,by simpa using hs⟩,?_⟩
  have e:=r.length;simp only[II]at e;omega
theorem Inv.tuple (I:Inv X pins σ H s)(h:SqT X.K H a xs):∃its:HC HE,Vals xs its/\NA s.heap a its.toArray/\xs.length<=sizeLine:=by
 rcases h with h|⟨o,its,n,hk,hc,hs,hz,r⟩
 ·obtain⟨z,its,r,p⟩:=h.ok I.hok;exact⟨its,r,p,z⟩
 ·refine⟨its.toList,r,⟨o,I.kIn a o hk,hc,n,by simpa using hs⟩,?_⟩
  have e:=r.length;simp only[II]at e;omega
theorem Inv.list_inj (I:Inv X pins σ H s)(h:SqL X.K H a xs)(h':SqL X.K H a ys):xs=ys:=by
 obtain⟨its,r,⟨o,n,e,_,_,d⟩,_⟩:=I.list h;obtain⟨its',r',⟨o',n',e',_,_,d'⟩,_⟩:=I.list h';rw[e]at e'; cases e'
 rw[d]at d';injection d' with d1 _
 have:its=its':=by simpa using congrArg Pb d1
 subst this;exact r.inj r'
theorem Inv.tuple_inj (I:Inv X pins σ H s)(h:SqT X.K H a xs)(h':SqT X.K H a ys):xs=ys:=by
 obtain⟨its,r,⟨o,e,_,n,d⟩,_⟩:=I.tuple h;obtain⟨its',r',⟨o',e',_,n',d'⟩,_⟩:=I.tuple h';rw[e]at e'; cases e'
 rw[d]at d';injection d' with d1 _
 have:its=its':=by simpa using congrArg Pb d1
 subst this;exact r.inj r'
end
noncomputable abbrev Cx.wish (X:Cx)(E:HE->HH->Prop):Cx:={ X with xe:=E }
noncomputable abbrev Cx.nox (X:Cx):Cx:=X.wish λ_ _=>Jn
theorem Cx.Ok.wish {X:Cx}(ok:X.Ok)(E:HE->HH->Prop):(X.wish E).Ok:=
 ⟨ok.mod,ok.kind,ok.glob,ok.blt,ok.above,ok.inj,ok.has,ok.cab,ok.hd,ok.frames,ok.stk,ok.exf,ok.bs,ok.bsz,ok.noex,ok.exfs,ok.funs,ok.frf⟩
theorem Cx.Ok.unwish {X:Cx}{E:HE->HH->Prop}(ok:(X.wish E).Ok):X.Ok:=
 ⟨ok.mod,ok.kind,ok.glob,ok.blt,ok.above,ok.inj,ok.has,ok.cab,ok.hd,ok.frames,ok.stk,ok.exf,ok.bs,ok.bsz,ok.noex,ok.exfs,ok.funs,ok.frf⟩
section
variable{X:Cx}{pins:HC (HN×JC)}{σ:St}{H:Hp}{s:HH}{E:HE->HH->Prop}
theorem Inv.wish (I:Inv X pins σ H s)(E:HE->HH->Prop):Inv (X.wish E) pins σ H s:=⟨I.ok.wish E,I.os,I.bare,I.base,I.loc,I.cell,I.free,I.freeC,I.pin,I.hok,I.len⟩
theorem Inv.unwish (I:Inv (X.wish E) pins σ H s):Inv X pins σ H s:=⟨I.ok.unwish,I.os,I.bare,I.base,I.loc,I.cell,I.free,I.freeC,I.pin,I.hok,I.len⟩
theorem SP.unwish {D:Ends}{f:Flow}{s':HH}(h:SP (X.wish E) pins D f s'):SP X pins D f s':=by
 cases f with
 | next=>obtain⟨σ',H',I,q⟩:=h; exact⟨σ',H',I.unwish,q⟩
 | brk=>obtain⟨σ',H',I,q⟩:=h; exact⟨σ',H',I.unwish,q⟩
 | cont=>obtain⟨σ',H',I,q⟩:=h; exact⟨σ',H',I.unwish,q⟩
 | ret u=>obtain⟨v,σ',H',I,r,q⟩:=h; exact⟨v,σ',H',I.unwish,r,q⟩
theorem PSs.nox {st:HC Kt}{t:TS}(h:PSs X.nox st t):PSs X st t:=λpins s σ H D I hw=>
 JN (h pins s σ H D (I.wish _) hw) (λ_ _ q=>q.unwish) λ_ _ z=>Jn.elim z
end
section
variable{X:Cx}{st:Kt}{dq:HC Kt}{t u:TS}{e:Io}{te:TE}{pos:J9}
noncomputable def vt:TS:=λD σ H=>D.nx σ H
noncomputable def Gc (t u:TS):TS:=λD σ H=>t { D with nx:=u D } σ H
theorem yL:PSs X [] vt:=λ_ _ σ H _ I h=>My ⟨σ,H,I,h⟩
theorem vw (h1:PS X st t)(h2:PSs X dq u):PSs X (st::dq) (Gc t u):=by
 intro pins s σ H D I h;refine wpAny_execs_cons (b8 (h1 pins s σ H { D with nx:=u D } I h) λf s1 q=>?_)
 cases f with
 | next=>
  obtain⟨σ',H',I',q⟩:=q;exact h2 pins s1 σ' H' D I' q
 | ret v=>exact q
 | brk=>exact q
 | cont=>exact q
noncomputable def B6:TS:=λD σ H=>D.bk σ H
noncomputable def Ec:TS:=λD σ H=>D.ct σ H
theorem yM:PS X (.Pass pos) vt:=λ_ _ σ H _ I h=>wpAny_Pass ⟨σ,H,I,h⟩
theorem vx:PS X (.Break pos) B6:=λ_ _ σ H _ I h=>wpAny_Break ⟨σ,H,I,h⟩
theorem o9:PS X (.Continue pos) Ec:=λ_ _ σ H _ I h=>wpAny_Continue ⟨σ,H,I,h⟩
theorem Inv.quiet {pins:HC (HN×JC)}{σ:St}{H:Hp}{s:HH}(I:Inv X pins σ H s):interactive X.env=false:=by simp[interactive,I.ok.kind]
theorem B7 {x j pos pos'}:PS X (.Expr (.Constant (.str x) j pos) pos') vt:=λ_ s σ H _ I h=>wpAny_Expr (Nm (show SP X _ _ .next { s with toks:=s.toks+1 } from⟨σ,H,I.tok _,h⟩)) I.quiet
noncomputable def Ed (te:TE):TS:=λD σ H=>te σ H λ_ H1=>D.nx σ H1
theorem yN (he:PE X e te)(hs:swapsWith e td pos.line X.env=pure false:=by rfl):PS X (.Expr e pos) (Ed te):=by
 intro pins s σ H D I h;exact wpAny_Expr_any (b8 (he pins s σ H _ I h) λv s1 ⟨x,H1,I1,r1,q1⟩=>⟨σ,H1,I1,q1⟩) I.quiet hs
noncomputable def Gd (te:TE):TS:=λD σ H=>te σ H D.rt
theorem B8 (he:PE X e te):PS X (.Return (gV e) pos) (Gd te):=by
 intro pins s σ H D I h;exact wpAny_Return_some (b8 (he pins s σ H _ I h) λv s1 ⟨x,H1,I1,r1,q1⟩=>⟨x,σ,H1,I1,r1,q1⟩)
noncomputable def Ee:TS:=λD _ H=>D.rt .non H
theorem yO:PS X (.Return td pos) Ee:=λ_ _ σ H _ I h=>wpAny_Return_none ⟨.non,σ,H,I,rfl,h⟩
noncomputable def Ge (c:TT)(t u:TS):TS:=λD σ H=>c σ H λb H1=>if b=true then t D σ H1 else u D σ H1
theorem Ef {c:Io}{a b:HC Kt}{tc:TT}(hc:PT X c tc)(ha:PSs X a t)(hb:PSs X b u):PS X (.If c a b pos) (Ge tc t u):=by
 intro pins s σ H D I h;refine wpAny_If (b8 (hc pins s σ H _ I h) λd s1 ⟨H1,I1,q1⟩=>?_)
 cases d with
 | true=>exact ha pins s1 σ H1 D I1 q1
 | false=>exact hb pins s1 σ H1 D I1 q1
end
noncomputable abbrev TG:=V->St->Hp->(St->Hp->Prop)->Prop
noncomputable abbrev B9:=HC V->St->Hp->(St->Hp->Prop)->Prop
noncomputable def PG (X:Cx)(target:Io)(t:TG):Prop:=
 ∀(pins:HC (HN×JC)) (s:HH) (σ:St) (H:Hp) (v:V) (u:HE) (Q:St->Hp->Prop),Inv X pins σ H s->RelV v u->t v σ H Q->
  wpAny (model X.prog X.w) X.A (assign target X.env u) (λ_ s'=>∃σ' H',Inv X pins σ' H' s'/\Q σ' H') X.xe s
noncomputable def Eg (X:Cx)(ts:HC Io)(t:B9):Prop:=
 ∀(pins:HC (HN×JC)) (s:HH) (σ:St) (H:Hp) (vs:HC V) (us:HC HE) (Q:St->Hp->Prop),Inv X pins σ H s->Vals vs us->t vs σ H Q->
  wpAny (model X.prog X.w) X.A (assignInOrder ((assignEach ts X.env).map (·.2)) us) (λ_ s'=>∃σ' H',Inv X pins σ' H' s'/\Q σ' H') X.xe s
noncomputable abbrev Cb:=V->V->V->Hp->(Hp->Prop)->Prop
noncomputable def Cc (X:Cx)(t:Cb):Prop:=
 ∀(pins:HC (HN×JC)) (s:HH) (σ:St) (H:Hp) (o i v:V) (ov iv u:HE) (Q:Hp->Prop),Inv X pins σ H s->RelV o ov->RelV i iv->RelV v u->t o i v H Q->
  wpAny (model X.prog X.w) X.A (setItem ov iv u) (λ_ s'=>∃H',Inv X pins σ H' s'/\Q H') X.xe s
section
variable{X:Cx}{pos:J9}
noncomputable def Eh (i:HJ):TG:=λv σ H Q=>Q (σ.set i (gV v)) H
theorem se {i:HJ}{x:Ih}(hN:X.N.Nodup)(hi:X.N[i]?=gV x)(hx:yI X.env.scope x)(hf:X.fn x=true\/X.env.scope.names.lookup x=gV .local):PG X (.Name x pos) (Eh i):=by
 intro pins s σ H v u Q I r h;exact NC (im I hN hi hx r (λs' I'=>⟨_,H,I',h⟩) hf)
noncomputable def Gf:B9:=λvs σ H Q=>vs=[]/\Q σ H
noncomputable def Ei (t:TG)(u:B9):B9:=λvs σ H Q=>∃v r,vs=v::r/\t v σ H λσ' H'=>u r σ' H' Q
theorem yP:Eg X [] Gf:=by
 intro pins s σ H vs us Q I r h;obtain⟨e,h⟩:=h;subst e;cases r;exact ND ⟨σ,H,I,h⟩
theorem vy {e:Io}{es:HC Io}{t:TG}{u:B9}(h1:PG X e t)(h2:Eg X es u)
  (hs:(assignEach (e::es) X.env).map (·.2)=assign e X.env::(assignEach es X.env).map (·.2):=by rfl):Eg X (e::es) (Ei t u):=by
 intro pins s σ H vs us Q I r h;obtain⟨v,vr,e1,h⟩:=h;subst e1;cases r with
 | cons r rr=>
  rw[hs];refine LP (b8 (h1 pins s σ H _ _ _ I r h) λ_ s1 ⟨σ1,H1,I1,q1⟩=>?_)
  exact h2 pins s1 σ1 H1 _ _ Q I1 rr q1
noncomputable def Gg (K:HS)(n:HJ)(t:B9):TG:=λv σ H Q=>∃a xs,v=.ref a/\SqT K H a xs/\xs.length=n/\t xs σ H Q
theorem Cd {es:HC Io}{k:HJ}{t:B9}{n:HJ}(hc:X.calm=true)(h:Eg X es t)
  (hn:(assignEach es X.env).length=n:=by rfl) (hst:(assignEach es X.env).findIdx? (·.1)=td:=by rfl):PG X (.Tuple es k pos) (Gg X.K n t):=by
 intro pins s σ H v u Q I r hw;obtain⟨a,xs,e1,hq,hl,hw⟩:=hw;subst e1;cases r;obtain⟨its,rv,ht,hz⟩:=I.tuple hq;refine assign_Tuple_tuple (I.ok.hd hc) ht (by simp[hn,<- hl,rv.length]) hst λh' hx=>?_
 have I1:Inv X pins σ H { s with heap:=h' }:=I.kept (t':=s.toks) λb o e=>hx b o (IA (Ik e)) e
 exact h pins _ σ H xs _ Q I1 (by simpa using rv) hw
noncomputable def Gh (to ti:TE)(t:Cb):TG:=λv σ H Q=>to σ H λo H1=>ti σ H1 λi H2=>t o i v H2 λH3=>Q σ H3
theorem Ce {o i:Io}{to ti:TE}{t:Cb}(ho:PE X o to)(hi:PE X i ti)(hs:Cc X t)
  (ha:∀v,assign (.Subscript o i pos) X.env v=(do
   let ov <- holding [v] (eval o X.env)
   let iv <- holding [v,ov] (eval i X.env)
   standAt pos
   holding [v,ov,iv] (setItem ov iv v)
   release [v,ov,iv] []):=by intro _; rfl):PG X (.Subscript o i pos) (Gh to ti t):=by
 intro pins s σ H v u Q I r h;rw[ha];refine HD (Jx (b8 (ho pins s σ H _ I h) λov s1 ⟨x,H1,I1,r1,q1⟩=>?_))
 refine HD (Jx (b8 (hi pins s1 σ H1 _ I1 q1) λiv s2 ⟨y,H2,I2,r2,q2⟩=>?_))
 refine HD (Lx (HD (Jx (b8 (hs pins s2 σ H2 x y v ov iv u _ I2 r1 r2 r q2) λ_ s3 ⟨H3,I3,q3⟩=>?_))))
 exact wpAny_release ⟨σ,H3,I3,q3⟩
noncomputable def Gi (te:TE)(g:TG):TS:=λD σ H=>te σ H λx H1=>g x σ H1 D.nx
theorem Cf {tg e:Io}{te:TE}{g:TG}(he:PE X e te)(hg:PG X tg g)(hs:swapsWithSole [tg] e pos.line X.env=pure false:=by rfl)(hw:swappedStores [tg] e X.env=pure td:=by rfl)
  (h1:(assignEach [tg] X.env).map (·.2)=[assign tg X.env]:=by rfl):PS X (.Assign [tg] e pos) (Gi te g):=by
 intro pins s σ H D I h;refine wpAny_Assign_stores (b8 (he pins s σ H _ I h) λv s1 ⟨x,H1,I1,r1,q1⟩=>?_) hs hw
 rw[h1];exact b8 (hg pins s1 σ H1 x v _ I1 r1 q1) λ_ s2 q=>q
noncomputable def Gj (i j:HJ)(ta:TA):TS:=λD σ H=>ta σ H λvs H1=>∃v w,vs=[v,w]/\D.nx ((σ.set i (gV v)).set j (gV w)) H1
theorem Cg {i j:HJ}{x y:Ih}{a b:Io}{ta:TA}{px py pt:J9}{kt k2 pt2}(hc:X.calm=true)(hN:X.N.Nodup)(hi:X.N[i]?=gV x)(hj:X.N[j]?=gV y)(hij:i≠j)
  (hx:X.env.scope.names.lookup x=gV .local) (hy:X.env.scope.names.lookup y=gV .local) (ha:PA X [a,b] ta)
  (hw:swappedStores [.Tuple [.Name x px,.Name y py] kt pt] (.Tuple [a,b] k2 pt2) X.env=pure (gV [x,y]))
  (hs:swapsWithSole [.Tuple [.Name x px,.Name y py] kt pt] (.Tuple [a,b] k2 pt2) pos.line X.env=pure false:=by rfl) :
  PS X (.Assign [.Tuple [.Name x px,.Name y py] kt pt] (.Tuple [a,b] k2 pt2) pos) (Gj i j ta):=by
 intro pins s σ H D I h;rw[exec_Assign_arm];refine HD (Lx ?_);rw[hs];refine HD (HQ ?_);rw[IK (by decide)]
 refine HD (Tuple_ (b8 (ha _ pins s σ H _ I h) λus s1 ⟨vs,H1,I1,r1,q1⟩=>?_))
 obtain⟨v,w,e1,q1⟩:=q1;subst e1;obtain⟨u1,u2,rfl,rv,rw'⟩ : ∃u1 u2,us=[u1,u2]/\RelV v u1/\RelV w u2:=by
  cases r1 with
  | cons p q=>
   cases q with
   | cons p' q'=>
    cases q';exact⟨_,_,rfl,p,p'⟩
 refine IY ?_ (by show 2<=sizeLine; decide)
 have I2:Inv X pins σ H1 { s1 with heap:=s1.heap.push { cls:=.type "tuple",data:=.seq [u1,u2].toArray } }:=I1.kept (t':=s1.toks) λb o e=>HK _ e
 rw[hw];refine HD (HQ ?_);show wpAny (model X.prog X.w) X.A (do rule "assign.swapped-stores"; let items <- unpackItems (.ref s1.heap.objs.size) 2 td; assignInOrder [λv=>bindName X.env y v,λv=>bindName X.env x v] items.reverse; pure PY) _ _ _
 refine HD (Nn (HD (unpackItems_tuple (items:=[u1,u2].toArray) (I.ok.hd hc) (N2 s1.heap _) λh' hx'=>?_)))
 have I3:=I2.kept (h':=h') (t':=s1.toks) λb o e=>hx' b o (IA (Ik e)) e
 show wpAny _ _ (assignInOrder [λv=>bindName X.env y v,λv=>bindName X.env x v] [u2,u1] >>= λ_=>pure PY) _ _ _
 refine HD (LP (Ov (im I3 hN hj (.inl hy) rw' (λs2 I4=>?_) (.inr hy))))
 refine LP (Ov (im I4 hN hi (.inl hx) rv (λs3 I5=>ND (HQ ?_)) (.inr hx)))
 rw[List.set_comm _ _ (Ne.symm hij)]at I5;exact⟨_,H1,I5,q1⟩
end
section
variable{X:Cx}{pos:J9}
noncomputable def Ch (c:TT)(tb:TS):TS:=λD σ H=>∃W:HJ->St->Hp->Prop,(∃m,W m σ H)/\∀m σ H,W m σ H->
 c σ H λb H1=>if b=true then ∃N:St->Hp->Prop,(∀σ' H',N σ' H'->∃m',m' < m/\W m' σ' H')/\tb { D with nx:=N,ct:=N,bk:=D.nx } σ H1 else D.nx σ H1
theorem vz {c:Io}{body:HC Kt}{tc:TT}{tb:TS}(hp:M2 (model X.prog X.w) X.A X.env X.xe)(hc:PT X c tc)(hb:PSs X body tb):PS X (.While c body [] pos) (Ch tc tb):=by
 intro pins s σ H D I h;obtain⟨W,⟨m0,w0⟩,turn⟩:=h;refine wpAny_While (codeAny_whileLoop (λn s'=>∃σ' H',Inv X pins σ' H' s'/\W n σ' H') ?_ m0 ⟨σ,H,I,w0⟩)
 rintro n s1 ⟨σ1,H1,I1,w1⟩;refine Ki hp (b8 (hc pins s1 σ1 H1 _ I1 (turn n σ1 H1 w1)) λb s2 ⟨H2,I2,q2⟩=>?_)
 cases b with
 | true=>
  obtain⟨N,hN,q2⟩:=q2;rw[Iv rfl];refine Ki hp (b8 (hb pins s2 σ1 H2 _ I2 q2) λf s3 q3=>?_)
  cases f with
  | next=>
   obtain⟨σ3,H3,I3,n3⟩:=q3;obtain⟨m',hm,w3⟩:=hN σ3 H3 n3;exact⟨m',hm,σ3,H3,I3,w3⟩
  | cont=>
   obtain⟨σ3,H3,I3,n3⟩:=q3;obtain⟨m',hm,w3⟩:=hN σ3 H3 n3;exact⟨m',hm,σ3,H3,I3,w3⟩
  | brk=>exact q3
  | ret v=>exact q3
 | false=>
  rw[IK Ip];exact My ⟨σ1,H2,I2,q2⟩
end
structure It where
 go:HJ->Hp->Prop
 yld:HJ->Hp->V->Hp->Prop
 stop:HJ->Hp->Prop
noncomputable def iZ (X:Cx)(pins:HC (HN×JC))(H:Hp)(b:HN):Prop:=
 H b=td/\b≠X.env.locals/\b∉X.fs/\(b∈X.ex\/X.s₀.heap.objs.size<=b)/\(∀x c,X.env.cells.lookup x=gV c->c≠b)/\∀p∈X.pn++pins,p.1≠b
theorem Inv.fpOk {X:Cx}{pins:HC (HN×JC)}{σ:St}{H H':Hp}{s:HH}{b:HN}(I:Inv X pins σ H s)(hb:s.heap.objs.size<=b)(hn:H' b=td):iZ X pins H' b:=by
 refine⟨hn,KC (IB I.lt hb),I.nofs hb,.inr (IT I.sz hb),λx c e z=>?_,λp hp z=>?_⟩
 ·obtain⟨v,q⟩:=I.cell x c e;exact absurd (IB q.lt (by rw[z]; exact hb)) (Jr _)
 ·exact absurd (IB (Ik (I.pin p hp).1) (by rw[z]; exact hb)) (Jr _)
structure Turn (P:Iz)(w:IM)(K:HS)(tg:Io)(J:It)(fp:HC HN)(it:HN)(tn:HJ->IX->Prop):Prop where
 mem:it∈fp
 obj:∀i h,tn i h->∀b∈fp,∃o,h.get? b=gV o/\∀v,o.data≠.cell v
 keep:∀i h h',tn i h->(∀b∈fp,∀o,h.get? b=gV o->h'.get? b=gV o)->tn i h'
 item:∀(X:Cx),X.prog=P->X.w=w->X.K=K->X.calm=true->∀(i:HJ) (pins:HC (HN×JC)) (s:HH) (σ:St) (H:Hp) (E:HE->HH->Prop),Inv X pins σ H s->(∀b∈fp,iZ X pins H b)->tn i s.heap->J.go i H->
  wpAny (model P w) X.A (pyNext (.ref it)) (λr s1=>∃u,r=gV u/\
   wpAny (model P w) X.A (letOwnedTupleGo tg (.ref it) u) (λ_ s2=>∃x H',Inv X pins σ H' s2/\RelV x u/\J.yld i H x H'/\tn (i+1) s2.heap/\∀b∈fp,H' b=td) E s1) E s
 done:∀(X:Cx),X.prog=P->X.w=w->X.K=K->X.calm=true->∀(i:HJ) (pins:HC (HN×JC)) (s:HH) (σ:St) (H:Hp) (E:HE->HH->Prop),Inv X pins σ H s->(∀b∈fp,iZ X pins H b)->tn i s.heap->J.stop i H->
  wpAny (model P w) X.A (pyNext (.ref it)) (λr s1=>r=td/\Inv X pins σ H s1) E s
 self:∀(A:IJ) (i:HJ) (s:HH) (Q:HE->HH->Prop) (E:HE->HH->Prop),tn i s.heap->Q (.ref it) s->wpAny (model P w) A (pyIter (.ref it)) Q E s
noncomputable abbrev TI:=St->Hp->(It->Hp->Prop)->Prop
noncomputable def FV (X:Cx)(pins:HC (HN×JC))(σ:St)(tg:Io)(R:It->Hp->Prop)(itv:HE)(s2:HH):Prop:=
 ∃(it:HN) (fp:HC HN) (tn:HJ->IX->Prop) (J:It) (H':Hp),itv=.ref it/\Inv X pins σ H' s2/\Turn X.prog X.w X.K tg J fp it tn/\tn 0 s2.heap/\(∀b∈fp,iZ X pins H' b)/\R J H'
noncomputable def PI (X:Cx)(tg iter:Io)(wi:TI):Prop:=
 ∀(pins:HC (HN×JC)) (s:HH) (σ:St) (H:Hp) (R:It->Hp->Prop),Inv X pins σ H s->wi σ H R->
  wpAny (model X.prog X.w) X.A (eval iter X.env) (λv s1=>wpAny (model X.prog X.w) X.A (pyIter v) (FV X pins σ tg R) X.xe s1) X.xe s
theorem sf {M:P4}{A:IJ}{E:HE->HH->Prop}{s:HH}{tg:Io}{it:HN}{u:HE}{o:JC}{n:Jp}{vs:IW HE}{Q:Unit->HH->Prop}(ho:s.heap.get? it=gV o)(hc:o.cls=.type n)(hd:o.data=.fields vs)
    (hn:["enumerate","zip","dict_itemiterator","dict_reverseitemiterator","odict_iterator","itertools.zip_longest","itertools.pairwise"].contains n=false) (hQ:Q () s):wpAny M A (letOwnedTupleGo tg (.ref it) u) Q E s:=by
  unfold letOwnedTupleGo;cases tg <;> first
    | exact HQ hQ
    | (cases u <;> first
        | exact HQ hQ
        | (refine HD (No ho ?_)
           rw[hc,hd];show wpAny M A (if (["enumerate","zip","dict_itemiterator","dict_reverseitemiterator","odict_iterator","itertools.zip_longest","itertools.pairwise"].contains n&&vs[0]?==gV (rawInt _))=true then _ else _) Q E s
           rw[IK (by intro h; rw[hn,Bool.false_and]at h; cases h)]
           exact HQ hQ))
noncomputable def Gk (K:HS)(a:HN):It:=
 ⟨λi H=>∃xs x,SqL K H a xs/\xs[i]?=gV x,λi H x H'=>H'=H/\∀xs,SqL K H a xs->xs[i]?=gV x,λi H=>∃xs,SqL K H a xs/\xs.length<=i⟩
noncomputable def DR (K:HS)(a:HN):It:=
 ⟨λi H=>∃xs x,SqT K H a xs/\xs[i]?=gV x,λi H x H'=>H'=H/\∀xs,SqT K H a xs->xs[i]?=gV x,λi H=>∃xs,SqT K H a xs/\xs.length<=i⟩
noncomputable def Ej (lo:HY)(n:HJ):It:=⟨λi _=>i < n,λi H x H'=>H'=H/\x=.int (lo+i),λi _=>n<=i⟩
theorem tV {P:Iz}{w:IM}{K:HS}{tg:Io}(a it:HN):Turn P w K tg (Gk K a) [it] it (λi h=>h.IsListIter it a i) where
 mem:=by simp
 obj:=λi h st b hb=>by
  have e:b=it:=by simpa using hb
  subst e;obtain⟨o,e,c,d⟩:=st;exact⟨o,e,λv z=>by rw[d]at z; cases z⟩
 keep:=λi h h' st k=>st.at λo e=>k it (by simp) o e
 item:=by
  intro X hP hw hK hc i pins s σ H E I hf st hg;subst hP hw hK;obtain⟨xs,x,hq,hx⟩:=hg;obtain⟨its,rv,p,hz⟩:=I.list hq;obtain⟨u,hu,ru⟩:=rv.get hx;obtain⟨f0,f1,f2,f3,f4,f5⟩:=hf it (by simp)
  refine wpAny_pyNext_list_item st p.isList (x:=u) (by simpa using hu) λh' st' sb=>?_
  have I1:Inv X pins σ H { s with heap:=h' }:=I.turned (t':=s.toks) (λb o hb e=>(sb.2 b hb).trans e) f0 f1 f3 f4 f5
  obtain⟨o,e,c,d⟩:=id st';exact⟨u,rfl,sf (s:={ s with heap:=h' }) e c d (by decide) ⟨x,H,I1,ru,⟨rfl,λys hy=>by rw[I.list_inj hy hq]; exact hx⟩,st',λb hb=>(hf b hb).1⟩⟩
 done:=by
  intro X hP hw hK hc i pins s σ H E I hf st hg;subst hP hw hK;obtain⟨xs,hq,hx⟩:=hg;obtain⟨its,rv,p,hz⟩:=I.list hq;obtain⟨f0,f1,f2,f3,f4,f5⟩:=hf it (by simp)
  have hl:=rv.length;exact wpAny_pyNext_list_end (I.ok.hd hc) st p.isList (by simp; omega) λh' eb=>⟨rfl,I.turned (t':=s.toks) (λb o hb e=>eb b o hb e) f0 f1 f3 f4 f5⟩
 self:=λ_ _ _ _ _ st h=>wpAny_pyIter_listiter st h
theorem qW {P:Iz}{w:IM}{K:HS}{tg:Io}(a it:HN):Turn P w K tg (DR K a) [it] it (λi h=>h.IsTupleIter it a i) where
 mem:=by simp
 obj:=λi h st b hb=>by
  have e:b=it:=by simpa using hb
  subst e;obtain⟨o,e,c,d⟩:=st;exact⟨o,e,λv z=>by rw[d]at z; cases z⟩
 keep:=λi h h' st k=>st.at λo e=>k it (by simp) o e
 item:=by
  intro X hP hw hK hc i pins s σ H E I hf st hg;subst hP hw hK;obtain⟨xs,x,hq,hx⟩:=hg;obtain⟨its,rv,p,hz⟩:=I.tuple hq;obtain⟨u,hu,ru⟩:=rv.get hx;obtain⟨f0,f1,f2,f3,f4,f5⟩:=hf it (by simp)
  refine wpAny_pyNext_tuple_item st (show s.heap.IsTuple a its.toArray from p) (x:=u) (by simpa using hu) λh' st' sb=>?_
  have I1:Inv X pins σ H { s with heap:=h' }:=I.turned (t':=s.toks) (λb o hb e=>(sb.2 b hb).trans e) f0 f1 f3 f4 f5
  obtain⟨o,e,c,d⟩:=id st';exact⟨u,rfl,sf (s:={ s with heap:=h' }) e c d (by decide) ⟨x,H,I1,ru,⟨rfl,λys hy=>by rw[I.tuple_inj hy hq]; exact hx⟩,st',λb hb=>(hf b hb).1⟩⟩
 done:=by
  intro X hP hw hK hc i pins s σ H E I hf st hg;subst hP hw hK;obtain⟨xs,hq,hx⟩:=hg;obtain⟨its,rv,p,hz⟩:=I.tuple hq;obtain⟨f0,f1,f2,f3,f4,f5⟩:=hf it (by simp)
  have hl:=rv.length;exact wpAny_pyNext_tuple_end (I.ok.hd hc) st (show s.heap.IsTuple a its.toArray from p) (by simp; omega) λh' eb=>⟨rfl,I.turned (t':=s.toks) (λb o hb e=>eb b o hb e) f0 f1 f3 f4 f5⟩
 self:=λ_ _ _ _ _ st h=>wpAny_pyIter_tupleiter st h
theorem qX {P:Iz}{w:IM}{K:HS}{tg:Io}(it:HN)(lo:HY)(n:HJ):Turn P w K tg (Ej lo n) [it] it (λi h=>Pj h it (lo+(i:HJ)*1) ((n:HY) - (i:HJ)) 1) where
 mem:=by simp
 obj:=λi h st b hb=>by
  have e:b=it:=by simpa using hb
  subst e;exact⟨_,st,λv z=>by
   have z':Data.fields _=Data.cell v:=z;cases z'⟩
 keep:=λi h h' st k=>k it (by simp) _ st
 item:=by
  intro X hP hw hK hc i pins s σ H E I hf st hg;subst hP hw hK;obtain⟨f0,f1,f2,f3,f4,f5⟩:=hf it (by simp)
  have W:=Walks.range (prog:=X.prog) (w:=X.w) (I.ok.hd hc) it lo 1 n;refine W.item i s _ _ hg st λv h' tk hv st' kk=>?_
  obtain⟨t,rfl⟩:=hv;have I1:Inv X pins σ H { s with heap:=h',toks:=tk }:=I.turned (λb o hb e=>kk b o (by simpa using hb) e) f0 f1 f3 f4 f5
  refine⟨_,rfl,sf (s:={ s with heap:=h',toks:=tk }) (n:="range_iterator") st' rfl rfl (by decide) ⟨.int (lo+i),H,I1,⟨t,?_⟩,⟨rfl,rfl⟩,st',λb hb=>(hf b hb).1⟩⟩
  rw[Int.mul_one]
 done:=by
  intro X hP hw hK hc i pins s σ H E I hf st hg;subst hP hw hK;obtain⟨f0,f1,f2,f3,f4,f5⟩:=hf it (by simp)
  exact wpAny_pyNext_range_end (I.ok.hd hc) st (by have:n<=i:=hg; omega) λh' eb=>⟨rfl,I.turned (t':=s.toks) (λb o hb e=>eb b o hb e) f0 f1 f3 f4 f5⟩
 self:=λ_ _ _ _ _ st h=>wpAny_pyIter_rangeiter st h
section
variable{X:Cx}{tg:Io}
theorem pb {pins:HC (HN×JC)}{σ:St}{H:Hp}{s:HH}{R:It->Hp->Prop}{E:HE->HH->Prop}{lo hi:HY}{t u v:P9}{tk:HJ}(I:Inv X pins σ H s)(h1 : -(2 ^ 62)<=lo)(h2:lo < 2 ^ 62)(h3 : -(2 ^ 62)<=hi)(h4:hi < 2 ^ 62)
  (q:R (Ej lo (hi - lo).toNat) H):wpAny (model X.prog X.w) X.A (pyIter (.ref s.heap.objs.size)) (FV X pins σ tg R) E { s with heap:=s.heap.push { cls:=.type "range",data:=.fields [.int lo t,.int hi u,.int 1 v].toArray },toks:=tk }:=by
 refine wpAny_pyIter_range (IsRange.new ..) (O8 h1 h2 h3 h4) ?_;have I1:Inv X pins σ H { s with heap:=s.heap.push { cls:=.type "range",data:=.fields [.int lo t,.int hi u,.int 1 v].toArray },toks:=tk }:=I.kept λb o e=>HK _ e
 refine⟨(s.heap.push { cls:=.type "range",data:=.fields [.int lo t,.int hi u,.int 1 v].toArray }).objs.size,[(s.heap.push { cls:=.type "range",data:=.fields [.int lo t,.int hi u,.int 1 v].toArray }).objs.size],_,_,H,rfl,
  I1.kept (t':=tk) λb o e=>HK _ e,qX _ lo (hi - lo).toNat,?_,λb hb=>?_,q⟩
 ·have e1:lo+((0:HJ):HY)*1=lo:=by simp
  have e2:(((hi - lo).toNat:HJ):HY) - ((0:HJ):HY)=JJ lo hi 1:=by rw[Nc]; split <;> omega
  show Pj _ _ (lo+((0:HJ):HY)*1) ((((hi - lo).toNat:HJ):HY) - ((0:HJ):HY)) 1;rw[e1,e2];exact Il _ rfl
 ·have e:b=(s.heap.push { cls:=.type "range",data:=.fields [.int lo t,.int hi u,.int 1 v].toArray }).objs.size:=by simpa using hb
  subst e;exact I1.fpOk (HW _) (I1.hok.fresh (HW _))
noncomputable def Ek (ta:TA):TI:=λσ H R=>ta σ H λvs H1=>∃j:HY,vs=[.int j]/\-(2 ^ 62)<=j/\j < 2 ^ 62/\R (Ej 0 j.toNat) H1
noncomputable def iRng2 (ta:TA):TI:=λσ H R=>ta σ H λvs H1=>∃i j:HY,vs=[.int i,.int j]/\(-(2 ^ 62)<=i/\i < 2 ^ 62/\-(2 ^ 62)<=j/\j < 2 ^ 62)/\R (Ej i (j - i).toNat) H1
theorem tW {a:Io}{ta:TA}{p pos:J9}(hg:Gl X "range")(hm:X.mg "range" = td)(ha:PA X [a] ta)(hs:starEach [a] X.env=[(false,eval a X.env)]:=by rfl):PI X tg (.Call (.Name "range" p) [a] [] pos) (Ek ta):=by
 intro pins s σ H R I h;refine Call_ (iY I hg hm boot_range (J2 (b8 (ha pos pins s σ H _ I h) λus s1 ⟨vs,H1,I1,r1,q1⟩=>?_) hs rfl))
 obtain⟨j,e,q1,q2,q⟩:=q1;subst e;cases r1 with
 | cons r rr=>
  cases rr;obtain⟨t,rfl⟩:=r;exact Pc (pb I1 (by omega) (by omega) q1 q2 (by simpa using q))
theorem tX {a b:Io}{ta:TA}{p pos:J9}(hg:Gl X "range")(hm:X.mg "range" = td)(ha:PA X [a,b] ta)(hs:starEach [a,b] X.env=[(false,eval a X.env),(false,eval b X.env)]:=by rfl)(hs2:starEach [b] X.env=[(false,eval b X.env)]:=by rfl) :
  PI X tg (.Call (.Name "range" p) [a,b] [] pos) (iRng2 ta):=by
 intro pins s σ H R I h;refine Call_ (iY I hg hm boot_range (J2 (b8 (ha pos pins s σ H _ I h) λus s1 ⟨vs,H1,I1,r1,q1⟩=>?_) (by rw[hs,hs2]) (by rw[hs2]; rfl)))
 obtain⟨i,j,e,⟨q1,q2,q3,q4⟩,q⟩:=q1;subst e;cases r1 with
 | cons r rr=>
  cases rr with
  | cons r' rr=>
   cases rr;obtain⟨t,rfl⟩:=r;obtain⟨t',rfl⟩:=r';exact call_range_2 (pb I1 q1 q2 q3 q4 q)
noncomputable def Gm (wi:TI)(g:TG)(tb:TS):TS:=λD σ H=>wi σ H λJ H1=>∃W:HJ->HJ->St->Hp->Prop,(∃m,W 0 m σ H1)/\∀i m σ H,W i m σ H->
 (J.stop i H/\D.nx σ H)\/(J.go i H/\∃N:St->Hp->Prop,(∀σ' H',N σ' H'->∃m',m' < m/\W (i+1) m' σ' H')/\∀x H',J.yld i H x H'->g x σ H' λσ2 H2=>tb { D with nx:=N,ct:=N,bk:=D.nx } σ2 H2)
noncomputable def i3 (fp:HC HN)(h:IX):HC (HN×JC):=fp.filterMap λb=>(h.get? b).map λo=>(b,o)
theorem fD {fp:HC HN}{h:IX}{b:HN}{o:JC}(hb:b∈fp)(e:h.get? b=gV o):(b,o)∈i3 fp h:=Np.mpr ⟨b,hb,by rw[e]; rfl⟩
theorem tY {fp:HC HN}{h:IX}{p:HN×JC}(hp:p∈i3 fp h):p.1∈fp/\h.get? p.1=gV p.2:=by
 obtain⟨b,hb,e⟩:=Np.mp hp;cases q:h.get? b with
 | none=>rw[q]at e; cases e
 | some o=>
  rw[q]at e;have e':(b,o)=p:=Jo e;subst e';exact⟨hb,q⟩
theorem Inv.pinned {pins:HC (HN×JC)}{σ:St}{H:Hp}{s:HH}{fp:HC HN}(I:Inv X pins σ H s)(hf:∀b∈fp,iZ X pins H b)(ho:∀b∈fp,∃o,s.heap.get? b=gV o/\∀v,o.data≠.cell v):Inv X (pins++i3 fp s.heap) σ H s:=
 I.pins_of λp hp=>(IP.mp hp).elim (λz=>I.pin p (IE _ z)) λz=>by
  obtain⟨hb,e⟩:=tY z;obtain⟨f0,f1,f2,_⟩:=hf p.1 hb;obtain⟨o,e',d⟩:=ho p.1 hb;rw[e]at e'; cases e'
  exact⟨e,f0,f1,f2,d⟩
theorem Inv.unpinned {pins pl:HC (HN×JC)}{σ:St}{H:Hp}{s:HH}(I:Inv X (pins++pl) σ H s):Inv X pins σ H s:=I.pins_of λp hp=>I.pin p (IE _ (Kn _ hp))
theorem Ci {iter:Io}{body:HC Kt}{wi:TI}{g:TG}{tb:TS}{pos:J9}(hp:M2 (model X.prog X.w) X.A X.env X.xe)(hc:X.calm=true)(hi:PI X tg iter wi)(hg:PG X tg g)(hb:PSs X body tb)
  (hs:∀x,foldedSetIterable iter X.env x=pure x:=by intro _; rfl):PS X (.For tg iter body [] pos) (Gm wi g tb):=by
 intro pins s σ H D I h;refine wpAny_For (b8 (hi pins s σ H _ I h) λv s1 h1=>b8 h1 λitv s2 h2=>?_) hs
 obtain⟨it,fp,tn,J,H2,e,I2,T,aR,f2,W,⟨m0,w0⟩,turn⟩:=h2;subst e;have stat:∀ {H':Hp},(∀b∈fp,H' b=td)->∀b∈fp,iZ X pins H' b:=λhn b hb=>⟨hn b hb,(f2 b hb).2⟩
 refine codeAny_forLoop_any (λn s'=>∃i σ' H',Inv X pins σ' H' s'/\tn i s'.heap/\(∀b∈fp,H' b=td)/\W i n σ' H') ?_ m0 ⟨0,σ,H2,I2,aR,λb hb=>(f2 b hb).1,w0⟩
 rintro n s3 ⟨i,σ3,H3,I3,st3,fr3,w3⟩;rcases turn i n σ3 H3 w3 with⟨stop,qn⟩|⟨go,N,hN,step⟩
 ·refine Ki hp (b8 (T.done X rfl rfl rfl hc i pins s3 σ3 H3 X.xe I3 (stat fr3) st3 stop) λr s4 ⟨hr,I4⟩=>?_)
  subst hr;exact My ⟨σ3,H3,I4,qn⟩
 ·refine Ki hp (b8 (T.item X rfl rfl rfl hc i pins s3 σ3 H3 X.xe I3 (stat fr3) st3 go) λr s4 ⟨u,hr,h4⟩=>?_)
  subst hr;refine Ki hp (b8 h4 λ_ s5 ⟨x,H5,I5,r5,y5,st5,fr5⟩=>?_)
  have I5':=I5.pinned (stat fr5) (T.obj _ _ st5);refine Ki hp (b8 (hg _ s5 σ3 H5 x u _ I5' r5 (step x H5 y5)) λ_ s6 ⟨σ6,H6,I6,q6⟩=>?_)
  refine Ki hp (b8 (hb _ s6 σ6 H6 _ I6 q6) λf s7 q7=>?_)
  have again:∀ {σ7:St} {H7:Hp},Inv X (pins++i3 fp s5.heap) σ7 H7 s7->N σ7 H7->∃m,m < n/\∃i σ' H',Inv X pins σ' H' s7/\tn i s7.heap/\(∀b∈fp,H' b=td)/\W i m σ' H':=λ{σ7 H7} I7 n7=>by
   obtain⟨m',hm,w7⟩:=hN σ7 H7 n7;refine⟨m',hm,i+1,σ7,H7,I7.unpinned,T.keep _ _ _ st5 λb hb o e=>(I7.pin (b,o) (IE _ (IE _ (fD hb e)))).1,λb hb=>?_,w7⟩
   obtain⟨o,e,d⟩:=T.obj _ _ st5 b hb;exact(I7.pin (b,o) (IE _ (IE _ (fD hb e)))).2.1
  cases f with
  | next=>obtain⟨σ7,H7,I7,n7⟩:=q7; exact again I7 n7
  | cont=>obtain⟨σ7,H7,I7,n7⟩:=q7; exact again I7 n7
  | brk=>obtain⟨σ7,H7,I7,q7⟩:=q7; exact⟨σ7,H7,I7.unpinned,q7⟩
  | ret v=>obtain⟨x7,σ7,H7,I7,r7,q7⟩:=q7; exact⟨x7,σ7,H7,I7.unpinned,r7,q7⟩
end
theorem for_tup {K:HS}{a:HN}{xs:HC V}{g:TG}{tb:TS}{D:Ends}{σ:St}{H:Hp}(Pv:HJ->St->Hp->Prop)(h0:Pv 0 σ H)(hl:∀i σ H,i<=xs.length->Pv i σ H->SqT K H a xs)
  (hs:∀i x σ H,xs[i]?=gV x->Pv i σ H->g x σ H λσ2 H2=>tb { D with nx:=Pv (i+1),ct:=Pv (i+1),bk:=D.nx } σ2 H2) (hd:∀σ H,Pv xs.length σ H->D.nx σ H) :
  ∃W:HJ->HJ->St->Hp->Prop,(∃m,W 0 m σ H)/\∀i m σ H,W i m σ H->
   ((DR K a).stop i H/\D.nx σ H)\/((DR K a).go i H/\∃N:St->Hp->Prop,(∀σ' H',N σ' H'->∃m',m' < m/\W (i+1) m' σ' H')/\∀x H',(DR K a).yld i H x H'->g x σ H' λσ2 H2=>tb { D with nx:=N,ct:=N,bk:=D.nx } σ2 H2):=by
 refine⟨λi m σ H=>m=xs.length - i/\i<=xs.length/\Pv i σ H,⟨xs.length,by simp,J6 _,h0⟩,?_⟩
 rintro i m σ H ⟨rfl,hi,p⟩;have q:=hl i σ H hi p
 by_cases hlt:i < xs.length
 ·refine .inr ⟨⟨xs,xs[i],q,by simp[hlt]⟩,Pv (i+1),λσ' H' p'=>⟨xs.length - (i+1),by omega,rfl,hlt,p'⟩,λx H' y=>?_⟩
  obtain⟨e,y⟩:=y;subst e;exact hs i x σ _ (y xs q) p
 ·have e:i=xs.length:=by omega
  subst e;exact .inl ⟨⟨xs,q,HW _⟩,hd σ H p⟩
noncomputable abbrev R2:=V->V->Hp->VK->Prop
noncomputable def OpR (X:Cx)(f:HE->HE->Pi HE)(r:R2):Prop:=
 ∀(pins:HC (HN×JC)) (s:HH) (σ:St) (H:Hp) (x y:V) (v u:HE) (Q:VK),Inv X pins σ H s->RelV x v->RelV y u->r x y H Q->
  wpAny (model X.prog X.w) X.A (f v u) (EP X pins σ Q) X.xe s
noncomputable def Gn (X:Cx)(f:HE->Pi HE)(r:V->Hp->VK->Prop):Prop:=
 ∀(pins:HC (HN×JC)) (s:HH) (σ:St) (H:Hp) (x:V) (v:HE) (Q:VK),Inv X pins σ H s->RelV x v->r x H Q->
  wpAny (model X.prog X.w) X.A (f v) (EP X pins σ Q) X.xe s
noncomputable def CallR (X:Cx)(f:HE)(r:HC V->Hp->VK->Prop):Prop:=
 ∀(pins:HC (HN×JC)) (s:HH) (σ:St) (H:Hp) (xs:HC V) (us:HC HE) (Q:VK),Inv X pins σ H s->Vals xs us->r xs H Q->
  wpAny (model X.prog X.w) X.A (call f us) (EP X pins σ Q) X.xe s
noncomputable def Go (X:Cx)(r:V->Hp->(Ir->Hp->Prop)->Prop):Prop:=
 ∀(pins:HC (HN×JC)) (s:HH) (σ:St) (H:Hp) (x:V) (v:HE) (Q:Ir->Hp->Prop),Inv X pins σ H s->RelV x v->r x H Q->
  wpAny (model X.prog X.w) X.A (truthy v) (TP X pins σ Q) X.xe s
noncomputable def FW (r:R2)(ta tb:TE):TE:=λσ H Q=>ta σ H λx H1=>tb σ H1 λy H2=>r x y H2 Q
noncomputable def Hr (r:V->Hp->VK->Prop)(ta:TE):TE:=λσ H Q=>ta σ H λx H1=>r x H1 Q
noncomputable def rI (C:HY->HY->Prop)(g:HY->HY->V):R2:=λx y H Q=>∃i j,x=.int i/\y=.int j/\C i j/\Q (g i j) H
noncomputable def Br (g:HY->HY->V):R2:=λx y H Q=>∃i j,x=.int i/\y=.int j/\Q (g i j) H
noncomputable def rU (g:HY->V):V->Hp->VK->Prop:=λx H Q=>∃i,x=.int i/\Q (g i) H
section
variable{X:Cx}{a b c:Io}{ta tb tc:TE}{pos:J9}
theorem Cj (ha:PE X a ta)(hb:PE X b tb){pins:HC (HN×JC)}{s:HH}{σ:St}{H:Hp}{R:V->V->Hp->Prop}(I:Inv X pins σ H s)
  (h:ta σ H λx H1=>tb σ H1 λy H2=>R x y H2) {Q:HE->HH->Prop} {f:HE->HE->Pi HE}
  (hf:∀v u s2 x y H2,Inv X pins σ H2 s2->RelV x v->RelV y u->R x y H2->wpAny (model X.prog X.w) X.A (f v u) Q X.xe s2) :
  wpAny (model X.prog X.w) X.A (eval a X.env) (λv s₁=>wpAny (model X.prog X.w) X.A (eval b X.env) (λu s₂=>wpAny (model X.prog X.w) X.A (f v u) Q X.xe s₂) X.xe s₁) X.xe s:=by
 refine b8 (ha pins s σ H _ I h) λv s1 ⟨x,H1,I1,r1,q1⟩=>?_
 refine b8 (hb pins s1 σ H1 _ I1 q1) λu s2 ⟨y,H2,I2,r2,q2⟩=>?_
 exact hf v u s2 x y H2 I2 r1 r2 q2
theorem El {op:NE}{r:R2}(ho:OpR X (binaryOp op) r)(ha:PE X a ta)(hb:PE X b tb):PE X (.BinOp a op b pos) (FW r ta tb):=by
 intro pins s σ H Q I h;exact wpAny_BinOp (Cj ha hb I h λv u s2 x y H2 I2 rx ry q=>ho pins s2 σ H2 x y v u Q I2 rx ry q)
theorem Em {op:UnaryOp}{r:V->Hp->VK->Prop}(ho:Gn X (unaryOp op) r)(ha:PE X a ta):PE X (.UnaryOp op a pos) (Hr r ta):=by
 intro pins s σ H Q I h;exact UnaryOp_ (b8 (ha pins s σ H _ I h) λv s1 ⟨x,H1,I1,r1,q1⟩=>ho pins s1 σ H1 x v Q I1 r1 q1)
theorem FX {f:HE->HE->Pi HE}{C:HY->HY->Prop}{g:HY->HY->HY}
  (rule:∀(i j:HY) (t u:P9) (s:HH) (Q:HE->HH->Prop) (E:HE->HH->Prop),C i j->Q (.int (g i j) s.toks) { s with toks:=s.toks+1 }->wpAny (model X.prog X.w) X.A (f (.int i t) (.int j u)) Q E s) :
  OpR X f (rI C λi j=>.int (g i j)):=by
 intro pins s σ H x y v u Q I rx ry h;obtain⟨i,j,rfl,rfl,hc,q⟩:=h;obtain⟨t,rfl⟩:=rx;obtain⟨t',rfl⟩:=ry;exact rule i j t t' s _ _ hc ⟨.int (g i j),H,I.tok _,⟨_,rfl⟩,q⟩
theorem En {f:HE->HE->Pi HE}{g:HY->HY->HY}
  (rule:∀(i j:HY) (t u:P9) (s:HH) (Q:HE->HH->Prop) (E:HE->HH->Prop),Q (.int (g i j) s.toks) { s with toks:=s.toks+1 }->wpAny (model X.prog X.w) X.A (f (.int i t) (.int j u)) Q E s) :
  OpR X f (Br λi j=>.int (g i j)):=by
 intro pins s σ H x y v u Q I rx ry h;obtain⟨i,j,rfl,rfl,q⟩:=h;obtain⟨t,rfl⟩:=rx;obtain⟨t',rfl⟩:=ry;exact rule i j t t' s _ _ ⟨.int (g i j),H,I.tok _,⟨_,rfl⟩,q⟩
theorem yQ {f:HE->HE->Pi HE}{g:HY->HY->Ir}
  (rule:∀(i j:HY) (t u:P9) (s:HH) (Q:HE->HH->Prop) (E:HE->HH->Prop),Q (.bool (g i j)) s->wpAny (model X.prog X.w) X.A (f (.int i t) (.int j u)) Q E s) :
  OpR X f (Br λi j=>.bl (g i j)):=by
 intro pins s σ H x y v u Q I rx ry h;obtain⟨i,j,rfl,rfl,q⟩:=h;obtain⟨t,rfl⟩:=rx;obtain⟨t',rfl⟩:=ry;exact rule i j t t' s _ _ ⟨.bl (g i j),H,I,rfl,q⟩
noncomputable def Gp (i j:HY):Prop:=0 < j/\j < 1073741824
noncomputable def Gq (i j:HY):Prop:=0<=j/\j<=1000000/\i.natAbs < 2 ^ 64
noncomputable def CMul (i j:HY):Prop:=(-(2 ^ 64) < i/\i < 2 ^ 64)\/(-(2 ^ 64) < j/\j < 2 ^ 64)
theorem CMul.ok {i j:HY}(h:CMul i j):IntMulOk i j:=by
 rcases h with⟨h1,h2⟩|⟨h1,h2⟩
 ·exact .of_left (OT h1 h2)
 ·exact .of_right (OT h1 h2)
theorem Ck:OpR X (binaryOp .Add) (Br λi j=>.int (i+j)):=En λ_ _ _ _ _ _ _ q=>add_int q
theorem Cm:OpR X (binaryOp .Sub) (Br λi j=>.int (i - j)):=En λ_ _ _ _ _ _ _ q=>sub_int q
theorem Cn:OpR X (binaryOp .Mult) (rI CMul λi j=>.int (i*j)):=FX λ_ _ _ _ _ _ _ hc q=>mul_int q hc.ok
theorem yR:OpR X (binaryOp .FloorDiv) (rI Gp λi j=>.int (i / j)):=FX λi j _ _ _ _ _ hc q=>by
 have h1:(0:HY) < j:=hc.1;have h2:j < 1073741824:=hc.2;exact floordiv_int (by omega) (by rw[Int.fdiv_eq_ediv_of_nonneg i (by omega)]; exact q) (.inl (PyProof.noPylong_small (by omega)))
theorem Co:OpR X (binaryOp .Mod) (rI (λ_ j=>0 < j) λi j=>.int (i % j)):=FX λi j _ _ _ _ _ hc q=>by
 have h1:(0:HY) < j:=hc;exact mod_int' (by omega) (by rw[Int.fmod_eq_emod_of_nonneg i (by omega)]; exact q)
theorem Cp:OpR X (binaryOp .Pow) (rI Gq λi j=>.int (i ^ j.toNat)):=FX λ_ _ _ _ _ _ _ hc q=>pow_int_small hc.1 hc.2.1 hc.2.2 q
theorem Hs {f:HE->Pi HE}{g:HY->HY}
  (rule:∀(i:HY) (t:P9) (s:HH) (Q:HE->HH->Prop) (E:HE->HH->Prop),Q (.int (g i) s.toks) { s with toks:=s.toks+1 }->wpAny (model X.prog X.w) X.A (f (.int i t)) Q E s) :
  Gn X f (rU λi=>.int (g i)):=by
 intro pins s σ H x v Q I rx h;obtain⟨i,rfl,q⟩:=h;obtain⟨t,rfl⟩:=rx;exact rule i t s _ _ ⟨.int (g i),H,I.tok _,⟨_,rfl⟩,q⟩
theorem Cq:Gn X (unaryOp .USub) (rU λi=>.int (-i)):=Hs λ_ _ _ _ _ q=>neg_int q
end
section
variable{X:Cx}{a b c:Io}{ta tb tc:TE}{pos:J9}
theorem vA {pins:HC (HN×JC)}{σ:St}{H:Hp}{s:HH}{Q:VK}{k k':Ir}(I:Inv X pins σ H s)(q:Q (.bl k) H)(e:k=k'):EP X pins σ Q (.bool k') s:=by
 subst e;exact⟨.bl k,H,I,rfl,q⟩
theorem Eo:OpR X (compareOp .Lt) (Br λi j=>.bl (decide (i < j))):=yQ λ_ _ _ _ _ _ _ q=>lt_int q
theorem Er:OpR X (compareOp .LtE) (Br λi j=>.bl (decide (i<=j))):=yQ λ_ _ _ _ _ _ _ q=>le_int q
theorem Et:OpR X (compareOp .Gt) (Br λi j=>.bl (decide (j < i))):=yQ λ_ _ _ _ _ _ _ q=>gt_int q
theorem Eu:OpR X (compareOp .GtE) (Br λi j=>.bl (decide (j<=i))):=yQ λ_ _ _ _ _ _ _ q=>ge_int q
theorem Cr:OpR X (compareOp .Is) (λx y H Q=>y=.non/\Q (.bl (decide (x=.non))) H):=by
 intro pins s σ H x y v u Q I rx ry h;obtain⟨rfl,q⟩:=h;cases ry;refine is_none_gen (vA I q ?_);cases x <;> first
  | (cases rx; rfl)
  | (obtain⟨t,rfl⟩:=rx; rfl)
theorem yS:OpR X (compareOp .IsNot) (λx y H Q=>y=.non/\Q (.bl (!decide (x=.non))) H):=by
 intro pins s σ H x y v u Q I rx ry h;obtain⟨rfl,q⟩:=h;cases ry;refine isnot_none_gen (vA I q ?_);cases x <;> first
  | (cases rx; rfl)
  | (obtain⟨t,rfl⟩:=rx; rfl)
theorem yT {op:O9}{r:R2}(ho:OpR X (compareOp op) r)(ha:PE X a ta)(hb:PE X b tb)(hm:behindInMarks op b=false):PE X (.Compare a [op] [b] pos) (FW r ta tb):=by
 intro pins s σ H Q I h;exact wpAny_Compare1 (Cj ha hb I h λv u s2 x y H2 I2 rx ry q=>ho pins s2 σ H2 x y v u Q I2 rx ry q) hm
noncomputable def Ev (t:TE):TT:=λσ H Q=>t σ H λx H'=>∃k,x=.bl k/\Q k H'
theorem yU {op:O9}{r:R2}(ho:OpR X (compareOp op) r)(ha:PE X a ta)(hb:PE X b tb)(hm:behindInMarks op b=false):PT X (.Compare a [op] [b] pos) (Ev (FW r ta tb)):=by
 intro pins s σ H Q I h;refine wpAny_isTrue_Compare1 (b8 (ha pins s σ H _ I h) λv s1 ⟨x,H1,I1,r1,q1⟩=>b8 (hb pins s1 σ H1 _ I1 q1) λu s2 ⟨y,H2,I2,r2,q2⟩=>
  b8 (ho pins s2 σ H2 x y v u _ I2 r1 r2 q2) λc s3 ⟨z,H3,I3,r3,k,e,q3⟩=>?_) hm
 subst e;cases r3;exact JW ⟨H3,I3,q3⟩
noncomputable def Gr (K:HS)(x:V)(H:Hp)(k:Ir):Prop:=
 match x with
 | .non=>k=false
 | .bl b=>k=b
 | .int i=>k=(i != 0)
 | .str y=>y.length<=sizeLine/\k=((y.length:HY) != 0)
 | .byt y=>y.size<=sizeLine/\k=((y.size:HY) != 0)
 | .ref p=>(∃xs,SqL K H p xs/\k = !xs.isEmpty)\/(∃xs,SqT K H p xs/\k = !xs.isEmpty)\/∃kvs,H p=gV (.dK kvs)/\k = !kvs.isEmpty
 | _=>Jn
theorem qY {κ:Type}{kvs:HC (κ×V)}{vs:HC (κ×HE)}(r:KV kvs vs):(!vs.isEmpty) = !kvs.isEmpty:=by
 cases r <;> rfl
theorem ki {xs:HC V}{its:HC HE}(r:Vals xs its):(!its.toArray.isEmpty) = !xs.isEmpty:=by
 cases r <;> simp
theorem i4:(sizeLine:HJ) < 2 ^ 63:=by rw[Ja]; decide
theorem Cs:Go X (λx H Q=>∃k,Gr X.K x H k/\Q k H):=by
 intro pins s σ H x v Q I rx h;obtain⟨k,e,q⟩:=h;have hl:=i4;have hs:sizeLine=16777216:=Ja;cases x with
 | non=>
  cases rx;have e':k=false:=e;subst e';exact truthy_none ⟨H,I,q⟩
 | bl b=>
  cases rx;have e':k=b:=e;subst e';exact JW ⟨H,I,q⟩
 | int i=>
  obtain⟨t,rfl⟩:=rx;have e':k=(i != 0):=e;subst e';exact PySem.P.truthy_int ⟨H,I,q⟩
 | str y=>
  obtain⟨t,rfl⟩:=rx;obtain⟨hy,e'⟩ : y.length<=sizeLine/\k=((y.length:HY) != 0):=e;subst e';exact PySem.P.truthy_str (by omega) ⟨H,I.tok _,q⟩
 | byt y=>
  obtain⟨t,rfl⟩:=rx;obtain⟨hy,e'⟩ : y.size<=sizeLine/\k=((y.size:HY) != 0):=e;subst e';exact PySem.W.truthy_bytes (by omega) ⟨H,I.tok _,q⟩
 | ref p=>
  cases rx;have e':(∃xs,SqL X.K H p xs/\k = !xs.isEmpty)\/(∃xs,SqT X.K H p xs/\k = !xs.isEmpty)\/∃kvs,H p=gV (.dK kvs)/\k = !kvs.isEmpty:=e;rcases e' with⟨xs,hx,e'⟩|⟨xs,hx,e'⟩|⟨kvs,hx,e'⟩
  ·subst e';obtain⟨its,r,pl,hz⟩:=I.list hx;have hlen:=r.length;exact wpAny_truthy_list pl.isList (by simp only[HZ]; omega) ⟨H,I.tok _,by rw[ki r]; exact q⟩
  ·subst e';obtain⟨its,r,pl,hz⟩:=I.tuple hx;have hlen:=r.length;exact truthy_tuple pl (by simp only[HZ]; omega) ⟨H,I.tok _,by rw[ki r]; exact q⟩
  ·subst e';obtain⟨hz,hS,vs,r,m⟩ : kvs.length<=sizeLine/\(p==sysModules)=false/\∃vs,KV kvs vs/\s.heap.DictOf (nr X.prog X.w) p vs:=I.hok p _ hx;have hlen:kvs.length=vs.length:=L9 r;exact wpAny_truthy_dict hS m (by omega) ⟨H,I.tok _,by rw[qY r]; exact q⟩
 | _=>exact(show Jn from e).elim
theorem qZ:OpR X (binaryOp .Add) (λx y H Q=>∃i j,x=.str i/\y=.str j/\i.length+j.length<=sizeLine/\Q (.str (i++j)) H):=by
 intro pins s σ H x y v u Q I rx ry h;obtain⟨i,j,rfl,rfl,hz,q⟩:=h;obtain⟨t,rfl⟩:=rx;obtain⟨t',rfl⟩:=ry;exact add_str (λt' tk=>⟨.str (i++j),H,I.tok _,⟨_,rfl⟩,q⟩) hz
theorem mo {x:V}{us:HC HE}(r:Vals [x] us):∃u,us=[u]/\RelV x u:=by
 cases r with
 | cons r1 r2=>cases r2; exact⟨_,rfl,r1⟩
theorem mq:CallR X (.type "int") (λxs H Q=>(∃i,xs=[.int i]/\Q (.int i) H)\/∃k,xs=[.bl k]/\Q (.int (if k then 1 else 0)) H):=by
 intro pins s σ H xs us Q I r h;rcases h with⟨i,rfl,q⟩|⟨k,rfl,q⟩
 ·obtain⟨u,rfl,t,rfl⟩:=mo r;exact call_int_int ⟨.int i,H,I,⟨_,rfl⟩,q⟩
 ·obtain⟨u,rfl,r1⟩:=mo r;cases r1;exact call_int_bool ⟨.int (if k then 1 else 0),H,I.tok _,⟨_,rfl⟩,q⟩
noncomputable def Gs (K:HS)(x:V)(H:Hp)(n:HJ):Prop:=
 match x with
 | .str y=>y.length<=sizeLine/\n=y.length
 | .byt y=>y.size<=sizeLine/\n=y.size
 | .ref p=>(∃xs,SqL K H p xs/\n=xs.length)\/∃xs,SqT K H p xs/\n=xs.length
 | _=>Jn
theorem kj:CallR X (.builtin "len") (λxs H Q=>∃x n,xs=[x]/\Gs X.K x H n/\Q (.int n) H):=by
 intro pins s σ H xs us Q I r h;obtain⟨x,n,rfl,e,q⟩:=h;obtain⟨u,rfl,rx⟩:=mo r;have hl:=i4;have hs:sizeLine=16777216:=Ja;cases x with
 | str y=>
  obtain⟨t,rfl⟩:=rx;obtain⟨hy,e'⟩ : y.length<=sizeLine/\n=y.length:=e;subst e';exact len_str (by omega) ⟨.int _,H,I.tok _,⟨_,rfl⟩,q⟩
 | byt y=>
  obtain⟨t,rfl⟩:=rx;obtain⟨hy,e'⟩ : y.size<=sizeLine/\n=y.size:=e;subst e';exact PySem.W.len_bytes (by omega) ⟨.int _,H,I.tok _,⟨_,rfl⟩,q⟩
 | ref p=>
  cases rx;have e':(∃xs,SqL X.K H p xs/\n=xs.length)\/∃xs,SqT X.K H p xs/\n=xs.length:=e;rcases e' with⟨xs,hx,e'⟩|⟨xs,hx,e'⟩
  ·subst e';obtain⟨its,r',pl,hz⟩:=I.list hx;have hlen:=r'.length;exact Calls.call_len_list pl.isList (by simp only[HZ]; omega) ⟨.int xs.length,H,I.tok _,⟨_,by simp only[HZ]; rw[hlen]⟩,q⟩
  ·subst e';obtain⟨its,r',pl,hz⟩:=I.tuple hx;have hlen:=r'.length;exact len_tuple pl (by simp only[HZ]; omega) ⟨.int xs.length,H,I.tok _,⟨_,by simp only[HZ]; rw[hlen]⟩,q⟩
 | _=>exact(show Jn from e).elim
end
structure Room (k:HJ)(A:IJ):Prop where
 hd:A.handled=td
 dp:A.depth+3*k+5 < recursionLimit
 un:A.units+16*k+200 < cLine
theorem Room.deeper {k:HJ}{A:IJ}(r:Room (k+1) A)(env:NB):Room k (A.deeper env):=
 ⟨r.hd,by have:=r.dp; show A.depth+1+3*k+5 < _; omega,by have:=r.un; show A.units+3+16*k+200 < _; omega⟩
theorem Room.depth {k:HJ}{A:IJ}(r:Room k A):A.depth < recursionLimit:=by have:=r.dp; omega
noncomputable def Ew:TA:=λ_ H Q=>Q [] H
noncomputable def Ex (ta:TE)(tr:TA):TA:=λσ H Q=>ta σ H λx H1=>tr σ H1 λxs H2=>Q (x::xs) H2
section
variable{X:Cx}{e:Io}{es:HC Io}{te:TE}{t:TA}{pos:J9}
theorem vB:PA X [] Ew:=λ_ _ _ _ H Q I h=>Calls.spliced_nil ⟨[],H,I,.nil,h⟩
theorem nv (ha:PE X e te)(hr:PA X es t)(hs:starEach (e::es) X.env=(false,eval e X.env)::starEach es X.env:=by rfl):PA X (e::es) (Ex te t):=by
 intro pos pins s σ H Q I h;rw[hs];show wpAny _ _ (spliced ((false,eval e X.env)::backTo pos (starEach es X.env))) _ _ s;refine Calls.spliced_cons (b8 (ha pins s σ H _ I h) λu s1 ⟨x,H1,I1,r1,q1⟩=>?_)
 exact b8 (hr pos pins s1 σ H1 _ I1 q1) λus s2 ⟨xs,H2,I2,r2,q2⟩=>⟨x::xs,H2,I2,.cons r1 r2,q2⟩
noncomputable def Gu (t:TA):TE:=λσ H Q=>t σ H λxs H1=>xs.length<=sizeLine/\∀p,H1 p=td->Q (.ref p) (cv H1 p (.tup xs))
noncomputable def Gv (t:TA):TE:=λσ H Q=>t σ H λxs H1=>xs.length<=sizeLine/\∀p,H1 p=td->Q (.ref p) (cv H1 p (.lst xs))
theorem Ct {x1}(h:PA X es t):PE X (.Tuple es x1 pos) (Gu t):=by
 intro pins s σ H Q I hq;refine wpAny_Tuple_spliced (b8 (h pos pins s σ H _ I hq) λus s1 ⟨xs,H1,I1,r,z,q⟩=>⟨by rw[<- r.length]; exact z,?_⟩)
 have hf:H1 s1.heap.objs.size=td:=I1.hok.fresh (HW _);refine⟨.ref s1.heap.objs.size,cv H1 s1.heap.objs.size (.tup xs),I1.laid (t':=s1.toks) (λb u e=>HK _ e) (HW _) ?_,rfl,q _ hf⟩
 exact⟨z,us,r,⟨_,Il _ rfl,rfl,_,rfl⟩⟩
theorem Cu (h:PA X es t):PE X (.List es pos) (Gv t):=by
 intro pins s σ H Q I hq;refine wpAny_List_spliced (b8 (h pos pins s σ H _ I hq) λus s1 ⟨xs,H1,I1,r,z,q⟩=>⟨by rw[<- r.length]; exact z,?_⟩)
 have hf:H1 s1.heap.objs.size=td:=I1.hok.fresh (HW _);refine⟨.ref s1.heap.objs.size,cv H1 s1.heap.objs.size (.lst xs),I1.laid (t':=s1.toks) (λb u e=>HK _ e) (HW _) ?_,rfl,q _ hf⟩
 exact⟨z,us,0,r,Il _ rfl⟩
end
noncomputable abbrev Sp:=HC V->Hp->VK->XK->Prop
noncomputable abbrev vC:=HC NB->Hp->HH->XK->HE->HH->Prop
structure Env0 (P:Iz)(w:IM)(K:HS)(mg:Ih->HI HE)(base:IX)(A:IJ)(outer:HC NB)(s:HH)(H:Hp):Prop where
 frames:A.frames=gV outer
 mod:Mod K mg base
 bs:∀b o,base.get? b=gV o->s.heap.get? b=gV o/\H b=td
 bsz:base.objs.size<=s.heap.objs.size
 funs:s.heap.FunFrames base outer
 frf:∀b∈qV outer,H b=td
 hok:HOk P w H s.heap
 bare:L5 s.gens
noncomputable def CE (outer:HC NB)(P:Iz)(w:IM)(H:Hp)(s:HH)(Q:VK)(u:HE)(s':HH):Prop:=
 ∃v H',s'.os=s.os/\L5 s'.gens/\Un (qV outer) [] H H' s.heap s'.heap/\HOk P w H' s'.heap/\RelV v u/\Q v H'
noncomputable def CR (CX:vC)(outer:HC NB)(P:Iz)(w:IM)(H:Hp)(s:HH)(Q:VK)(E:XK)(r:N3)(s':HH):Prop:=
 match r with
 | .ok (.ret u)=>CE outer P w H s Q u s'
 | .ok _=>Jn
 | .error e=>CX outer H s E e s'
structure FnOk (P:Iz)(w:IM)(K:HS)(mg:Ih->HI HE)(base:IX)(CX:vC)(k:HJ)(f:HN)(fd:Kb)(ps:HC Ih)(sp:Sp):Prop where
 len:∀vs H Q E,sp vs H Q E->vs.length=ps.length
 run:∀(A:IJ) (outer:HC NB) (s:HH) (H:Hp) (args:Args) (us:HC HE) (vs:HC V) (Q:VK) (E:XK),Room k A->Env0 P w K mg base A outer s H->NF s fd args (ps.zip us)->Vals vs us->sp vs H Q E->
  codeAny (model P w) A (.call (.ref f) args) (CR CX outer P w H s Q E) s
section
variable{X:Cx}{pins:HC (HN×JC)}{σ:St}{H:Hp}{s s':HH}
theorem Inv.env0 (I:Inv X pins σ H s):Env0 X.prog X.w X.K X.mg X.base X.A X.stack s H:=
 ⟨I.ok.frames,I.ok.mod,I.bs,IT I.ok.bsz I.sz,I.stack,I.stkFree,I.hok,I.bare⟩
theorem Inv.after {Q:VK}{u:HE}(I:Inv X pins σ H s)(h:CE X.stack X.prog X.w H s Q u s'):EP X pins σ Q u s':=by
 obtain⟨v,H',os,bare,un,hok,r,q⟩:=h;obtain⟨hh,g,d,t,os'⟩:=s';obtain rfl:os'=s.os:=os;exact⟨v,H',I.call (h':=hh) (g':=g) (d':=d) (t':=t) (ch:=[]) un hok bare (λb z=>absurd z (by simp)),r,q⟩
end
noncomputable def vD (sp:Sp)(dvs:HC V)(E:XK)(t:TA):TE:=λσ H Q=>t σ H λvs H1=>sp (vs++dvs) H1 Q E
noncomputable def Binds (K:HS)(fd:Kb)(ps:HC Ih)(ds:HC HE):Prop:=
 ∀(s:HH) (us:HC HE),K.In s.heap->(us++ds).length=ps.length->NF s fd ⟨us,[]⟩ (ps.zip (us++ds))
theorem Binds.all {K:HS}{fd:Kb}{ps:HC Ih}(h:∀us:HC HE,us.length=ps.length->bindArgs fd ⟨us,[]⟩=pure (ps.zip us)):Binds K fd ps []:=λs us _ hl=>by
 rw[Jy]at hl ⊢;exact .of_eq (h us hl)
noncomputable def nw (CX:vC)(X:Cx)(E:XK):Prop:=∀(pins:HC (HN×JC)) (σ:St) (H:Hp) (s:HH) (e:HE) (s':HH),Inv X pins σ H s->CX X.stack H s E e s'->X.xe e s'
section
variable{X:Cx}{CX:vC}{k:HJ}{f C:HN}{fd:Kb}{ps:HC Ih}{sp:Sp}{dvs:HC V}{ds:HC HE}{E:XK}{x m:Ih}{p pos apos:J9}{e o:Io}{es:HC Io}{ta:TE}{t:TA}
theorem vE {pins:HC (HN×JC)}{σ:St}{H:Hp}{s:HH}{Q:VK}{us:HC HE}{vs:HC V}(F:FnOk X.prog X.w X.K X.mg X.base CX k f fd ps sp)(hr:Room k X.A)(hb:Binds X.K fd ps ds)(hd:Vals dvs ds)(hx:nw CX X E)
  (I:Inv X pins σ H s) (r:Vals vs us) (h:sp (vs++dvs) H Q E):wpAny (model X.prog X.w) X.A (call (.ref f) us) (EP X pins σ Q) X.xe s:=by
 have r2:Vals (vs++dvs) (us++ds):=r.append hd;have hl:(us++ds).length=ps.length:=by rw[<- r2.length]; exact F.len _ _ _ _ h
 refine wpAny_call (Mq (F.run X.A X.stack s H ⟨us,[]⟩ (us++ds) (vs++dvs) Q E hr I.env0 (hb s us I.kIn hl) r2 h) λr s' hq=>?_)
 cases r with
 | error e=>exact hx pins σ H s e s' I hq
 | ok fl=>
  cases fl with
  | ret u=>exact I.after hq
  | next=>exact Jn.elim hq
  | brk=>exact Jn.elim hq
  | cont=>exact Jn.elim hq
theorem yV (F:FnOk X.prog X.w X.K X.mg X.base CX k f fd ps sp)(hr:Room k X.A)(hg:Gl X x)(hm:X.mg x=gV (.ref f))(hk:Ju X.K (.ref f)=true)(hb:Binds X.K fd ps ds)(hd:Vals dvs ds)(hx:nw CX X E)
  (ha:PA X (e::es) t) (hdb:(x==("__debug__" : Ih))=false:=by decide) (he:starEach (e::es) X.env=(false,eval e X.env)::starEach es X.env:=by rfl) (hpl:(backTo pos (starEach es X.env)).any (·.1)=false:=by rfl) :
  PE X (.Call (.Name x p) (e::es) [] pos) (vD sp dvs E t):=by
 intro pins s σ H Q I h;refine K9 (sd I hg hm ?_ hdb);refine PySem.W.callWith_K (h₀:=X.base) I.ok.mod.kin hk (b8 (ha pos pins s σ H _ I h) λus s1 ⟨vs,H1,I1,r,q⟩=>⟨I1.kIn,?_⟩) he hpl
 exact vE F hr hb hd hx I1 r q
theorem vF (F:FnOk X.prog X.w X.K X.mg X.base CX k f fd ps sp)(hr:Room k X.A)(hg:Gl X x)(hm:X.mg x=gV (.ref f))(hk:Ju X.K (.ref f)=true)(hb:Binds X.K fd ps ds)(hd:Vals dvs ds)(hx:nw CX X E)
  (hdb:(x==("__debug__" : Ih))=false:=by decide):PE X (.Call (.Name x p) [] [] pos) (vD sp dvs E Ew):=by
 intro pins s σ H Q I h;refine K9 (sd I hg hm ?_ hdb);exact PySem.W.callWith_K0 I.kIn hk (vE (us:=[]) F hr hb hd hx I .nil h)
end
structure FnScope (N P:HC Ih)(sc:KI):Prop where
 kind:sc.kind=.function
 co:sc.isCoroutine=false
 gen:sc.isGenerator=false
 nd:N.Nodup
 pre:N.take P.length=P
 par:∀x∈P,sc.names.lookup x=gV .local\/sc.names.lookup x=gV .cell
 nofree:∀y∈sc.names,y.2≠.free
theorem mr {kindOf:Ih->HI JK}{x:Ih}:∀ {binds:HC (Ih×HE)} {m:Ih->HI HE},(∀v,(x,v)∉binds)->bindL kindOf binds m x=m x
 | [],_,_=>rfl
 | (n,v)::r,m,h=>by
  unfold bindL;rw[mr λw hw=>h w (Jg _ hw)]
  split
  ·have:x≠n:=by rintro rfl; exact h v JI
   simp[this]
  ·rfl
theorem mv {kindOf:Ih->HI JK}{x:Ih}:∀ {binds:HC (Ih×HE)} {m:Ih->HI HE},(∀v,(x,v)∉binds)->bindC kindOf binds m x=m x
 | [],_,_=>rfl
 | (n,v)::r,m,h=>by
  unfold bindC;rw[mv λw hw=>h w (Jg _ hw)]
  split
  ·rfl
  ·have:x≠n:=by rintro rfl; exact h v JI
   simp[this]
theorem mw {kindOf:Ih->HI JK}{x:Ih}{v:HE}:∀ {P:HC Ih} {vs:HC HE} {i:HJ} {m:Ih->HI HE},P.Nodup->P[i]?=gV x->vs[i]?=gV v->kindOf x=gV .local->
  bindL kindOf (P.zip vs) m x=gV v
 | [],_,_,_,_,h,_,_=>by simp at h
 | _::_,[],_,_,_,_,h,_=>by simp at h
 | p::P,w::vs,0,m,nd,h1,h2,hk=>by
  simp at h1 h2; subst h1; subst h2
  show bindL kindOf ((p,w)::P.zip vs) m p=_;unfold bindL;rw[mr λv hv=>(Kj.mp nd).1 (Mz hv).1,Iv hk]
  simp
 | p::P,w::vs,i+1,m,nd,h1,h2,hk=>by
  show bindL kindOf ((p,w)::P.zip vs) m x=_;unfold bindL;exact mw (i:=i) (Kj.mp nd).2 (by simpa using h1) (by simpa using h2) hk
theorem mx {kindOf:Ih->HI JK}{x:Ih}{v:HE}:∀ {P:HC Ih} {vs:HC HE} {i:HJ} {m:Ih->HI HE},P.Nodup->P[i]?=gV x->vs[i]?=gV v->kindOf x≠gV .local->
  bindC kindOf (P.zip vs) m x=gV v
 | [],_,_,_,_,h,_,_=>by simp at h
 | _::_,[],_,_,_,_,h,_=>by simp at h
 | p::P,w::vs,0,m,nd,h1,h2,hk=>by
  simp at h1 h2; subst h1; subst h2
  show bindC kindOf ((p,w)::P.zip vs) m p=_;unfold bindC;rw[mv λv hv=>(Kj.mp nd).1 (Mz hv).1,IK hk]
  simp
 | p::P,w::vs,i+1,m,nd,h1,h2,hk=>by
  show bindC kindOf ((p,w)::P.zip vs) m x=_;unfold bindC;exact mx (i:=i) (Kj.mp nd).2 (by simpa using h1) (by simpa using h2) hk
noncomputable def fX (N:HC Ih)(vs:HC V):St:=vs.map gV++Ix (N.length - vs.length) td
noncomputable def q8 (CX:vC)(P:Iz)(w:IM)(K:HS)(mg:Ih->HI HE)(base:IX)(N:HC Ih)(qual:Ih)(scope:KI)(f:HN)(cd:HE)(A:IJ)(outer:HC NB)(s:HH)(H:Hp)(E:XK):Cx where
 prog:=P
 w:=w
 K:=K
 mg:=mg
 base:=base
 A:=A.deeper (envOfC qual scope s.heap.objs.size f cd)
 N:=N
 s₀:=s
 H₀:=H
 env:=envOfC qual scope s.heap.objs.size f cd
 outer:=outer
 stack:=envOfC qual scope s.heap.objs.size f cd::outer
 ex:=[]
 calm:=true
 fn:=λ_=>true
 pn:=[]
 xe:=λe s'=>wpAny (model P w) (A.deeper (envOfC qual scope s.heap.objs.size f cd)) (leaving (envOfC qual scope s.heap.objs.size f cd) e) (λ_ s''=>CX outer H s E e s'') (λe' s''=>CX outer H s E e' s'') s'
theorem pc {sc:KI}{n:HJ}{x:Ih}(h:sc.names.lookup x=gV .cell):∃c,(cellsFrom n sc.names []).lookup x=gV c:=by
 have q:=Mr sc.names n [] (.inl h);exact Jh.mp q
theorem tZ {CX:vC}{P:Iz}{w:IM}{K:HS}{mg:Ih->HI HE}{base:IX}{N ps:HC Ih}{qual:Ih}{scope:KI}{f:HN}{cd:HE}{A:IJ}{outer:HC NB}{s s1:HH}{H:Hp}{E:XK}{us:HC HE}{vs:HC V}
  (S:FnScope N ps scope) (hd:A.handled=td) (e0:Env0 P w K mg base A outer s H) (hl:vs.length=ps.length) (r:Vals vs us)
  (x:InCallC s s.heap.objs.size (bindL (envOfC qual scope s.heap.objs.size f cd).kindOf (ps.zip us) λ_=>td) (cellsFrom (s.heap.objs.size+1) scope.names []) (bindC (envOfC qual scope s.heap.objs.size f cd).kindOf (ps.zip us) λ_=>td) s1) :
  Inv (q8 CX P w K mg base N qual scope f cd A outer s H E) [] (fX N vs) H s1:=by
 have hpl:ps.length<=N.length:=by have:=congrArg Pk S.pre; rw[IL]at this; omega
 obtain⟨h1,tk,rfl,hk⟩:=x.done;have noA:∀b:HN,b∉(q8 CX P w K mg base N qual scope f cd A outer s H E).ex:=λb z=>absurd (show b∈([]:HC HN)from z) (by simp)
 refine⟨⟨e0.mod,S.kind,rfl,rfl,HW _,λy z c h1 h2=>?_,λy hy=>?_,λy c _ h=>?_,λ_=>hd,Around.frames_deeper e0.frames,.inr ⟨rfl,rfl⟩,λb z=>absurd z (noA b),e0.bs,e0.bsz,λb _ _=>noA b,λb z=>absurd z (noA b),e0.funs,e0.frf⟩,
  rfl,e0.bare,Un.kept hk,⟨_,x.toInCall.ns,λi y v h1 h2 h3=>?_⟩,λy c h=>⟨_,x.cell y c h⟩,e0.hok.fresh (HW _),λy c h=>?_,λp hp=>absurd (show p∈([]:HC (HN×JC))from hp) (by simp),e0.hok.kept hk,?_⟩
 ·exact name_of_addr x.apart (Kx h1) (Kx h2)
 ·have hy:scope.names.lookup y=gV .cell\/scope.names.lookup y=gV .free:=hy;rcases hy with hy|hy
  ·exact pc hy
  ·exact absurd rfl (S.nofree _ (Kx hy))
 ·exact Le (x.above y c (Kx h))
 ·have hi:i < vs.length:=by
   unfold fX at h2
   by_cases hi:i < vs.length
   ·exact hi
   ·rw[Jb (by simpa using hi)]at h2
    rw[List.getElem?_replicate]at h2;split at h2 <;> cases h2
  have ha:vs[i]?=gV v:=by
   unfold fX at h2;rw[IF (by simpa using hi),HP]at h2
   cases e:vs[i]? with
   | none=>rw[e]at h2; cases h2
   | some a=>rw[e]at h2; cases h2; rfl
  obtain⟨u,hu,rv⟩:=r.get ha;have hp:ps[i]?=gV y:=by
   rw[<- S.pre,Ma (by omega)]; exact h1
  have ndP:ps.Nodup:=by rw[<- S.pre]; exact S.nd.sublist (NG _ _)
  refine⟨u,rv,?_⟩;rcases S.par y (Ij hp)with k|k
  ·exact .inl ⟨k,mw ndP hp hu k⟩
  ·obtain⟨c,e⟩:=pc (n:=s.heap.objs.size+1) k;refine .inr ⟨.inl k,c,e,?_⟩;have q:=x.cell y c e;rw[mx ndP hp hu (by show scope.names.lookup y≠_; rw[k]; decide)]at q
   exact q
 ·exact e0.hok.fresh (Le (x.above y c (Kx h)))
 ·unfold fX;show _=N.length;rw[HM,HF,Ke];omega
theorem Ey {CX:vC}{P:Iz}{w:IM}{K:HS}{mg:Ih->HI HE}{base:IX}{k:HJ}{f:HN}{name qual:Ih}{params:Arguments}{body:HC Kt}{scope:KI}{dV kV doc pm cdv ct oc:HE}{an od:HI HN}
  {osl:IW (HI HE)} {N ps:HC Ih} {sp:Sp} (lk:K.lookup f=gV ⟨oc,od,.func (JT name qual params body scope dV kV doc pm an cdv ct),osl⟩) (hcd:KP K cdv qual=true) (S:FnScope N ps scope)
  (len:∀vs H Q E,sp vs H Q E->vs.length=ps.length)
  (hbody:∀(A:IJ) (outer:HC NB) (s:HH) (H:Hp) (vs:HC V) (Q:VK) (E:XK),Room k (A.deeper (envOfC qual scope s.heap.objs.size f cdv))->sp vs H Q E->
   ∃t,PSs (q8 CX P w K mg base N qual scope f cdv A outer s H E) body t/\t { nx:=λ_ H'=>Q .non H',rt:=Q } (fX N vs) H) :
  FnOk P w K mg base CX (k+1) f (JT name qual params body scope dV kV doc pm an cdv ct) ps sp:=by
 refine⟨len,λA outer s H args us vs Q E hr e0 hb r hsp=>?_⟩
 have hl:=len _ _ _ _ hsp;have KX:K.In s.heap:=e0.mod.kin.keeps λb o e=>(e0.bs b o e).1
 have lim:s.heap.NoLimit:=e0.mod.nolimit.keeps λb o e=>(e0.bs b o e).1
 have hkind:∀y∈ps.zip us,scope.names.lookup y.1=gV .local\/(scope.names.lookup y.1=gV .cell/\((cellsFrom (s.heap.objs.size+1) scope.names []).lookup y.1).isSome=true):=λ⟨n,v⟩ hy=>by
  rcases S.par n (Mz hy).1 with q|q
  ·exact .inl q
  ·exact .inr ⟨q,Mr _ _ _ (.inl q)⟩
 refine codeAny_call_function hr.depth (KX _ _ lk) rfl S.co S.gen rfl (PySem.W.codeRec_of KX hcd) (hb _ _ _ _ ?_);refine wpAny_newFunctionEnv_cells S.kind hkind λenv he s1 x=>?_
 subst he;refine⟨lim.keeps x.toInCall.keep,codeAny_func ?_⟩;obtain⟨t,ht,hq⟩:=hbody A outer s H vs Q E (hr.deeper _) hsp;have I:Inv (q8 CX P w K mg base N qual scope f cdv A outer s H E) [] (fX N vs) H s1:=tZ S hr.hd e0 hl r x;refine JN (ht [] s1 (fX N vs) H _ I hq) (λfl s' hs=>?_) λe s' hs=>hs
 have fin:∀ {σ':St} {H':Hp} {v:V} {u:HE},Inv (q8 CX P w K mg base N qual scope f cdv A outer s H E) [] σ' H' s'->RelV v u->Q v H'->CE outer P w H s Q u s':=
  λ{σ' H' v u} J rv q=>⟨v,H',J.os,J.bare,J.base,J.hok,rv,q⟩
 cases fl with
 | ret u=>
  obtain⟨v,σ',H',J,rv,q⟩:=hs;exact fin J rv q
 | next=>
  obtain⟨σ',H',J,q⟩:=hs;exact fin (v:=V.non) (u:=Je) J rfl q
 | brk=>
  obtain⟨_,_,_,q⟩:=hs;exact Jn.elim q
 | cont=>
  obtain⟨_,_,_,q⟩:=hs;exact Jn.elim q
section
variable{X:Cx}{x:Ih}{p pos:J9}{e:Io}{es:HC Io}{t:TA}{id T:Jp}{r:HC V->Hp->VK->Prop}
noncomputable def Hi (r:HC V->Hp->VK->Prop)(t:TA):TE:=λσ H Q=>t σ H λvs H1=>r vs H1 Q
theorem pd (hc:CallR X (.builtin id) r)(hg:Gl X x)(hm:X.mg x=td)(hv:bootBuiltins x=gV (.builtin id))(ha:PA X (e::es) t)(hn:x≠"__name__":=by decide)(hdb:(x==("__debug__" : Ih))=false:=by decide)
  (he:starEach (e::es) X.env=(false,eval e X.env)::starEach es X.env:=by rfl) (hpl:(backTo pos (starEach es X.env)).any (·.1)=false:=by rfl):PE X (.Call (.Name x p) (e::es) [] pos) (Hi r t):=by
 intro pins s σ H Q I h;refine K9 (iY I hg hm hv ?_ hn hdb);exact N4 (b8 (ha pos pins s σ H _ I h) λus s1 ⟨vs,H1,I1,r1,q1⟩=>hc pins s1 σ H1 vs us Q I1 r1 q1) he hpl
theorem t4 (hc:CallR X (.type T) r)(hg:Gl X x)(hm:X.mg x=td)(hv:bootBuiltins x=gV (.type T))(ha:PA X (e::es) t)(hn:x≠"__name__":=by decide)(hdb:(x==("__debug__" : Ih))=false:=by decide)
  (he:starEach (e::es) X.env=(false,eval e X.env)::starEach es X.env:=by rfl) (hpl:(backTo pos (starEach es X.env)).any (·.1)=false:=by rfl):PE X (.Call (.Name x p) (e::es) [] pos) (Hi r t):=by
 intro pins s σ H Q I h;refine K9 (iY I hg hm hv ?_ hn hdb);exact J2 (b8 (ha pos pins s σ H _ I h) λus s1 ⟨vs,H1,I1,r1,q1⟩=>hc pins s1 σ H1 vs us Q I1 r1 q1) he hpl
end
end L2
namespace HT
open PySem PyProof.Rows
section
open PySem.SeqAt
open PySem.AutoSeq1 (wpAny_loadPart')
open PySem.MeetsSeq PySem.MeetsSeq2 PySem.MeetsSeq3
end
section
variable{prog:Iz}{w:IM}{A:IJ}{E:HE->HH->Prop}{s:HH}
theorem yW {t b:HN}{vs ws:HC HE}{Q:HE->HH->Prop}(ht:NA s.heap t vs.toArray)(hb:NA s.heap b ws.toArray)(hv:vs≠[])
  (h1:ws=[]->Q (.ref t) s) (h2:ws≠[]->Q (.ref s.heap.objs.size) { s with heap:=s.heap.push { cls:=.type "tuple",data:=.seq (vs++ws).toArray } })
  (hsz:vs.length+ws.length<=sizeLine):wpAny (model prog w) A (binaryOp .Add (.ref t) (.ref b)) Q E s:=by
 obtain⟨⟨cls,dd,data,sl⟩,ho,hc,n,hd⟩:=id ht;obtain⟨⟨cls2,dd2,data2,sl2⟩,ho2,hc2,n2,hd2⟩:=id hb;simp only at hc hd hc2 hd2;subst hc hd hc2 hd2;have e:vs.toArray++ws.toArray=(vs++ws).toArray:=by simp
 by_cases hw:ws=[]
 ·exact NH ⟨_,ho,rfl⟩ ⟨_,ho2,rfl⟩ Mg Nd Lf Lc (K4 _ _)
   (tuple_addW1 t b vs.toArray ws.toArray n n2 dd dd2 sl sl2 (by simpa using hv) (by simp[hw])) ⟨ho,ho2,h1 hw⟩
 ·refine NH ⟨_,ho,rfl⟩ ⟨_,ho2,rfl⟩ Mg Nd Lf Lc (K4 _ _)
   (tuple_addW2 t b vs.toArray ws.toArray n n2 dd dd2 sl sl2 (by simpa using hv) (by simpa using hw) (by rw[HZ,HZ]; exact hsz)) ⟨ho,ho2,?_⟩
  rw[e];exact h2 hw
noncomputable def cR (n d:HJ):HI HY->HJ
 | none=>d
 | some v=>if v < 0 then(v+(n:HY)).toNat else min v.toNat n
theorem km (n d:HJ):cR n d td=d:=rfl
theorem sg (n d k:HJ):cR n d (gV (k:HY))=min k n:=by
 show(if (k:HY) < 0 then((k:HY)+(n:HY)).toNat else min (k:HY).toNat n)=min k n
 rw[IK (by omega),HU]
theorem Cv (n d:HJ)(hd:d<=n)(o:HI HY):cR n d o<=n:=by
 cases o with
 | none=>exact hd
 | some v=>
  show(if v < 0 then(v+(n:HY)).toNat else min v.toNat n)<=n
  by_cases hv:v < 0
  ·rw[Iv hv]; omega
  ·rw[IK hv]; exact Nat.min_le_right _ _
theorem sh (v:HY)(n d:HJ):(if v < 0 then max (v+(n:HY)) 0 else min v (n:HY))=((cR n d (gV v):HJ):HY):=by
 show(if v < 0 then max (v+(n:HY)) 0 else min v (n:HY))=(((if v < 0 then(v+(n:HY)).toNat else min v.toNat n):HJ):HY)
 by_cases hv:v < 0
 ·simp only[Iv hv]; omega
 ·simp only[IK hv]; omega
theorem q9 (lo hi:HI HY)(n:HJ):KU lo hi 1 (n:HY)=(((cR n 0 lo:HJ):HY),((cR n n hi:HJ):HY)):=by
 have h1:¬ ((1:HY) < 0):=by omega
 unfold KU;simp only[h1,Kq];refine Pl ?_ ?_
 ·cases lo with
  | none=>rfl
  | some v=>exact sh v n 0
 ·cases hi with
  | none=>rfl
  | some v=>exact sh v n n
theorem rc (i j:HJ):Kh (i:HY) (j:HY) 1=j - i:=by
 unfold Kh;have h1:(1:HY) > 0:=by omega
 simp only[h1,KJ,Int.ediv_one];split <;> omega
theorem kn {v:HE}{o:HI HY}{Q:HI HY->HH->Prop}(p:LQ v o)(h:Q o s):wpAny (model prog w) A (Ol v) Q E s:=by
 cases p with
 | none=>exact Ow h
 | int i t=>exact slicePart_int h
theorem fq {sl:HN}{vl vu:HE}{lo hi:HI HY}{n:HJ}{Q:HY×HY×HJ->HH->Prop}(hs:s.heap.IsSliceOf sl vl vu .none)(pl:LQ vl lo)(pu:LQ vu hi)
  (h:Q (((cR n 0 lo:HJ):HY),1,cR n n hi - cR n 0 lo) s):wpAny (model prog w) A (LR (.ref sl) (pure (n:HY))) Q E s:=by
 obtain⟨os,hos,hcs,hds⟩:=id hs;unfold LR OP;refine HD (HD (JU hos hds (x:=vl) rfl (HD (JU hos hds (x:=vu) rfl (HD (JU hos hds (x:=.none) rfl (HQ ?_)))))));refine HD (Ow ?_);show wpAny _ _ (if ((1:HY)==0)=true then _ else _) _ _ s
 rw[IK (by decide)]
 refine HD (kn pl (HD (kn pu (HD (HQ ?_)))));show wpAny _ _ (match KU lo hi 1 (n:HY)with|(lo,hi)=>pure (lo,(1:HY),Kh lo hi 1)) _ _ s
 rw[q9 lo hi n];show wpAny _ _ (pure (((cR n 0 lo:HJ):HY),(1:HY),Kh ((cR n 0 lo:HJ):HY) ((cR n n hi:HJ):HY) 1)) _ _ s;rw[rc];exact HQ h
theorem vG (xs:IW HE)(i k:HJ):((Ic k).filterMap λ(m:HJ)=>xs[((i:HY)+(m:HY)*1).toNat]?).toArray=((xs.toList.drop i).take k).toArray:=by
 have e:(λ(m:HJ)=>xs[((i:HY)+(m:HY)*1).toNat]?)=λm=>xs[i+m]?:=by
  funext m
  have:((i:HY)+(m:HY)*1).toNat=i+m:=by omega
  rw[this]
 rw[e];have:=pick_run xs i k;rw[List.filterMap_map]at this;have e2:((λx=>xs[x]?)∘λx=>i+x)=λm=>xs[i+m]?:=rfl
 rw[e2]at this;rw[this]
theorem io {t sl:HN}{items:IW HE}{vl vu:HE}{lo hi:HI HY}{Q:HE->HH->Prop}(ht:NA s.heap t items)(hs:s.heap.IsSliceOf sl vl vu .none)(pl:LQ vl lo)(pu:LQ vu hi)
  (hw:¬ (cR items.size 0 lo=0/\cR items.size items.size hi=items.size))
  (h:Q (.ref s.heap.objs.size) { s with heap:=s.heap.push { cls:=.type "tuple",data:=.seq ((items.toList.drop (cR items.size 0 lo)).take (cR items.size items.size hi - cR items.size 0 lo)).toArray } })
  (hsz:items.size<=sizeLine):wpAny (model prog w) A (getItem (.ref t) (.ref sl)) Q E s:=by
 have htake:sizeOk (.seq ((items.toList.drop (cR items.size 0 lo)).take (cR items.size items.size hi - cR items.size 0 lo)).toArray):=by
  show((items.toList.drop (cR items.size 0 lo)).take (cR items.size items.size hi - cR items.size 0 lo)).toArray.size<=sizeLine;rw[HZ,IL,KA,II];omega
 have hj:cR items.size items.size hi<=items.size:=Cv _ _ (HW _) hi;obtain⟨os,hos,hcs,hds⟩:=id hs;have hTs:s.TypeIs (.ref sl) "slice":=⟨os,hos,hcs⟩;unfold getItem
 try with_reducible refine Jx ?_
 first|refine HD (HQ ?_)|skip
 refine HD (NJ ht.typeIs (by decide) ?_)
 refine HD (Jk (name:=J3 "__getitem__") ht.typeIs JQ
  (Js JQ ht.typeIs M5 ?_ (Nq _ _)))
 show wpAny _ _ (KQ (.ref t) >>= _) _ _ s;refine HD (OU ht ?_);refine HD (LJ hTs ?_);rw[Iv (by decide)]
 refine HD (fq hs pl pu ?_);have hno:¬ ((((cR items.size 0 lo:HJ):HY)==0&&(1:HY)==1&&(cR items.size items.size hi - cR items.size 0 lo)==items.size)=true):=by
  intro q;rw[HL,HL]at q;have q1:((cR items.size 0 lo:HJ):HY)=0:=eq_of_beq q.1.1;have q2:cR items.size items.size hi - cR items.size 0 lo=items.size:=eq_of_beq q.2;exact hw ⟨by omega,by omega⟩
 show wpAny _ _ (if (((cR items.size 0 lo:HJ):HY)==0&&(1:HY)==1&&(cR items.size items.size hi - cR items.size 0 lo)==items.size)=true then _ else _) _ _ s
 rw[IK hno,vG]
 first
  | exact HD (m:=JE _) (IY (HQ ⟨_,rfl,HQ h⟩) htake)
  | exact HD (m:=JE _) (IY (HD (HQ (HQ ⟨_,rfl,HQ h⟩))) htake)
  | exact HD (HD (m:=JE _) (IY (HQ (HQ ⟨_,rfl,HQ h⟩)) htake))
  | exact HD (HD (m:=JE _) (IY (HQ ⟨_,rfl,HQ h⟩) htake))
end
end HT
namespace L2
open PySem PySem.Spec PyProof.Rows
noncomputable abbrev TO:=St->Hp->(HI HY->Hp->Prop)->Prop
noncomputable def PO (X:Cx)(e:HI Io)(t:TO):Prop:=
 ∀(pins:HC (HN×JC)) (s:HH) (σ:St) (H:Hp) (Q:HI HY->Hp->Prop),Inv X pins σ H s->t σ H Q->
  wpAny (model X.prog X.w) X.A (evalPart e X.env) (λu s'=>∃o H',Inv X pins σ H' s'/\LQ u o/\Q o H') X.xe s
noncomputable def yX:TO:=λ_ H Q=>Q td H
noncomputable def Ez (t:TE):TO:=λσ H Q=>t σ H λx H1=>∃i,x=.int i/\Q (gV i) H1
section
variable{X:Cx}{e:Io}{te:TE}{lo hi:HI Io}{tl th:TO}{pos p2:J9}
theorem yY:PO X td yX:=by
 intro pins s σ H Q I h;rw[OV];exact HQ ⟨td,H,I,.none,h⟩
theorem yZ (h:PE X e te):PO X (gV e) (Ez te):=by
 intro pins s σ H Q I hw;rw[evalPart_some];refine b8 (h pins s σ H _ I hw) λu s1 ⟨x,H1,I1,r1,q1⟩=>?_
 obtain⟨i,rfl,q⟩:=q1;obtain⟨t,rfl⟩:=r1;exact⟨gV i,H1,I1,.int i t,q⟩
noncomputable def EA (X:Cx)(r:V->HI HY->HI HY->Hp->VK->Prop):Prop:=
 ∀(pins:HC (HN×JC)) (s:HH) (σ:St) (H:Hp) (x:V) (v vl vu:HE) (lo hi:HI HY) (sl:HN) (Q:VK),Inv X pins σ H s->RelV x v->s.heap.IsSliceOf sl vl vu .none->LQ vl lo->LQ vu hi->r x lo hi H Q->
  ∃T id,typeLookup (.type T) "__getitem__" = pure (gV (.builtin id))/\s.TypeIs v T/\wpAny (model X.prog X.w) X.A (getItem v (.ref sl)) (EP X pins σ Q) X.xe s
noncomputable def Ht (r:V->HI HY->HI HY->Hp->VK->Prop)(te:TE)(tl th:TO):TE:=λσ H Q=>te σ H λx H1=>tl σ H1 λl H2=>th σ H2 λu H3=>r x l u H3 Q
theorem vH {r:V->HI HY->HI HY->Hp->VK->Prop}(hr:EA X r)(he:PE X e te)(hl:PO X lo tl)(hu:PO X hi th):PE X (.Subscript e (.Slice lo hi td p2) pos) (Ht r te tl th):=by
 intro pins s σ H Q I h;refine Subscript_ (b8 (he pins s σ H _ I h) λv s1 ⟨x,H1,I1,r1,q1⟩=>?_)
 refine wpAny_Slice (b8 (hl pins s1 σ H1 _ I1 q1) λvl s2 ⟨l,H2,I2,pl,q2⟩=>b8 (hu pins s2 σ H2 _ I2 q2) λvu s3 ⟨u,H3,I3,pu,q3⟩=>?_)
 rw[OV];refine HQ ?_;have I4:Inv X pins σ H3 { s3 with heap:=s3.heap.push { cls:=.type "slice",data:=.fields [vl,vu,.none].toArray } }:=I3.kept (t':=s3.toks) λb ob q=>HK _ q
 obtain⟨T,id,hT,ht,hg⟩:=hr pins { s3 with heap:=s3.heap.push { cls:=.type "slice",data:=.fields [vl,vu,.none].toArray } } σ H3 x v vl vu l u s3.heap.objs.size Q I4 r1 (PF ..) pl pu q3
 show wpAny (model X.prog X.w) X.A (subscriptTail e (.Slice lo hi td p2) v (.ref s3.heap.objs.size)) (EP X pins σ Q) X.xe { s3 with heap:=s3.heap.push { cls:=.type "slice",data:=.fields [vl,vu,.none].toArray } }
 exact tail_any (ops:=[.ref s3.heap.objs.size,v]) ht hT hg (by with_unfolding_all rfl)
noncomputable def ko (xs:HC V)(lo hi:HI HY):HC V:=(xs.drop (HT.cR xs.length 0 lo)).take (HT.cR xs.length xs.length hi - HT.cR xs.length 0 lo)
theorem jF (xs:HC V)(lo hi:HI HY):(ko xs lo hi).length<=xs.length:=by
 unfold ko;rw[IL,KA];omega
noncomputable def Gw (K:HS):V->HI HY->HI HY->Hp->VK->Prop:=λx lo hi H Q=>∃a xs,x=.ref a/\SqT K H a xs/\
 ¬ (HT.cR xs.length 0 lo=0/\HT.cR xs.length xs.length hi=xs.length)/\∀p,H p=td->Q (.ref p) (cv H p (.tup (ko xs lo hi)))
theorem Cw:EA X (Gw X.K):=by
 intro pins s σ H x v vl vu lo hi sl Q I rx hs pl pu h;obtain⟨a,xs,rfl,hx,hw,q⟩:=h;cases rx;obtain⟨its,r,ht,hz⟩:=I.tuple hx;have hlen:its.toArray.size=xs.length:=by rw[HZ]; exact r.length.symm
 refine⟨"tuple",_,PyProof.Rows.slot_tuple_getitem.lookup,ht.typeIs,?_⟩;refine HT.io ht hs pl pu (by rw[hlen]; exact hw) ?_ (by rw[hlen]; exact hz)
 rw[hlen];refine⟨.ref s.heap.objs.size,_,I.laid (t':=s.toks) (o:=.tup (ko xs lo hi)) (λb ob q=>HK _ q) (HW _) ?_,rfl,q _ (I.hok.fresh (HW _))⟩
 exact⟨IT (jF xs lo hi) hz,_,(r.drop (HT.cR xs.length 0 lo)).take (HT.cR xs.length xs.length hi - HT.cR xs.length 0 lo),N2 _ _⟩
theorem Vals.nil_iff {xs:HC V}{us:HC HE}(r:Vals xs us):us=[]↔xs=[]:=by
 cases r with
 | nil=>simp
 | cons _ _=>simp
end
noncomputable def qT (n:HJ)(i:HY):HI HJ:=if 0<=i then(if i < n then gV i.toNat else td)else if -(n:HY)<=i then gV (i+n).toNat else td
noncomputable def o7 {α:Type}(xs:HC α)(i:HY):HI α:=(qT xs.length i).bind λj=>xs[j]?
theorem si {n:HJ}{i:HY}{j:HJ}(h:qT n i=gV j):seqIndex? i n=gV j/\j < n/\-(n:HY)<=i/\i < n:=by
 unfold qT at h
 by_cases h0:0<=i
 ·rw[Iv h0]at h
  by_cases h1:i < n
  ·rw[Iv h1]at h;have e:i.toNat=j:=Jo h;exact⟨by rw[Oh h0 h1,e],by omega,by omega,h1⟩
  ·rw[IK h1]at h; cases h
 ·rw[IK h0]at h
  by_cases h1 : -(n:HY)<=i
  ·rw[Iv h1]at h;have e:(i+n).toNat=j:=Jo h;exact⟨by rw[NK (by omega) h1,e],by omega,h1,by omega⟩
  ·rw[IK h1]at h; cases h
theorem ny {α:Type}{xs:HC α}{i:HY}{v:α}(h:o7 xs i=gV v):∃j,seqIndex? i xs.length=gV j/\xs[j]?=gV v/\j < xs.length/\-(xs.length:HY)<=i/\i < xs.length:=by
 unfold o7 at h;cases e:qT xs.length i with
 | none=>rw[e]at h; cases h
 | some j=>
  rw[e]at h;obtain⟨h1,h2,h3,h4⟩:=si e;exact⟨j,h1,h,h2,h3,h4⟩
theorem atI_nat {α:Type}{xs:HC α}{j:HJ}{v:α}(h:xs[j]?=gV v):o7 xs (j:HY)=gV v:=by
 have hj:j < xs.length:=(Ig.mp h).1;have e:qT xs.length (j:HY)=gV j:=by
  unfold qT;rw[Iv (by omega),Iv (by omega)]; simp
 unfold o7; rw[e]; exact h
noncomputable def nz (b:Io):Prop:=∀o i,subscripted b false o i=operate [o,i] (getItem o i)
noncomputable def IxR (X:Cx)(r:R2):Prop:=
 ∀(value slice:Io) (pins:HC (HN×JC)) (s:HH) (σ:St) (H:Hp) (x y:V) (v u:HE) (Q:VK),Inv X pins σ H s->RelV x v->RelV y u->r x y H Q->
  subscripted slice false v u=operate [v,u] (getItem v u)->wpAny (model X.prog X.w) X.A (subscriptTail value slice v u) (EP X pins σ Q) X.xe s
noncomputable def MtR (X:Cx)(id:Jp)(r:V->HC V->Hp->VK->Prop):Prop:=
 ∀(pins:HC (HN×JC)) (s:HH) (σ:St) (H:Hp) (x:V) (xs:HC V) (v:HE) (us:HC HE) (Q:VK),Inv X pins σ H s->RelV x v->Vals xs us->r x xs H Q->
  wpAny (model X.prog X.w) X.A (call (.builtin id) (v::us)) (EP X pins σ Q) X.xe s
section
variable{X:Cx}{a b:Io}{ta tb:TE}{pos:J9}
theorem EB {r:R2}(hr:IxR X r)(ha:PE X a ta)(hb:PE X b tb)(hs:nz b):PE X (.Subscript a b pos) (FW r ta tb):=by
 intro pins s σ H Q I h;exact Subscript_ (Cj ha hb I h λv u s2 x y H2 I2 rx ry q=>hr a b pins s2 σ H2 x y v u Q I2 rx ry q (hs _ _))
noncomputable def Gx (K:HS):R2:=λx y H Q=>∃p xs i v,x=.ref p/\y=.int i/\SqL K H p xs/\o7 xs i=gV v/\Q v H
noncomputable def Gy (K:HS):R2:=λx y H Q=>∃p xs i v,x=.ref p/\y=.int i/\SqT K H p xs/\o7 xs i=gV v/\Q v H
noncomputable def Gz:R2:=λx y H Q=>∃z i c,x=.str z/\y=.int i/\z.length<=sizeLine/\o7 z.cps.toList i=gV c/\Q (.str ⟨[c].toArray⟩) H
theorem y4:IxR X (Gx X.K):=by
 intro value slice pins s σ H x y v u Q I rx ry h hs;obtain⟨p,xs,i,z,rfl,rfl,hq,he,q⟩:=h;cases rx;obtain⟨t,rfl⟩:=ry;obtain⟨its,r,pl,hz⟩:=I.list hq;obtain⟨j,h1,h2,h3,h4,h5⟩:=ny he;obtain⟨w,ew,rw'⟩:=r.get h2;have hl:=r.length;have hn:=i4;have fin:EP X pins σ Q w s:=⟨z,H,I,rw',q⟩
 by_cases h0:0<=i
 ·have hj:i.toNat=j:=by
   rw[Oh h0 h5]at h1;exact Jo h1
  exact item_listR pl.isList h0 (by omega) (by rw[hj]; simpa using ew) fin hs
 ·have hj:(i+(its.toArray.size:HY)).toNat=j:=by
   rw[NK (by omega) h4]at h1
   rw[HZ,<- hl];exact Jo h1
  exact Lg (x:=w) pl.isList.typeIs slot_list_getitem.lookup
   (wpAny_getItem_list_neg (Q:=λr s'=>r=w/\EP X pins σ Q r s') pl.isList (by omega) (by rw[HZ] <;> omega) (by omega) (by rw[hj]; simpa using ew) ⟨rfl,fin⟩) hs
theorem Cy:IxR X (Gy X.K):=by
 intro value slice pins s σ H x y v u Q I rx ry h hs;obtain⟨p,xs,i,z,rfl,rfl,hq,he,q⟩:=h;cases rx;obtain⟨t,rfl⟩:=ry;obtain⟨its,r,pl,hz⟩:=I.tuple hq;obtain⟨j,h1,h2,h3,h4,h5⟩:=ny he;obtain⟨w,ew,rw'⟩:=r.get h2;have hl:=r.length;have hn:=i4;have fin:EP X pins σ Q w s:=⟨z,H,I,rw',q⟩;exact Lg (x:=w) pl.typeIs slot_tuple_getitem.lookup
  (getItem_tuple (j:=j) (Q:=λr s'=>r=w/\EP X pins σ Q r s') pl (by omega) (by omega) (by rw[HZ,<- hl]; exact h1) (by simpa using ew) ⟨rfl,fin⟩) hs
theorem Cz:IxR X Gz:=by
 intro value slice pins s σ H x y v u Q I rx ry h hs;obtain⟨z,i,c,rfl,rfl,hz,he,q⟩:=h;obtain⟨t,rfl⟩:=rx;obtain⟨t',rfl⟩:=ry;obtain⟨j,h1,h2,h3,h4,h5⟩:=ny he;have hl:z.cps.toList.length=z.length:=by simp[Str.length]
 rw[hl]at h1 h4 h5;have hn:=i4;exact tail_any (typeIs_str s z t) slot_str_getitem.lookup (getItem_str (c:=c) (by
  have e1:decide (i < -(2 ^ 63:HY))=false:=ID (by omega)
  have e2:decide (i>=2 ^ 63)=false:=ID (by omega)
  rw[e1,e2,OW]) (by rw[h1]; simpa using h2) ⟨.str ⟨[c].toArray⟩,H,I.tok _,⟨_,rfl⟩,q⟩) hs
theorem re (its:HC HE)(n j:HJ)(u:HE):Jv (·.setIfInBounds j u) { cls:=.type "list",data:=.seq its.toArray n }={ cls:=.type "list",data:=.seq (its.set j u).toArray n }:=by
 simp[Jv]
theorem Inv.lst {pins:HC (HN×JC)}{σ:St}{H:Hp}{s:HH}{p:HN}{xs:HC V}(I:Inv X pins σ H s)(h:H p=gV (.lst xs)) :
  ∃(its:HC HE) (n:HJ),Vals xs its/\s.heap.get? p=gV { cls:=.type "list",data:=.seq its.toArray n }/\xs.length<=sizeLine:=by
 obtain⟨z,its,n,r,e⟩:=I.hok p _ h;exact⟨its,n,r,e,z⟩
theorem Inv.lstUpd {pins:HC (HN×JC)}{σ:St}{H:Hp}{s:HH}{p:HN}{xs ys:HC V}{its its':HC HE}{n n':HJ}{f:JC->JC}(I:Inv X pins σ H s)(h:H p=gV (.lst xs))
  (ho:s.heap.get? p=gV { cls:=.type "list",data:=.seq its.toArray n }) (hf:f { cls:=.type "list",data:=.seq its.toArray n }={ cls:=.type "list",data:=.seq its'.toArray n' }) (r:Vals ys its') (hz:ys.length<=sizeLine) (t:HJ) :
  Inv X pins σ (cv H p (.lst ys)) { s with heap:=s.heap.update p f,toks:=t }:=by
 have e:(s.heap.update p f).get? p=gV { cls:=.type "list",data:=.seq its'.toArray n' }:=by
  rw[Kf f ho (by rw[hf] <;> rfl),hf]
 refine I.write (x:=p) (e:=p) (by rw[h]; trivial) (.inl rfl) (λb u hb q=>(Jf _ _ (Ne.symm hb)).trans q) ⟨_,e⟩ ?_
 exact⟨hz,its',n',r,e⟩
noncomputable def EC:V->V->V->Hp->(Hp->Prop)->Prop:=λo i v H Q=>∃p xs k j,o=.ref p/\i=.int k/\H p=gV (.lst xs)/\qT xs.length k=gV j/\Q (cv H p (.lst (xs.set j v)))
theorem vI:Cc X EC:=by
 intro pins s σ H o i v ov iv u Q I ro ri rv h;obtain⟨p,xs,k,j,rfl,rfl,hp,hj,q⟩:=h;cases ro;obtain⟨t,rfl⟩:=ri;obtain⟨its,n,r,ho,hz⟩:=I.lst hp;obtain⟨h1,h2,h3,h4⟩:=si hj;have hl:=r.length;have hn:=i4;have I':Inv X pins σ (cv H p (.lst (xs.set j v))) { s with heap:=s.heap.update p (Jv (·.setIfInBounds j u)) }:=
  I.lstUpd hp ho (re its n j u) (r.set rv j) (by rw[Om]; exact hz) s.toks
 by_cases h0:0<=k
 ·have hk:k.toNat=j:=by
   rw[Oh h0 h4]at h1;exact Jo h1
  exact PySem.W.ki_setAt ho h0 (by omega) (by rw[HZ,<- hl]; exact h4) (by rw[hk]; exact⟨_,I',q⟩)
 ·have hk:(k+(its.toArray.size:HY)).toNat=j:=by
   rw[NK (by omega) h3]at h1
   rw[HZ,<- hl];exact Jo h1
  exact PySem.W.ki_setBack ho (by omega) (by rw[HZ,<- hl]; exact h3) (by omega) (by rw[hk]; exact⟨_,I',q⟩)
theorem nA (lo hi:HI HY)(n:HJ):(sliceBounds lo hi td n).1=((HT.cR n 0 lo:HJ):HY)/\(sliceBounds lo hi td n).2.1=((HT.cR n n hi:HJ):HY)/\(sliceBounds lo hi td n).2.2=1:=by
 refine⟨?_,?_,rfl⟩
 ·cases lo with
  | none=>simp[sliceBounds,HT.cR]
  | some i=>
   simp only[sliceBounds,HT.cR,N5,show(1:HY) > 0 by decide,KJ]
   by_cases h:i < 0
   ·simp only[h,KJ] <;> omega
   ·simp only[h,Kq] <;> omega
 ·cases hi with
  | none=>simp[sliceBounds,HT.cR]
  | some i=>
   simp only[sliceBounds,HT.cR,N5,show(1:HY) > 0 by decide,KJ]
   by_cases h:i < 0
   ·simp only[h,KJ] <;> omega
   ·simp only[h,Kq] <;> omega
theorem lF (its:HC HE)(lo hi:HI HY):slicePick its.toArray lo hi td=((its.drop (HT.cR its.length 0 lo)).take (HT.cR its.length its.length hi - HT.cR its.length 0 lo)).toArray:=by
 obtain⟨h1,h2,h3⟩:=nA lo hi its.toArray.size;unfold slicePick;rw[h1,h2,h3];simp only[sliceRange_one,pick_run,HZ] <;> rfl
noncomputable def GB (K:HS):V->HI HY->HI HY->Hp->VK->Prop:=λx lo hi H Q=>∃a xs,x=.ref a/\SqL K H a xs/\∀p,H p=td->Q (.ref p) (cv H p (.lst (ko xs lo hi)))
theorem y6:EA X (GB X.K):=by
 intro pins s σ H x v vl vu lo hi sl Q I rx hs pl pu h;obtain⟨a,xs,rfl,hx,q⟩:=h;cases rx;obtain⟨its,r,ht,hz⟩:=I.list hx;have hlen:=r.length;refine⟨"list",_,slot_list_getitem.lookup,ht.isList.typeIs,?_⟩;refine wpAny_getItem_list_slice ht.isList hs pl pu .none (by simp) ?_ (by rw[HZ] <;> omega)
 rw[lF,<- hlen];refine⟨.ref s.heap.objs.size,_,I.laid (t':=s.toks) (o:=.lst (ko xs lo hi)) (λb ob q=>HK _ q) (HW _) ?_,rfl,q _ (I.hok.fresh (HW _))⟩
 exact⟨IT (jF xs lo hi) hz,_,0,(r.drop (HT.cR xs.length 0 lo)).take (HT.cR xs.length xs.length hi - HT.cR xs.length 0 lo),Il _ rfl⟩
noncomputable def gT:V->Ir
 | .non=>true
 | .bl _=>true
 | .int _=>true
 | .str _=>true
 | _=>false
noncomputable def y8:V->V->Ir
 | .non,.non=>true
 | .bl a,.bl b=>a==b
 | .bl a,.int b=>(if a then 1 else 0)==b
 | .int a,.bl b=>a==(if b then 1 else 0)
 | .int a,.int b=>a==b
 | .str a,.str b=>a==b
 | _,_=>false
theorem CA {A:IJ}{s:HH}{y x:V}{u v:HE}(ry:RelV y u)(rx:RelV x v)(fy:gT y=true)(fx:gT x=true):Lr A s u v (y8 y x):=by
 cases y with
 | non=>
  cases ry;cases x with
  | non=>cases rx; exact P1 _
  | bl b=>cases rx; exact Pn b
  | int b=>obtain⟨t,rfl⟩:=rx; exact Ps b t
  | str b=>obtain⟨t,rfl⟩:=rx; exact Pu b t
  | _=>exact absurd (show false=true from fx) Ip
 | bl a=>
  cases ry;cases x with
  | non=>cases rx; exact Po a
  | bl b=>cases rx; exact Pp a b
  | int b=>obtain⟨t,rfl⟩:=rx; exact Pw a b t
  | str b=>obtain⟨t,rfl⟩:=rx; exact Px a b t
  | _=>exact absurd (show false=true from fx) Ip
 | int a=>
  obtain⟨t',rfl⟩:=ry;cases x with
  | non=>cases rx; exact Py a t'
  | bl b=>cases rx; exact Pz a t' b
  | int b=>obtain⟨t,rfl⟩:=rx; exact PH a t' b t
  | str b=>obtain⟨t,rfl⟩:=rx; exact Nj a t' b t
  | _=>exact absurd (show false=true from fx) Ip
 | str a=>
  obtain⟨t',rfl⟩:=ry;cases x with
  | non=>cases rx; exact PC a t'
  | bl b=>cases rx; exact PD a t' b
  | int b=>obtain⟨t,rfl⟩:=rx; exact Nk a t' b t
  | str b=>obtain⟨t,rfl⟩:=rx; exact PJ a t' b t
  | _=>exact absurd (show false=true from fx) Ip
 | _=>exact absurd (show false=true from fy) Ip
noncomputable def rf (x:V)(u:HE):Ir:=match u with
 | .none=>y8 .non x
 | .bool b=>y8 (.bl b) x
 | .int i _=>y8 (.int i) x
 | .str z _=>y8 (.str z) x
 | _=>false
theorem vJ {x y:V}{u:HE}(r:RelV y u)(f:gT y=true):rf x u=y8 y x:=by
 cases y with
 | non=>cases r; rfl
 | bl b=>cases r; rfl
 | int i=>obtain⟨t,rfl⟩:=r; rfl
 | str z=>obtain⟨t,rfl⟩:=r; rfl
 | _=>exact absurd (show false=true from f) Ip
theorem ip {x:V}:∀ {xs:HC V} {us:HC HE},Vals xs us->xs.all gT=true->us.any (rf x)=xs.any λy=>y8 y x
 | _,_,.nil,_=>rfl
 | y::xs,u::us,.cons r t,f=>by
  rw[IZ,HL]at f;rw[Ku,Ku,vJ r f.1,ip t f.2]
theorem fY {A:IJ}{s:HH}{x:V}{v:HE}(rx:RelV x v)(fx:gT x=true):∀ {xs:HC V} {us:HC HE},Vals xs us->xs.all gT=true->∀u∈us,Lr A s u v (rf x u)
 | _,_,.nil,_=>λu hu=>by cases hu
 | y::xs,u::us,.cons r t,f=>λu' hu=>by
  rw[IZ,HL]at f;rcases IG.mp hu with rfl|hu
  ·rw[vJ r f.1]; exact CA r rx f.1 fx
  ·exact fY rx fx t f.2 u' hu
noncomputable def FY (x:V)(xs:HC V):Ir:=xs.any λy=>y8 y x
noncomputable def GC (K:HS)(neg:Ir):R2:=λx y H Q=>∃p xs,y=.ref p/\(SqL K H p xs\/SqT K H p xs)/\gT x=true/\xs.all gT=true/\Q (.bl (if neg then !FY x xs else FY x xs)) H
theorem t8:OpR X (compareOp .In) (GC X.K false):=by
 intro pins s σ H x y v u Q I rx ry h;obtain⟨p,xs,rfl,hq,fx,fs,q⟩:=h;cases ry;rcases hq with hq|hq
 ·obtain⟨its,r,pl,hz⟩:=I.list hq;refine On (rf x) pl.isList (λw hw=>fY rx fx r fs w (by simpa using hw)) ⟨.bl _,H,I,rfl,?_⟩
  rw[show its.toArray.any (rf x)=its.any (rf x) by simp,ip r fs]
  exact q
 ·obtain⟨its,r,pl,hz⟩:=I.tuple hq;refine N6 (rf x) pl (λw hw=>fY rx fx r fs w (by simpa using hw)) ⟨.bl _,H,I,rfl,?_⟩
  rw[show its.toArray.any (rf x)=its.any (rf x) by simp,ip r fs]
  exact q
theorem nB:OpR X (compareOp .NotIn) (GC X.K true):=by
 intro pins s σ H x y v u Q I rx ry h;obtain⟨p,xs,rfl,hq,fx,fs,q⟩:=h;cases ry;rcases hq with hq|hq
 ·obtain⟨its,r,pl,hz⟩:=I.list hq;refine Nr (rf x) pl.isList (λw hw=>fY rx fx r fs w (by simpa using hw)) ⟨.bl _,H,I,rfl,?_⟩
  rw[show its.toArray.any (rf x)=its.any (rf x) by simp,ip r fs]
  exact q
 ·obtain⟨its,r,pl,hz⟩:=I.tuple hq;refine SeqAt.notIn_tupleAt (rf x) pl (λw hw=>fY rx fx r fs w (by simpa using hw)) ⟨.bl _,H,I,rfl,?_⟩
  rw[show its.toArray.any (rf x)=its.any (rf x) by simp,ip r fs]
  exact q
theorem nC:CallR X (.type "list") (λxs H Q=>∃p ys,xs=[.ref p]/\(SqL X.K H p ys\/SqT X.K H p ys)/\∀l,H l=td->Q (.ref l) (cv H l (.lst ys))):=by
 intro pins s σ H xs us Q I r h;obtain⟨p,ys,rfl,hq,q⟩:=h;obtain⟨u,rfl,rx⟩:=mo r;cases rx;have fin:∀(its:HC HE),Vals ys its->ys.length<=sizeLine->∀(h':IX) (c':HJ),(∀b o',s.heap.get? b=gV o'->h'.get? b=gV o')->
   h'.get? s.heap.objs.size=gV { cls:=.type "list",dict:=td,data:=.seq its.toArray c',slots:=#[] }->EP X pins σ Q (.ref s.heap.objs.size) { s with heap:=h' }:=λits r' hz h' c' kp e=>
  ⟨.ref s.heap.objs.size,_,I.laid (t':=s.toks) kp (HW _) (show ObjOk X.prog X.w _ h' _ (.lst ys)from⟨hz,its,c',r',e⟩),rfl,q _ (I.hok.fresh (HW _))⟩
 rcases hq with hq|hq
 ·obtain⟨its,r',pl,hz⟩:=I.list hq;have hlen:=r'.length;obtain⟨o,ho,hc,n,hd⟩:=pl.isList;exact OX p (.inl rfl) ho hc hd (λh' c' kp e=>fin its r' hz h' c' kp e) (by simp only[HZ] <;> omega)
 ·obtain⟨its,r',pl,hz⟩:=I.tuple hq;have hlen:=r'.length;obtain⟨o,ho,hc,n,hd⟩:=pl;exact OX p (.inr rfl) ho hc hd (λh' c' kp e=>fin its r' hz h' c' kp e) (by simp only[HZ] <;> omega)
theorem gU:CallR X (.type "tuple") (λxs H Q=>∃p ys,xs=[.ref p]/\((SqL X.K H p ys/\∀l,H l=td->Q (.ref l) (cv H l (.tup ys)))\/(SqT X.K H p ys/\Q (.ref p) H))):=by
 intro pins s σ H xs us Q I r h;obtain⟨p,ys,rfl,h⟩:=h;obtain⟨u,rfl,rx⟩:=mo r;cases rx;rcases h with⟨hq,q⟩|⟨hq,q⟩
 ·obtain⟨its,r',pl,hz⟩:=I.list hq;have hlen:=r'.length;refine call_tuple_list pl.isList (λh' kp=>?_) (by simp only[HZ] <;> omega)
  have I1:Inv X pins σ H { s with heap:=h' }:=I.kept (t':=s.toks) kp
  have I2:Inv X pins σ (cv H h'.objs.size (.tup ys)) { s with heap:=h'.push { cls:=.type "tuple",data:=.seq its.toArray } }:=
   I1.laid (t':=s.toks) (λb o e=>HK _ e) (HW _) (show ObjOk X.prog X.w _ _ _ (.tup ys)from⟨hz,its,r',N2 _ _⟩)
  exact⟨.ref h'.objs.size,_,I2,rfl,q _ (I1.hok.fresh (HW _))⟩
 ·obtain⟨its,r',pl,hz⟩:=I.tuple hq;exact call_tuple_same pl ⟨.ref p,H,I,rfl,q⟩
noncomputable def GD (K:HS)(T:Jp)(x:V)(H:Hp):Prop:=match x with
 | .str _=>T = "str"
 | .int _=>T = "int"
 | .ref p=>(T = "list"/\∃xs,SqL K H p xs)\/(T = "tuple"/\∃o,K.lookup p=gV o/\o.cls=.type "tuple"/\o.dict=td)\/
   (T = "dict"/\((∃kvs,H p=gV (.dK kvs))\/∃kvs,H p=gV (.dT kvs)))\/(T = "set"/\∃S n,H p=gV (.set S n))
 | _=>Jn
theorem vK {pins:HC (HN×JC)}{σ:St}{H:Hp}{s:HH}{T:Jp}{x:V}{v:HE}(I:Inv X pins σ H s)(r:RelV x v)(ty:GD X.K T x H) :
  s.TypeIs v T/\∀a,v=.ref a->∃ob,s.heap.get? a=gV ob/\ob.dict=td:=by
 cases x with
 | str z=>
  obtain⟨t,rfl⟩:=r;cases(show T = "str" from ty)
  exact⟨typeIs_str s z t,λ_ e=>nomatch e⟩
 | int i=>
  obtain⟨t,rfl⟩:=r;cases(show T = "int" from ty)
  exact⟨Ox s i t,λ_ e=>nomatch e⟩
 | ref p=>
  cases r;rcases ty with⟨rfl,xs,hq⟩|⟨rfl,o,hk,hc,hd⟩|⟨rfl,hk⟩|⟨rfl,S,n,hk⟩
  ·obtain⟨its,_,pl,_⟩:=I.list hq;refine⟨pl.isList.typeIs,λa e=>?_⟩
   cases e;obtain⟨o,n,e,c,hd,_⟩:=pl;exact⟨o,e,hd⟩
  ·refine⟨⟨o,I.kIn p o hk,hc⟩,λa e=>?_⟩
   cases e;exact⟨o,I.kIn _ o hk,hd⟩
  ·have z:∃o,s.heap.get? p=gV o/\o.ExactDict:=by
    rcases hk with⟨kvs,hk⟩|⟨kvs,hk⟩
    ·obtain⟨_,_,_,_,o,_,_,e,ex,_⟩:=I.hok p _ hk;exact⟨o,e,ex⟩
    ·obtain⟨_,_,_,_,o,_,_,e,ex,_⟩:=I.hok p _ hk;exact⟨o,e,ex⟩
   obtain⟨o,e,ex⟩:=z;refine⟨⟨o,e,ex.1⟩,λa e2=>?_⟩
   cases e2;exact⟨o,e,ex.2.1⟩
  ·obtain⟨o,_,_,_,e,ex,_⟩:=I.hok p _ hk;refine⟨⟨o,e,ex.1⟩,λa e2=>?_⟩
   cases e2;exact⟨o,e,ex.2.1⟩
 | _=>exact Jn.elim ty
variable{o e:Io}{es:HC Io}{to:TE}{t:TA}{name:Ih}{apos cpos:J9}{T id:Jp}{r:V->HC V->Hp->VK->Prop}
end
noncomputable def FZ (X:Cx)(id:Jp)(r:V->HC V->Hp->VK->Prop):Prop:=
 ∀(pins:HC (HN×JC)) (s:HH) (σ:St) (H:Hp) (x:V) (xs:HC V) (v:HE) (us:HC HE) (Q:VK),Inv X pins σ H s->RelV x v->Vals xs us->r x xs H Q->
  wpAny (model X.prog X.w) X.A (call (.builtin id) (v::us)) (EP X pins σ Q) X.xe s
theorem Vals.one:∀ {x:V} {us:HC HE},Vals [x] us->∃u,us=[u]/\RelV x u
 | _,_,.cons r .nil=>⟨_,rfl,r⟩
theorem Vals.zero:∀ {us:HC HE},Vals [] us->us=[]
 | _,.nil=>rfl
theorem Vals.eraseIdx:∀ {xs:HC V} {us:HC HE} (i:HJ),Vals xs us->Vals (xs.eraseIdx i) (us.eraseIdx i)
 | _,_,_,.nil=>.nil
 | _,_,0,.cons _ t=>t
 | _,_,i+1,.cons r t=>.cons r (Vals.eraseIdx i t)
theorem Vals.rep {xs:HC V}{us:HC HE}(h:Vals xs us):∀k:HJ,Vals (Ix k xs).flatten (Ix k us).flatten
 | 0=>.nil
 | k+1=>by
  rw[JB,JB,Kr,Kr];exact Vals.append h (Vals.rep h k)
theorem my {α:Type}:∀(l:HC α) (i:HJ),(l.eraseIdx i).length<=l.length
 | [],_=>HW _
 | _::_,0=>KR _
 | _::r,i+1=>Ls (my r i)
theorem mz (its:HC HE):∀(k:HJ) (acc:HC HE),
  Oy (λx1 x2=>x1++x2) acc.toArray (Ix k its.toArray)=(acc++(Ix k its).flatten).toArray
 | 0,acc=>by simp
 | k+1,acc=>by
  have e:acc.toArray++its.toArray=(acc++its).toArray:=by simp
  have e2:(acc++its)++(Ix k its).flatten=acc++(Ix (k+1) its).flatten:=by
   rw[JB,Kr,KL]
  rw[<- e2,<- mz its k (acc++its),<- e,JB,List.foldl_cons]
section
variable{X:Cx}{pins:HC (HN×JC)}{σ:St}{H:Hp}{s:HH}{l b:HN}{xs ys zs:HC V}
theorem Inv.lset {its its':HC HE}{n:HJ}{f:IW HE->IW HE}{t':HJ}(I:Inv X pins σ H s)(hH:H l=gV (.lst xs))
  (e:s.heap.get? l=gV { cls:=.type "list",data:=.seq its.toArray n }) (hf:f its.toArray=its'.toArray) (hv:Vals ys its') (hz:ys.length<=sizeLine) :
  Inv X pins σ (cv H l (.lst ys)) { s with heap:=s.heap.update l (Jv f),toks:=t' }:=by
 have q:=N7 e f;rw[hf]at q;refine I.write (x:=l) (e:=l) (by rw[hH]; exact trivial) (.inl rfl) (λb' u hb hu=>(Jf s.heap (Jv f) (Ne.symm hb)).trans hu) ⟨_,q⟩ ?_
 exact⟨hz,its',_,hv,q⟩
theorem Inv.lnew {its:HC HE}{t':HJ}(I:Inv X pins σ H s)(hv:Vals ys its)(hz:ys.length<=sizeLine) :
  Inv X pins σ (cv H s.heap.objs.size (.lst ys)) { s with heap:=s.heap.push { cls:=.type "list",data:=.seq its.toArray },toks:=t' }:=
 I.laid (λ_ _ q=>HK _ q) (HW _) ⟨hz,its,0,hv,Il _ rfl⟩
theorem Inv.fresh (I:Inv X pins σ H s):H s.heap.objs.size=td:=I.hok.fresh (HW _)
theorem Inv.lstM (I:Inv X pins σ H s)(hH:H l=gV (.lst xs)):xs.length<=sizeLine/\∃(its:HC HE) (n:HJ),Vals xs its/\xs.length=its.length/\s.heap.get? l=gV { cls:=.type "list",data:=.seq its.toArray n }:=by
 obtain⟨z,its,n,r,e⟩:=I.hok l _ hH;exact⟨z,its,n,r,r.length,e⟩
theorem pe {n:HJ}(h:n<=sizeLine):Kv n=false:=by
 unfold Kv;exact ID (by omega)
end
section
variable{X:Cx}
noncomputable def y9:V->HC V->Hp->VK->Prop:=λx vs H Q=>∃l xs y,x=.ref l/\vs=[y]/\H l=gV (.lst xs)/\xs.length < sizeLine/\Q .non (cv H l (.lst (xs++[y])))
theorem t9:FZ X "list.append" y9:=by
 intro pins s σ H x vs v us Q I rx rv h;obtain⟨l,xs,y,rfl,rfl,hH,hz,q⟩:=h;cases rx;obtain⟨u,rfl,ru⟩:=rv.one;obtain⟨z,its,n,r,hl,e⟩:=I.lstM hH;refine Lu F.slot_list_append ⟨_,e,rfl⟩ F.entry_list_append (F.args_list_append_2 _ _) (NL l its.toArray n u (by rw[HZ]; omega)) ⟨e,?_⟩
 refine⟨.non,_,I.lset (its':=its++[u]) hH e (by simp) (r.append (.cons ru .nil)) ?_,rfl,q⟩
 rw[HM,Jj];omega
noncomputable def zb:V->HC V->Hp->VK->Prop:=λx vs H Q=>∃l b xs zs,x=.ref l/\vs=[.ref b]/\H l=gV (.lst xs)/\H b=gV (.lst zs)/\xs.length+zs.length<=sizeLine/\Q .non (cv H l (.lst (xs++zs)))
theorem ub:FZ X "list.extend" zb:=by
 intro pins s σ H x vs v us Q I rx rv h;obtain⟨l,b,xs,zs,rfl,rfl,hH,hB,hz,q⟩:=h;cases rx;obtain⟨u,rfl,ru⟩:=rv.one;cases ru;obtain⟨z,its,n,r,hl,e⟩:=I.lstM hH;obtain⟨z2,its2,n2,r2,hl2,e2⟩:=I.lstM hB;have hsz:its.toArray.size+its2.toArray.size<=sizeLine:=by rw[HZ,HZ]; omega
 have hlong:¬ (!its.toArray.isEmpty&&Kv (its.toArray.size+its2.toArray.size))=true:=by
  rw[pe hsz,Bool.and_false];exact Ip
 refine Lu F.slot_list_extend ⟨_,e,rfl⟩ F.entry_list_extend (F.args_list_extend_2 _ _)
  (NM l its.toArray n b its2.toArray n2 hlong (by rw[HZ]; omega) (by omega)) ⟨e,e2,?_⟩
 refine⟨.non,_,I.lset (its':=its++its2) hH e (by simp) (r.append r2) ?_,rfl,q⟩
 rw[HM];omega
noncomputable def CB:V->HC V->Hp->VK->Prop:=λx vs H Q=>∃l xs i k y,x=.ref l/\vs=[.int i]/\H l=gV (.lst xs)/\-(2 ^ 63)<=i/\i < 2 ^ 63/\seqIndex? i xs.length=gV k/\xs[k]?=gV y/\Q y (cv H l (.lst (xs.eraseIdx k)))
theorem vL:FZ X "list.pop" CB:=by
 intro pins s σ H x vs v us Q I rx rv h;obtain⟨l,xs,i,k,y,rfl,rfl,hH,h1,h2,hk,hy,q⟩:=h;cases rx;obtain⟨u,rfl,ru⟩:=rv.one;obtain⟨t,rfl⟩:=ru;obtain⟨z,its,n,r,hl,e⟩:=I.lstM hH;obtain⟨w,hw,rw'⟩:=r.get hy;refine Lu F.slot_list_pop ⟨_,e,rfl⟩ F.entry_list_pop (F.args_list_pop_2 _ _)
  (Pq l its.toArray n i t k w (Oz h1 h2) (by rw[HZ,<- hl]; exact hk) (by rw[<- JD]; exact hw) (by rw[HZ]; omega)) ⟨e,?_⟩
 refine⟨y,_,I.lset (its':=its.eraseIdx k) hH e ?_ (r.eraseIdx k) ?_,rw',q⟩
 ·show its.toArray.eraseIdxIfInBounds k=(its.eraseIdx k).toArray;rw[List.eraseIdxIfInBounds_toArray]
 ·have:=my xs k;omega
noncomputable def CC:V->HC V->Hp->VK->Prop:=λx vs H Q=>∃l xs,x=.ref l/\vs=[]/\H l=gV (.lst xs)/\Q .non (cv H l (.lst []))
theorem vM:FZ X "list.clear" CC:=by
 intro pins s σ H x vs v us Q I rx rv h;obtain⟨l,xs,rfl,rfl,hH,q⟩:=h;cases rx;have hus:=rv.zero;subst hus;obtain⟨z,its,n,r,hl,e⟩:=I.lstM hH;refine Lu F.slot_list_clear ⟨_,e,rfl⟩ F.entry_list_clear (F.args_list_clear_1 _) (OA l its.toArray n (by rw[HZ]; omega)) ⟨e,?_⟩
 exact⟨.non,_,I.lset (its':=[]) (ys:=[]) hH e rfl .nil (J6 _),rfl,q⟩
noncomputable def GF:R2:=λx y H Q=>∃l b xs zs,x=.ref l/\y=.ref b/\H l=gV (.lst xs)/\H b=gV (.lst zs)/\xs.length+zs.length<=sizeLine/\∀p,H p=td->Q (.ref p) (cv H p (.lst (xs++zs)))
theorem CD:OpR X (binaryOp .Add) GF:=by
 intro pins s σ H x y v u Q I rx ry h;obtain⟨l,b,xs,zs,rfl,rfl,hH,hB,hz,q⟩:=h;cases rx;cases ry;obtain⟨z,its,n,r,hl,e⟩:=I.lstM hH;obtain⟨z2,its2,n2,r2,hl2,e2⟩:=I.lstM hB;refine PySem.P.add_list e e2 ?_ (by rw[HZ,HZ]; omega)
 have ea:its.toArray++its2.toArray=(its++its2).toArray:=by simp
 rw[ea];exact⟨.ref _,_,I.lnew (t':=s.toks) (r.append r2) (by rw[HM]; omega),rfl,q _ I.fresh⟩
noncomputable def GH:R2:=λx y H Q=>∃l k xs,x=.ref l/\y=.int k/\H l=gV (.lst xs)/\-(2 ^ 63)<=k/\k < 2 ^ 63/\xs.length*k.toNat<=sizeLine/\
 ∀p,H p=td->Q (.ref p) (cv H p (.lst (Ix k.toNat xs).flatten))
theorem zd {α:Type}(xs:HC α)(k:HJ):(Ix k xs).flatten.length=k*xs.length:=by
 induction k with
 | zero=>simp
 | succ k ih=>rw[JB,Kr,HM,ih,Pd,Nat.add_comm]
theorem CF:OpR X (binaryOp .Mult) GH:=by
 intro pins s σ H x y v u Q I rx ry h;obtain⟨l,k,xs,rfl,rfl,hH,h1,h2,hz,q⟩:=h;cases rx;obtain⟨t,rfl⟩:=ry;obtain⟨z,its,n,r,hl,e⟩:=I.lstM hH;have hlen:its.toArray.size*k.toNat<=sizeLine:=by rw[HZ,<- hl]; exact hz
 have hcap:¬ its.toArray.size*k.toNat > (2 ^ 63 - 1) / 8:=by
  have:(sizeLine:HJ)<=(2 ^ 63 - 1) / 8:=by decide
  omega
 have hfit:¬ (!OB k)=true:=by
  rw[Oz h1 h2];exact Ip
 have hlong:¬ Kv (its.toArray.size*k.toNat)=true:=by
  rw[pe hlen];exact Ip
 have hnew:Oy (λx1 x2=>x1++x2) #[] (Ix (if its.toArray.isEmpty=true then 0 else k.toNat) its.toArray)=(Ix k.toNat its).flatten.toArray:=by
  have f0:∀m:HJ,Oy (λx1 x2=>x1++x2) #[] (Ix m its.toArray)=(Ix m its).flatten.toArray:=λm=>by
   have:=mz its m [];rw[Oo]at this;exact this
  rw[f0];cases its with
  | nil=>simp
  | cons a r'=>rw[IK (by simp)]
 refine wpAny_binaryOp_repeat_ref (T:="list") (U:="int") (by decide) ⟨_,e,rfl⟩ (λs'=>Ox s' k t) noFill_list_mul F.fills_int_mul F.slot_int_rmul repeat_list F.slot_int_index.lookup
  (Lu F.slot_int_rmul (Ox s k t) F.entry_int_rmul (F.args_int_rmul_2 _ _) (int___rmul___int_list k t l its.toArray n)
   ⟨e,rfl,⟨_,e,rfl⟩,Lu F.slot_list_mul ⟨_,e,rfl⟩ F.entry_list_mul (F.args_list_mul_2 _ _) (Ny l its.toArray n k t hfit hcap hlong) ⟨e,?_⟩⟩)
 rw[hnew];exact⟨.ref _,_,I.lnew (t':=s.toks) (r.rep k.toNat) (by rw[zd,Nat.mul_comm]; exact hz),rfl,q _ I.fresh⟩
end
section
variable{X:Cx}{pins:HC (HN×JC)}{σ:St}{H:Hp}{s:HH}{a:HN}{y v:V}{u r:HE}{o:HI V}{A:IJ}{E:HE->HH->Prop}
theorem Inv.big (I:Inv X pins σ H s):sysModules < s.heap.objs.size:=by
 have h:mainGlobals < s.heap.objs.size:=(I.mod.glob.keeps I.bk).lt;exact Lh (by decide) h
theorem nD {h':IX}{t':HJ}{ob:HO}(I:Inv X pins σ H s)(mu:DZ (H a))(hs:Ko a s.heap h')(he:∃q,h'.get? a=gV q)(new:ObjOk X.prog X.w (cv H a ob) h' a ob) :
  Inv X pins σ (cv H a ob) { s with heap:=h',toks:=t' }:=
 I.write (x:=a) (e:=a) mu (.inl rfl) (λb q hb z=>(hs.2 b hb).trans z) he new
end
noncomputable abbrev VV:HC (V×V)->HC (HE×HE)->Prop:=Mo λp q=>RelV p.1 q.1/\RelV p.2 q.2
end L2
namespace Att
open PySem PySem.W PySem.Calls PyProof.Rows
theorem jQ {P:OC}{h:IX}:∀(ns:HC HY) (vs:HC HE),WellAll P h vs (ns.map WData.int)->NN vs ns:=by
 intro ns
 induction ns with
 | nil=>
  intro vs w;rw[NO]at w;cases w;exact .nil
 | cons n ns ih=>
  intro vs w;rw[JF]at w;cases w with
  | cons a b=>
   cases a;exact .cons _ _ (ih _ b)
theorem uc {l:OpenLaw}{n:HJ}(hn:l.most=gV n){P:OC}{h:IX}{args:HC WData}{vals:HC HE}
  (hpre:l.row.toRowW.claim.pre args=true) (hwl:WellAll P h vals args) :
  ∃a vs ns,vals=[IS a]/\args=[WData.list (ns.map WData.int)]/\h.get? a=gV { cls:=.type "list",data:=.seq vs.toArray }/\NN vs ns/\ns.length<=n:=by
 have hsh:WShape.hasAll [] args [.list .int]=true:=(pre_splitW hpre).1;have hc:l.pre.holds [] { args:=args }=true:=(pre_splitW hpre).2;obtain⟨d,r,rfl,h1,h2⟩:=hasAllW_cons hsh;obtain rfl:=hasAllW_nil h2;obtain⟨xs,rfl,h3⟩:=hasW_list h1;obtain⟨ns,rfl⟩:=items_int h3;have hlen:ns.length<=n:=by
  unfold OpenLaw.pre at hc;have h4:(WTm.not (.lt (.lit (.int (n:HY))) (.len (.arg 0)))).holds [] { args:=[.list (ns.map .int)] }=true:=by
   have h4:=(holds_andW hc).1;rw[hn]at h4;exact h4
  have h5:=condW_of h4 (w_not (w_lt w_lit (w_len_list (w_arg rfl))));rw[HF]at h5;refine Nat.le_of_not_lt λq=>?_
  have q':(n:HY) < ((ns.length:HJ):HY):=by omega
  first
   | (rw[JO q']at h5; exact absurd h5 (by decide))
   | (simp at h5; omega)
 cases hwl with
 | cons w1 w2=>
  cases w2;cases w1 with
  | list ho hall=>exact⟨_,_,ns,rfl,rfl,ho,jQ ns _ hall,hlen⟩
theorem ud (l:OpenLaw)(args:HC WData):l.row.toRowW.claim.post args (.bool true) args=true:=
 postW_of (r:=l.row.toRowW) (X:=(true==true))
  (show WShape.has [] (.bool true) .bool=true by first|rfl|decide|simp[WShape.has,WShape.arms,WShape.armsAll])
  (show(WTm.eq .res (.lit (.bool true))).value [] { args:=args,res:=gV (.bool true),after:=args }=gV (.bool (true==true))from w_eq_bool (w_res rfl) w_lit) rfl
theorem attach_call {l:OpenLaw}{n:HJ}{q:Iz}{loose:HC Ih}{XP:(Ih->HI HE)->IX->Prop}{YP:IM->IX->Prop}{d:DefRec}
  (hn:l.most=gV n) (hdf:d.params.defaults=[])
  (call:∀(w:IM) (s₀ s₁:HH) (mg mb:Ih->HI HE) (fa:HN) (o:JC) (pm cd doc:HE) (a:HN) (vs:HC HE) (ns:HC HY),
   Ground q loose [] XP w s₀ mg mb s₁.heap->YP w s₁.heap->
   s₁.heap.get? fa=gV o->o.data=.func (docDef d.name d.params d.body d.scope pm cd doc)->s₁.heap.CodeRec cd d.name->mg d.name=gV (.ref fa)->
   s₁.heap.get? a=gV { cls:=.type "list",data:=.seq vs.toArray }->NN vs ns->ns.length<=n->s₁.gens=#[]->
   codeAny (model l.prog w) callerA (.call (.ref fa) ⟨[.ref a],[]⟩) (λr s'=>r=.ok (.ret (.bool true))/\OldK s₁.heap s'.heap/\s'.os=s₁.os/\L5 s'.gens) s₁) :
  WalkO q loose XP YP l.row.toRowW d [] (λf vs=>OD f vs):=by
 intro w s₀ s₁ mg mb G Y fa o pm cd doc dV kV ho hd hcd hD hmg hg args vals as hpre hlay hrd hwl hlo;obtain rfl:dV=.none:=Dflts.none hD hdf;obtain rfl:kV=.none:=Dflts.noKw hD;obtain⟨a,vs,ns,rfl,rfl,hobj,hints,hlen⟩:=uc hn hpre hwl;refine enter_call (Mq (call w s₀ s₁ mg mb fa o pm cd doc a vs ns G Y ho (fd_plain hd) hcd hmg hobj hints hlen hg) λr s' hq=>?_)
 obtain⟨rfl,h2,h3,h4⟩:=hq;exact⟨.inl ⟨.bool true,.bool true,[],rfl,λ_=>rfl,.bool true,ud l _,λ_=>⟨PR,λ_ hm=>(nomatch hm)⟩⟩,h2,h3,h4⟩
end Att
namespace L2
open PySem PySem.Spec PyProof.Rows
theorem mB:∀ {vs:HC HE} {ns:HC HY},NN vs ns->Vals (ns.map V.int) vs
 | _,_,.nil=>.nil
 | _,_,.cons n t h=>.cons ⟨t,rfl⟩ (mB h)
noncomputable def vN (H:Hp):Prop:=∀b,H b=td\/∃o xs,H b=gV (.frz o (.lst xs))
theorem vO {P:Iz}{w:IM}{K:HS}{mg mb:Ih->HI HE}{CX:vC}{k:HJ}{fa a:HN}{fd:Kb}{x:Ih}{sp:Sp}{s₁:HH}{vs:HC HE}{ns:HC HY}
  (KX:K.In s₁.heap) (hns:s₁.heap.Ns mainGlobals mg) (hb:s₁.heap.Ns builtinsNs mb) (hbb:∀x:Ih,x≠"__name__"->mb x=bootBuiltins x) (hlim:s₁.heap.NoLimit) (hg:s₁.gens=#[])
  (ha:s₁.heap.get? a=gV { cls:=.type "list",data:=.seq vs.toArray }) (hi:NN vs ns) (hl:ns.length<=sizeLine) (hr:Room k callerA)
  (F:∀base:IX,K.In base->base.Ns mainGlobals mg->FnOk P w K mg base CX k fa fd [x] sp) (hbind:∀(s:HH) (u:HE),NF s fd ⟨[u],[]⟩ [(x,u)])
  (hsp:∀H:Hp,vN H->SqL K H a (ns.map V.int)->sp [.ref a] H (λv _=>v=.bl true) λ_ _ _=>Jn)
  (hCX:∀H e s',CX [] H s₁ (λ_ _ _=>Jn) e s'->Jn) :
  codeAny (model P w) callerA (.call (.ref fa) ⟨[.ref a],[]⟩) (λr s'=>r=.ok (.ret (.bool true))/\OldK s₁.heap s'.heap/\s'.os=s₁.os/\L5 s'.gens) s₁:=by
 have rv:=mB hi;have lenV:=hi.length;have core:∀H:Hp,vN H->SqL K H a (ns.map V.int)->HOk P w H s₁.heap->(∀b,H b≠td->b=a)->(H a≠td->K.lookup a=td)->
   codeAny (model P w) callerA (.call (.ref fa) ⟨[.ref a],[]⟩) (λr s'=>r=.ok (.ret (.bool true))/\OldK s₁.heap s'.heap/\s'.os=s₁.os/\L5 s'.gens) s₁:=by
  intro H hO hS hok hA hK;have base_of:∀ {b:HN} {o:JC},s₁.heap.get? b=gV o->H b=td->(nu s₁.heap H).get? b=gV o:=λe n=>vk e n
  have noA:∀ {b:HN} {o:JC} {es:IW JX} {ep:HJ},s₁.heap.get? b=gV o->o.data=.dict es ep->H b=td:=λ{b o es ep} e d=>by
   cases q:H b with
   | none=>rfl
   | some u=>
    have e':b=a:=hA b (by rw[q]; simp)
    subst e';rw[ha]at e; cases e
    have d':Data.seq vs.toArray _=Data.dict es ep:=d;cases d'
  have nsK:∀ {b:HN} {m:Ih->HI HE},s₁.heap.Ns b m->(nu s₁.heap H).Ns b m:=λ{b m} ⟨o,es,ep,e,d,r⟩=>⟨o,es,ep,base_of e (noA e d),d,r⟩
  have hKb:K.In (nu s₁.heap H):=λb o e=>base_of (KX b o e) (by
   cases q:H b with
   | none=>rfl
   | some u=>
    have e':b=a:=hA b (by rw[q]; simp)
    subst e';rw[hK (by rw[q]; simp)]at e; cases e)
  have hM:Mod K mg (nu s₁.heap H):=⟨hKb,nsK hns,⟨mb,nsK hb,hbb⟩,let ⟨mc,h1,h2⟩:=hlim; ⟨mc,nsK h1,h2⟩⟩
  have e0:Env0 P w K mg (nu s₁.heap H) callerA [] s₁ H:=⟨rfl,hM,λb o e=>yG e,Nat.le_of_eq (tR _ _),trivial,λb hb=>absurd (show b∈([]:HC HN)from hb) (by simp),hok,.of_eq hg⟩
  refine Mq ((F _ hKb (nsK hns)).run callerA [] s₁ H ⟨[.ref a],[]⟩ [.ref a] [.ref a] _ _ hr e0 (hbind s₁ (.ref a)) (.cons rfl .nil) (hsp H hO hS)) λr s' h=>?_
  cases r with
  | error e=>exact(hCX H e s' h).elim
  | ok fl=>
   cases fl with
   | next=>exact Jn.elim h
   | brk=>exact Jn.elim h
   | cont=>exact Jn.elim h
   | ret u=>
    obtain⟨v,H',os,bare,un,hok',r',q⟩:=h;have q':v=.bl true:=q;subst q';obtain rfl:u=KN true:=r';refine⟨rfl,OldK.of_keep λb o e=>?_,os,bare⟩
    cases q:H b with
    | none=>exact un.keep b o e q (by intro z; exact absurd (show b∈([]:HC HN)from z) (by simp)) (by simp)
    | some u=>
     rcases hO b with z|⟨ob,xs,z⟩
     ·rw[q]at z; cases z
     ·have z2:=un.frzs b ob _ z;obtain⟨e1,_⟩:=hok b _ z;obtain⟨e2,_⟩:=hok' b _ z2;rw[e]at e1; cases e1
      exact e2
 cases hk:K.lookup a with
 | some o=>
  have e:=KX a o hk;rw[ha]at e;cases e;refine core (λ_=>td) (λ_=>.inl rfl) (.inr ⟨_,vs.toArray,_,hk,rfl,rfl,rfl,by rw[HZ,lenV]; exact hl,by simpa using rv⟩) (λb u z=>by have z':(td:HI HO)=gV u:=z; cases z') (λb z=>absurd rfl z) λz=>absurd rfl z
 | none=>
  refine core (λb=>if b=a then gV (.frz { cls:=.type "list",data:=.seq vs.toArray } (.lst (ns.map V.int)))else td) (λb=>?_) (.inl (.inr ⟨{ cls:=.type "list",data:=.seq vs.toArray },Iv rfl⟩)) (λb u z=>?_) (λb z=>?_) λ_=>hk
  ·by_cases hb:b=a
   ·exact .inr ⟨_,_,Iv hb⟩
   ·exact .inl (IK hb)
  ·by_cases hb:b=a
   ·have z':=(Iv hb).symm.trans z;cases z';subst hb;exact⟨ha,by rw[HF]; exact hl,vs,_,rv,ha⟩
   ·have z':=(IK hb).symm.trans z;cases z'
  ·by_cases hb:b=a
   ·exact hb
   ·exact absurd (IK hb) z
theorem ze {l:MA}{n k:HJ}{q:Iz}{loose:HC Ih}{XP:(Ih->HI HE)->IX->Prop}{YP:IM->IX->Prop}{d:DefRec}{K:OC->HS}{CX:IM->vC}{sp:IM->Sp}{x:Ih}
  (hn:l.most=gV n) (hn2:n<=sizeLine) (hdf:d.params.defaults=[]) (hr:Room k callerA)
  (hY:∀(w:IM) (h:IX),YP w h->(K w.params).In h)
  (F:∀(w:IM) (mg:Ih->HI HE) (fa:HN) (h:IX),(K w.params).In h->h.Ns mainGlobals mg->mg d.name=gV (.ref fa)->
   ∃fd:Kb,(∀(s:HH) (u:HE),NF s fd ⟨[u],[]⟩ [(x,u)])/\
    ∀base:IX,(K w.params).In base->base.Ns mainGlobals mg->FnOk l.prog w (K w.params) mg base (CX w) k fa fd [x] (sp w))
  (hsp:∀(w:IM) (H:Hp) (a:HN) (ns:HC HY),ns.length<=n->vN H->SqL (K w.params) H a (ns.map V.int)->sp w [.ref a] H (λv _=>v=.bl true) λ_ _ _=>Jn)
  (hCX:∀(w:IM) (H:Hp) (s:HH) (e:HE) (s':HH),CX w [] H s (λ_ _ _=>Jn) e s'->Jn) :
  OY q loose XP YP l.row.toRowW d [] (λf vs=>OD f vs):=by
 refine Att.attach_call hn hdf λw s₀ s₁ mg mb fa o pm cd doc a vs ns G Y ho hd hcd hmg hobj hints hlen hg=>?_
 have KX:=hY w _ Y;obtain⟨fd,hb,hF⟩:=F w mg fa _ KX G.T.g hmg;exact vO KX G.T.g G.T.b G.T.builtins G.T.nolimit hg hobj hints (IT hlen hn2) hr hF hb (λH hO hS=>hsp w H a ns hlen hO hS) λH e s'=>hCX w H s₁ e s'
noncomputable def d4 (s:Kt):Arguments:=match s with
 | .FunctionDef _ a _ _ _ _ _ _ _ _=>a
 | _=>{ posonlyargs:=[],args:=[],vararg:=td,kwonlyargs:=[],kw_defaults:=[],kwarg:=td,defaults:=[] }
noncomputable def de (s:Kt):HC Kt:=match s with
 | .FunctionDef _ _ b _ _ _ _ _ _ _=>b
 | _=>[]
noncomputable def ag (s:Kt):KI:=match s with
 | .FunctionDef _ _ _ _ _ _ sc _ _ _=>sc
 | _=>{ kind:=.function,names:=[],isGenerator:=false,isCoroutine:=false }
noncomputable abbrev vg:vC:=λ_ _ _ _ _ _=>Jn
noncomputable abbrev E0:XK:=λ_ _ _=>Jn
theorem Bs {X:Cx}:nw vg X E0:=λ_ _ _ _ _ _ _ h=>h.elim
structure Fun (K:HS)(x qual:Ih)(st:Kt)(f:HN)(fd:Kb):Prop where
 ex:∃(oc:HE) (od:HI HN) (kV doc pm:HE) (an:HI HN) (cdv ct:HE) (osl:IW (HI HE)),
  fd=JT x qual (d4 st) (de st) (ag st) .none kV doc pm an cdv ct/\K.lookup f=gV ⟨oc,od,.func fd,osl⟩/\KP K cdv qual=true
 kp:Ju K (.ref f)=true
section
variable{P:Iz}{w:IM}{K:HS}{mg:Ih->HI HE}{base:IX}
theorem Fun.ok {x qual:Ih}{st:Kt}{f:HN}{fd:Kb}{N ps:HC Ih}{k:HJ}{sp:Sp}(F:Fun K x qual st f fd)(S:FnScope N ps (ag st))(len:∀vs H Q E,sp vs H Q E->vs.length=ps.length)
  (hbody:∀(cdv:HE) (A:IJ) (outer:HC NB) (s:HH) (H:Hp) (vs:HC V) (Q:VK) (E:XK),Room k (A.deeper (envOfC qual (ag st) s.heap.objs.size f cdv))->sp vs H Q E->
   ∃t,PSs (q8 vg P w K mg base N qual (ag st) f cdv A outer s H E).nox (de st) t/\t { nx:=λ_ H'=>Q .non H',rt:=Q } (fX N vs) H):FnOk P w K mg base vg (k+1) f fd ps sp:=by
 obtain⟨oc,od,kV,doc,pm,an,cdv,ct,osl,rfl,lk,hcd⟩:=F.ex;refine Ey lk hcd S len λA outer s H vs Q E hr hsp=>?_
 obtain⟨t,h,q⟩:=hbody cdv A outer s H vs Q E hr hsp;exact⟨t,h.nox,q⟩
theorem Fun.binds {x qual:Ih}{st:Kt}{f:HN}{fd:Kb}{ps:HC Ih}(F:Fun K x qual st f fd)
  (h:∀(kV doc pm:HE) (an:HI HN) (cdv ct:HE) (us:HC HE),us.length=ps.length->bindArgs (JT x qual (d4 st) (de st) (ag st) .none kV doc pm an cdv ct) ⟨us,[]⟩=pure (ps.zip us)):Binds K fd ps []:=by
 obtain⟨oc,od,kV,doc,pm,an,cdv,ct,osl,rfl,lk,hcd⟩:=F.ex;exact .all (h kV doc pm an cdv ct)
theorem vP {x qual:Ih}{st:Kt}{f:HN}{oc:HE}{od an:HI HN}{osl:IW (HI HE)}{kV doc pm cdv ct:HE}(l:K.lookup f=gV ⟨oc,od,.func (JT x qual (d4 st) (de st) (ag st) .none kV doc pm an cdv ct),osl⟩)
  (c:KP K cdv qual=true) (k:Ju K (.ref f)=true):Fun K x qual st f (JT x qual (d4 st) (de st) (ag st) .none kV doc pm an cdv ct):=⟨⟨oc,od,kV,doc,pm,an,cdv,ct,osl,rfl,l,c⟩,k⟩
end
end L2
namespace Mi
open PySem PySem.Spec PyProof.Rows L2
inductive W where
 | non|bl (b:Ir)|int (i:HY)|str (x:Ih)|tup (xs:HC W)|ref (i:HJ)
inductive T where
 | int (i:HY)|str (x:Ih)|tup (xs:HC T)
mutual
noncomputable def T.beq:T->T->Ir
 | .int i,.int j=>i==j
 | .str x,.str y=>x==y
 | .tup xs,.tup ys=>T.beqs xs ys
 | _,_=>false
noncomputable def T.beqs:HC T->HC T->Ir
 | [],[]=>true
 | x::xs,y::ys=>T.beq x y&&T.beqs xs ys
 | _,_=>false
end
mutual
theorem T.beq_iff:∀x y:T,T.beq x y=true↔x=y
 | .int i,.int j=>by simp[T.beq]
 | .str x,.str y=>by simp[T.beq]
 | .tup xs,.tup ys=>by simp[T.beq,T.beqs_iff xs ys]
 | .int _,.str _|.int _,.tup _|.str _,.int _|.str _,.tup _|.tup _,.int _|.tup _,.str _=>by simp[T.beq]
theorem T.beqs_iff:∀xs ys:HC T,T.beqs xs ys=true↔xs=ys
 | [],[]=>by simp[T.beqs]
 | x::xs,y::ys=>by simp[T.beqs,T.beq_iff x y,T.beqs_iff xs ys]
 | [],_::_|_::_,[]=>by simp[T.beqs]
end
noncomputable instance:KM T:=λx y=>decidable_of_iff (T.beq x y=true) (T.beq_iff x y)
mutual
noncomputable def T.w:T->W
 | .int i=>.int i
 | .str x=>.str x
 | .tup xs=>.tup (T.ws xs)
noncomputable def T.ws:HC T->HC W
 | []=>[]
 | x::xs=>T.w x::T.ws xs
end
mutual
noncomputable def W.t:W->HI T
 | .int i=>gV (.int i)
 | .str x=>gV (.str x)
 | .tup xs=>(W.ts xs).map .tup
 | _=>td
noncomputable def W.ts:HC W->HI (HC T)
 | []=>gV []
 | x::xs=>match W.t x,W.ts xs with
  | some y,gV ys=>gV (y::ys)
  | _,_=>td
end
mutual
theorem W.t_w:∀ {w:W} {k:T},W.t w=gV k->k.w=w
 | .int i,_,h=>by cases h; rfl
 | .str x,_,h=>by cases h; rfl
 | .tup xs,_,h=>by
  simp only[W.t,HG]at h;obtain⟨ks,h1,h2⟩:=h;subst h2;simp only[T.w,W.ts_w h1]
 | .non,_,h|.bl _,_,h|.ref _,_,h=>by cases h
theorem W.ts_w:∀ {ws:HC W} {ks:HC T},W.ts ws=gV ks->T.ws ks=ws
 | [],_,h=>by cases h; rfl
 | w::ws,_,h=>by
  simp only[W.ts]at h;split at h
  ·rename_i y ys h1 h2;cases h;simp only[T.ws,W.t_w h1,W.ts_w h2]
  ·cases h
end
mutual
theorem T.w_t:∀k:T,W.t k.w=gV k
 | .int _=>rfl
 | .str _=>rfl
 | .tup xs=>by simp only[T.w,W.t,T.ws_ts xs,IH]
theorem T.ws_ts:∀ks:HC T,W.ts (T.ws ks)=gV ks
 | []=>rfl
 | x::xs=>by simp only[T.ws,W.ts,T.w_t x,T.ws_ts xs]
end
mutual
noncomputable def T.depth:T->HJ
 | .tup xs=>T.depths xs+1
 | _=>0
noncomputable def T.depths:HC T->HJ
 | []=>0
 | x::xs=>max (T.depth x) (T.depths xs)
end
mutual
noncomputable def T.draws:T->HJ
 | .tup xs=>T.drawss xs+1
 | _=>1
noncomputable def T.drawss:HC T->HJ
 | []=>0
 | x::xs=>T.draws x+T.drawss xs
end
mutual
noncomputable def pf (wd:IM):T->HY
 | .int i=>hashInt i
 | .str x=>hashStr wd x
 | .tup xs=>reduceHash (LX (kq wd xs))
noncomputable def kq (wd:IM):HC T->HC HY
 | []=>[]
 | x::xs=>pf wd x::kq wd xs
end
noncomputable def T.isTup:T->Ir
 | .tup _=>true
 | _=>false
noncomputable def bU:HJ:=6
inductive O where
 | lst (xs:HC W)
 | fro (xs:HC W)
 | rng (lo hi:HY)
 | dic (kvs:HC (T×W))
 | frd (kvs:HC (T×W))
noncomputable abbrev aa:=HC O
noncomputable abbrev Fm:=HC (HI W)
section
variable (K:HS) (A:HC HN) (H:Hp)
mutual
inductive Rel:W->V->Prop
 | non:Rel .non .non
 | bl {b:Ir}:Rel (.bl b) (.bl b)
 | int {i:HY}:Rel (.int i) (.int i)
 | str {x:Ih}:Rel (.str x) (.str x)
 | tup {ws:HC W} {a:HN} {vs:HC V}:SqT K H a vs->RelL ws vs->Rel (.tup ws) (.ref a)
 | ref {i:HJ} {a:HN}:A[i]?=gV a->Rel (.ref i) (.ref a)
inductive RelL:HC W->HC V->Prop
 | nil:RelL [] []
 | cons {w:W} {v:V} {ws:HC W} {vs:HC V}:Rel w v->RelL ws vs->RelL (w::ws) (v::vs)
end
end
section
variable{K:HS}{A A' A'':HC HN}{H H' H'':Hp}
structure Ext (K:HS)(A:HC HN)(H:Hp)(A':HC HN)(H':Hp):Prop where
 ad:∀(i:HJ) (a:HN),A[i]?=gV a->A'[i]?=gV a
 tp:∀(a:HN) (vs:HC V),SqT K H a vs->SqT K H' a vs
 fz:∀(a:HN) (o:JC) (u:HO),H a=gV (.frz o u)->H' a=gV (.frz o u)
theorem Ext.refl:Ext K A H A H:=⟨λ_ _ h=>h,λ_ _ h=>h,λ_ _ _ h=>h⟩
theorem Ext.trans (e:Ext K A H A' H')(f:Ext K A' H' A'' H''):Ext K A H A'' H'':=⟨λi a h=>f.ad i a (e.ad i a h),λa vs h=>f.tp a vs (e.tp a vs h),λa o u h=>f.fz a o u (e.fz a o u h)⟩
mutual
theorem Rel.mono (e:Ext K A H A' H'):∀ {w:W} {v:V},Rel K A H w v->Rel K A' H' w v
 | _,_,.non=>.non
 | _,_,.bl=>.bl
 | _,_,.int=>.int
 | _,_,.str=>.str
 | _,_,.tup h r=>.tup (e.tp _ _ h) (RelL.mono e r)
 | _,_,.ref h=>.ref (e.ad _ _ h)
theorem RelL.mono (e:Ext K A H A' H'):∀ {ws:HC W} {vs:HC V},RelL K A H ws vs->RelL K A' H' ws vs
 | _,_,.nil=>.nil
 | _,_,.cons r t=>.cons (Rel.mono e r) (RelL.mono e t)
end
theorem RelL.length:∀ {ws:HC W} {vs:HC V},RelL K A H ws vs->ws.length=vs.length
 | _,_,.nil=>rfl
 | _,_,.cons _ t=>by simp[RelL.length t]
theorem RelL.get:∀ {ws:HC W} {vs:HC V} {i:HJ} {w:W},RelL K A H ws vs->ws[i]?=gV w->∃v,vs[i]?=gV v/\Rel K A H w v
 | _,_,_,_,.nil,e=>by simp at e
 | _,_,0,_,.cons r _,e=>by simp at e; subst e; exact⟨_,rfl,r⟩
 | _,_,i+1,w,.cons _ t,e=>by
  obtain⟨u,h1,h2⟩:=RelL.get (i:=i) (w:=w) t (by simpa using e)
  exact⟨u,by simpa using h1,h2⟩
theorem RelL.append:∀ {xs ys:HC W} {us ws:HC V},RelL K A H xs us->RelL K A H ys ws->RelL K A H (xs++ys) (us++ws)
 | _,_,_,_,.nil,s=>s
 | _,_,_,_,.cons r t,s=>.cons r (RelL.append t s)
theorem RelL.take:∀ {xs:HC W} {us:HC V} (n:HJ),RelL K A H xs us->RelL K A H (xs.take n) (us.take n)
 | _,_,0,_=>.nil
 | _,_,_+1,.nil=>.nil
 | _,_,n+1,.cons r t=>.cons r (RelL.take n t)
theorem RelL.drop:∀ {xs:HC W} {us:HC V} (n:HJ),RelL K A H xs us->RelL K A H (xs.drop n) (us.drop n)
 | _,_,0,r=>r
 | _,_,_+1,.nil=>.nil
 | _,_,n+1,.cons _ t=>RelL.drop n t
theorem RelL.set {x:W}{u:V}(r:Rel K A H x u):∀ {xs:HC W} {us:HC V} (i:HJ),RelL K A H xs us->RelL K A H (xs.set i x) (us.set i u)
 | _,_,_,.nil=>.nil
 | _,_,0,.cons _ t=>.cons r t
 | _,_,i+1,.cons q t=>.cons q (RelL.set r i t)
theorem RelL.rep {xs:HC W}{us:HC V}(h:RelL K A H xs us):∀k:HJ,RelL K A H (Ix k xs).flatten (Ix k us).flatten
 | 0=>.nil
 | k+1=>by
  rw[JB,JB,Kr,Kr];exact RelL.append h (RelL.rep h k)
theorem RelL.eraseIdx:∀ {xs:HC W} {us:HC V} (i:HJ),RelL K A H xs us->RelL K A H (xs.eraseIdx i) (us.eraseIdx i)
 | _,_,_,.nil=>.nil
 | _,_,0,.cons _ t=>t
 | _,_,i+1,.cons r t=>.cons r (RelL.eraseIdx i t)
noncomputable def FroL (K:HS)(H:Hp)(a:HN)(vs:HC V):Prop:=
 (∃o,H a=gV (.frz o (.lst vs)))\/
  ∃(o:JC) (its:IW HE) (n:HJ),K.lookup a=gV o/\o.cls=.type "list"/\o.dict=td/\o.data=.seq its n/\its.size<=sizeLine/\Vals vs its.toList
theorem FroL.sq {a:HN}{vs:HC V}(h:FroL K H a vs):SqL K H a vs:=by
 rcases h with⟨o,h⟩|h
 ·exact .inl (.inr ⟨o,h⟩)
 ·exact .inr h
noncomputable def vQ (wd:IM)(x:T×HN×HE):JX:=⟨pf wd x.1,.ref x.2.1,x.2.2⟩
noncomputable def DicAt (wd:IM)(a:HN)(xs:HC (T×HN×HE))(h:IX):Prop:=
 xs.length<=sizeLine/\(a==sysModules)=false/\(xs.map (·.1)).Nodup/\∃o es ep,h.get? a=gV o/\o.ExactDict/\o.data=.dict es ep/\es.toList=xs.map (vQ wd)
noncomputable def eu (wd:IM)(a:HN)(xs:HC (T×HN×HE)):HO:=.ext (DicAt wd a xs)
noncomputable def KRel (K:HS)(A:HC HN)(H:Hp):HC (T×W)->HC (T×HN×HE)->Prop:=
 Mo λ(p:T×W) (q:T×HN×HE)=>p.1=q.1/\p.1.isTup=true/\p.1.depth<=bU/\Rel K A H p.1.w (.ref q.2.1)/\∃v,Rel K A H p.2 v/\RelV v q.2.2
theorem KRel.mono (e:Ext K A H A' H'){kvs:HC (T×W)}{xs:HC (T×HN×HE)}(h:KRel K A H kvs xs):KRel K A' H' kvs xs:=
 Paired.mapP h λ_ _ ⟨h1,h2,h3,h4,v,h5,h6⟩=>⟨h1,h2,h3,h4.mono e,v,h5.mono e,h6⟩
variable{wd:IM}
noncomputable def ObjRel (wd:IM)(K:HS)(A:HC HN)(H:Hp)(a:HN):O->Prop
 | .lst ws=>∃vs,H a=gV (.lst vs)/\RelL K A H ws vs
 | .fro ws=>∃vs,FroL K H a vs/\RelL K A H ws vs
 | .rng lo hi=>H a=gV (.rng lo hi)
 | .dic kvs=>∃xs,H a=gV (eu wd a xs)/\KRel K A H kvs xs
 | .frd kvs=>∃o xs,H a=gV (.frz o (eu wd a xs))/\KRel K A H kvs xs
noncomputable def O.mut:O->Ir
 | .fro _=>false
 | .rng _ _=>false
 | .frd _=>false
 | _=>true
structure StoreOk (wd:IM)(K:HS)(A:HC HN)(H:Hp)(S:aa):Prop where
 len:A.length=S.length
 nd:∀(i j:HJ) (a:HN) (o u:O),S[i]?=gV o->o.mut=true->S[j]?=gV u->u.mut=true->A[i]?=gV a->A[j]?=gV a->i=j
 obj:∀(i:HJ) (o:O) (a:HN),S[i]?=gV o->A[i]?=gV a->ObjRel wd K A H a o
noncomputable def EnvRel (K:HS)(A:HC HN)(H:Hp)(ρ:Fm)(σ:L2.St):Prop:=
 ρ.length=σ.length/\∀(i:HJ) (w:W),ρ[i]?=gV (gV w)->∃v,σ[i]?=gV (gV v)/\Rel K A H w v
theorem EnvRel.mono {ρ:Fm}{σ:L2.St}(e:Ext K A H A' H')(h:EnvRel K A H ρ σ):EnvRel K A' H' ρ σ:=
 ⟨h.1,λi w q=>let ⟨v,a,b⟩:=h.2 i w q; ⟨v,a,b.mono e⟩⟩
theorem EnvRel.set {ρ:Fm}{σ:L2.St}{w:W}{v:V}(h:EnvRel K A H ρ σ)(r:Rel K A H w v)(i:HJ):EnvRel K A H (ρ.set i (gV w)) (σ.set i (gV v)):=by
 refine⟨by simp[h.1],λj w' q=>?_⟩
 rw[JP]at q ⊢
 by_cases e:i=j
 ·subst e;rw[Iv rfl]at q ⊢
  by_cases hl:i < ρ.length
  ·rw[Iv hl]at q;rw[Iv (h.1 ▸ hl)];cases q;exact⟨v,rfl,r⟩
  ·rw[IK hl]at q; cases q
 ·rw[IK e]at q ⊢;exact h.2 j w' q
noncomputable def Wr (H:Hp)(p:HN):Prop:=H p=td\/(∃xs,H p=gV (.lst xs))\/(∃φ,H p=gV (.ext φ))\/∃ks,H p=gV (.dK ks)
theorem Wr.lst {p:HN}{xs:HC V}(h:H p=gV (.lst xs)):Wr H p:=.inr (.inl ⟨xs,h⟩)
theorem Wr.ext {p:HN}{φ:IX->Prop}(h:H p=gV (.ext φ)):Wr H p:=.inr (.inr (.inl ⟨φ,h⟩))
theorem Wr.ne_tup {p a:HN}{xs:HC V}(hp:Wr H p)(h:H a=gV (.tup xs)):a≠p:=by
 intro e; subst e
 rcases hp with q|⟨xs,q⟩|⟨φ,q⟩|⟨ks,q⟩ <;> (rw[h]at q; cases q)
theorem Wr.ne_frz {p a:HN}{o:JC}{u:HO}(hp:Wr H p)(h:H a=gV (.frz o u)):a≠p:=by
 intro e; subst e
 rcases hp with q|⟨xs,q⟩|⟨φ,q⟩|⟨ks,q⟩ <;> (rw[h]at q; cases q)
theorem Wr.ne_rng {p a:HN}{lo hi:HY}(hp:Wr H p)(h:H a=gV (.rng lo hi)):a≠p:=by
 intro e; subst e
 rcases hp with q|⟨xs,q⟩|⟨φ,q⟩|⟨ks,q⟩ <;> (rw[h]at q; cases q)
theorem sj {p:HN}{o:HO}(hp:Wr H p){a:HN}{vs:HC V}(h:SqT K H a vs):SqT K (cv H p o) a vs:=by
 rcases h with(h|⟨o',h⟩)|h
 ·exact .inl (.inl (by rw[aY (hp.ne_tup h)]; exact h))
 ·exact .inl (.inr ⟨o',by rw[aY (hp.ne_frz h)]; exact h⟩)
 ·exact .inr h
theorem vR {p:HN}{o:HO}(hp:Wr H p){a:HN}{vs:HC V}(h:FroL K H a vs):FroL K (cv H p o) a vs:=by
 rcases h with⟨o',h⟩|h
 ·exact .inl ⟨o',by rw[aY (hp.ne_frz h)]; exact h⟩
 ·exact .inr h
theorem dF {p:HN}{o:HO}(hp:Wr H p):Ext K A H A (cv H p o):=⟨λ_ _ h=>h,λ_ _ h=>sj hp h,λ_ _ _ h=>by rw[aY (hp.ne_frz h)]; exact h⟩
theorem ey {p:HN}{o:HO}(hp:H p=td):Ext K A H (A++[p]) (cv H p o):=
 ⟨λi a h=>by rw[IF (Ig.mp h).1]; exact h,λ_ _ h=>sj (.inl hp) h,λ_ _ _ h=>by rw[aY (Wr.ne_frz (.inl hp) h)]; exact h⟩
theorem ObjRel.keep {p a:HN}{o:HO}{b:O}(hp:Wr H p)(hne:b.mut=true->a≠p)(e:Ext K A H A' (cv H p o))(h:ObjRel wd K A H a b):ObjRel wd K A' (cv H p o) a b:=by
 cases b with
 | lst ws=>
  obtain⟨vs,q,r⟩:=h;exact⟨vs,by rw[aY (hne rfl)]; exact q,r.mono e⟩
 | fro ws=>
  obtain⟨vs,q,r⟩:=h;exact⟨vs,vR hp q,r.mono e⟩
 | rng lo hi=>
  have h:H a=gV (.rng lo hi):=h;show cv H p o a=gV (.rng lo hi);rw[aY (hp.ne_rng h)];exact h
 | dic kvs=>
  obtain⟨xs,q,r⟩:=h;exact⟨xs,by rw[aY (hne rfl)]; exact q,r.mono e⟩
 | frd kvs=>
  obtain⟨ob,xs,q,r⟩:=h;exact⟨ob,xs,by rw[aY (hp.ne_frz q)]; exact q,r.mono e⟩
theorem ObjRel.there {a:HN}{b:O}(h:ObjRel wd K A H a b)(hm:b.mut=true):H a≠td:=by
 cases b with
 | lst ws=>obtain⟨vs,q,r⟩:=h; rw[q]; intro z; cases z
 | fro ws=>cases hm
 | rng lo hi=>cases hm
 | dic kvs=>obtain⟨vs,q,r⟩:=h; rw[q]; intro z; cases z
 | frd ws=>cases hm
theorem ObjRel.wr {a:HN}{b:O}(h:ObjRel wd K A H a b)(hm:b.mut=true):Wr H a:=by
 cases b with
 | lst ws=>obtain⟨vs,q,r⟩:=h; exact .lst q
 | fro ws=>cases hm
 | rng lo hi=>cases hm
 | dic kvs=>obtain⟨vs,q,r⟩:=h; exact .ext q
 | frd ws=>cases hm
theorem StoreOk.lay {S:aa}{p:HN}{o:HO}(h:StoreOk wd K A H S)(hp:H p=td):StoreOk wd K A (cv H p o) S:=
 ⟨h.len,h.nd,λi b a e ea=>(h.obj i b a e ea).keep (.inl hp) (λhm z=>(h.obj i b a e ea).there hm (z ▸ hp)) (dF (.inl hp))⟩
theorem StoreOk.pushO {S:aa}{p:HN}{n:O}{u:HO}(h:StoreOk wd K A H S)(hp:H p=td)(r:ObjRel wd K (A++[p]) (cv H p u) p n):StoreOk wd K (A++[p]) (cv H p u) (S++[n]):=by
 have ex:Ext K A H (A++[p]) (cv H p u):=ey hp;have old:∀ {i:HJ} {o:O} {a:HN},(S++[n])[i]?=gV o->(A++[p])[i]?=gV a->i < S.length->S[i]?=gV o/\A[i]?=gV a:=λ{i o a} e ea hl=>by
  rw[IF hl]at e;rw[IF (h.len ▸ hl)]at ea;exact⟨e,ea⟩
 have new:∀ {i:HJ} {o:O} {a:HN},(S++[n])[i]?=gV o->(A++[p])[i]?=gV a->¬ i < S.length->i=S.length/\o=n/\a=p:=λ{i o a} e ea hl=>by
  have hi:i=S.length:=by
   have:=(Ig.mp e).1;simp at this;omega
  subst hi;simp at e;rw[<- h.len]at ea;simp at ea;exact⟨rfl,e.symm,ea.symm⟩
 refine⟨by simp[h.len],λi j a o u e1 m1 e2 m2 a1 a2=>?_,λi o a e ea=>?_⟩
 ·by_cases hi:i < S.length <;> by_cases hj:j < S.length
  ·obtain⟨x1,y1⟩:=old e1 a1 hi;obtain⟨x2,y2⟩:=old e2 a2 hj;exact h.nd i j a o u x1 m1 x2 m2 y1 y2
  ·obtain⟨x1,y1⟩:=old e1 a1 hi;obtain⟨_,_,z⟩:=new e2 a2 hj;subst z;exact absurd hp ((h.obj i o a x1 y1).there m1)
  ·obtain⟨x2,y2⟩:=old e2 a2 hj;obtain⟨_,_,z⟩:=new e1 a1 hi;subst z;exact absurd hp ((h.obj j u a x2 y2).there m2)
  ·rw[(new e1 a1 hi).1,(new e2 a2 hj).1]
 ·by_cases hi:i < S.length
  ·obtain⟨x1,y1⟩:=old e ea hi;exact(h.obj i o a x1 y1).keep (.inl hp) (λhm z=>(h.obj i o a x1 y1).there hm (z ▸ hp)) ex
  ·obtain⟨_,rfl,rfl⟩:=new e ea hi;exact r
theorem StoreOk.push {S:aa}{p:HN}{ws:HC W}{vs:HC V}(h:StoreOk wd K A H S)(hp:H p=td)(r:RelL K A H ws vs):StoreOk wd K (A++[p]) (cv H p (.lst vs)) (S++[.lst ws]):=
 h.pushO hp ⟨vs,bF,r.mono (ey hp)⟩
theorem StoreOk.writeO {S:aa}{i:HJ}{p:HN}{o0 n:O}{u:HO}(h:StoreOk wd K A H S)(e:S[i]?=gV o0)(m0:o0.mut=true)(ea:A[i]?=gV p)(r:ObjRel wd K A (cv H p u) p n) :
  StoreOk wd K A (cv H p u) (S.set i n)/\Ext K A H A (cv H p u):=by
 have hw:Wr H p:=(h.obj i _ p e ea).wr m0;have ex:Ext K A H A (cv H p u):=dF hw;have hl:i < S.length:=(Ig.mp e).1;refine⟨⟨by simp[h.len],λj k a o u e1 m1 e2 m2 a1 a2=>?_,λj o a e1 a1=>?_⟩,ex⟩
 ·have get:∀ {j:HJ} {o:O},(S.set i n)[j]?=gV o->o.mut=true->∃o',S[j]?=gV o'/\o'.mut=true:=λ{j o} q m=>by
   rw[JP]at q
   by_cases z:i=j
   ·subst z; exact⟨_,e,m0⟩
   ·rw[IK z]at q; exact⟨o,q,m⟩
  obtain⟨o',x1,m1'⟩:=get e1 m1;obtain⟨u',x2,m2'⟩:=get e2 m2;exact h.nd j k a o' u' x1 m1' x2 m2' a1 a2
 ·rw[JP]at e1
  by_cases z:i=j
  ·subst z;rw[Iv rfl,Iv hl]at e1;cases e1;rw[ea]at a1; cases a1
   exact r
  ·rw[IK z]at e1;exact(h.obj j o a e1 a1).keep hw (λhm q=>z (h.nd i j p _ o e m0 e1 hm ea (q ▸ a1))) ex
theorem StoreOk.write {S:aa}{i:HJ}{p:HN}{ws:HC W}{us:HC V}{ws0:HC W}(h:StoreOk wd K A H S)(e:S[i]?=gV (.lst ws0))(ea:A[i]?=gV p)(r:RelL K A H ws us) :
  StoreOk wd K A (cv H p (.lst us)) (S.set i (.lst ws))/\Ext K A H A (cv H p (.lst us)):=
 h.writeO e rfl ea ⟨us,bF,r.mono (dF ((h.obj i _ p e ea).wr rfl))⟩
end
noncomputable def g8 (S:aa)(i:HJ):HI (HC W):=match S[i]? with
 | some (.lst xs)=>gV xs
 | some (.fro xs)=>gV xs
 | _=>td
noncomputable def mC (S:aa)(i:HJ):HI (HC W):=match S[i]? with
 | some (.lst xs)=>gV xs
 | _=>td
noncomputable def lG (S:aa)(xs:HC W):HI (W×aa):=if xs.length<=sizeLine then gV (.ref S.length,S++[.lst xs])else td
noncomputable def rg (S:aa)(xs:HC W):HI (W×aa):=if xs.length<=sizeLine then gV (.tup xs,S)else td
noncomputable def zf (j:HY):Ir:=decide (0 < j)&&decide (j < 1073741824)
noncomputable def ue (i j:HY):Ir:=(decide (-(2 ^ 64) < i)&&decide (i < 2 ^ 64))||(decide (-(2 ^ 64) < j)&&decide (j < 2 ^ 64))
noncomputable def ED (i j:HY):Ir:=decide (0<=j)&&decide (j<=1000000)&&decide (i.natAbs < 2 ^ 64)
inductive BOp where|add|sub|mul|fdiv|mod|pow
 deriving KM
noncomputable def yB (c:HY->HY->Ir)(f:HY->HY->HY)(x y:W)(S:aa):HI (W×aa):=match x,y with
 | .int i,.int j=>if c i j then gV (.int (f i j),S)else td
 | _,_=>td
noncomputable def vS (x y:W)(S:aa):HI (W×aa):=match x with
 | .int i=>match y with
  | .int j=>gV (.int (i+j),S)
  | _=>td
 | .str x=>match y with
  | .str y=>if x.length+y.length<=sizeLine then gV (.str (x++y),S)else td
  | _=>td
 | .tup xs=>match y with
  | .tup ys=>rg S (xs++ys)
  | _=>td
 | .ref i=>match y with
  | .ref j=>match mC S i,mC S j with
   | some xs,gV ys=>lG S (xs++ys)
   | _,_=>td
  | _=>td
 | _=>td
noncomputable def zh (x y:W)(S:aa):HI (W×aa):=match x with
 | .str x=>match y with
  | .int k=>if k < 2 ^ 24/\-(2 ^ 24)<=k/\x.length*k.toNat<=sizeLine then gV (.str (Qa x k),S)else td
  | _=>td
 | .ref i=>match y with
  | .int k=>match mC S i with
   | some xs=>if k < 2 ^ 24/\-(2 ^ 24)<=k/\xs.length*k.toNat<=sizeLine then lG S (Ix k.toNat xs).flatten else td
   | none=>td
  | _=>td
 | x=>yB ue (· * ·) x y S
noncomputable def iq:BOp->W->W->aa->HI (W×aa)
 | .add,x,y,S=>vS x y S
 | .sub,x,y,S=>yB (λ_ _=>true) (· - ·) x y S
 | .mul,x,y,S=>zh x y S
 | .fdiv,x,y,S=>yB (λ_ j=>zf j) (· / ·) x y S
 | .mod,x,y,S=>yB (λ_ j=>decide (0 < j)) (· % ·) x y S
 | .pow,x,y,S=>yB ED (λi j=>i ^ j.toNat) x y S
noncomputable def BOp.py:BOp->NE
 | .add=>.Add|.sub=>.Sub|.mul=>.Mult|.fdiv=>.FloorDiv|.mod=>.Mod|.pow=>.Pow
section
variable (X:Cx)
noncomputable def d0 (pins:HC (HN×JC))(σ:L2.St)(A:HC HN)(H:Hp)(S':aa)(w:W)(u:HE)(s':HH):Prop:=
 ∃v H' A',Inv X pins σ H' s'/\RelV v u/\Ext X.K A H A' H'/\StoreOk X.w X.K A' H' S'/\Rel X.K A' H' w v
noncomputable abbrev FE:=Fm->aa->HI (W×aa)
noncomputable def LOp (f:HE->HE->Pi HE)(g:W->W->aa->HI (W×aa)):Prop:=
 ∀(pins:HC (HN×JC)) (s:HH) (σ:L2.St) (H:Hp) (A:HC HN) (S:aa) (x y:W) (a b:V) (u v:HE) (w:W) (S':aa),Inv X pins σ H s->StoreOk X.w X.K A H S->
  Rel X.K A H x a->RelV a u->Rel X.K A H y b->RelV b v->g x y S=gV (w,S')->wpAny (model X.prog X.w) X.A (f u v) (d0 X pins σ A H S' w) X.xe s
end
section
variable{X:Cx}
theorem kw {S:aa}{i:HJ}{xs:HC W}(h:mC S i=gV xs):S[i]?=gV (.lst xs):=by
 unfold mC at h;split at h
 ·cases h; assumption
 ·cases h
theorem dU {A:HC HN}{H:Hp}{S:aa}{i:HJ}{xs:HC W}{a:HN}(so:StoreOk X.w X.K A H S)(h:mC S i=gV xs)(ea:A[i]?=gV a):∃vs,H a=gV (.lst vs)/\RelL X.K A H xs vs:=
 so.obj i _ a (kw h) ea
theorem cZ {A:HC HN}{H:Hp}{S:aa}{i:HJ}{xs:HC W}{a:HN}(so:StoreOk X.w X.K A H S)(h:g8 S i=gV xs)(ea:A[i]?=gV a):∃vs,SqL X.K H a vs/\RelL X.K A H xs vs:=by
 unfold g8 at h;split at h
 ·cases h;obtain⟨vs,q,r⟩:=so.obj i _ a (by assumption) ea
  exact⟨vs,.of q,r⟩
 ·cases h;obtain⟨vs,q,r⟩:=so.obj i _ a (by assumption) ea
  exact⟨vs,q.sq,r⟩
 ·cases h
theorem j4 {S S':aa}{xs:HC W}{w:W}(h:lG S xs=gV (w,S')):xs.length<=sizeLine/\w=.ref S.length/\S'=S++[.lst xs]:=by
 unfold lG at h;split at h
 ·cases h; exact⟨by assumption,rfl,rfl⟩
 ·cases h
theorem sn {S S':aa}{xs:HC W}{w:W}(h:rg S xs=gV (w,S')):xs.length<=sizeLine/\w=.tup xs/\S'=S:=by
 unfold rg at h;split at h
 ·cases h; exact⟨by assumption,rfl,rfl⟩
 ·cases h
theorem zj {A:HC HN}{H:Hp}{S:aa}{ws:HC W}{vs:HC V}{Q:VK}{p:HN}(so:StoreOk X.w X.K A H S)(r:RelL X.K A H ws vs)(hp:H p=td)
  (q:∀v H' A',Ext X.K A H A' H'->StoreOk X.w X.K A' H' (S++[.lst ws])->Rel X.K A' H' (.ref S.length) v->Q v H'):Q (.ref p) (cv H p (.lst vs)):=
 q _ _ (A++[p]) (ey hp) (so.push hp r) (.ref (by rw[<- so.len]; simp))
theorem zm {A:HC HN}{H:Hp}{S:aa}{ws:HC W}{vs:HC V}{Q:VK}{p:HN}(so:StoreOk X.w X.K A H S)(r:RelL X.K A H ws vs)(hp:H p=td)
  (q:∀v H' A',Ext X.K A H A' H'->StoreOk X.w X.K A' H' S->Rel X.K A' H' (.tup ws) v->Q v H'):Q (.ref p) (cv H p (.tup vs)):=
 q _ _ A (dF (.inl hp)) (so.lay hp) (.tup (.of bF) (r.mono (dF (.inl hp))))
noncomputable def EE (K:HS):R2:=λx y H Q=>∃a b xs ys,x=.ref a/\y=.ref b/\SqT K H a xs/\SqT K H b ys/\xs.length+ys.length<=sizeLine/\
 (xs=[]->Q (.ref b) H)/\(ys=[]->Q (.ref a) H)/\(∀p,H p=td->Q (.ref p) (cv H p (.tup (xs++ys))))
theorem zn:OpR X (binaryOp .Add) (EE X.K):=by
 intro pins s σ H x y v u Q I rx ry h;obtain⟨a,b,xs,ys,rfl,rfl,ha,hb,hz,q0,q1,q2⟩:=h;cases rx;cases ry;obtain⟨its,r1,p1,_⟩:=I.tuple ha;obtain⟨its2,r2,p2,_⟩:=I.tuple hb
 by_cases hx:xs=[]
 ·obtain⟨⟨cls,dd,data,sl⟩,ho,hc,n,hd⟩:=id p1;obtain⟨⟨cls2,dd2,data2,sl2⟩,ho2,hc2,n2,hd2⟩:=id p2;simp only at hc hd hc2 hd2;subst hc hd hc2 hd2;exact NH ⟨_,ho,rfl⟩ ⟨_,ho2,rfl⟩ Mg Nd Lf Lc (K4 _ _)
   (tuple_addW0 a b its.toArray its2.toArray n n2 dd dd2 sl sl2 (by simp[r1.nil_iff.mpr hx])) ⟨ho,ho2,⟨.ref b,H,I,rfl,q0 hx⟩⟩
 ·refine HT.yW p1 p2 (λz=>hx (r1.nil_iff.mp z)) (λz=>⟨.ref a,H,I,rfl,q1 (r2.nil_iff.mp z)⟩) (λz=>?_) (by rw[<- r1.length,<- r2.length]; exact hz)
  refine⟨.ref s.heap.objs.size,_,I.laid (t':=s.toks) (o:=.tup (xs++ys)) (λb ob q=>HK _ q) (HW _) ?_,rfl,q2 _ (I.hok.fresh (HW _))⟩
  exact⟨by rw[HM]; exact hz,_,r1.append r2,N2 _ _⟩
theorem RelL.nil_iff {K:HS}{A:HC HN}{H:Hp}{ws:HC W}{vs:HC V}(r:RelL K A H ws vs):vs=[]↔ws=[]:=by
 cases r <;> simp
theorem rh:OpR X (binaryOp .Mult) (λx y H Q=>∃z k,x=.str z/\y=.int k/\MulOk z k/\Q (.str (Qa z k)) H):=by
 intro pins s σ H x y v u Q I rx ry h;obtain⟨z,k,rfl,rfl,ok,q⟩:=h;obtain⟨t,rfl⟩:=rx;obtain⟨t',rfl⟩:=ry;exact SB.mul ok λt2 k2=>⟨.str _,H,I.tok _,⟨_,rfl⟩,q⟩
theorem vT {x:Ih}{k:HY}(h1:k < 16777216)(h2 : -16777216<=k)(h3:x.length*k.toNat<=sizeLine):MulOk x k:=by
 have hs:sizeLine=16777216:=Ja;rw[hs]at h3;refine⟨?_,λa b=>?_,λ_ _=>?_⟩
 ·rw[Bool.or_eq_false_iff];exact⟨ID (by omega),ID (by omega)⟩
 ·have hk:0 < k:=by omega
  have e:(x.length:HY)*k=((x.length*k.toNat:HJ):HY):=by
   rw[Int.natCast_mul,M6 (by omega)]
  intro hgt;have h4:(2 ^ 63 - 1:HY) < (x.length:HY)*k:=(Int.ediv_lt_iff_lt_mul hk).mp hgt;rw[e]at h4;generalize x.length*k.toNat=z at h3 h4;omega
 ·unfold OQ;rw[hs];exact ID (by omega)
noncomputable def EndV (wd:IM)(K:HS)(A:HC HN)(H:Hp)(S':aa)(w:W):VK:=λv H'=>∃A',Ext K A H A' H'/\StoreOk wd K A' H' S'/\Rel K A' H' w v
theorem EndV.here {A:HC HN}{H:Hp}{S:aa}{w:W}{v:V}(so:StoreOk X.w X.K A H S)(r:Rel X.K A H w v):EndV X.w X.K A H S w v H:=⟨A,.refl,so,r⟩
theorem EndV.lst {A:HC HN}{H:Hp}{S:aa}{ws:HC W}{vs:HC V}{p:HN}(so:StoreOk X.w X.K A H S)(r:RelL X.K A H ws vs)(hp:H p=td):EndV X.w X.K A H (S++[.lst ws]) (.ref S.length) (.ref p) (cv H p (.lst vs)):=
 zj (Q:=EndV X.w X.K A H (S++[.lst ws]) (.ref S.length)) so r hp λv H' A' a b c=>⟨A',a,b,c⟩
theorem EndV.tup {A:HC HN}{H:Hp}{S:aa}{ws:HC W}{vs:HC V}{p:HN}(so:StoreOk X.w X.K A H S)(r:RelL X.K A H ws vs)(hp:H p=td):EndV X.w X.K A H S (.tup ws) (.ref p) (cv H p (.tup vs)):=
 zm (Q:=EndV X.w X.K A H S (.tup ws)) so r hp λv H' A' a b c=>⟨A',a,b,c⟩
theorem EP.post {pins:HC (HN×JC)}{σ:L2.St}{A:HC HN}{H:Hp}{S':aa}{w:W}{u:HE}{s':HH}(h:EP X pins σ (EndV X.w X.K A H S' w) u s'):d0 X pins σ A H S' w u s':=by
 obtain⟨v,H',I',r,A',x,y,z⟩:=h;exact⟨v,H',A',I',r,x,y,z⟩
theorem OpR.go {f:HE->HE->Pi HE}{r:R2}(h:OpR X f r){pins:HC (HN×JC)}{σ:L2.St}{A:HC HN}{H:Hp}{S':aa}{w:W}{s:HH}{a b:V}{u v:HE}(I:Inv X pins σ H s)(ru:RelV a u)(rv:RelV b v)
  (q:r a b H (EndV X.w X.K A H S' w)):wpAny (model X.prog X.w) X.A (f u v) (d0 X pins σ A H S' w) X.xe s:=b8 (h pins s σ H a b u v _ I ru rv q) λ_ _=>EP.post
theorem zo:LOp X (binaryOp .Add) (iq .add):=by
 intro pins s σ H A S x y a b u v w S' I so rx ru ry rv e;cases rx with
 | int=>cases ry with
  | int=>cases e; exact OpR.go Ck I ru rv ⟨_,_,rfl,rfl,.here so .int⟩
  | _=>cases e
 | str=>cases ry with
  | str=>
   dsimp only[iq,vS]at e;split at e
   ·cases e; exact OpR.go qZ I ru rv ⟨_,_,rfl,rfl,by assumption,.here so .str⟩
   ·cases e
  | _=>cases e
 | tup h1 r1=>cases ry with
  | tup h2 r2=>
   obtain⟨hl,rfl,rfl⟩:=sn (show rg S _=_ from e)
   rw[HM,r1.length,r2.length]at hl;refine OpR.go zn I ru rv ⟨_,_,_,_,rfl,rfl,h1,h2,hl,λz=>?_,λz=>?_,λp hp=>.tup so (r1.append r2) hp⟩
   ·have z':=r1.nil_iff.mp z;subst z';exact .here so (.tup h2 r2)
   ·have z':=r2.nil_iff.mp z;subst z';rw[Jy];exact .here so (.tup h1 r1)
  | _=>cases e
 | ref h1=>cases ry with
  | ref h2=>
   dsimp only[iq,vS]at e;split at e
   ·obtain⟨hl,rfl,rfl⟩:=j4 e;obtain⟨vs,q1,r1⟩:=dU so (by assumption) h1
    obtain⟨us,q2,r2⟩:=dU so (by assumption) h2
    rw[HM,r1.length,r2.length]at hl;exact OpR.go CD I ru rv ⟨_,_,_,_,rfl,rfl,q1,q2,hl,λp hp=>.lst so (r1.append r2) hp⟩
   ·cases e
  | _=>cases e
 | _=>cases e
theorem pg {f:HE->HE->Pi HE}{c:HY->HY->Ir}{g:HY->HY->HY}{r:R2}(h:OpR X f r)(hr:∀i j H Q,c i j=true->Q (.int (g i j)) H->r (.int i) (.int j) H Q):LOp X f (yB c g):=by
 intro pins s σ H A S x y a b u v w S' I so rx ru ry rv e;cases rx with
 | int=>cases ry with
  | int=>
   unfold yB at e;dsimp only at e;split at e
   ·cases e; exact OpR.go h I ru rv (hr _ _ _ _ (by assumption) (.here so .int))
   ·cases e
  | _=>cases e
 | _=>cases e
theorem zp:LOp X (binaryOp .Sub) (iq .sub):=pg Cm λ_ _ _ _ _ q=>⟨_,_,rfl,rfl,q⟩
theorem zq {i j:HY}(h:ue i j=true):CMul i j:=by
 unfold ue at h;rw[JY,HL,HL,Iy,Iy,Iy,Iy]at h;exact h
theorem zr:LOp X (binaryOp .Mult) (iq .mul):=by
 have hI:LOp X (binaryOp .Mult) (yB ue (· * ·)):=pg Cn λ_ _ _ _ h q=>⟨_,_,rfl,rfl,zq h,q⟩
 intro pins s σ H A S x y a b u v w S' I so rx ru ry rv e;cases x with
 | str z=>
  cases rx with
  | str=>cases ry with
   | int=>
    dsimp only[iq,zh]at e;split at e
    ·rename_i hc;cases e; exact OpR.go rh I ru rv ⟨_,_,rfl,rfl,vT (by omega) (by omega) hc.2.2,.here so .str⟩
    ·cases e
   | _=>cases e
 | ref z=>
  cases rx with
  | ref h1=>cases ry with
   | int=>
    dsimp only[iq,zh]at e;split at e
    ·split at e
     ·rename_i hc;obtain⟨hl,rfl,rfl⟩:=j4 e;obtain⟨vs,q1,r1⟩:=dU so (by assumption) h1
      rw[r1.length]at hc;exact OpR.go CF I ru rv ⟨_,_,_,rfl,rfl,q1,by omega,by omega,hc.2.2,λp hp=>.lst so (r1.rep _) hp⟩
     ·cases e
    ·cases e
   | _=>cases e
 | _=>exact hI _ _ _ _ _ _ _ _ _ _ _ _ _ _ I so rx ru ry rv e
theorem vU:LOp X (binaryOp .FloorDiv) (iq .fdiv):=pg yR λ_ _ _ _ h q=>⟨_,_,rfl,rfl,by
 unfold zf at h;rw[HL,Iy,Iy]at h;exact h,q⟩
theorem zt:LOp X (binaryOp .Mod) (iq .mod):=pg Co λ_ _ _ _ h q=>⟨_,_,rfl,rfl,Jm h,q⟩
theorem zu:LOp X (binaryOp .Pow) (iq .pow):=pg Cp λ_ _ _ _ h q=>⟨_,_,rfl,rfl,by
 unfold ED at h;rw[HL,HL,Iy,Iy,Iy]at h;exact⟨h.1.1,h.1.2,h.2⟩,q⟩
theorem sr (o:BOp):LOp X (binaryOp o.py) (iq o):=by
 cases o
 ·exact zo
 ·exact zp
 ·exact zr
 ·exact vU
 ·exact zt
 ·exact zu
end
noncomputable def jR (f:W->W->HI Ir):HC W->HC W->HI Ir
 | [],[]=>gV true
 | [],_::_=>gV false
 | _::_,[]=>gV false
 | x::xs,y::ys=>match f x y,jR f xs ys with
  | some a,gV b=>gV (a&&b)
  | _,_=>td
noncomputable def b2 (b:Ir):HY:=if b then 1 else 0
noncomputable def jG (S:aa):HJ->W->W->HI Ir
 | _,.non,y=>match y with
  | .non=>gV true
  | _=>td
 | _,.bl a,y=>match y with
  | .bl b=>gV (a==b)
  | _=>td
 | _,.int a,y=>match y with
  | .int b=>gV (a==b)
  | _=>td
 | _,.str a,y=>match y with
  | .str b=>gV (a==b)
  | _=>td
 | 0,_,_=>td
 | d+1,.tup xs,y=>match y with
  | .tup ys=>jR (jG S d) xs ys
  | _=>td
 | d+1,.ref i,y=>match y with
  | .ref j=>match mC S i,mC S j with
   | some xs,gV ys=>if xs.length=ys.length then jR (jG S d) xs ys else gV false
   | _,_=>td
  | _=>td
section
variable{X:Cx}{pins:HC (HN×JC)}{σ:L2.St}{H:Hp}{s:HH}{A:HC HN}{S:aa}
noncomputable def RU (K:HS)(A:HC HN)(H:Hp)(w:W)(u:HE):Prop:=∃v,Rel K A H w v/\RelV v u
theorem su {ws:HC W}{vs:HC V}{us:HC HE}(r:RelL X.K A H ws vs)(q:Vals vs us):∀(j:HJ) (h1:j < ws.length) (h2:j < us.length),RU X.K A H ws[j] us[j]:=by
 induction ws generalizing vs us with
 | nil=>intro j h1; simp at h1
 | cons w ws ih=>
  cases r with
  | cons r1 rr=>
   cases q with
   | cons q1 qq=>
    intro j h1 h2;cases j with
    | zero=>exact⟨_,r1,q1⟩
    | succ j=>exact ih rr qq j (by simpa using h1) (by simpa using h2)
theorem vV {ws:HC W}{u:HE}(I:Inv X pins σ H s)(h:RU X.K A H (.tup ws) u):∃a its,u=.ref a/\NA s.heap a its/\its.size=ws.length/\ws.length<=sizeLine/\∀(j:HJ) (h1:j < ws.length) (h2:j < its.size),RU X.K A H ws[j] its[j]:=by
 obtain⟨v,r,q⟩:=h;cases r with
 | tup sq rl=>
  obtain⟨its,rv,ht,hz⟩:=I.tuple sq;refine⟨_,its.toArray,q,ht,by rw[HZ,<- rv.length,rl.length],by rw[rl.length]; exact hz,λj h1 h2=>?_⟩
  have:=su rl rv j h1 (by simpa using h2)
  simpa using this
theorem vW {i:HJ}{ws:HC W}{u:HE}(I:Inv X pins σ H s)(so:StoreOk X.w X.K A H S)(e:mC S i=gV ws)(h:RU X.K A H (.ref i) u):∃a its,u=.ref a/\A[i]?=gV a/\s.heap.IsList a its/\its.size=ws.length/\ws.length<=sizeLine/\∀(j:HJ) (h1:j < ws.length) (h2:j < its.size),RU X.K A H ws[j] its[j]:=by
 obtain⟨v,r,q⟩:=h;cases r with
 | ref ea=>
  obtain⟨vs,hq,rl⟩:=dU so e ea;obtain⟨its,rv,ht,hz⟩:=I.list (.of hq);refine⟨_,its.toArray,q,ea,ht.isList,by rw[HZ,<- rv.length,rl.length],by rw[rl.length]; exact hz,λj h1 h2=>?_⟩
  have:=su rl rv j h1 (by simpa using h2)
  simpa using this
theorem kz {f:W->W->HI Ir}:∀ {xs ys:HC W} {k:Ir},jR f xs ys=gV k->∃e:HJ->Ir,(∀(j:HJ) (h1:j < xs.length) (h2:j < ys.length),f xs[j] ys[j]=gV (e j))/\
  k=((Ic (min xs.length ys.length)).all e&&xs.length==ys.length)
 | [],[],k,h=>⟨λ_=>true,λj h1=>by simp at h1,by cases h; rfl⟩
 | [],_::_,k,h=>⟨λ_=>true,λj h1=>by simp at h1,by cases h; simp⟩
 | _::_,[],k,h=>⟨λ_=>true,λj h1 h2=>by simp at h2,by cases h; simp⟩
 | x::xs,y::ys,k,h=>by
  dsimp only[jR]at h;split at h
  ·rename_i a b ha hb;cases h;obtain⟨e,h1,h2⟩:=kz hb;refine⟨λj=>match j with|0=>a|j+1=>e j,λj hj1 hj2=>?_,?_⟩
   ·cases j with
    | zero=>exact ha
    | succ j=>exact h1 j (by simpa using hj1) (by simpa using hj2)
   ·subst h2;simp only[IQ,Nat.add_min_add_right,Ms,IZ,Pe,Bool.and_assoc];congr 2;simp
  ·cases h
theorem zv (I:Inv X pins σ H s)(so:StoreOk X.w X.K A H S):∀(d:HJ) {x y:W} {v:V} {k:Ir},Rel X.K A H x v->Rel X.K A H y v->jG S d x y=gV k->k=true:=by
 intro d
 induction d with
 | zero=>
  intro x y v k rx ry e;cases rx with
  | non=>cases ry; cases e; rfl
  | bl=>cases ry; cases e; exact IR _
  | int=>cases ry; cases e; exact IR _
  | str=>cases ry; cases e; exact IR _
  | tup _ _=>cases e
  | ref _=>cases e
 | succ d ih=>
  have lists:∀ {xs ys:HC W} {vs:HC V} {k:Ir},RelL X.K A H xs vs->RelL X.K A H ys vs->jR (jG S d) xs ys=gV k->k=true:=by
   intro xs
   induction xs with
   | nil=>
    intro ys vs k r1 r2 e;cases r1; cases r2; cases e; rfl
   | cons x xs ihx=>
    intro ys vs k r1 r2 e;cases r1 with
    | cons p1 q1=>
     cases r2 with
     | cons p2 q2=>
      dsimp only[jR]at e;split at e
      ·rename_i a b ha hb;cases e;rw[ih p1 p2 ha,ihx q1 q2 hb];rfl
      ·cases e
  intro x y v k rx ry e;cases rx with
  | non=>cases ry; cases e; rfl
  | bl=>cases ry; cases e; exact IR _
  | int=>cases ry; cases e; exact IR _
  | str=>cases ry; cases e; exact IR _
  | tup h1 r1=>
   cases ry with
   | tup h2 r2=>
    rw[I.tuple_inj h1 h2]at r1;exact lists r1 r2 e
   | ref ea=>cases e
  | ref ea=>
   cases ry with
   | tup h2 r2=>cases e
   | ref eb=>
    dsimp only[jG]at e;split at e
    ·rename_i xs ys hx hy;have:=so.nd _ _ _ _ _ (kw hx) rfl (kw hy) rfl ea eb;subst this;rw[hx]at hy; cases hy
     rw[Iv rfl]at e;obtain⟨vs,q,r⟩:=dU so hx ea;exact lists r r e
    ·cases e
theorem bT (A:IJ):A.in1.units=A.units+1:=rfl
noncomputable abbrev DS (B:IJ)(s:HH)(u v:HE)(k:Ir):Prop:=SeqAt.RcAt B s u v k/\SeqAt.RcNeAt B s u v (!k)/\Lr B s u v k
open SeqAt in
theorem Bt (I:Inv X pins σ H s)(so:StoreOk X.w X.K A H S):∀(d:HJ) (B:IJ) {x y:W} {u v:HE} {k:Ir},B.units+d < cLine->RU X.K A H x u->RU X.K A H y v->jG S d x y=gV k->DS B s u v k:=by
 have non:∀ {B:IJ} {y:W} {u v:HE} {k:Ir} {d:HJ},RU X.K A H .non u->RU X.K A H y v->jG S d .non y=gV k->DS B s u v k:=by
  intro B y u v k d ⟨_,rx,ra⟩ ⟨_,ry,rb⟩ e;cases rx;cases(show u=Je from ra)
  cases y with
  | non=>
   have e:gV (true)=gV k:=by cases d <;> exact e
   cases e;cases ry;cases(show v=Je from rb)
   exact⟨.none_none,.none_none,.same _⟩
  | _=>cases d <;> cases e
 have bl:∀ {B:IJ} {b:Ir} {y:W} {u v:HE} {k:Ir} {d:HJ},RU X.K A H (.bl b) u->RU X.K A H y v->jG S d (.bl b) y=gV k->DS B s u v k:=by
  intro B b y u v k d ⟨_,rx,ra⟩ ⟨_,ry,rb⟩ e;cases rx;cases(show u=KN _ from ra)
  cases y with
  | bl c=>
   have e:gV (b==c)=gV k:=by cases d <;> exact e
   cases e;cases ry;cases(show v=KN _ from rb)
   exact⟨.bool_bool _ _,.bool_bool _ _,.bool_bool _ _⟩
  | _=>cases d <;> cases e
 have int:∀ {B:IJ} {b:HY} {y:W} {u v:HE} {k:Ir} {d:HJ},RU X.K A H (.int b) u->RU X.K A H y v->jG S d (.int b) y=gV k->DS B s u v k:=by
  intro B b y u v k d ⟨_,rx,ra⟩ ⟨_,ry,rb⟩ e;cases rx;obtain⟨t0,rfl⟩ : ∃t,u=Lp _ t:=ra;cases y with
  | int c=>
   have e:gV (b==c)=gV k:=by cases d <;> exact e
   cases e;cases ry;obtain⟨t,rfl⟩ : ∃t,v=Lp _ t:=rb;exact⟨.int_int _ _ _ _,.int_int _ _ _ _,.int_int _ _ _ _⟩
  | _=>cases d <;> cases e
 have str:∀ {B:IJ} {b:Ih} {y:W} {u v:HE} {k:Ir} {d:HJ},RU X.K A H (.str b) u->RU X.K A H y v->jG S d (.str b) y=gV k->DS B s u v k:=by
  intro B b y u v k d ⟨_,rx,ra⟩ ⟨_,ry,rb⟩ e;cases rx;obtain⟨t0,rfl⟩ : ∃t,u=Lq _ t:=ra;cases y with
  | str c=>
   have e:gV (b==c)=gV k:=by cases d <;> exact e
   cases e;cases ry;obtain⟨t,rfl⟩ : ∃t,v=Lq _ t:=rb;exact⟨.str_str _ _ _ _,.str_str _ _ _ _,.str_str _ _ _ _⟩
  | _=>cases d <;> cases e
 intro d
 induction d with
 | zero=>
  intro B x y u v k hu rx ry e;cases x with
  | non=>exact non rx ry e
  | bl b=>exact bl rx ry e
  | int b=>exact int rx ry e
  | str b=>exact str rx ry e
  | _=>cases e
 | succ d ih=>
  intro B x y u v k hu rx ry e;have hu0:B.units < cLine:=by omega
  have hu1:B.in1.units+d < cLine:=by rw[bT]; omega
  have rx0:=rx;have ry0:=ry;have fin:∀ {a b:HN},u=.ref a->v=.ref b->RcAt B s u v k->RcNeAt B s u v (!k)->DS B s u v k:=by
   intro a b ea eb h1 h2;subst ea eb;refine⟨h1,h2,?_⟩
   by_cases hab:a=b
   ·subst hab;obtain⟨v1,q1,z1⟩:=rx0;obtain⟨v2,q2,z2⟩:=ry0;have e12:v1=v2:=z1.inj z2;subst e12;have:=zv I so (d+1) q1 q2 e;subst this;exact EqAt.same _
   ·exact EqAt.of_refs hab h1
  cases x with
  | non=>exact non rx ry e
  | bl b=>exact bl rx ry e
  | int b=>exact int rx ry e
  | str b=>exact str rx ry e
  | tup xs=>
   cases y with
   | tup ys=>
    obtain⟨a,its,rfl,ht,hs,_,hi⟩:=vV I rx;obtain⟨b,its2,rfl,ht2,hs2,_,hi2⟩:=vV I ry;obtain⟨f,h1,h2⟩:=kz (show jR (jG S d) xs ys=gV k from e)
    have he:∀j (h1:j < its.size) (h2:j < its2.size),EqAt B.in1 s its[j] its2[j] (f j):=λj j1 j2=>
     (ih B.in1 hu1 (hi j (hs ▸ j1) j1) (hi2 j (hs2 ▸ j2) j2) (h1 j (hs ▸ j1) (hs2 ▸ j2))).2.2
    rw[<- hs,<- hs2]at h2;subst h2;exact fin rfl rfl (RcAt.tuples ht ht2 hu0 he) (RcNeAt.tuples ht ht2 hu0 he)
   | _=>cases e
  | ref i=>
   cases y with
   | ref j=>
    dsimp only[jG]at e;split at e
    ·rename_i ws ws2 hw hw2;obtain⟨a,its,rfl,_,hl,hs,_,hi⟩:=vW I so hw rx;obtain⟨b,its2,rfl,_,hl2,hs2,_,hi2⟩:=vW I so hw2 ry;split at e
     ·rename_i hlen;obtain⟨f,h1,h2⟩:=kz e;have he:∀j (h1:j < its.size) (h2:j < its2.size),EqAt B.in1 s its[j] its2[j] (f j):=λj j1 j2=>
       (ih B.in1 hu1 (hi j (hs ▸ j1) j1) (hi2 j (hs2 ▸ j2) j2) (h1 j (hs ▸ j1) (hs2 ▸ j2))).2.2
      have hk:k=(Ic its.size).all f:=by rw[h2,hs,hlen]; simp
      subst hk;exact fin rfl rfl (RcAt.lists hl hl2 (by rw[hs,hs2,hlen]) hu0 he) (RcNeAt.lists hl hl2 (by rw[hs,hs2,hlen]) hu0 he)
     ·rename_i hlen;cases e;have hb:(its.size != its2.size)=true:=by rw[hs,hs2]; simpa using hlen
      exact fin rfl rfl (RcAt.lists_lengths hl hl2 hb hu0) (RcNeAt.lists_lengths hl hl2 hb hu0)
    ·cases e
   | _=>cases e
end
noncomputable def Bu (fe fl:W->W->HI Ir):HC W->HC W->HI Ir
 | [],[]=>gV false
 | [],_::_=>gV true
 | _::_,[]=>gV false
 | x::xs,y::ys=>match fe x y with
  | some true=>Bu fe fl xs ys
  | some false=>fl x y
  | none=>td
noncomputable def Hu (S:aa):HJ->W->W->HI Ir
 | _,.int a,.int b=>gV (decide (a < b))
 | _,.str a,.str b=>gV (decide (a.cps.toList < b.cps.toList))
 | d+1,.tup xs,.tup ys=>Bu (jG S d) (Hu S d) xs ys
 | _,_,_=>td
noncomputable def LtAt (B:IJ)(s:HH)(u v:HE)(k:Ir):Prop:=
 ∀(prog:Iz) (w:IM) (E:HE->HH->Prop) (Q:HE->HH->Prop),Q (.bool k) s->wpAny (model prog w) B (richCompare .Lt u v) Q E s
inductive LexR (B:IJ)(s:HH):HC HE->HC HE->Ir->Prop
 | nn:LexR B s [] [] false
 | nc {v:HE} {vs:HC HE}:LexR B s [] (v::vs) true
 | cn {v:HE} {vs:HC HE}:LexR B s (v::vs) [] false
 | eq {u v:HE} {us vs:HC HE} {k:Ir}:Lr B s u v true->LexR B s us vs k->LexR B s (u::us) (v::vs) k
 | ne {u v:HE} {us vs:HC HE} {k:Ir}:Lr B s u v false->LtAt B s u v k->LexR B s (u::us) (v::vs) k
section
open PySem.SeqAt
open PySem.AutoSeq1 (wpAny_loadPart')
open PySem.MeetsSeq PySem.MeetsSeq2 PySem.MeetsSeq3
theorem nE (l b:HN)(items items2:IW HE)(n n2:HJ)(dd dd2:HI HN)(sl sl2:IW (HI HE))(k:Ir) :
  Meets (M3.«tuple.__lt__» ⟨[.ref l,.ref b],[]⟩)
   (λB R s=>s.heap.get? l=gV { cls:=.type "tuple",dict:=dd,data:=.seq items n,slots:=sl }/\s.heap.get? b=gV { cls:=.type "tuple",dict:=dd2,data:=.seq items2 n2,slots:=sl2 }/\
    LexR B.in1 s items.toList items2.toList k/\R (.ok (.ret (.bool k))) s):=
 .of_wp λprog w A R s h=>by
  obtain⟨hp,g,d,tk,os⟩:=s; obtain⟨hl,hb,hx,h⟩:=h
  have f2:=OZ;have z1:items.toList.length=items.size:=by simp
  have z2:items2.toList.length=items2.size:=by simp
  wp_walk using LD hl,LD hb,N8 _ (λdq b s'=>b.1=td/\s'=⟨hp,g,d,tk,os⟩/\∃(vs ws:HC HE),dq=vs.zip ws/\
   LexR A.in1 ⟨hp,g,d,tk,os⟩ vs ws k/\vs.length+items2.size=ws.length+items.size) _
  case turn=>
   rintro⟨y,x⟩ dq b s' ⟨hb',rfl,vs,ws,hz,hlx,hlen⟩;cases hlx with
   | nn=>rw[NP]at hz; cases hz
   | nc=>rw[NP]at hz; cases hz
   | cn=>rw[List.zip_nil_right]at hz; cases hz
   | eq he hr=>
    rw[KD]at hz;injection hz with hyx hrest
    injection hyx with hy hx
    subst hy hx;simp only[IQ]at hlen;refine HD (he prog w _ _ ?_)
    wp_walk
    exact⟨rfl,rfl,_,_,hrest,hr,by omega⟩
   | ne he hr=>
    rw[KD]at hz;injection hz with hyx hrest
    injection hyx with hy hx
    subst hy hx;refine HD (he prog w _ _ ?_);have hri:=hr prog w
    wp_walk using hri
    exact⟨_,rfl,by simpa using h⟩
  case fin=>
   rintro⟨b1,b2⟩ s' ⟨hb',rfl,vs,ws,hz,hlx,hlen⟩;simp only at hb';subst hb';have hv:k=decide (items.size < items2.size):=by
    cases hlx with
    | nn=>simp only[Jz]at hlen; exact(ID (by omega)).symm
    | nc=>simp only[Jz,IQ]at hlen; exact(JO (by omega)).symm
    | cn=>simp only[Jz,IQ]at hlen; exact(ID (by omega)).symm
    | eq _ _=>rw[KD]at hz; cases hz
    | ne _ _=>rw[KD]at hz; cases hz
   subst hv
   wp_walk
   exact⟨_,rfl,by simpa [NY]using h⟩
  case h=>
   exact⟨rfl,rfl,items.toList,items2.toList,rfl,hx,by omega⟩
end
theorem LtAt.tuples {B:IJ}{s:HH}{l b:HN}{items items2:IW HE}{k:Ir}(hl:NA s.heap l items)(hb:NA s.heap b items2)(hu:B.units < cLine)(hx:LexR B.in1 s items.toList items2.toList k) :
  LtAt B s (.ref l) (.ref b) k:=λprog w E Q h=>by
 obtain⟨⟨cls,dd,data,sl⟩,ho,hc,n,hd⟩:=id hl;obtain⟨⟨cls2,dd2,data2,sl2⟩,ho2,hc2,n2,hd2⟩:=id hb;simp only at hc hd hc2 hd2;subst hc hd hc2 hd2;exact richCompare_meets_room (op:=.Lt) ⟨_,ho,rfl⟩ ⟨_,ho2,rfl⟩ PySem.F.slot_tuple_lt PySem.F.entry_tuple_lt (PySem.F.args_tuple_lt_2 _ _) (nE l b items items2 n n2 dd dd2 sl sl2 k)
  ⟨ho,ho2,hx,show KN k≠Value.notImplemented/\Q (.bool k) s from⟨(λx=>nomatch x),h⟩⟩ hu
inductive COp where|eq|ne|lt|le|gt|ge|isin|notin|is|isnot
 deriving KM
noncomputable def COp.py:COp->O9
 | .eq=>.Eq|.ne=>.NotEq|.lt=>.Lt|.le=>.LtE|.gt=>.Gt|.ge=>.GtE|.isin=>.In|.notin=>.NotIn|.is=>.Is|.isnot=>.IsNot
noncomputable def cz:W->Ir
 | .non=>true
 | .bl _=>true
 | .int _=>true
 | .str _=>true
 | _=>false
noncomputable def yC:W->W->Ir
 | .non,.non=>true
 | .bl a,.bl b=>a==b
 | .bl a,.int b=>b2 a==b
 | .int a,.bl b=>a==b2 b
 | .int a,.int b=>a==b
 | .str a,.str b=>a==b
 | _,_=>false
noncomputable def fO (S:aa):W->HI (HC W)
 | .tup xs=>gV xs
 | .ref i=>g8 S i
 | _=>td
noncomputable abbrev g9:HJ:=20
noncomputable def Bv (x y:W)(S:aa):HI Ir:=match fO S y with
 | some ys=>if cz x&&ys.all cz then gV (ys.any λz=>yC z x)else td
 | none=>td
noncomputable def vX:W->Ir
 | .non=>true
 | _=>false
noncomputable def vY (f:HY->HY->Ir):W->W->HI Ir
 | .int i,.int j=>gV (f i j)
 | _,_=>td
noncomputable def DT:COp->W->W->aa->HI Ir
 | .eq,x,y,S=>jG S g9 x y
 | .ne,x,y,S=>(jG S g9 x y).map (!·)
 | .lt,x,y,_=>vY (λi j=>decide (i < j)) x y
 | .le,x,y,_=>vY (λi j=>decide (i<=j)) x y
 | .gt,x,y,_=>vY (λi j=>decide (j < i)) x y
 | .ge,x,y,_=>vY (λi j=>decide (j<=i)) x y
 | .isin,x,y,S=>Bv x y S
 | .notin,x,y,S=>(Bv x y S).map (!·)
 | .is,x,y,_=>if vX y then gV (vX x)else td
 | .isnot,x,y,_=>if vX y then gV (!vX x)else td
noncomputable def ir (o:COp)(x y:W)(S:aa):HI (W×aa):=(DT o x y S).map λk=>(.bl k,S)
section
variable{X:Cx}
theorem sv {pins:HC (HN×JC)}{σ:L2.St}{H:Hp}{s:HH}{A:HC HN}{S:aa}{k:Ir}(I:Inv X pins σ H s)(so:StoreOk X.w X.K A H S):d0 X pins σ A H S (.bl k) (.bool k) s:=
 ⟨.bl k,H,A,I,rfl,.refl,so,.bl⟩
theorem zw {o:COp}{x y w:W}{S S':aa}(h:ir o x y S=gV (w,S')):∃k,DT o x y S=gV k/\w=.bl k/\S'=S:=by
 unfold ir at h;rw[HG]at h;obtain⟨k,h1,h2⟩:=h;cases h2;exact⟨k,h1,rfl,rfl⟩
theorem ph {A:HC HN}{H:Hp}{w:W}{v:V}(r:Rel X.K A H w v)(f:cz w=true):gT v=true:=by
 cases r <;> first|rfl|cases f
theorem mD {A:HC HN}{H:Hp}:∀ {ws:HC W} {vs:HC V},RelL X.K A H ws vs->ws.all cz=true->vs.all gT=true
 | _,_,.nil,_=>rfl
 | _,_,.cons r t,f=>by
  rw[IZ,HL]at f ⊢;exact⟨ph r f.1,mD t f.2⟩
theorem zx {A:HC HN}{H:Hp}{x y:W}{u v:V}(r:Rel X.K A H x u)(q:Rel X.K A H y v)(fx:cz x=true)(fy:cz y=true):y8 u v=yC x y:=by
 cases r <;> cases q <;> first|rfl|cases fx|cases fy
theorem sw {A:HC HN}{H:Hp}{y:W}{v:V}(q:Rel X.K A H y v)(fy:cz y=true):∀ {ws:HC W} {vs:HC V},RelL X.K A H ws vs->ws.all cz=true->FY v vs=ws.any λz=>yC z y
 | _,_,.nil,_=>rfl
 | _,_,.cons r t,f=>by
  rw[IZ,HL]at f;have:=sw q fy t f.2;unfold FY at this ⊢;rw[Ku,Ku,zx r q f.1 fy,this]
theorem nF {pins:HC (HN×JC)}{σ:L2.St}{H:Hp}{s:HH}{A:HC HN}{S:aa}{y:W}{b:V}{ys:HC W}(so:StoreOk X.w X.K A H S)(r:Rel X.K A H y b)(e:fO S y=gV ys):∃p vs,b=.ref p/\(SqL X.K H p vs\/SqT X.K H p vs)/\RelL X.K A H ys vs:=by
 cases r with
 | tup h1 r1=>cases e; exact⟨_,_,rfl,.inr h1,r1⟩
 | ref ea=>
  obtain⟨vs,h1,r1⟩:=cZ so e ea;exact⟨_,vs,rfl,.inl h1,r1⟩
 | _=>cases e
theorem vZ {neg:Ir}{o:O9}(ho:OpR X (compareOp o) (GC X.K neg)){pins:HC (HN×JC)}{σ:L2.St}{H:Hp}{s:HH}{A:HC HN}{S:aa}{x y:W}{a b:V}{u v:HE}{ys:HC W}(I:Inv X pins σ H s)(so:StoreOk X.w X.K A H S)
  (rx:Rel X.K A H x a) (ru:RelV a u) (ry:Rel X.K A H y b) (rv:RelV b v) (e:fO S y=gV ys) (f:(cz x&&ys.all cz)=true) :
  wpAny (model X.prog X.w) X.A (compareOp o u v) (d0 X pins σ A H S (.bl (if neg then !ys.any λz=>yC z x else ys.any λz=>yC z x))) X.xe s:=by
 obtain⟨p,vs,rfl,hq,rl⟩:=nF (pins:=pins) (σ:=σ) (s:=s) so ry e;rw[HL]at f;refine OpR.go ho I ru rv ⟨p,vs,rfl,hq,ph rx f.1,mD rl f.2,?_⟩;rw[sw rx f.1 rl f.2];exact .here so .bl
theorem zy (hu:X.A.units+g9 < cLine)(o:COp):LOp X (compareOp o.py) (ir o):=by
 intro pins s σ H A S x y a b u v w S' I so rx ru ry rv e;obtain⟨k,ek,e1,e2⟩:=zw e;subst e1;subst e2;clear e
 rename aa=>S
 have twoI:∀ {f:HY->HY->Ir},vY f x y=gV k->∃i j,x=.int i/\y=.int j/\k=f i j:=by
  intro f h;cases x with
  | int i=>cases y with
   | int j=>cases h; exact⟨i,j,rfl,rfl,rfl⟩
   | _=>cases h
  | _=>cases h
 have hu1:X.A.units+1 < cLine:=by have:g9=20:=rfl; omega
 have ofSq:∀ {c:Ir},Bv x y S=gV c->(∃ys,fO S y=gV ys/\(cz x&&ys.all cz)=true/\c=ys.any λz=>yC z x):=by
  intro c h;unfold Bv at h;split at h
  ·split at h
   ·cases h; exact⟨_,by assumption,by assumption,rfl⟩
   ·cases h
  ·cases h
 have ofN:∀ {c:Ir},(if vX y then gV c else td)=gV k->y=.non/\k=c:=by
  intro c h;cases y with
  | non=>cases h; exact⟨rfl,rfl⟩
  | _=>cases h
 cases o with
 | eq=>exact(Bt I so g9 X.A hu ⟨a,rx,ru⟩ ⟨b,ry,rv⟩ ek).1 _ _ _ _ (sv I so)
 | ne=>
  obtain⟨k',h1,rfl⟩:=HG.mp ek;exact(Bt I so g9 X.A hu ⟨a,rx,ru⟩ ⟨b,ry,rv⟩ h1).2.1 _ _ _ _ (sv I so)
 | lt=>
  obtain⟨i,j,rfl,rfl,rfl⟩:=twoI ek;cases rx; cases ry
  exact OpR.go Eo I ru rv ⟨_,_,rfl,rfl,.here so .bl⟩
 | le=>
  obtain⟨i,j,rfl,rfl,rfl⟩:=twoI ek;cases rx; cases ry
  exact OpR.go Er I ru rv ⟨_,_,rfl,rfl,.here so .bl⟩
 | gt=>
  obtain⟨i,j,rfl,rfl,rfl⟩:=twoI ek;cases rx; cases ry
  exact OpR.go Et I ru rv ⟨_,_,rfl,rfl,.here so .bl⟩
 | ge=>
  obtain⟨i,j,rfl,rfl,rfl⟩:=twoI ek;cases rx; cases ry
  exact OpR.go Eu I ru rv ⟨_,_,rfl,rfl,.here so .bl⟩
 | isin=>
  obtain⟨ys,h1,h2,rfl⟩:=ofSq ek;exact vZ (neg:=false) t8 I so rx ru ry rv h1 h2
 | notin=>
  obtain⟨c,h,rfl⟩:=HG.mp ek;obtain⟨ys,h1,h2,rfl⟩:=ofSq h;exact vZ (neg:=true) nB I so rx ru ry rv h1 h2
 | is=>
  obtain⟨rfl,rfl⟩:=ofN ek;cases ry;refine OpR.go Cr I ru rv ⟨rfl,?_⟩;cases rx <;> exact .here so .bl
 | isnot=>
  obtain⟨rfl,rfl⟩:=ofN ek;cases ry;refine OpR.go yS I ru rv ⟨rfl,?_⟩;cases rx <;> exact .here so .bl
end
end Mi
namespace HT
open PySem PyProof.Rows
section
variable{prog:Iz}{w:IM}{A:IJ}{E:HE->HH->Prop}{s:HH}
theorem gG {t sl:HN}{items:IW HE}{vl vu:HE}{lo hi:HI HY}{Q:HE->HH->Prop}(ht:NA s.heap t items)(hs:s.heap.IsSliceOf sl vl vu .none)(pl:LQ vl lo)(pu:LQ vu hi)
  (hw:cR items.size 0 lo=0/\cR items.size items.size hi=items.size) (h:Q (.ref t) s):wpAny (model prog w) A (getItem (.ref t) (.ref sl)) Q E s:=by
 obtain⟨os,hos,hcs,hds⟩:=id hs;have hTs:s.TypeIs (.ref sl) "slice":=⟨os,hos,hcs⟩;unfold getItem
 try with_reducible refine Jx ?_
 first|refine HD (HQ ?_)|skip
 refine HD (NJ ht.typeIs (by decide) ?_)
 refine HD (Jk (name:=J3 "__getitem__") ht.typeIs JQ
  (Js JQ ht.typeIs M5 ?_ (Nq _ _)))
 show wpAny _ _ (KQ (.ref t) >>= _) _ _ s;refine HD (OU ht ?_);refine HD (LJ hTs ?_);rw[Iv (by decide)]
 refine HD (fq hs pl pu ?_);have hyes:((((cR items.size 0 lo:HJ):HY)==0&&(1:HY)==1&&(cR items.size items.size hi - cR items.size 0 lo)==items.size)=true):=by
  rw[hw.1,hw.2];simp
 show wpAny _ _ (if (((cR items.size 0 lo:HJ):HY)==0&&(1:HY)==1&&(cR items.size items.size hi - cR items.size 0 lo)==items.size)=true then _ else _) _ _ s
 rw[Iv hyes];unfold OF;refine HD (HD (LJ ht.typeIs (HQ ?_)));rw[Iv (by decide)]
 exact HD (Nn (HD (HQ (HQ ⟨_,rfl,HQ h⟩))))
end
end HT
namespace Mi
open PySem PySem.Spec PyProof.Rows L2
noncomputable def sx (x y:W)(S:aa):HI (W×aa):=match x,y with
 | .tup xs,.int i=>(o7 xs i).map λw=>(w,S)
 | .ref r,.int i=>match g8 S r with
  | some xs=>(o7 xs i).map λw=>(w,S)
  | none=>td
 | .str x,.int i=>if x.length<=sizeLine then(o7 x.cps.toList i).map λc=>(.str ⟨[c].toArray⟩,S)else td
 | _,_=>td
noncomputable def jS (xs:HC W)(lo hi:HI HY):HC W:=(xs.drop (HT.cR xs.length 0 lo)).take (HT.cR xs.length xs.length hi - HT.cR xs.length 0 lo)
noncomputable def mE (x:W)(lo hi:HI HY)(S:aa):HI (W×aa):=match x with
 | .tup xs=>gV (.tup (jS xs lo hi),S)
 | .ref r=>match g8 S r with
  | some xs=>gV (.ref S.length,S++[.lst (jS xs lo hi)])
  | none=>td
 | _=>td
noncomputable def uf (o i v:W)(S:aa):HI aa:=match o,i with
 | .ref r,.int k=>match mC S r with
  | some xs=>match qT xs.length k with
   | some j=>gV (S.set r (.lst (xs.set j v)))
   | none=>td
  | none=>td
 | _,_=>td
section
variable (X:Cx)
noncomputable def LIx (g:W->W->aa->HI (W×aa)):Prop:=
 ∀(value slice:Io) (pins:HC (HN×JC)) (s:HH) (σ:L2.St) (H:Hp) (A:HC HN) (S:aa) (x y:W) (a b:V) (u v:HE) (w:W) (S':aa),Inv X pins σ H s->StoreOk X.w X.K A H S->
  Rel X.K A H x a->RelV a u->Rel X.K A H y b->RelV b v->g x y S=gV (w,S')->subscripted slice false u v=operate [u,v] (getItem u v)->wpAny (model X.prog X.w) X.A (subscriptTail value slice u v) (d0 X pins σ A H S' w) X.xe s
noncomputable def LSl (g:W->HI HY->HI HY->aa->HI (W×aa)):Prop:=
 ∀(pins:HC (HN×JC)) (s:HH) (σ:L2.St) (H:Hp) (A:HC HN) (S:aa) (x:W) (a:V) (v vl vu:HE) (lo hi:HI HY) (sl:HN) (w:W) (S':aa),Inv X pins σ H s->StoreOk X.w X.K A H S->
  Rel X.K A H x a->RelV a v->s.heap.IsSliceOf sl vl vu .none->LQ vl lo->LQ vu hi->g x lo hi S=gV (w,S')->
  ∃T id,typeLookup (.type T) "__getitem__" = pure (gV (.builtin id))/\s.TypeIs v T/\wpAny (model X.prog X.w) X.A (getItem v (.ref sl)) (d0 X pins σ A H S' w) X.xe s
noncomputable def LSet (g:W->W->W->aa->HI aa):Prop:=
 ∀(pins:HC (HN×JC)) (s:HH) (σ:L2.St) (H:Hp) (A:HC HN) (S:aa) (o i x:W) (ao ai ax:V) (uo ui ux:HE) (S':aa),Inv X pins σ H s->StoreOk X.w X.K A H S->
  Rel X.K A H o ao->RelV ao uo->Rel X.K A H i ai->RelV ai ui->Rel X.K A H x ax->RelV ax ux->g o i x S=gV S'->
  wpAny (model X.prog X.w) X.A (setItem uo ui ux) (λ_ s'=>∃H' A',Inv X pins σ H' s'/\Ext X.K A H A' H'/\StoreOk X.w X.K A' H' S') X.xe s
noncomputable def LCall (f:HE)(g:HC W->aa->HI (W×aa)):Prop:=
 ∀(pins:HC (HN×JC)) (s:HH) (σ:L2.St) (H:Hp) (A:HC HN) (S:aa) (xs:HC W) (vs:HC V) (us:HC HE) (w:W) (S':aa),Inv X pins σ H s->StoreOk X.w X.K A H S->
  RelL X.K A H xs vs->Vals vs us->g xs S=gV (w,S')->wpAny (model X.prog X.w) X.A (call f us) (d0 X pins σ A H S' w) X.xe s
noncomputable def LMeth (id:Jp)(g:W->HC W->aa->HI (W×aa)):Prop:=
 ∀(pins:HC (HN×JC)) (s:HH) (σ:L2.St) (H:Hp) (A:HC HN) (S:aa) (x:W) (a:V) (u:HE) (xs:HC W) (vs:HC V) (us:HC HE) (w:W) (S':aa),Inv X pins σ H s->StoreOk X.w X.K A H S->
  Rel X.K A H x a->RelV a u->RelL X.K A H xs vs->Vals vs us->g x xs S=gV (w,S')->wpAny (model X.prog X.w) X.A (call (.builtin id) (u::us)) (d0 X pins σ A H S' w) X.xe s
end
section
variable{X:Cx}{pins:HC (HN×JC)}{σ:L2.St}{H:Hp}{s:HH}{A:HC HN}{S:aa}
theorem IxR.go {r:R2}(h:IxR X r){S':aa}{w:W}{a b:V}{u v:HE}{value slice:Io}(I:Inv X pins σ H s)(ru:RelV a u)(rv:RelV b v)(q:r a b H (EndV X.w X.K A H S' w))(hs:subscripted slice false u v=operate [u,v] (getItem u v)) :
  wpAny (model X.prog X.w) X.A (subscriptTail value slice u v) (d0 X pins σ A H S' w) X.xe s:=b8 (h value slice pins s σ H a b u v _ I ru rv q hs) λ_ _=>EP.post
theorem CallR.go {f:HE}{r:HC V->Hp->VK->Prop}(h:CallR X f r){S':aa}{w:W}{vs:HC V}{us:HC HE}(I:Inv X pins σ H s)(rv:Vals vs us)(q:r vs H (EndV X.w X.K A H S' w)) :
  wpAny (model X.prog X.w) X.A (call f us) (d0 X pins σ A H S' w) X.xe s:=b8 (h pins s σ H vs us _ I rv q) λ_ _=>EP.post
theorem MtR.go {id:Jp}{r:V->HC V->Hp->VK->Prop}(h:MtR X id r){S':aa}{w:W}{a:V}{u:HE}{vs:HC V}{us:HC HE}(I:Inv X pins σ H s)(ru:RelV a u)(rv:Vals vs us)(q:r a vs H (EndV X.w X.K A H S' w)) :
  wpAny (model X.prog X.w) X.A (call (.builtin id) (u::us)) (d0 X pins σ A H S' w) X.xe s:=b8 (h pins s σ H a vs u us _ I ru rv q) λ_ _=>EP.post
theorem sy {xs:HC W}{vs:HC V}{i:HY}{w:W}(r:RelL X.K A H xs vs)(e:o7 xs i=gV w):∃v,o7 vs i=gV v/\Rel X.K A H w v:=by
 unfold o7 at e ⊢;rw[r.length]at e;cases q:qT vs.length i with
 | none=>rw[q]at e; cases e
 | some j=>
  rw[q]at e;obtain⟨v,h1,h2⟩:=r.get (show xs[j]?=gV w from e)
  exact⟨v,h1,h2⟩
theorem Hv (hu:X.A.units+10 < cLine):LIx X sx:=by
 intro value slice pins s σ H A S x y a b u v w S' I so rx ru ry rv e hs;cases rx with
 | tup h1 r1=>cases ry with
  | int=>
   (dsimp only[sx]at e; simp only[HG]at e)
   obtain⟨w',e1,e2⟩:=e;cases e2;obtain⟨z,h2,r2⟩:=sy r1 e1;exact IxR.go Cy I ru rv ⟨_,_,_,_,rfl,rfl,h1,h2,.here so r2⟩ hs
  | _=>cases e
 | ref ea=>cases ry with
  | int=>
   dsimp only[sx]at e;split at e
   ·rename_i ws hw;rw[HG]at e;obtain⟨w',e1,e2⟩:=e;cases e2;obtain⟨vs,h1,r1⟩:=cZ so hw ea;obtain⟨z,h2,r2⟩:=sy r1 e1;exact IxR.go y4 I ru rv ⟨_,_,_,_,rfl,rfl,h1,h2,.here so r2⟩ hs
   ·cases e
  | _=>cases e
 | str=>cases ry with
  | int=>
   dsimp only[sx]at e;split at e
   ·rw[HG]at e;obtain⟨c,e1,e2⟩:=e;cases e2;exact IxR.go Cz I ru rv ⟨_,_,_,rfl,rfl,by assumption,e1,.here so .str⟩ hs
   ·cases e
  | _=>cases e
 | _=>cases ry <;> cases e
theorem nG {xs:HC W}{vs:HC V}{lo hi:HI HY}(r:RelL X.K A H xs vs):RelL X.K A H (jS xs lo hi) (ko vs lo hi):=by
 unfold jS ko;rw[r.length];exact(r.drop _).take _
theorem zz:EA X (λx lo hi H Q=>∃a xs,x=.ref a/\SqT X.K H a xs/\(ko xs lo hi=xs->Q (.ref a) H)/\∀p,H p=td->Q (.ref p) (cv H p (.tup (ko xs lo hi)))):=by
 intro pins s σ H x v vl vu lo hi sl Q I rx hs pl pu h;obtain⟨a,xs,rfl,hx,q0,q⟩:=h
 by_cases hw:(HT.cR xs.length 0 lo=0/\HT.cR xs.length xs.length hi=xs.length)
 ·cases rx;obtain⟨its,r,ht,hz⟩:=I.tuple hx;have hlen:its.toArray.size=xs.length:=by rw[HZ]; exact r.length.symm
  refine⟨"tuple",_,PyProof.Rows.slot_tuple_getitem.lookup,ht.typeIs,?_⟩;refine HT.gG ht hs pl pu (by rw[hlen]; exact hw) ⟨.ref a,H,I,rfl,q0 ?_⟩
  unfold ko;rw[hw.1,hw.2];simp
 ·exact Cw pins s σ H (.ref a) v vl vu lo hi sl Q I rx hs pl pu ⟨a,xs,rfl,hx,hw,q⟩
theorem Hw:LSl X mE:=by
 intro pins s σ H A S x a v vl vu lo hi sl w S' I so rx rv hs pl pu e;cases rx with
 | tup h1 r1=>
  cases e;obtain⟨T,id,z1,z2,z3⟩:=zz pins s σ H _ v vl vu lo hi sl (EndV X.w X.K A H S (.tup (jS _ lo hi))) I rv hs pl pu ⟨_,_,rfl,h1,λq=>.here so (.tup h1 (by have:=nG (lo:=lo) (hi:=hi) r1; rw[q]at this; exact this)),λp hp=>.tup so (nG r1) hp⟩
  exact⟨T,id,z1,z2,b8 z3 λ_ _=>EP.post⟩
 | ref ea=>
  simp only[mE]at e;split at e
  ·rename_i ws hw;cases e;obtain⟨vs,h1,r1⟩:=cZ so hw ea;obtain⟨T,id,z1,z2,z3⟩:=y6 pins s σ H _ v vl vu lo hi sl (EndV X.w X.K A H (S++[.lst (jS ws lo hi)]) (.ref S.length)) I rv hs pl pu ⟨_,_,rfl,h1,λp hp=>.lst so (nG r1) hp⟩
   exact⟨T,id,z1,z2,b8 z3 λ_ _=>EP.post⟩
  ·cases e
 | _=>cases e
theorem lset (hu:X.A.units+10 < cLine):LSet X uf:=by
 intro pins s σ H A S o i x ao ai ax uo ui ux S' I so ro ruo ri rui rx rux e;cases ro with
 | ref ea=>cases ri with
  | int=>
   simp only[uf]at e;split at e
   ·rename_i ws hw;split at e
    ·rename_i j hj;cases e;obtain⟨vs,h1,r1⟩:=dU so hw ea;rw[r1.length]at hj;obtain⟨so',ex⟩:=so.write (kw hw) ea (r1.set rx j);exact b8 (vI pins s σ H _ _ _ uo ui ux (λH'=>H'=cv H _ (.lst (vs.set j ax))) I ruo rui rux ⟨_,_,_,_,rfl,rfl,h1,hj,rfl⟩) λ_ s' ⟨H',I',e'⟩=>⟨_,A,e' ▸ I',ex,so'⟩
    ·cases e
   ·cases e
  | _=>cases e
 | _=>cases ri <;> cases e
noncomputable def rj (xs:HC W)(S:aa):HI (W×aa):=match xs with
 | [.tup ys]=>gV (.int ys.length,S)
 | [.str y]=>if y.length<=sizeLine then gV (.int y.length,S)else td
 | [.ref i]=>(g8 S i).map λys=>(.int ys.length,S)
 | _=>td
theorem ug:LCall X (.builtin "len") rj:=by
 intro pins s σ H A S xs vs us w S' I so rl rv e;cases rl with
 | nil=>cases e
 | cons r t=>
  cases t with
  | cons _ _=>cases r <;> cases e
  | nil=>
   cases r with
   | tup h1 r1=>cases e; rw[r1.length]; exact CallR.go kj I rv ⟨_,_,rfl,.inr ⟨_,h1,rfl⟩,.here so .int⟩
   | str=>
    dsimp only[rj]at e;split at e
    ·cases e; exact CallR.go kj I rv ⟨_,_,rfl,⟨by assumption,rfl⟩,.here so .int⟩
    ·cases e
   | ref ea=>
    (dsimp only[rj]at e; simp only[HG]at e)
    obtain⟨ws,hw,e2⟩:=e;cases e2;obtain⟨vs',h1,r1⟩:=cZ so hw ea;rw[r1.length];exact CallR.go kj I rv ⟨_,_,rfl,.inl ⟨_,h1,rfl⟩,.here so .int⟩
   | _=>cases e
noncomputable def iu (xs:HC W)(S:aa):HI (W×aa):=match xs with
 | [x]=>match fO S x with
  | some ys=>gV (.ref S.length,S++[.lst ys])
  | none=>td
 | _=>td
theorem hG:LCall X (.type "list") iu:=by
 intro pins s σ H A S xs vs us w S' I so rl rv e;cases rl with
 | nil=>cases e
 | cons r t=>
  cases t with
  | cons _ _=>cases e
  | nil=>
   simp only[iu]at e;split at e
   ·rename_i ys hy;cases e;obtain⟨p,vs',rfl,hq,r1⟩:=nF (pins:=pins) (σ:=σ) (s:=s) so r hy;exact CallR.go nC I rv ⟨p,vs',rfl,hq,λl hl=>.lst so r1 hl⟩
   ·cases e
noncomputable def kA (xs:HC W)(S:aa):HI (W×aa):=match xs with
 | [.tup ys]=>gV (.tup ys,S)
 | [.ref i]=>match g8 S i with
  | some ys=>gV (.tup ys,S)
  | none=>td
 | _=>td
theorem jH:LCall X (.type "tuple") kA:=by
 intro pins s σ H A S xs vs us w S' I so rl rv e;cases rl with
 | nil=>cases e
 | cons r t=>
  cases t with
  | cons _ _=>cases r <;> cases e
  | nil=>
   cases r with
   | tup h1 r1=>cases e; exact CallR.go gU I rv ⟨_,_,rfl,.inr ⟨h1,.here so (.tup h1 r1)⟩⟩
   | ref ea=>
    dsimp only[kA]at e;split at e
    ·rename_i ys hy;cases e;obtain⟨vs',h1,r1⟩:=cZ so hy ea;exact CallR.go gU I rv ⟨_,_,rfl,.inl ⟨h1,λl hl=>.tup so r1 hl⟩⟩
    ·cases e
   | _=>cases e
noncomputable def EF (xs:HC W)(S:aa):HI (W×aa):=match xs with
 | [.int i]=>gV (.int i,S)
 | [.bl b]=>gV (.int (if b then 1 else 0),S)
 | _=>td
theorem uh:LCall X (.type "int") EF:=by
 intro pins s σ H A S xs vs us w S' I so rl rv e;cases rl with
 | nil=>cases e
 | cons r t=>
  cases t with
  | cons _ _=>cases r <;> cases e
  | nil=>
   cases r with
   | int=>cases e; exact CallR.go mq I rv (.inl ⟨_,rfl,.here so .int⟩)
   | bl=>cases e; exact CallR.go mq I rv (.inr ⟨_,rfl,.here so .int⟩)
   | _=>cases e
noncomputable def iw (x:W)(xs:HC W)(S:aa):HI (W×aa):=match x,xs with
 | .ref i,[y]=>match mC S i with
  | some ys=>if ys.length < sizeLine then gV (.non,S.set i (.lst (ys++[y])))else td
  | none=>td
 | _,_=>td
theorem gA {i:HJ}{p:HN}{ws ws0:HC W}{us:HC V}(so:StoreOk X.w X.K A H S)(e:mC S i=gV ws0)(ea:A[i]?=gV p)(r:RelL X.K A H ws us){w:W}{v:V}(rw':Rel X.K A H w v) :
  EndV X.w X.K A H (S.set i (.lst ws)) w v (cv H p (.lst us)):=by
 obtain⟨so',ex⟩:=so.write (kw e) ea r;exact⟨A,ex,so',rw'.mono ex⟩
theorem nH:LMeth X "list.append" iw:=by
 intro pins s σ H A S x a u xs vs us w S' I so rx ru rl rv e;cases rx with
 | ref ea=>
  cases rl with
  | nil=>cases e
  | cons r t=>
   cases t with
   | cons _ _=>cases e
   | nil=>
    simp only[iw]at e;split at e
    ·rename_i ys hy;split at e
     ·rename_i hl;cases e;obtain⟨vs',h1,r1⟩:=dU so hy ea;rw[r1.length]at hl;exact MtR.go t9 I ru rv ⟨_,_,_,rfl,rfl,h1,hl,gA so hy ea (r1.append (.cons r .nil)) .non⟩
     ·cases e
    ·cases e
 | _=>cases e
noncomputable def j5 (x:W)(xs:HC W)(S:aa):HI (W×aa):=match x,xs with
 | .ref i,[.ref j]=>match mC S i,mC S j with
  | some ys,gV zs=>if ys.length+zs.length<=sizeLine then gV (.non,S.set i (.lst (ys++zs)))else td
  | _,_=>td
 | _,_=>td
theorem nI:LMeth X "list.extend" j5:=by
 intro pins s σ H A S x a u xs vs us w S' I so rx ru rl rv e;cases rx with
 | ref ea=>
  cases rl with
  | nil=>cases e
  | cons r t=>
   cases t with
   | cons _ _=>cases r <;> cases e
   | nil=>
    cases r with
    | ref eb=>
     dsimp only[j5]at e;split at e
     ·rename_i ys zs hy hz;split at e
      ·rename_i hl;cases e;obtain⟨vs',h1,r1⟩:=dU so hy ea;obtain⟨vs2,h2,r2⟩:=dU so hz eb;rw[r1.length,r2.length]at hl;exact MtR.go ub I ru rv ⟨_,_,_,_,rfl,rfl,h1,h2,hl,gA so hy ea (r1.append r2) .non⟩
      ·cases e
     ·cases e
    | _=>cases e
 | _=>cases e
noncomputable def CG (x:W)(xs:HC W)(S:aa):HI (W×aa):=match x,xs with
 | .ref i,[.int k]=>match mC S i with
  | some ys=>if -(2 ^ 63)<=k/\k < 2 ^ 63 then match seqIndex? k ys.length with
   | some j=>match ys[j]? with
    | some y=>gV (y,S.set i (.lst (ys.eraseIdx j)))
    | none=>td
   | none=>td
   else td
  | none=>td
 | _,_=>td
theorem uj:LMeth X "list.pop" CG:=by
 intro pins s σ H A S x a u xs vs us w S' I so rx ru rl rv e;cases rx with
 | ref ea=>
  cases rl with
  | nil=>cases e
  | cons r t=>
   cases t with
   | cons _ _=>cases r <;> cases e
   | nil=>
    cases r with
    | int=>
     dsimp only[CG]at e;split at e
     ·rename_i ys hy;split at e
      ·rename_i hk;split at e
       ·rename_i j hj;split at e
        ·rename_i y hyj;cases e;obtain⟨vs',h1,r1⟩:=dU so hy ea;obtain⟨v',h2,r2⟩:=r1.get hyj;rw[r1.length]at hj;exact MtR.go vL I ru rv ⟨_,_,_,_,_,rfl,rfl,h1,hk.1,hk.2,hj,h2,gA so hy ea (r1.eraseIdx j) r2⟩
        ·cases e
       ·cases e
      ·cases e
     ·cases e
    | _=>cases e
 | _=>cases e
noncomputable def kB (x:W)(xs:HC W)(S:aa):HI (W×aa):=match x,xs with
 | .ref i,[]=>match mC S i with
  | some _=>gV (.non,S.set i (.lst []))
  | none=>td
 | _,_=>td
theorem jI:LMeth X "list.clear" kB:=by
 intro pins s σ H A S x a u xs vs us w S' I so rx ru rl rv e;cases rx with
 | ref ea=>
  cases rl with
  | cons _ _=>cases e
  | nil=>
   dsimp only[kB]at e;split at e
   ·rename_i ys hy;cases e;obtain⟨vs',h1,r1⟩:=dU so hy ea;exact MtR.go vM I ru rv ⟨_,_,rfl,rfl,h1,gA so hy ea .nil .non⟩
   ·cases e
 | _=>cases e
noncomputable def uk:HC W->HI (HC HY)
 | []=>gV []
 | .int x::xs=>(uk xs).map (x :: ·)
 | _::_=>td
noncomputable def kC (x:W)(xs:HC W)(S:aa):HI (W×aa):=match x,xs with
 | .ref i,[.int k]=>match mC S i with
  | some ys=>match uk ys with
   | some ns=>gV (.int (ns.count k:HJ),S)
   | none=>td
  | none=>td
 | _,_=>td
theorem pi:∀ {ws:HC W} {vs:HC V} {us:HC HE} {ns:HC HY},RelL X.K A H ws vs->Vals vs us->uk ws=gV ns->NN us ns
 | _,_,_,ns,.nil,.nil,e=>by cases e; exact .nil
 | _,_,_,ns,.cons r t,.cons q p,e=>by
  cases r with
  | int=>
   simp only[uk,HG]at e;obtain⟨z,e1,e2⟩:=e;subst e2;obtain⟨tk,rfl⟩ : ∃t,_=Lp _ t:=q;exact .cons _ tk (pi t p e1)
  | _=>cases e
theorem pj:LMeth X "list.count" kC:=by
 intro pins s σ H A S x a u xs vs us w S' I so rx ru rl rv e;cases rx with
 | ref ea=>
  cases rl with
  | nil=>cases e
  | cons r t=>
   cases t with
   | cons _ _=>cases r <;> cases e
   | nil=>
    cases r with
    | int=>
     dsimp only[kC]at e;split at e
     ·rename_i ys hy;split at e
      ·rename_i ns hn;cases e;obtain⟨vs',h1,r1⟩:=dU so hy ea;cases ru;obtain⟨u',rfl,q'⟩:=rv.one;obtain⟨tk,rfl⟩ : ∃t,u'=Lp _ t:=q';obtain⟨z,its,n,r2,hl,e2⟩:=I.lstM h1;refine count_list_ints (ns:=ns) ⟨_,e2,rfl,n,rfl⟩ (pi r1 r2 hn) ⟨.int _,H,A,I.tok _,⟨_,rfl⟩,.refl,so,.int⟩
      ·cases e
     ·cases e
    | _=>cases e
 | _=>cases e
noncomputable def nJ:HC W->HI (HC Ih)
 | []=>gV []
 | .str x::xs=>(nJ xs).map (x :: ·)
 | _::_=>td
noncomputable def v6 (x:W)(xs:HC W)(S:aa):HI (W×aa):=match x,xs with
 | .str x,[y]=>match fO S y with
  | some ys=>match nJ ys with
   | some zs=>if (zs.map (·.length)).sum+zs.length*x.length<=16777216 then gV (.str (Txt.join x zs),S)else td
   | none=>td
  | none=>td
 | _,_=>td
theorem kD:∀ {ws:HC W} {vs:HC V} {us:HC HE} {zs:HC Ih},RelL X.K A H ws vs->Vals vs us->nJ ws=gV zs->StrsAre us zs
 | _,_,_,zs,.nil,.nil,e=>by cases e; exact .nil
 | _,_,_,zs,.cons r t,.cons q p,e=>by
  cases r with
  | str=>
   simp only[nJ,HG]at e;obtain⟨z,e1,e2⟩:=e;subst e2;obtain⟨tk,rfl⟩ : ∃t,_=Lq _ t:=q;exact .cons _ tk (kD t p e1)
  | _=>cases e
theorem rm:LMeth X "str.join" v6:=by
 intro pins s σ H A S x a u xs vs us w S' I so rx ru rl rv e;cases rx with
 | str=>
  cases rl with
  | nil=>cases e
  | cons r t=>
   cases t with
   | cons _ _=>cases e
   | nil=>
    simp only[v6]at e;split at e
    ·rename_i ys hy;split at e
     ·rename_i zs hz;split at e
      ·rename_i hl;cases e;obtain⟨p,vs',rfl,hq,r1⟩:=nF (pins:=pins) (σ:=σ) (s:=s) so r hy;obtain⟨t0,rfl⟩ : ∃t,u=Lq _ t:=ru;obtain⟨u1,rfl,ru1⟩:=mo rv;have ru1':u1=IS p:=ru1;subst ru1';rcases hq with hq|hq
       ·obtain⟨its,rr,pl,hz'⟩:=I.list hq;exact join_list pl.isList (by simpa using kD r1 rr hz) hl λt' k=>⟨.str _,H,A,I.tok _,⟨_,rfl⟩,.refl,so,.str⟩
       ·obtain⟨its,rr,pl,hz'⟩:=I.tuple hq;exact join_tuple pl (by simpa using kD r1 rr hz) hl λt' k=>⟨.str _,H,A,I.tok _,⟨_,rfl⟩,.refl,so,.str⟩
      ·cases e
     ·cases e
    ·cases e
 | _=>cases e
noncomputable def eA (S:aa):W->HI Ir
 | .non=>gV false
 | .bl b=>gV b
 | .int i=>gV (i != 0)
 | .str y=>if y.length<=sizeLine then gV ((y.length:HY) != 0)else td
 | .tup xs=>gV (!xs.isEmpty)
 | .ref i=>(g8 S i).map λxs=>!xs.isEmpty
theorem jJ {ws:HC W}{vs:HC V}(r:RelL X.K A H ws vs):(!ws.isEmpty) = !vs.isEmpty:=by cases r <;> rfl
theorem GJ {x:W}{a:V}{u:HE}{k:Ir}{Q:Ir->HH->Prop}(I:Inv X pins σ H s)(so:StoreOk X.w X.K A H S)(rx:Rel X.K A H x a)(ru:RelV a u)(e:eA S x=gV k)(hq:∀s',Inv X pins σ H s'->Q k s') :
  wpAny (model X.prog X.w) X.A (truthy u) Q X.xe s:=by
 refine b8 (Cs pins s σ H a u (λb H'=>b=k/\H'=H) I ru ⟨k,?_,rfl,rfl⟩) λb s' ⟨H',I',e1,e2⟩=>?_
 ·cases rx with
  | non=>cases e; rfl
  | bl=>cases e; rfl
  | int=>cases e; rfl
  | str=>
   simp only[eA]at e;split at e
   ·cases e; exact⟨by assumption,rfl⟩
   ·cases e
  | tup h1 r1=>cases e; exact .inr (.inl ⟨_,h1,jJ r1⟩)
  | ref ea=>
   simp only[eA,HG]at e;obtain⟨ws,hw,e2⟩:=e;subst e2;obtain⟨vs,h1,r1⟩:=cZ so hw ea;exact .inl ⟨_,h1,jJ r1⟩
 ·subst e1 e2;exact hq s' I'
end
noncomputable def zA (S:aa)(i:HJ):HI (HY×HY):=match S[i]? with
 | some (.rng lo hi)=>gV (lo,hi)
 | _=>td
noncomputable def rn (xs:HC W)(S:aa):HI (W×aa):=match xs with
 | [.int j]=>if -(2 ^ 62)<=j/\j < 2 ^ 62 then gV (.ref S.length,S++[.rng 0 j])else td
 | _=>td
noncomputable def EG (lo:HY)(n:HJ):HC W:=(Ic n).map λ(k:HJ)=>.int (lo+(k:HY))
noncomputable def mF (xs:HC W)(S:aa):HI (W×aa):=match xs with
 | [.ref i]=>match zA S i with
  | some (lo,hi)=>if -(2 ^ 62)<=lo/\lo < 2 ^ 62/\-(2 ^ 62)<=hi/\hi < 2 ^ 62/\(hi - lo).toNat<=sizeLine then gV (.ref S.length,S++[.lst (EG lo (hi - lo).toNat)])else td
  | none=>iu [.ref i] S
 | xs=>iu xs S
section
variable{X:Cx}{pins:HC (HN×JC)}{σ:L2.St}{H:Hp}{s:HH}{A:HC HN}{S:aa}
theorem Inv.drawn (I:Inv X pins σ H s)(d:P3):Inv X pins σ H { s with drawn:=d }:=⟨I.ok,I.os,I.bare,I.base,I.loc,I.cell,I.free,I.freeC,I.pin,I.hok,I.len⟩
theorem pk {h':IX}{tk:HJ}{dr:P3}{D:HN}{n:O}{u:HO}(I:Inv X pins σ H s)(so:StoreOk X.w X.K A H S)(hk:∀b o,s.heap.get? b=gV o->h'.get? b=gV o)(hD:s.heap.objs.size<=D)(new:ObjOk X.prog X.w (cv H D u) h' D u)
  (r:H D=td->ObjRel X.w X.K (A++[D]) (cv H D u) D n):d0 X pins σ A H (S++[n]) (.ref S.length) (.ref D) { s with heap:=h',toks:=tk,drawn:=dr }:=by
 have hn:H D=td:=I.hok.fresh hD;refine⟨.ref D,_,A++[D],Mi.Inv.drawn (I.laid (a:=D) (o:=u) (t':=tk) hk hD new) dr,rfl,ey hn,so.pushO hn (r hn),.ref ?_⟩;rw[<- so.len]; simp
theorem nK:∀ {vs:HC V} {us:HC HE},vs.length=us.length->(∀(i:HJ) v u,vs[i]?=gV v->us[i]?=gV u->L2.RelV v u)->Vals vs us
 | [],[],_,_=>.nil
 | v::vs,u::us,hl,h=>.cons (h 0 v u rfl rfl) (nK (by simpa using hl) λi v u a b=>h (i+1) v u (by simpa using a) (by simpa using b))
 | [],_::_,hl,_=>by cases hl
 | _::_,[],hl,_=>by cases hl
theorem nL {K:HS}{lo:HY}:∀(l:HC HJ),RelL K A H (l.map λ(k:HJ)=>W.int (lo+(k:HY))) (l.map λ(k:HJ)=>V.int (lo+(k:HY)))
 | []=>.nil
 | _::l=>.cons .int (nL l)
theorem sA {xs:HC W}{vs:HC V}{us:HC HE}{i:HJ}(rl:RelL X.K A H [.ref i] vs)(rv:Vals vs us):∃a,A[i]?=gV a/\us=[.ref a]:=by
 cases rl with
 | cons r t=>
  cases t;cases r with
  | @ref _ a ea=>
   cases rv with
   | cons ru rv=>
    cases rv;obtain rfl:_=IS a:=ru;exact⟨a,ea,rfl⟩
theorem po:LCall X (.type "range") rn:=by
 intro pins s σ H A S xs vs us w S' I so rl rv e;unfold rn at e;split at e
 ·rename_i j;split at e
  ·rename_i hb;cases e;cases rl with
   | cons r t=>
    cases t;cases r;cases rv with
    | cons ru rv=>
     cases rv;obtain⟨tk,rfl⟩:=ru;exact Pc (pk (dr:=s.drawn) (u:=.rng 0 j) I so (λb o e=>HK _ e) (HW _) ⟨_,_,_,Il _ rfl⟩ λ_=>bF)
  ·cases e
 ·cases e
theorem pq (hh:X.A.handled=td):LCall X (.type "list") mF:=by
 intro pins s σ H A S xs vs us w S' I so rl rv e;unfold mF at e;split at e
 ·rename_i i;split at e
  ·rename_i lo hi hr;split at e
   ·rename_i hb;cases e;obtain⟨a,ea,rfl⟩:=sA (xs:=[]) rl rv;obtain⟨b1,b2,b3,b4,b5⟩:=hb;have hH:H a=gV (.rng lo hi):=by
     unfold zA at hr;split at hr
     ·rename_i hx; cases hr; exact so.obj i _ a hx ea
     ·cases hr
    obtain⟨t,u,v,ho⟩:=I.hok a _ hH;have hn:JJ lo hi 1=((hi - lo).toNat:HJ):=by rw[Nc]; split <;> omega
    refine call_list_range hh ho (O8 b1 b2 b3 b4) hn b5 λh' tk acc c hk hD hacc=>?_
    have hv:Vals ((Ic (hi - lo).toNat).map λ(k:HJ)=>V.int (lo+(k:HY))) acc.toList:=by
     refine nK (by rw[HF,IU,II,hacc.1]) λi v u e1 e2=>?_
     rw[HP,HG]at e1;obtain⟨k,e1,rfl⟩:=e1;obtain⟨hk,rfl⟩:=Ig.mp e1;obtain⟨t,rfl⟩:=hacc.2 i u (by rw[<- JD]; exact e2)
     exact⟨t,by simp⟩
    refine pk (dr:=s.drawn) (u:=.lst ((Ic (hi - lo).toNat).map λ(k:HJ)=>V.int (lo+(k:HY)))) I so hk (HW _) ⟨by simpa using b5,acc.toList,c,hv,by simpa using hD⟩ λhn=>⟨_,bF,?_⟩
    exact nL _
   ·cases e
  ·exact hG pins s σ H A S _ vs us w S' I so rl rv e
 ·exact hG pins s σ H A S _ vs us w S' I so rl rv e
end
mutual
inductive IsT (h:IX):T->HE->Prop
 | int {i:HY} {t:P9}:IsT h (.int i) (.int i t)
 | str {x:Ih} {t:P9}:IsT h (.str x) (.str x t)
 | tup {ks:HC T} {a:HN} {o:JC} {items:IW HE} {n:HJ}:h.get? a=gV o->o.cls=.type "tuple"->o.data=.seq items n->IsTs h ks items.toList->IsT h (.tup ks) (.ref a)
inductive IsTs (h:IX):HC T->HC HE->Prop
 | nil:IsTs h [] []
 | cons {k:T} {v:HE} {ks:HC T} {vs:HC HE}:IsT h k v->IsTs h ks vs->IsTs h (k::ks) (v::vs)
end
mutual
theorem IsT.inj {h:IX}:∀ {x y:T} {v:HE},IsT h x v->IsT h y v->x=y
 | _,_,_,.int,h2=>by cases h2; rfl
 | _,_,_,.str,h2=>by cases h2; rfl
 | _,_,_,.tup a1 _ d1 t1,h2=>by
  cases h2 with
  | tup a2 _ d2 t2=>
   rw[a1]at a2; cases a2
   rw[d1]at d2; cases d2
   rw[IsTs.inj t1 t2]
theorem IsTs.inj {h:IX}:∀ {x y:HC T} {v:HC HE},IsTs h x v->IsTs h y v->x=y
 | _,_,_,.nil,h2=>by cases h2; rfl
 | _,_,_,.cons a b,h2=>by
  cases h2 with
  | cons c d=>rw[IsT.inj a c,IsTs.inj b d]
end
mutual
theorem IsT.keeps {h h':IX}{d:HN}{o:JC}{es:IW JX}{ep:HJ}(ho:h.get? d=gV o)(hd:o.data=.dict es ep)(hs:Ko d h h'):∀ {x:T} {v:HE},IsT h x v->IsT h' x v
 | _,_,.int=>.int
 | _,_,.str=>.str
 | _,_,.tup (a:=a) a1 c1 d1 t1=>by
  have hne:a≠d:=by
   rintro rfl;rw[a1]at ho; cases ho
   rw[d1]at hd; cases hd
  exact .tup ((hs.2 a hne).trans a1) c1 d1 (IsTs.keeps ho hd hs t1)
theorem IsTs.keeps {h h':IX}{d:HN}{o:JC}{es:IW JX}{ep:HJ}(ho:h.get? d=gV o)(hd:o.data=.dict es ep)(hs:Ko d h h'):∀ {x:HC T} {v:HC HE},IsTs h x v->IsTs h' x v
 | _,_,.nil=>.nil
 | _,_,.cons a b=>.cons (IsT.keeps ho hd hs a) (IsTs.keeps ho hd hs b)
end
theorem IsTs.length {h:IX}:∀ {x:HC T} {v:HC HE},IsTs h x v->x.length=v.length
 | _,_,.nil=>rfl
 | _,_,.cons _ b=>by simp[IsTs.length b]
theorem IsTs.get {h:IX}:∀ {x:HC T} {v:HC HE},IsTs h x v->∀(j:HJ) (h1:j < x.length) (h2:j < v.length),IsT h x[j] v[j]
 | _,_,.cons a _,0,_,_=>a
 | _,_,.cons _ b,j+1,h1,h2=>IsTs.get b j (by simpa using h1) (by simpa using h2)
theorem eB:∀ {ks:HC T} (j:HJ) (h:j < ks.length),(ks[j]).depth<=T.depths ks
 | k::ks,0,_=>by simp only[T.depths,List.getElem_cons_zero]; omega
 | k::ks,j+1,h=>by
  have:=eB (ks:=ks) j (by simpa using h)
  simp only[T.depths,List.getElem_cons_succ]; omega
section
variable{prog:Iz}{w:IM}{E:HE->HH->Prop}
mutual
theorem pr:∀(k:T) (v:HE) (A:IJ) (s:HH) (Q:HY->HH->Prop),IsT s.heap k v->A.units+k.depth < cLine->Q (pf w k) { s with toks:=s.toks+k.draws }->wpAny (model prog w) A (pyHash v) Q E s
 | .int i,_,A,s,Q,x,_,h=>by cases x; exact NZ h
 | .str y,_,A,s,Q,x,_,h=>by cases x; exact N1 h
 | .tup ks,_,A,s,Q,x,hu,h=>by
  cases x with
  | @tup _ a o items n hg hc hd hw=>
   simp only[T.depth]at hu;refine PySem.W.pyHash_slot (T:="tuple") ⟨_,hg,hc⟩ F.slot_tuple_hash F.entry_tuple_hash (F.args_tuple_hash_1 _) (beq_builtin_none _) (.inr (by omega)) ?_
   show wpAny _ _ (KQ (.ref a) >>= _) _ _ s;refine HD (wpAny_tupleItemsOf hg hd ?_);refine HD ?_;rw[<- Nt];refine kE ks items.toList A.in1 s #[] _ hw (by rw[bT]; omega) λb hb=>?_
   show wpAny _ _ (retInt (LX b.toList)) _ _ _;rw[hb];refine HD (Oi (HQ ⟨_,_,rfl,?_⟩))
   simpa [T.draws,O0,pf]using h
theorem kE:∀(ks:HC T) (vs:HC HE) (A:IJ) (s:HH) (b:IW HY) (Q:IW HY->HH->Prop),IsTs s.heap ks vs->A.units+T.depths ks < cLine->
  (∀b',b'.toList=b.toList++kq w ks->Q b' { s with toks:=s.toks+T.drawss ks })->
  wpAny (model prog w) A (forIn vs b λx r=>do let h <- pyHash x; pure Nu; pure (JG (r.push h))) Q E s
 | [],_,A,s,b,Q,x,_,h=>by cases x; exact HQ (h b (by simp[kq]))
 | k::ks,_,A,s,b,Q,x,hu,h=>by
  cases x with
  | cons x1 x2=>
   simp only[T.depths]at hu;rw[MB];refine HD (HD (pr k _ A s _ x1 (by omega) ?_))
   refine HD (HQ (HQ ?_));refine kE ks _ A _ _ Q x2 (by omega) λb' hb=>?_
   have:=h b' (by simp[hb,kq])
   simpa [T.drawss,O0]using this
end
open SeqAt in
theorem um:∀(d:HJ) (x y:T) (u v:HE) (B:IJ) (s:HH),x.depth<=d->IsT s.heap x u->IsT s.heap y v->B.units+d < cLine->B.units+y.depth < cLine->EqAt B s u v (decide (x=y))
 | d,.int i,y,_,_,B,s,_,h1,h2,hu,hv=>by
  cases h1;cases h2 with
  | int=>
   rename_i j t2;have:decide (T.int i=T.int j)=(i==j):=by by_cases e:i=j <;> simp[e]
   rw[this]; exact .int_int _ _ _ _
  | str=>rw[ID (by simp)]; exact .int_str _ _ _ _
  | tup a c dd t=>rw[ID (by simp)]; exact .int_tuple _ _ ⟨_,a,c,_,dd⟩ (by simp only[T.depth]at hv; omega)
 | d,.str z,y,_,_,B,s,_,h1,h2,hu,hv=>by
  cases h1;cases h2 with
  | int=>rw[ID (by simp)]; exact .str_int _ _ _ _
  | str=>
   rename_i z2 t2;have:decide (T.str z=T.str z2)=(z==z2):=by by_cases e:z=z2 <;> simp[e]
   rw[this]; exact .str_str _ _ _ _
  | tup a c dd t=>rw[ID (by simp)]; exact .str_tuple _ _ ⟨_,a,c,_,dd⟩ (by simp only[T.depth]at hv; omega)
 | 0,.tup ks,y,_,_,B,s,hd,h1,h2,hu,hv=>by simp[T.depth]at hd
 | d+1,.tup ks,y,_,_,B,s,hd,h1,h2,hu,hv=>by
  have h1':=h1;cases h1 with
  | @tup _ a o items n a1 c1 d1 t1=>
   have hT:s.heap.IsTuple a items:=⟨_,a1,c1,_,d1⟩;simp only[T.depth]at hd;cases h2 with
   | int=>rw[ID (by simp)]; exact .tuple_int _ _ hT (by omega)
   | str=>rw[ID (by simp)]; exact .tuple_str _ _ hT (by omega)
   | @tup ks2 b o2 items2 n2 a2 c2 d2 t2=>
    have hT2:s.heap.IsTuple b items2:=⟨_,a2,c2,_,d2⟩
    by_cases hab:a=b
    ·subst hab;have:T.tup ks=T.tup ks2:=h1'.inj (.tup a2 c2 d2 t2);rw[JO this];exact EqAt.same _
    ·refine EqAt.of_refs hab ?_;simp only[T.depth]at hv;have l1:items.size=ks.length:=by rw[<- II,t1.length]
     have l2:items2.size=ks2.length:=by rw[<- II,t2.length]
     let e:HJ->Ir:=λj=>if h:j < ks.length/\j < ks2.length then decide (ks[j]'h.1=ks2[j]'h.2)else true
     have he:∀j (h1:j < items.size) (h2:j < items2.size),EqAt B.in1 s items[j] items2[j] (e j):=λj j1 j2=>by
      have g1:=t1.get j (l1 ▸ j1) (by simpa using j1)
      have g2:=t2.get j (l2 ▸ j2) (by simpa using j2)
      have q1:=eB (ks:=ks) j (l1 ▸ j1);have q2:=eB (ks:=ks2) j (l2 ▸ j2);have:=um d _ _ _ _ B.in1 s (by omega) g1 g2 (by rw[bT]; omega) (by rw[bT]; omega)
      show EqAt B.in1 s items[j] items2[j] (if h:j < ks.length/\j < ks2.length then decide (ks[j]'h.1=ks2[j]'h.2)else true)
      rw[PU ⟨l1 ▸ j1,l2 ▸ j2⟩]
      simpa using this
     have:=RcAt.tuples hT hT2 (by omega) he
     have hk:((Ic (min items.size items2.size)).all e&&items.size==items2.size)=decide (T.tup ks=T.tup ks2):=by
      rw[l1,l2]
      by_cases hl:ks.length=ks2.length
      ·by_cases hq:ks=ks2
       ·subst hq;simp only[LK,IR,Nf,decide_true,IC,IN];intro j hj;show(if h:j < ks.length/\j < ks.length then decide (ks[j]'h.1=ks[j]'h.2)else true)=true
        rw[PU ⟨hj,hj⟩]; simp
       ·rw[ID (by simpa using hq)]
        have:∃j,∃h:j < ks.length,ks[j]≠ks2[j]'(hl ▸ h):=by
         apply LY;intro hn;exact hq (Lv hl λj h1 h2=>LY λz=>hn ⟨j,h1,z⟩)
        obtain⟨j,hj,hne⟩:=this;rw[MH];left;rw[List.all_eq_false];refine⟨j,by rw[IN,<- hl,LK]; exact hj,?_⟩
        show ¬ (if h:j < ks.length/\j < ks2.length then decide (ks[j]'h.1=ks2[j]'h.2)else true)=true
        rw[PU ⟨hj,hl ▸ hj⟩]
        simpa using hne
      ·rw[ID (by simp; intro z; exact hl (by rw[z])),MH]
       right
       simpa using hl
     rw[hk]at this;exact this
theorem mG {n:HJ}{v:HE}(h:∀a,v≠.ref a):eqIsQuiet n v=pure true:=by
 cases v with
 | ref a=>exact absurd rfl (h a)
 | _=>first|rfl|simp[eqIsQuiet]|(unfold eqIsQuiet; rfl)
theorem sB:∀(d:HJ) (k:T) (v:HE) (A:IJ) (s:HH) (Q:Ir->HH->Prop),k.depth<=d->IsT s.heap k v->Q true s->wpAny (model prog w) A (eqIsQuiet d v) Q E s
 | d,.int i,_,A,s,Q,_,x,h=>by cases x; rw[mG (λa=>by simp)]; exact HQ h
 | d,.str i,_,A,s,Q,_,x,h=>by cases x; rw[mG (λa=>by simp)]; exact HQ h
 | 0,.tup ks,_,A,s,Q,hd,x,h=>by simp[T.depth]at hd
 | d+1,.tup ks,_,A,s,Q,hd,x,h=>by
  cases x with
  | @tup _ a o items n ho hc hdt hi=>
   simp only[T.depth]at hd;have hT:s.TypeIs (.ref a) "tuple":=⟨_,ho,hc⟩;unfold eqIsQuiet;refine HD (wpAny_specialOf hT F.slot_tuple_eq.lookup ?_);show wpAny _ _ (isInstance (.ref a) (.type "tuple") >>= _) _ _ s;refine HD (Mh hT isSubtype_tuple_tuple ?_);simp only[Ng,Jq,Kq];refine HD (KS ho hdt ?_);refine HD ?_;show wpAny _ _ (forIn items _ _) _ _ s;rw[<- Nt];refine N8 _ (λdq r s'=>r.1=td/\s'=s/\∃kk,IsTs s.heap kk dq/\T.depths kk<=d) _ ?_ ?_ _ _ ⟨rfl,rfl,ks,hi,by omega⟩
   ·rintro v dq r s' ⟨hr,rfl,kk,hall,hdk⟩;cases hall with
    | cons q1 q2=>
     simp only[T.depths]at hdk;refine HD (sB d _ v _ _ _ (by omega) q1 ?_)
     simp only[Ng,Jq,Kq];exact HQ ⟨rfl,rfl,_,q2,by omega⟩
   ·rintro⟨r1,r2⟩ s' ⟨hr,rfl,_⟩;simp only at hr;subst hr;exact HQ h
end
noncomputable def dg (prog:Iz)(w:IM):HeapKind prog w T where
 is:=λh k a=>IsT h k (.ref a)/\k.depth<=bU
 hash:=pf w
 draws:=T.draws
 room:=λA=>A.units+bU < cLine
 inj:=λhx hy=>hx.1.inj hy.1
 keeps:=λx ho hd hs=>⟨x.1.keeps ho hd hs,x.2⟩
 pyHash:=λhu hk h=>pr _ _ _ _ _ hk.1 (by have:=hk.2; omega) h
 eqBool:=λhu hx hy h=>um bU _ _ _ _ _ _ hx.2 hx.1 hy.1 hu (by have:=hy.2; omega) _ _ _ _ h
 quiet:=λhk h=>sB 8 _ _ _ _ _ (by have:=hk.2; unfold bU at this; omega) hk.1 h
noncomputable def jT (S:aa)(i:HJ):HI (HC (T×W)):=match S[i]? with
 | some (.dic kvs)=>gV kvs
 | some (.frd kvs)=>gV kvs
 | _=>td
noncomputable def nM (S:aa)(i:HJ):HI (HC (T×W)):=match S[i]? with
 | some (.dic kvs)=>gV kvs
 | _=>td
noncomputable def cm (kvs:HC (T×W))(k:T):HI W:=(kvs.find? λp=>decide (p.1=k)).map (·.2)
noncomputable def eO (kvs:HC (T×W))(k:T)(v:W):HC (T×W):=
 if (kvs.any λp=>decide (p.1=k))=true then kvs.map (λp=>if p.1=k then(p.1,v)else p)else kvs++[(k,v)]
noncomputable def gH (w:W):HI T:=match W.t w with
 | some k=>if k.isTup=true/\k.depth<=bU then gV k else td
 | none=>td
theorem ef {w:W}{k:T}(h:gH w=gV k):k.w=w/\k.isTup=true/\k.depth<=bU:=by
 unfold gH at h;split at h
 ·rename_i k' hk;split at h
  ·rename_i hc;cases h;exact⟨W.t_w hk,hc.1,hc.2⟩
  ·cases h
 ·cases h
theorem c8 (kvs:HC (T×W))(k:T)(v:W):(eO kvs k v).length<=kvs.length+1:=by
 unfold eO;split
 ·rw[HF]; omega
 ·rw[HM,IQ,Jz]; omega
section
variable{X:Cx}{pins:HC (HN×JC)}{σ:L2.St}{H:Hp}{s:HH}{A:HC HN}{S:aa}
mutual
theorem nN (I:Inv X pins σ H s):∀(k:T) {v:V} {u:HE},Rel X.K A H k.w v->RelV v u->IsT s.heap k u
 | .int i,_,_,r,q=>by
  cases r;obtain⟨t,rfl⟩ : ∃t,_=Lp _ t:=q;exact .int
 | .str x,_,_,r,q=>by
  cases r;obtain⟨t,rfl⟩ : ∃t,_=Lq _ t:=q;exact .str
 | .tup ks,_,_,r,q=>by
  simp only[T.w]at r;cases r with
  | tup sq rl=>
   obtain⟨its,rv,⟨o,h1,h2,n,h3⟩,hz⟩:=I.tuple sq;obtain rfl:_=IS _:=q;exact .tup h1 h2 h3 (gB I ks rl (by simpa using rv))
theorem gB (I:Inv X pins σ H s):∀(ks:HC T) {vs:HC V} {us:HC HE},RelL X.K A H (T.ws ks) vs->Vals vs us->IsTs s.heap ks us
 | [],_,_,r,q=>by
  simp only[T.ws]at r;cases r; cases q; exact .nil
 | k::ks,_,_,r,q=>by
  simp only[T.ws]at r;cases r with
  | cons r1 r2=>
   cases q with
   | cons q1 q2=>exact .cons (nN I k r1 q1) (gB I ks r2 q2)
end
theorem i5 (I:Inv X pins σ H s){k:T}{b:HN}(r:Rel X.K A H k.w (.ref b))(hd:k.depth<=bU):(dg X.prog X.w).is s.heap k b:=⟨nN I k r rfl,hd⟩
theorem iy {w:W}{k:T}{v:V}{u:HE}(hk:gH w=gV k)(r:Rel X.K A H w v)(q:RelV v u):∃b,v=.ref b/\u=.ref b/\Rel X.K A H k.w (.ref b):=by
 obtain⟨h1,h2,h3⟩:=ef hk;subst h1;cases k with
 | tup ks=>
  simp only[T.w]at r;cases r with
  | tup a b=>exact⟨_,rfl,q,by simp only[T.w]; exact .tup a b⟩
 | _=>cases h2
theorem KRel.is {kvs:HC (T×W)}{xs:HC (T×HN×HE)}(I:Inv X pins σ H s)(r:KRel X.K A H kvs xs):∀x∈xs,(dg X.prog X.w).is s.heap x.1 x.2.1:=by
 unfold KRel at r
 induction r with
 | nil=>intro x hx; exact nomatch hx
 | @cons p q ps qs h t ih=>
  intro x hx;rcases IG.mp hx with e|hx
  ·subst e;obtain⟨h1,h2,h3,h4,_⟩:=h;rw[h1]at h3 h4;exact i5 I h4 h3
  ·exact ih x hx
theorem KRel.length {kvs:HC (T×W)}{xs:HC (T×HN×HE)}(r:KRel X.K A H kvs xs):kvs.length=xs.length:=L9 r
theorem KRel.val {kvs:HC (T×W)}{xs:HC (T×HN×HE)}(r:KRel X.K A H kvs xs)(k:T) :
  (∀w,cm kvs k=gV w->∃p v,atKey xs k=gV p/\Rel X.K A H w v/\RelV v p.2)/\(cm kvs k=td->atKey xs k=td):=by
 unfold KRel at r
 induction r with
 | nil=>exact⟨λw h=>(nomatch h),λ_=>rfl⟩
 | @cons p q ps qs h t ih=>
  obtain⟨h1,_,_,_,v,h5,h6⟩:=h
  by_cases e:p.1=k
  ·have e':q.1=k:=h1.symm.trans e;have a1:cm (p::ps) k=gV p.2:=by simp[cm,JZ,e]
   have a2:atKey (q::qs) k=gV q.2:=by simp[atKey,JZ,e']
   rw[a1,a2];exact⟨λw hw=>(by cases hw; exact⟨_,v,rfl,h5,h6⟩),λh=>nomatch h⟩
  ·have e':¬ q.1=k:=λz=>e (h1.trans z)
   have a1:cm (p::ps) k=cm ps k:=by simp[cm,JZ,e]
   have a2:atKey (q::qs) k=atKey qs k:=by simp[atKey,JZ,e']
   rw[a1,a2];exact ih
theorem KRel.repl {kvs:HC (T×W)}{xs:HC (T×HN×HE)}(r:KRel X.K A H kvs xs)(k:T){w:W}{v:V}{u:HE}(rw':Rel X.K A H w v)(rv:RelV v u) :
  KRel X.K A H (kvs.map λp=>if p.1=k then(p.1,w)else p) (xs.map (putAt k u)):=by
 unfold KRel at r ⊢
 induction r with
 | nil=>exact .nil
 | @cons p q ps qs h t ih=>
  rw[JF,JF];refine .cons ?_ ih;obtain⟨h1,h2,h3,h4,h5⟩:=h;unfold putAt
  by_cases e:p.1=k
  ·rw[Iv e,Iv (h1.symm.trans e)]; exact⟨h1,h2,h3,h4,v,rw',rv⟩
  ·rw[IK e,IK (λz=>e (h1.trans z))]; exact⟨h1,h2,h3,h4,h5⟩
theorem pv (k:T):∀kvs:HC (T×W),(kvs.any λp=>decide (p.1=k))=(cm kvs k).isSome
 | []=>rfl
 | p::r=>by
  rw[Ku]
  by_cases e:p.1=k
  ·have a1:cm (p::r) k=gV p.2:=by simp[cm,JZ,e]
   rw[a1,JO e]; rfl
  ·have a1:cm (p::r) k=cm r k:=by simp[cm,JZ,e]
   rw[a1,ID e,Nh]; exact pv k r
theorem KRel.put {kvs:HC (T×W)}{xs:HC (T×HN×HE)}(r:KRel X.K A H kvs xs){k:T}{b:HN}{w:W}{v:V}{u:HE}(h1:k.isTup=true)(h2:k.depth<=bU)(h3:Rel X.K A H k.w (.ref b))(rw':Rel X.K A H w v)(rv:RelV v u) :
  KRel X.K A H (eO kvs k w) (storedH xs k b u):=by
 have e:(kvs.any λp=>decide (p.1=k))=(atKey xs k).isSome:=by
  rw[pv];cases q:cm kvs k with
  | none=>rw[(r.val k).2 q]; rfl
  | some x=>obtain⟨p,_,h,_⟩:=(r.val k).1 x q; rw[h]; rfl
 unfold eO storedH;rw[e]
 by_cases q:(atKey xs k).isSome=true
 ·rw[Iv q,Iv q]; exact r.repl k rw' rv
 ·rw[IK q,IK q]; exact Paired.snoc r ⟨rfl,h1,h2,h3,v,rw',rv⟩
theorem DicAt.of {h:IX}{a:HN}{xs:HC (T×HN×HE)}(hz:xs.length<=sizeLine)(hs:(a==sysModules)=false)(d:h.DictOfH (dg X.prog X.w) a xs):DicAt X.w a xs h:=
 let ⟨o,es,ep,h1,h2,h3,h4,_,h6⟩:=d; ⟨hz,hs,h6,o,es,ep,h1,h2,h3,h4⟩
theorem DicAt.stay {wd:IM}{h h':IX}{a:HN}{xs:HC (T×HN×HE)}(d:DicAt wd a xs h)(k:∀o,h.get? a=gV o->h'.get? a=gV o):DicAt wd a xs h':=
 let ⟨h0,hs,hn,o,es,ep,h1,h2⟩:=d; ⟨h0,hs,hn,o,es,ep,k _ h1,h2⟩
theorem DicAt.ok {P:Iz}{h:IX}{wd:IM}{a:HN}{xs:HC (T×HN×HE)}(d:DicAt wd a xs h):ObjOk P wd H h a (eu wd a xs):=
 ⟨d,let ⟨_,_,_,o,_,_,h1,_⟩:=d; ⟨o,h1⟩,λ_ _ p k=>p.stay k⟩
theorem cV {a:HN}{xs:HC (T×HN×HE)}(I:Inv X pins σ H s)(e:Rd H a (eu X.w a xs)):DicAt X.w a xs s.heap:=(show ObjOk X.prog X.w H s.heap a (eu X.w a xs)from e.ok I.hok).1
theorem DicAt.dict {kvs:HC (T×W)}{a:HN}{xs:HC (T×HN×HE)}(d:DicAt X.w a xs s.heap)(I:Inv X pins σ H s)(r:KRel X.K A H kvs xs):s.heap.DictOfH (dg X.prog X.w) a xs:=
 let ⟨_,_,hn,o,es,ep,h1,h2,h3,h4⟩:=d; ⟨o,es,ep,h1,h2,h3,h4,r.is I,hn⟩
theorem fZ {i:HJ}{kvs:HC (T×W)}{a:HN}(so:StoreOk X.w X.K A H S)(e:jT S i=gV kvs)(ea:A[i]?=gV a):∃xs,Rd H a (eu X.w a xs)/\KRel X.K A H kvs xs:=by
 unfold jT at e;split at e
 ·rename_i k h;cases e;obtain⟨xs,q,r⟩:=so.obj i _ a h ea;exact⟨xs,.inl q,r⟩
 ·rename_i k h;cases e;obtain⟨o,xs,q,r⟩:=so.obj i _ a h ea;exact⟨xs,.inr ⟨o,q⟩,r⟩
 ·cases e
theorem iz {i:HJ}{kvs:HC (T×W)}(e:nM S i=gV kvs):S[i]?=gV (.dic kvs):=by
 unfold nM at e;split at e
 ·rename_i h; cases e; exact h
 ·cases e
theorem sC {i:HJ}{kvs:HC (T×W)}{a:HN}(so:StoreOk X.w X.K A H S)(e:nM S i=gV kvs)(ea:A[i]?=gV a):∃xs,H a=gV (eu X.w a xs)/\KRel X.K A H kvs xs:=
 so.obj i _ a (iz e) ea
theorem pz {B:IJ}(hu:B.units+10 < cLine):(dg X.prog X.w).room B.in1:=by
 show B.in1.units+bU < cLine;rw[bT]; unfold bU; omega
noncomputable def j6 (x y:W)(S:aa):HI (W×aa):=match x,y with
 | .ref r,.tup ks=>match jT S r,gH (.tup ks)with
  | some kvs,gV k=>(cm kvs k).map λw=>(w,S)
  | _,_=>td
 | x,y=>sx x y S
theorem GK (hu:X.A.units+10 < cLine):LIx X j6:=by
 intro value slice pins s σ H A S x y a b u v w S' I so rx ru ry rv e hs
 by_cases hxy:∃r ks,x=.ref r/\y=.tup ks
 ·obtain⟨r,ks,rfl,rfl⟩:=hxy;simp only[j6]at e;split at e
  ·rename_i kvs k hk1 hk2;rw[HG]at e;obtain⟨w',e1,e2⟩:=e;cases e2;cases rx with
   | ref ea=>
    obtain⟨xs,rd,kr⟩:=fZ so hk1 ea;have d:=cV I rd;have dd:=d.dict I kr;obtain⟨bk,rfl,rfl,rk⟩:=iy hk2 ry rv;obtain⟨p,vv,h1,h2,h3⟩:=(kr.val k).1 _ e1;obtain rfl:u=IS _:=ru;refine Lg (x:=p.2) dd.typeIs slot_dict_getitem.lookup
     (wpAny_getItem_heap (Q:=λr s'=>r=p.2/\d0 X pins σ A H S w r s') (pz hu) (i5 I rk (ef hk2).2.2) dd h1 ⟨rfl,vv,H,A,I.tok _,h3,.refl,so,h2⟩) hs
  ·cases e
 ·have:j6 x y S=sx x y S:=by
   cases x <;> cases y <;> first|rfl|exact absurd ⟨_,_,rfl,rfl⟩ hxy
  rw[this]at e;exact Hv hu value slice pins s σ H A S x y a b u v w S' I so rx ru ry rv e hs
noncomputable def iA (o i v:W)(S:aa):HI aa:=match o,i with
 | .ref r,.tup ks=>match nM S r,gH (.tup ks)with
  | some kvs,gV k=>if kvs.length < sizeLine then gV (S.set r (.dic (eO kvs k v)))else td
  | _,_=>td
 | o,i=>uf o i v S
theorem EH (hu:X.A.units+10 < cLine):LSet X iA:=by
 intro pins s σ H A S o i x ao ai ax uo ui ux S' I so ro ruo ri rui rx rux e
 by_cases hxy:∃r ks,o=.ref r/\i=.tup ks
 ·obtain⟨r,ks,rfl,rfl⟩:=hxy;simp only[iA]at e;split at e
  ·rename_i kvs k hk1 hk2;split at e
   ·rename_i hl;cases e;cases ro with
    | ref ea=>
     obtain⟨xs,hH,kr⟩:=sC so hk1 ea;have d:=cV I (.inl hH);have dd:=d.dict I kr;obtain⟨bk,rfl,rfl,rk⟩:=iy hk2 ri rui;obtain⟨q1,q2,q3⟩:=ef hk2;obtain rfl:uo=IS _:=ruo;have hz:xs.length<=sizeLine:=by rw[<- kr.length]; omega
     refine wpAny_setItem_heap (hsz:=hz) (pz hu) (i5 I rk q3) dd λh' dd' hs=>?_
     have kr':=kr.put q2 q3 rk rx rux;have hz':(storedH xs k bk ux).length<=sizeLine:=by
      rw[<- kr'.length];have:=c8 kvs k x;omega
     have dn:DicAt X.w _ (storedH xs k bk ux) h':=.of hz' d.2.1 dd';obtain⟨so',ex⟩:=so.writeO (iz hk1) rfl ea (u:=eu X.w _ (storedH xs k bk ux)) (n:=.dic (eO kvs k x)) ⟨_,bF,kr'.mono (dF (.ext hH))⟩;exact⟨_,A,nD I (by rw[hH]; exact Lw) hs (let ⟨q,_,_,hq,_⟩:=dd'; ⟨q,hq⟩) dn.ok,ex,so'⟩
   ·cases e
  ·cases e
 ·have:iA o i x S=uf o i x S:=by
   cases o <;> cases i <;> first|rfl|exact absurd ⟨_,_,rfl,rfl⟩ hxy
  rw[this]at e;exact lset hu pins s σ H A S o i x ao ai ax uo ui ux S' I so ro ruo ri rui rx rux e
noncomputable def sD (x:W)(xs:HC W)(S:aa):HI (W×aa):=match x,xs with
 | .ref r,[y,z]=>match jT S r,gH y with
  | some kvs,gV k=>gV ((cm kvs k).getD z,S)
  | _,_=>td
 | _,_=>td
theorem rq (hu:X.A.units+10 < cLine):LMeth X "dict.get" sD:=by
 intro pins s σ H A S x a u xs vs us w S' I so rx ru rl rv e;cases rx with
 | ref ea=>
  cases rl with
  | nil=>cases e
  | cons r1 t1=>
   cases t1 with
   | nil=>cases e
   | cons r2 t2=>
    cases t2 with
    | cons _ _=>cases e
    | nil=>
     dsimp only[sD]at e;split at e
     ·rename_i kvs k hk1 hk2;cases e;obtain⟨xs,rd,kr⟩:=fZ so hk1 ea;have d:=cV I rd;have dd:=d.dict I kr;cases rv with
      | cons v1 rv2=>
       cases rv2 with
       | cons v2 rv3=>
        cases rv3;obtain⟨bk,rfl,rfl,rk⟩:=iy hk2 r1 v1;obtain rfl:u=IS _:=ru;refine call_meetsIn MJ dd.typeIs PySem.F.entry_dict_get (PySem.F.args_dict_get_3 _ _ _) (meetsH_dict_get_default (dg X.prog X.w) _ bk d.2.1 _) ⟨pz hu,k,xs,i5 I rk (ef hk2).2.2,dd,?_⟩;cases q:cm kvs k with
        | none=>
         rw[(kr.val k).2 q];exact⟨_,H,A,I.tok _,v2,.refl,so,r2⟩
        | some w'=>
         obtain⟨p,vv,h1,h2,h3⟩:=(kr.val k).1 _ q;rw[h1];exact⟨vv,H,A,I.tok _,h3,.refl,so,h2⟩
     ·cases e
 | _=>cases e
noncomputable def F0 (x:W)(i:HJ)(S:aa):HI Ir:=match W.t x,g8 S i with
 | some k,gV ys=>match W.ts ys with
  | some ks=>if k.depth<=bU/\T.depths ks<=bU then gV (decide (k∈ks))else td
  | none=>td
 | _,_=>td
noncomputable def CH (x:W)(ys:HC W):HI Ir:=match W.t x,W.ts ys with
 | some k,gV ks=>if k.depth<=bU/\T.depths ks<=bU then gV (decide (k∈ks))else td
 | _,_=>td
theorem nO {h:IX}:∀ {ks:HC T} {vs:HC HE},IsTs h ks vs->∀v∈vs,∃k∈ks,IsT h k v
 | _,_,.cons a b,v,hv=>by
  rcases IG.mp hv with rfl|hv
  ·exact⟨_,.head _,a⟩
  ·obtain⟨k,hk,q⟩:=nO b v hv;exact⟨k,.tail _ hk,q⟩
noncomputable def yD (h:IX)(k:T)(v:HE):Ir:=@decide (IsT h k v) (Pa _)
theorem rs {h:IX}{k k':T}{v:HE}(x:IsT h k' v):yD h k v=decide (k'=k):=by
 unfold yD
 by_cases e:k'=k
 ·subst e; simp[x]
 ·have:¬ IsT h k v:=λy=>e (x.inj y)
  simp[e,this]
theorem nP {h:IX}{k:T}:∀ {ks:HC T} {vs:HC HE},IsTs h ks vs->vs.any (yD h k)=decide (k∈ks)
 | _,_,.nil=>by simp
 | _,_,.cons (k:=k') a b=>by
  rw[Ku,rs a,nP b]
  by_cases e:k'=k
  ·simp[e]
  ·have:¬ k=k':=λz=>e z.symm
   simp[e,this]
theorem kF:∀ {ks:HC T} {k:T},k∈ks->k.depth<=T.depths ks
 | x::ks,k,h=>by
  simp only[T.depths];rcases IG.mp h with rfl|h
  ·omega
  ·have:=kF h; omega
theorem v8 {x:W}{i:HJ}{a b:V}{u v:HE}{c:Ir}(hu:X.A.units+10 < cLine)(I:Inv X pins σ H s)(so:StoreOk X.w X.K A H S)(rx:Rel X.K A H x a)(ru:RelV a u)(ry:Rel X.K A H (.ref i) b)(rv:RelV b v)(e:F0 x i S=gV c) :
  ∃l its k ks,v=.ref l/\s.heap.IsList l its/\(∀y,y∈its->Lr X.A.in1 s y u (yD s.heap k y))/\its.any (yD s.heap k)=c/\c=decide (k∈(ks:HC T)):=by
 unfold F0 at e;split at e
 ·rename_i k ys h1 h2;split at e
  ·rename_i ks h3;split at e
   ·rename_i h4;cases e;cases ry with
    | ref ea=>
     obtain⟨vs,g1,g2⟩:=cZ so h2 ea;obtain⟨its,rv',p,_⟩:=I.list g1;obtain rfl:v=IS _:=rv;have hT:IsTs s.heap ks its:=gB I ks ((W.ts_w h3).symm ▸ g2) rv';have hk:IsT s.heap k u:=nN I k ((W.t_w h1).symm ▸ rx) ru;refine⟨_,its.toArray,k,ks,rfl,p.isList,λy hy=>?_,by rw[N9]; exact nP hT,rfl⟩
     obtain⟨k',hk',q⟩:=nO hT y (by simpa using hy)
     rw[rs q];have:=kF hk';have kl:bU=6:=rfl;exact um bU k' k _ _ _ _ (by omega) q hk (by rw[bT]; omega) (by rw[bT]; omega)
   ·cases e
  ·cases e
 ·cases e
theorem zB {x:W}{ys:HC W}{a b:V}{u v:HE}{c:Ir}(hu:X.A.units+10 < cLine)(I:Inv X pins σ H s)(rx:Rel X.K A H x a)(ru:RelV a u)(ry:Rel X.K A H (.tup ys) b)(rv:RelV b v)(e:CH x ys=gV c) :
  ∃l its k,v=.ref l/\s.heap.IsTuple l its/\(∀y,y∈its->Lr X.A.in1 s y u (yD s.heap k y))/\its.any (yD s.heap k)=c:=by
 unfold CH at e;split at e
 ·rename_i k ks h1 h3;split at e
  ·rename_i h4;cases e;cases ry with
   | @tup _ l vs g1 g2=>
    obtain⟨its,rv',p,_⟩:=I.tuple g1;obtain rfl:v=IS _:=rv;have hT:IsTs s.heap ks its:=gB I ks ((W.ts_w h3).symm ▸ g2) rv';have hk:IsT s.heap k u:=nN I k ((W.t_w h1).symm ▸ rx) ru;refine⟨_,its.toArray,k,rfl,p,λy hy=>?_,by rw[N9]; exact nP hT⟩
    obtain⟨k',hk',q⟩:=nO hT y (by simpa using hy)
    rw[rs q];have:=kF hk';have kl:bU=6:=rfl;exact um bU k' k _ _ _ _ (by omega) q hk (by rw[bT]; omega) (by rw[bT]; omega)
  ·cases e
 ·cases e
noncomputable def cp (o:COp)(x y:W)(S:aa):HI (W×aa):=match o,y with
 | .isin,.ref i=>match jT S i with
  | some kvs=>(gH x).map λk=>(.bl (cm kvs k).isSome,S)
  | none=>match x with
   | .tup xs=>(F0 (.tup xs) i S).map λb=>(.bl (b),S)
   | x=>ir .isin x (.ref i) S
 | .notin,.ref i=>match jT S i with
  | some kvs=>(gH x).map λk=>(.bl (!(cm kvs k).isSome),S)
  | none=>match x with
   | .tup xs=>(F0 (.tup xs) i S).map λb=>(.bl (!b),S)
   | x=>ir .notin x (.ref i) S
 | .isin,.tup ys=>match x with
  | .tup xs=>(CH (.tup xs) ys).map λb=>(.bl b,S)
  | x=>ir .isin x (.tup ys) S
 | o,y=>ir o x y S
theorem pA (hu:X.A.units+g9 < cLine)(o:COp):LOp X (compareOp o.py) (cp o):=by
 intro pins s σ H A S x y a b u v w S' I so rx ru ry rv e;have get:∀ {i:HJ} {kvs:HC (T×W)} {k:T},y=.ref i->jT S i=gV kvs->gH x=gV k->∃d c xs,v=.ref d/\u=.ref c/\(d==sysModules)=false/\(dg X.prog X.w).is s.heap k c/\s.heap.DictOfH (dg X.prog X.w) d xs/\(cm kvs k).isSome=(atKey xs k).isSome:=by
  intro i kvs k hy hk1 hk2;subst hy;cases ry with
  | ref ea=>
   obtain⟨xs,rd,kr⟩:=fZ so hk1 ea;have d:=cV I rd;obtain⟨bk,rfl,rfl,rk⟩:=iy hk2 rx ru;obtain rfl:v=IS _:=rv;refine⟨_,bk,xs,rfl,rfl,d.2.1,i5 I rk (ef hk2).2.2,d.dict I kr,?_⟩;cases q:cm kvs k with
   | none=>rw[(kr.val k).2 q]; rfl
   | some w'=>obtain⟨p,_,h1,_⟩:=(kr.val k).1 _ q; rw[h1]; rfl
 have old:ir o x y S=gV (w,S')->wpAny (model X.prog X.w) X.A (compareOp o.py u v) (d0 X pins σ A H S' w) X.xe s:=λh=>zy hu o pins s σ H A S x y a b u v w S' I so rx ru ry rv h
 have hu':X.A.units+10 < cLine:=by have:g9=20:=rfl; omega
 unfold cp at e;split at e
 ·split at e
  ·rename_i kvs hk1;rw[HG]at e;obtain⟨k,hk2,e2⟩:=e;cases e2;obtain⟨d,c,xs,rfl,rfl,q1,q2,q3,q4⟩:=get rfl hk1 hk2;rw[q4];exact wpAny_in_heap (pz hu') q2 q1 q3 ⟨.bl _,H,A,I.tok _,rfl,.refl,so,.bl⟩
  ·split at e
   ·rw[HG]at e;obtain⟨c,hc,e⟩:=e;cases e;obtain⟨l,its,k,ks,rfl,p1,p2,p3,_⟩:=v8 hu' I so rx ru ry rv hc;refine On (yD s.heap k) p1 p2 ?_;rw[p3];exact⟨.bl _,H,A,I,rfl,.refl,so,.bl⟩
   ·exact old e
 ·split at e
  ·rename_i kvs hk1;rw[HG]at e;obtain⟨k,hk2,e2⟩:=e;cases e2;obtain⟨d,c,xs,rfl,rfl,q1,q2,q3,q4⟩:=get rfl hk1 hk2;rw[q4];exact wpAny_notIn_heap (pz hu') q2 q1 q3 ⟨.bl _,H,A,I.tok _,rfl,.refl,so,.bl⟩
  ·split at e
   ·rw[HG]at e;obtain⟨c,hc,e⟩:=e;cases e;obtain⟨l,its,k,ks,rfl,p1,p2,p3,_⟩:=v8 hu' I so rx ru ry rv hc;refine Nr (yD s.heap k) p1 p2 ?_;rw[p3];exact⟨.bl _,H,A,I,rfl,.refl,so,.bl⟩
   ·exact old e
 ·split at e
  ·rw[HG]at e;obtain⟨c,hc,e⟩:=e;cases e;obtain⟨l,its,k,rfl,p1,p2,p3⟩:=zB hu' I rx ru ry rv hc;refine N6 (yD s.heap k) p1 p2 ?_;rw[p3];exact⟨.bl _,H,A,I,rfl,.refl,so,.bl⟩
  ·exact old e
 ·exact old e
end
noncomputable def RawD (d:HN)(es:IW JX)(ep:HJ)(h:IX):Prop:=∃o,h.get? d=gV o/\o.ExactDict/\o.data=.dict es ep
theorem RawD.at {d:HN}{es:IW JX}{ep:HJ}{h h':IX}(x:RawD d es ep h)(e:∀o,h.get? d=gV o->h'.get? d=gV o):RawD d es ep h':=let ⟨o,ho,r⟩:=x; ⟨o,e _ ho,r⟩
theorem RawD.lt {d:HN}{es:IW JX}{ep:HJ}{h:IX}(x:RawD d es ep h):d < h.objs.size:=let ⟨_,ho,_⟩:=x; Ik ho
theorem RawD.type {d:HN}{es:IW JX}{ep:HJ}{s:HH}(x:RawD d es ep s.heap):s.TypeIs (.ref d) "dict":=let ⟨o,ho,hc,_⟩:=x; ⟨o,ho,hc.1⟩
section
variable{prog:Iz}{w:IM}{A:IJ}{E:HE->HH->Prop}{s:HH}{it d:HN}{i ep:HJ}{es:IW JX}
theorem pB {Q:HE->HH->Prop}(hd:(d==sysModules)=false)(hm:RawD d es ep s.heap)
  (hQ:Q (.ref s.heap.objs.size) { s with heap:=s.heap.push { cls:=.type "dict_keyiterator",data:=.fields [.ref d,.int 0 0,.int es.size 0,.int ep 0].toArray } }):wpAny (model prog w) A (pyIter (.ref d)) Q E s:=by
 have hT:=hm.type;obtain⟨o,ho,hc,hdat⟩:=id hm;refine wpAny_pyIter_slot hT F.slot_dict_iter (Js F.slot_dict_iter hT F.entry_dict_iter ?_ (F.args_dict_iter_1 _));unfold M3.«dict.__iter__» OR;refine HD (HD (wpAny_notOrdered_dict hT ?_));show wpAny _ _ (pure (IS d)) _ _ s;refine HQ ?_;show wpAny _ _ (MK d >>= _) _ _ s;unfold MK;rw[IK (by rw[hd]; exact Ip)]
 refine HD (HQ (HD (Li ho hdat (HD (MC ho hdat ?_)))));refine HD (IY (HQ ⟨_,rfl,"dict_keyiterator",_,⟨_,Il _ rfl,rfl⟩,F.slot_dict_keyiterator_next.lookup,?_⟩))
 simpa [rawInt]using hQ
theorem pE {Q:HI HE->HH->Prop}(hit:s.heap.IsKeyIter it d i es.size ep)(hm:RawD d es ep s.heap)(hi:i < es.size)
  (hQ:∀h',h'.IsKeyIter it d (i+1) es.size ep->Ko it s.heap h'->Q (gV es[i].key) { s with heap:=h' }):wpAny (model prog w) A (pyNext (.ref it)) Q E s:=by
 obtain⟨o,ho,hc,hd⟩:=id hit;obtain⟨od,hod,hcd,hdd⟩:=id hm;unfold pyNext;refine HD (Mb (Jk (name:=J3 "__next__") hit.typeIs F.slot_dict_keyiterator_next
  (Js F.slot_dict_keyiterator_next hit.typeIs F.entry_dict_keyiterator_next ?_ (F.args_dict_keyiterator_next_1 _))))
 refine HD (HQ (HD (HD ?_)))
 first|refine HD (JV hit.typeIs (HQ ?_))|refine HD (Kw hit.typeIs (HQ ?_))
 refine HD (OG ho hd ?_);have hown:LF "dict_keyiterator" = false:=by decide
 simp only[hown,Jq,Kq];show wpAny _ _ (if (IS d==Je)=true then _ else _) _ _ s
 rw[IK (show ¬ ((IS d==Je)=true)from Ip)]
 refine HD (HQ (HD (Li hod hdd ?_)));rw[IK (by simp)]
 refine HD (HQ (HD (MC hod hdd ?_)));rw[IK (by simp)]
 refine HQ ?_;simp only[show ¬ ((i:HY) < 0)from by omega,Kq,HU,LZ hi]
 refine HD ?_
 first|refine HD (JV hit.typeIs (HQ ?_))|refine HD (Kw hit.typeIs (HQ ?_))
 refine HD (ML hit.typeIs ?_);show wpAny _ _ (setField (.ref it) 1 (rawInt ((i:HY)+1)) >>= _) _ _ s;refine HD (LS ho hd (by simp) ?_)
 have hit':(s.heap.update it (O1 (·.setIfInBounds 1 (rawInt ((i:HY)+1))))).IsKeyIter it d (i+1) es.size ep:=
  ⟨_,Kf _ ho (MM (La hd _)),(NQ ..).trans hc,by rw[La hd]; simp[rawInt]⟩
 refine HD (Jx ?_);refine HD (ML (s:={ s with heap:=s.heap.update it (O1 (·.setIfInBounds 1 (rawInt ((i:HY)+1)))) }) hit'.typeIs ?_)
 show wpAny _ _ (pure es[i].key) _ _ _;exact HQ (HQ ⟨_,rfl,HQ (hQ _ hit' (KZ ..))⟩)
theorem sE {Q:HI HE->HH->Prop}(hh:A.handled=td)(hit:s.heap.IsKeyIter it d i es.size ep)(hm:RawD d es ep s.heap)(hge:es.size<=i)
  (hQ:∀h',MR it s.heap h'->Q td { s with heap:=h' }):wpAny (model prog w) A (pyNext (.ref it)) Q E s:=by
 obtain⟨o,ho,hc,hd⟩:=id hit;obtain⟨od,hod,hcd,hdd⟩:=id hm;unfold pyNext;refine HD (Mb (Jk (name:=J3 "__next__") hit.typeIs F.slot_dict_keyiterator_next
  (Js F.slot_dict_keyiterator_next hit.typeIs F.entry_dict_keyiterator_next ?_ (F.args_dict_keyiterator_next_1 _))))
 refine HD (HQ (HD (HD ?_)))
 first|refine HD (JV hit.typeIs (HQ ?_))|refine HD (Kw hit.typeIs (HQ ?_))
 refine HD (OG ho hd ?_);have hown:LF "dict_keyiterator" = false:=by decide
 simp only[hown,Jq,Kq];show wpAny _ _ (if (IS d==Je)=true then _ else _) _ _ s
 rw[IK (show ¬ ((IS d==Je)=true)from Ip)]
 refine HD (HQ (HD (Li hod hdd ?_)));rw[IK (by simp)]
 refine HD (HQ (HD (MC hod hdd ?_)));rw[IK (by simp)]
 refine HQ ?_;simp only[show ¬ ((i:HY) < 0)from by omega,Kq,HU,Array.getElem?_eq_none hge]
 refine HD ?_
 first|refine HD (JV hit.typeIs (HQ ?_))|refine HD (Kw hit.typeIs (HQ ?_))
 show wpAny _ _ (setField (.ref it) 0 .none >>= _) _ _ s;refine HD (LS ho hd (by simp) ?_)
 show wpAny _ _ (newExc (.type "StopIteration") [] >>= _) _ _ _;refine HD ?_;simp only[newExc,newTuple];refine HD (IY ?_ (by size_fits))
 refine HD (m:=firstArgMember _ _) (MS (a:=Je) (by first|rfl|(simp only[firstArgMember]; rfl)) ?_)
 refine IY ?_ (by size_fits)
 simp only[raiseNew];refine HD (O2 ?_);rw[show A.in1.handled=td from hh]
 refine HD (HQ (Pr ?_));refine HD (Mh (T:="StopIteration") (b:=true) ⟨_,Il _ rfl,rfl⟩ OH ?_);exact HQ (hQ _ (((KZ ..).extBut.push _).push _))
theorem uq (hh:A.handled=td)(I d:HN)(hne:d≠I)(es:IW JX)(ep:HJ) :
  P5 prog w A I [I,d] [I] es.size (λi v=>∃e,es[i]?=gV e/\e.key=v) (λi h=>h.IsKeyIter I d i es.size ep/\RawD d es ep h) where
 sub:=λb hb=>by simp at hb; simp[hb]
 frame:=λ_ _ _ st hk=>⟨st.1.at λo e=>hk I (by simp) o e,st.2.at λo e=>hk d (by simp) o e⟩
 item:=λi s Q E hi st hQ=>
  pE st.1 st.2 hi λh' hit' hs'=>hQ _ h' s.toks ⟨es[i],by simp[hi],rfl⟩ ⟨hit',st.2.at λo e=>(hs'.2 d hne).trans e⟩ λb o hb e=>hs'.extBut b o (λh=>hb (by simp[h])) e
 done:=λs Q E st hQ=>sE hh st.1 st.2 (HW _) λh' he'=>hQ h' s.toks λb o hb e=>he' b o (λh=>hb (by simp[h])) e
 self:=λ_ _ _ _ st hQ=>MT st.1 hQ
theorem sF (lo:(d==sysModules)=false):MU prog w "dict" d d es.size (λi v=>∃e,es[i]?=gV e/\e.key=v) (RawD d es ep) where
 type:=λ_ hm=>hm.type
 there:=λ_ hm=>⟨hm.lt,hm.lt⟩
 keep:=λ_ _ hm hk=>hm.at λo e=>hk d (.inl rfl) o e
 notList:=by decide
 notTuple:=by decide
 hint:=λ_ _ _ _ hm hq=>PySem.W.kdl_hint_dict hm.type hq
 iter:=λ_ _ hh hm=>⟨_,_,(λ_ _ hq=>pB lo hm hq),uq hh _ d (IA hm.lt) es ep,⟨⟨_,Il _ rfl,rfl,rfl⟩,hm.at λo e=>HK _ e⟩⟩
theorem wa {T:Jp}{r d S:HN}{n:HJ}{P:HJ->HE->Prop}{OK:IX->Prop}{R:N3->HH->Prop}(K:MU prog w T r d n P OK)(hh:A.handled=td)(hok:OK s.heap)(hn:n<=sizeLine)(hSr:S≠r)(hSd:S≠d)
  (hS:s.heap.get? S=gV { cls:=.type "list",data:=.seq #[] 0 })
  (hR:∀h' tk acc' c',(∀b o,b≠S->s.heap.get? b=gV o->h'.get? b=gV o)->h'.get? S=gV { cls:=.type "list",dict:=td,data:=.seq acc' c',slots:=#[] }->Mt P acc' n->R (.ok (.ret (.ref S))) { s with heap:=h',toks:=tk }) :
  codeAny (model prog w) A (.builtin "list.__iadd__" ⟨[.ref S,.ref r],[]⟩) R s:=by
 refine JH F.entry_list_iadd ?_;rw[Jw F.plain_list_iadd _];show wpAny _ A.in1 (J4 (.ref S) (.ref r) (.ref S)) _ _ _;exact PySem.W.kdl_extend K hh hok S hSr hSd _ 0 hS hR hn
theorem pG {T:Jp}{r d:HN}{n:HJ}{P:HJ->HE->Prop}{OK:IX->Prop}{Q:HC HE->HH->Prop}(K:MU prog w T r d n P OK)(hh:A.handled=td)(hok:OK s.heap)(hn:n<=sizeLine)
  (hQ:∀h' tk acc,(∀b o,s.heap.get? b=gV o->h'.get? b=gV o)->s.heap.objs.size<=h'.objs.size->Mt P acc n->Q acc.toList { s with heap:=h',toks:=tk }):wpAny (model prog w) A (collect (.ref r)) Q E s:=by
 unfold collect;refine HD (MV (JH F.entry_proto_collect ?_));rw[Jw F.plain_proto_collect _];show wpAny _ A.in1 (newList [] >>= λl=>again (.builtin "list.__iadd__" ⟨[l,.ref r],[]⟩)) _ _ s
 refine HD (IY ?_);have hlt:=K.there _ hok;refine HQ ⟨KG F.plain_list_iadd _,wa (s:={ s with heap:=s.heap.push { cls:=.type "list",data:=.seq ([]:HC HE).toArray } }) K hh (K.keep _ _ hok λb _ o e=>HK _ e) hn (KC hlt.1) (KC hlt.2) (Il _ rfl) λh' tk acc' c' hk hS' hacc=>?_⟩
 show wpAny (model prog w) A (do
   let o <- load s.heap.objs.size
   match o.data with
   | .seq xs _=>pure xs.toList
   | _=>unsupported "internal:collect") Q E { s with heap:=h',toks:=tk }
 refine HD (No hS' ?_);exact HQ (hQ h' tk acc' (λb o e=>hk b o (IA (Ik e)) (HK _ e)) (Le (Ik hS')) hacc)
end
mutual
noncomputable def zC:T->T->HI Ir
 | .int a,.int b=>gV (decide (a < b))
 | .str a,.str b=>gV (decide (a.cps.toList < b.cps.toList))
 | .tup xs,.tup ys=>pH xs ys
 | _,_=>td
noncomputable def pH:HC T->HC T->HI Ir
 | [],[]=>gV false
 | [],_::_=>gV true
 | _::_,[]=>gV false
 | x::xs,y::ys=>if x=y then pH xs ys else zC x y
end
mutual
theorem IsT.kept {h h':IX}(hk:∀b o,o.cls=.type "tuple"->h.get? b=gV o->h'.get? b=gV o):∀ {x:T} {v:HE},IsT h x v->IsT h' x v
 | _,_,.int=>.int
 | _,_,.str=>.str
 | _,_,.tup a1 c1 d1 t1=>.tup (hk _ _ c1 a1) c1 d1 (IsTs.kept hk t1)
theorem IsTs.kept {h h':IX}(hk:∀b o,o.cls=.type "tuple"->h.get? b=gV o->h'.get? b=gV o):∀ {x:HC T} {v:HC HE},IsTs h x v->IsTs h' x v
 | _,_,.nil=>.nil
 | _,_,.cons a b=>.cons (IsT.kept hk a) (IsTs.kept hk b)
end
theorem EI {B:IJ}{s:HH}{d:HJ}(hu:B.units+d < cLine)(hl:∀(x y:T) (u v:HE) (k:Ir),x.depth<=d->y.depth<=d->IsT s.heap x u->IsT s.heap y v->zC x y=gV k->LtAt B s u v k) :
  ∀(xs ys:HC T) (us vs:HC HE) (k:Ir),T.depths xs<=d->T.depths ys<=d->IsTs s.heap xs us->IsTs s.heap ys vs->pH xs ys=gV k->LexR B s us vs k
 | [],[],_,_,k,_,_,h1,h2,e=>by cases h1; cases h2; cases e; exact .nn
 | [],y::ys,_,_,k,_,_,h1,h2,e=>by cases h1; cases h2; cases e; exact .nc
 | x::xs,[],_,_,k,_,_,h1,h2,e=>by cases h1; cases h2; cases e; exact .cn
 | x::xs,y::ys,_,_,k,d1,d2,h1,h2,e=>by
  simp only[T.depths]at d1 d2;cases h1 with
  | cons p1 q1=>
   cases h2 with
   | cons p2 q2=>
    have he:=um d x y _ _ B s (by omega) p1 p2 hu (by omega)
    simp only[pH]at e
    by_cases hxy:x=y
    ·rw[Iv hxy]at e;rw[JO hxy]at he;exact .eq he (EI hu hl xs ys _ _ k (by omega) (by omega) q1 q2 e)
    ·rw[IK hxy]at e;rw[ID hxy]at he;exact .ne he (hl x y _ _ k (by omega) (by omega) p1 p2 e)
theorem EJ:∀(d:HJ) (x y:T) (u v:HE) (B:IJ) (s:HH) (k:Ir),x.depth<=d->y.depth<=d->IsT s.heap x u->IsT s.heap y v->B.units+d < cLine->zC x y=gV k->LtAt B s u v k:=by
 intro d
 induction d with
 | zero=>
  intro x y u v B s k d1 d2 h1 h2 hu e;cases h1 with
  | int=>cases h2 with
   | int=>cases e; exact λprog w E Q h=>(M7 h:wpAny (model prog w) B (compareOp .Lt _ _) Q E s)
   | _=>cases e
  | str=>cases h2 with
   | str=>cases e; exact λprog w E Q h=>(lt_str h:wpAny (model prog w) B (compareOp .Lt _ _) Q E s)
   | _=>cases e
  | tup _ _ _ _=>simp[T.depth]at d1
 | succ d ih=>
  intro x y u v B s k d1 d2 h1 h2 hu e;cases h1 with
  | int=>cases h2 with
   | int=>cases e; exact λprog w E Q h=>(M7 h:wpAny (model prog w) B (compareOp .Lt _ _) Q E s)
   | _=>cases e
  | str=>cases h2 with
   | str=>cases e; exact λprog w E Q h=>(lt_str h:wpAny (model prog w) B (compareOp .Lt _ _) Q E s)
   | _=>cases e
  | tup a1 c1 e1 t1=>cases h2 with
   | tup a2 c2 e2 t2=>
    simp only[T.depth]at d1 d2;have hu1:B.in1.units+d < cLine:=by rw[bT]; omega
    exact LtAt.tuples ⟨_,a1,c1,_,e1⟩ ⟨_,a2,c2,_,e2⟩ (by omega) (EI hu1 (λx y u v k q1 q2 q3 q4 q5=>ih x y u v B.in1 s k q1 q2 q3 q4 hu1 q5) _ _ _ _ k (by omega) (by omega) t1 t2 e)
   | _=>cases e
section
variable{prog:Iz}{w:IM}{A:IJ}{R:N3->HH->Prop}{I S:HN}{fp wr:HC HN}{n:HJ}{P:HJ->HE->Prop}{St:HJ->IX->Prop}{Ok:IX->Prop}{bt:HJ->HJ->Ir}
noncomputable def wb (prog:Iz)(w:IM)(A:IJ)(P:HJ->HE->Prop)(Ok:IX->Prop)(bt:HJ->HJ->Ir):Prop:=
 ∀i j vi vj (s:HH) (Q:HE->HH->Prop) (E:HE->HH->Prop),Ok s.heap->P i vi->P j vj->Q (.bool (bt i j)) s->wpAny (model prog w) A (richCompare .Lt vi vj) Q E s
theorem wc (W:P5 prog w A.in1 I fp wr n P St)(hcmp:wb prog w A.in1 P Ok bt)(hSf:S∉fp)(hok:∀h h',Ok h->(∀b o,b∉wr->b≠S->h.get? b=gV o->h'.get? b=gV o)->Ok h') :
  ∀(k j:HJ) (s:HH) (vb:HE) (c:HJ),n - (j+1)=k->j < n->St (j+1) s.heap->P (argBest bt j) vb->Ok s.heap->s.heap.get? S=gV { cls:=.type "list",dict:=td,data:=.seq [vb,vb].toArray c,slots:=#[] }->
  (∀v h' tk,P (argBest bt (n - 1)) v->(∀b o,b∉wr->b≠S->s.heap.get? b=gV o->h'.get? b=gV o)->R (.ok (.ret v)) { s with heap:=h',toks:=tk })->
  codeAny (model prog w) A (.builtin "min.loop" ⟨[.ref I,.none,.ref S],[]⟩) R s:=by
 have hSw:S∉wr:=λh=>hSf (W.sub _ h)
 have hname:(toString "min" ++ toString ".loop" : Jp) = "min.loop":=by decide
 intro k
 induction k with
 | zero=>
  intro j s vb c hk hj hst hPb hO hS hR;have hin:j+1=n:=by omega
  refine JH F.entry_min_loop ?_;rw[Jw F.plain_min_loop _];show wpAny _ A.in1 (seqItems? (.ref S) >>= _) _ _ s;refine HD (KS hS rfl ?_);show wpAny _ A.in1 (tryCatch (pyNext (.ref I)) _ >>= _) _ _ s;refine HD (LU (W.done s _ _ (hin ▸ hst) λh' tk hk'=>?_))
  have hS':=hk' S _ hSw hS;show wpAny _ A.in1 (updateSeq S (λ_=>#[]) >>= _) _ _ _
  refine HD (MD hS' rfl (HD (Lz (HQ ?_))));have e:j=n - 1:=by omega
  exact hR vb _ tk (e ▸ hPb) λb o hbw hbS e=>(Jf _ _ (Ne.symm hbS)).trans (hk' b o hbw e)
 | succ k ih=>
  intro j s vb c hk hj hst hPb hO hS hR;have hlt:j+1 < n:=by omega
  refine JH F.entry_min_loop ?_;rw[Jw F.plain_min_loop _];show wpAny _ A.in1 (seqItems? (.ref S) >>= _) _ _ s;refine HD (KS hS rfl ?_);show wpAny _ A.in1 (tryCatch (pyNext (.ref I)) _ >>= _) _ _ s;refine HD (LU (W.item (j+1) s _ _ hlt hst λv h' tk hP hst' hk'=>?_))
  have hS':=hk' S _ hSw hS;have hO':Ok h':=hok _ _ hO λb o hb _ e=>hk' b o hb e
  show wpAny _ A.in1 (tryCatch (holding [v,v] (richCompare .Lt v vb >>= _)) _ >>= _) _ _ _;refine HD (LU (Jx (HD (hcmp (j+1) (argBest bt j) v vb _ _ _ hO' hP hPb ?_))));refine HD (Jx (JW ?_));refine HD (Lz (HQ ?_));cases hb:bt (j+1) (argBest bt j)with
  | true=>
   simp only[KJ];refine HD (MD hS' rfl (HD (Lz ?_)));rw[hname];refine HQ ⟨KG F.plain_min_loop _,ih (j+1) _ v _ (by omega) hlt (W.frame _ _ _ hst' λb hbf o e=>?_) (by simp only[argBest,hb,KJ]; exact hP) (hok _ _ hO' λb o _ hbS e=>(Jf _ _ (Ne.symm hbS)).trans e) (Kf _ hS' rfl)
    λv' h'' tk'' hP' hk''=>?_⟩
   ·exact(Jf _ _ (λh:S=b=>hSf (by rw[h]; exact hbf))).trans e
   ·exact hR v' h'' tk'' hP' λb o hbw hbS e=>hk'' b o hbw hbS ((Jf _ _ (Ne.symm hbS)).trans (hk' b o hbw e))
  | false=>
   simp only[Jq,Kq];refine HD (Lz ?_);rw[hname];refine HQ ⟨KG F.plain_min_loop _,ih (j+1) _ vb c (by omega) hlt hst' (by simp only[argBest,hb,Jq,Kq]; exact hPb) hO' hS' λv' h'' tk'' hP' hk''=>?_⟩
   exact hR v' h'' tk'' hP' λb o hbw hbS e=>hk'' b o hbw hbS (hk' b o hbw e)
theorem ur (W:P5 prog w A.in1 I fp wr n P St)(hcmp:wb prog w A.in1 P Ok bt)(hSf:S∉fp)(hok:∀h h',Ok h->(∀b o,b∉wr->b≠S->h.get? b=gV o->h'.get? b=gV o)->Ok h')(hn:0 < n){s:HH}{c:HJ}(hst:St 0 s.heap)(hO:Ok s.heap)
  (hS:s.heap.get? S=gV { cls:=.type "list",dict:=td,data:=.seq #[] c,slots:=#[] })
  (hR:∀v h' tk,P (argBest bt (n - 1)) v->(∀b o,b∉wr->b≠S->s.heap.get? b=gV o->h'.get? b=gV o)->R (.ok (.ret v)) { s with heap:=h',toks:=tk }) :
  codeAny (model prog w) A (.builtin "min.loop" ⟨[.ref I,.none,.ref S],[]⟩) R s:=by
 have hSw:S∉wr:=λh=>hSf (W.sub _ h)
 have hname:(toString "min" ++ toString ".loop" : Jp) = "min.loop":=by decide
 refine JH F.entry_min_loop ?_;rw[Jw F.plain_min_loop _];show wpAny _ A.in1 (seqItems? (.ref S) >>= _) _ _ s;refine HD (KS hS rfl ?_);show wpAny _ A.in1 (tryCatch (pyNext (.ref I)) _ >>= _) _ _ s;refine HD (LU (W.item 0 s _ _ hn hst λv h' tk hP hst' hk'=>?_))
 have hS':=hk' S _ hSw hS;show wpAny _ A.in1 (updateSeq S (λ_=>[v,v].toArray) >>= _) _ _ _
 refine HD (MD hS' rfl ?_);rw[hname];have hO':Ok h':=hok _ _ hO λb o hb _ e=>hk' b o hb e
 refine HQ ⟨KG F.plain_min_loop _,wc W hcmp hSf hok _ 0 _ v _ rfl hn (W.frame _ _ _ hst' λb hbf o e=>?_) hP (hok _ _ hO' λb o _ hbS e=>(Jf _ _ (Ne.symm hbS)).trans e) (Kf _ hS' rfl) λv' h'' tk'' hP' hk''=>?_⟩
 ·exact(Jf _ _ (λh:S=b=>hSf (by rw[h]; exact hbf))).trans e
 ·exact hR v' h'' tk'' hP' λb o hbw hbS e=>hk'' b o hbw hbS ((Jf _ _ (Ne.symm hbS)).trans (hk' b o hbw e))
end
section
variable{prog:Iz}{w:IM}{A:IJ}{E:HE->HH->Prop}{s:HH}
theorem we {l:HN}{items:IW HE}{bt:HJ->HJ->Ir}{Q:HE->HH->Prop}(hh:A.handled=td)(hl:s.heap.IsList l items)(hn:0 < items.size)
  (hcmp:wb prog w A.in1 (λi v=>items[i]?=gV v) (λh=>∀b o,s.heap.get? b=gV o->h.get? b=gV o) bt)
  (hQ:∀v h' tk,items[argBest bt (items.size - 1)]?=gV v->(∀b o,s.heap.get? b=gV o->h'.get? b=gV o)->Q v { s with heap:=h',toks:=tk }) :
  wpAny (model prog w) A (call (.builtin "min") [.ref l]) Q E s:=by
 have hname:(toString "min" ++ toString ".loop" : Jp) = "min.loop":=by decide
 refine call_function_tree F.kind_min F.plain_min F.entry_min (F.args_min1 _) ?_;show wpAny _ A.in1 (LL "min" ["key","default"] 0 ⟨[],[]⟩ >>= _) _ _ s;refine HD (MS (show LL "min" ["key","default"] 0 ⟨[],[]⟩=pure [td,td]from rfl) ?_)
 refine HD (HQ ?_);refine HD (L6 hl ?_);refine HD (IY ?_);rw[hname];have hlt:l < s.heap.objs.size:=let ⟨_,ho,_⟩:=hl; Ik ho
 have hne:l≠s.heap.objs.size:=IA hlt;have W:=PK (prog:=prog) (w:=w) (A:=A.in1) hh s.heap.objs.size l hne items;have hsz:∀o:JC,(s.heap.push o).objs.size=s.heap.objs.size+1:=λo=>by simp[Heap.push]
 refine HQ ⟨KG F.plain_min_loop _,ur (A:=A) (Ok:=λh=>∀b o,s.heap.get? b=gV o->h.get? b=gV o) W hcmp (λhm=>?_) (λh h' ho hk b o e=>?_) hn ⟨?_,?_⟩ (λb o e=>HK _ (HK _ e)) (Il _ rfl) λv h' tk hv hk=>?_⟩
 ·rcases IG.mp hm with e|hm
  ·exact absurd (show(s.heap.push _).objs.size=s.heap.objs.size from e) (by rw[hsz]; exact Nat.succ_ne_self _)
  ·have e:(s.heap.push _).objs.size=l:=Im.mp hm;rw[hsz]at e;exact absurd hlt (by rw[<- e]; exact OI.mpr (KR _))
 ·have hb:=Ik e;refine hk b o (λz=>?_) (λz=>?_) (ho b o e)
  ·rw[Im.mp z]at hb; exact Jr _ hb
  ·have z':b=(s.heap.push _).objs.size:=z;rw[hsz]at z';rw[z']at hb;exact absurd hb (OI.mpr (KR _))
 ·exact⟨_,HK _ (Il _ rfl),rfl,rfl⟩
 ·obtain⟨o,ho,hc⟩:=hl;exact⟨o,HK _ (HK _ ho),hc⟩
 ·refine hQ v h' tk hv λb o e=>hk b o (λz=>?_) (λz=>?_) (HK _ (HK _ e))
  ·have hb:=Ik e;rw[Im.mp z]at hb; exact Jr _ hb
  ·have hb:=Ik e;have z':b=(s.heap.push _).objs.size:=z;rw[hsz]at z';rw[z']at hb;exact absurd hb (OI.mpr (KR _))
end
open PySem.W (KasT kas_sort kas_ask kas_cmp kas_item kas_asc kas_desc kas_tail3 kas_descPart kas_count kas_place kas_bin kas_rev)
noncomputable def nQ {α:Type}(lt:HJ->HJ->Ir):KasT α->α
 | .ret a=>a
 | .ask i j k=>nQ lt (k (lt i j))
noncomputable def OkK {α:Type}(n:HJ)(P:α->Prop):KasT α->Prop
 | .ret a=>P a
 | .ask i j k=>i < n/\j < n/\∀b,OkK n P (k b)
theorem pI {α:Type}{n:HJ}{P:α->Prop}{lt:HJ->HJ->Ir}:∀(t:KasT α),OkK n P t->P (nQ lt t)
 | .ret _,h=>h
 | .ask i j k,h=>pI (k (lt i j)) (h.2.2 _)
theorem nR {α:Type}{n:HJ}{P:α->Prop}{lt:HJ->HJ->Ir}{t:KasT α}(h:OkK n P t):P (nQ lt t):=pI t h
theorem OkK.bind {α β:Type}{n:HJ}{P:α->Prop}{P':β->Prop}{f:α->KasT β}:∀ {t:KasT α},OkK n P t->(∀a,P a->OkK n P' (f a))->OkK n P' (t.bind f)
 | .ret a,h,hf=>hf a h
 | .ask _ _ _,h,hf=>⟨h.1,h.2.1,λb=>OkK.bind (h.2.2 b) hf⟩
theorem mH {α:Type}{n:HJ}{P:α->Prop}{lt:HJ->HJ->Ir}{cmp:HJ->HJ->(Ir->HH->Prop)->HH->Prop}{Q:α->HH->Prop}{s:HH}(hc:∀i j,i < n->j < n->∀C:Ir->HH->Prop,C (lt i j) s->cmp i j C s) :
  ∀ {t:KasT α},OkK n P t->Q (nQ lt t) s->t.kasWp cmp Q s
 | .ret _,_,h=>h
 | .ask i j k,h,hq=>hc i j h.1 h.2.1 _ (mH hc (h.2.2 _) hq)
noncomputable def Pm (n:HJ)(p:IW HJ):Prop:=p.toList.Perm (Ic n)
theorem Pm.size {n:HJ}{p:IW HJ}(h:Pm n p):p.size=n:=by rw[<- II,h.length_eq,IU]
theorem Pm.lt {n:HJ}{p:IW HJ}(h:Pm n p)(hn:0 < n)(i:HJ):p.getD i 0 < n:=by
 by_cases hi:i < p.size
 ·have e:p.getD i 0=p[i]:=by simp[PL,hi]
  rw[e];have:p[i]∈p.toList:=by simp
  exact IN.mp (h.mem_iff.mp this)
 ·have e:p.getD i 0=0:=by simp[PL,hi]
  rw[e]; exact hn
theorem Pm.rev {n:HJ}{p:IW HJ}(h:Pm n p)(i j:HJ):Pm n (kas_rev p i j):=(LV.mp (mirror_perm p i j _)).trans h
theorem Pm.bub {n:HJ}{p:IW HJ}(h:Pm n p)(i j:HJ):Pm n (bubble p i j):=(LV.mp (bubble_perm p i j)).trans h
section
variable{n:HJ}(hn:0 < n)
include hn
theorem rz {p:IW HJ}(h:Pm n p):∀(f m:HJ),OkK n (λ_=>Nz) (kas_asc p f m)
 | 0,_=>trivial
 | f+1,m=>⟨h.lt hn _,h.lt hn _,λb=>by
  show OkK n _ (if b=true then _ else _)
  split
  ·trivial
  ·exact rz h f (m+1)⟩
theorem j7:∀(f:HJ) (p:IW HJ) (m q:HJ),Pm n p->OkK n (λr=>Pm n r.1) (kas_desc f p m q)
 | 0,p,m,q,h=>h
 | f+1,p,m,q,h=>⟨h.lt hn _,h.lt hn _,λb=>by
  show OkK n _ (if b=true then _ else _)
  split
  ·split
   ·exact j7 f _ _ _ (h.rev _ _)
   ·exact j7 f _ _ _ h
  ·refine⟨h.lt hn _,h.lt hn _,λc=>?_⟩
   show OkK n _ (if c=true then _ else _)
   split
   ·exact h
   ·exact j7 f _ _ _ h⟩
theorem sG {p:IW HJ}(h:Pm n p)(m k:HJ):OkK n (λr=>Pm n r.2) (kas_tail3 m k p):=by
 unfold kas_tail3;exact OkK.bind (rz hn (h.rev 0 m) _ _) λa _=>h.rev 0 m
theorem jK {p:IW HJ}(h:Pm n p)(m k:HJ):OkK n (λr=>Pm n r.2) (kas_descPart m k p):=by
 unfold kas_descPart;refine OkK.bind (j7 hn _ _ _ _ h) λr hr=>?_
 split
 ·exact sG hn (hr.rev _ _) _ _
 ·exact sG hn hr _ _
theorem wf {p:IW HJ}(h:Pm n p)(k:HJ):OkK n (λr=>Pm n r.2) (kas_count k p):=by
 unfold kas_count;refine OkK.bind (rz hn h _ _) λm _=>?_
 split
 ·exact h
 ·split
  ·refine⟨h.lt hn _,h.lt hn _,λc=>?_⟩
   show OkK n _ (if c=true then _ else _)
   split
   ·exact h
   ·exact jK hn (h.rev _ _) _ _
  ·exact jK hn h _ _
theorem kG {p:IW HJ}(h:Pm n p)(k:HJ):∀(f l r:HJ),OkK n (λ_=>Nz) (kas_place p k f l r)
 | 0,_,_=>trivial
 | f+1,l,r=>by
  unfold kas_place;split
  ·trivial
  ·refine⟨h.lt hn _,h.lt hn _,λc=>?_⟩
   show OkK n _ (if c=true then _ else _)
   split
   ·exact kG h k f _ _
   ·exact kG h k f _ _
theorem wg:∀(f:HJ) (p:IW HJ) (k:HJ),Pm n p->OkK n (Pm n) (kas_bin f p k)
 | 0,p,k,h=>h
 | f+1,p,k,h=>by
  unfold kas_bin;exact OkK.bind (kG hn h k _ _ _) λl _=>wg f _ _ (h.bub _ _)
theorem j8:OkK n (Pm n) (kas_sort n):=by
 unfold kas_sort;refine OkK.bind (wf hn (by unfold Pm; simp) _) λr hr=>?_
 split
 ·exact wg hn _ _ _ hr
 ·exact hr
end
section
variable{prog:Iz}{w:IM}{A:IJ}{E:HE->HH->Prop}{s:HH}{vs:HC HE}
noncomputable def eP (lt:HJ->HJ->Ir){β:Type}(d:β)(vs:HC β):HC β:=if vs.length < 2 then vs else(nQ lt (kas_sort vs.length)).toList.map λi=>vs.getD i d
theorem pJ {lt:HJ->HJ->Ir}{β:Type}{d:β}{vs:HC β}:(eP lt d vs).length=vs.length:=by
 unfold eP;split
 ·rfl
 ·rw[HF,II,(nR (lt:=lt) (j8 (n:=vs.length) (by omega))).size]
theorem ut {a:HN}{n:HJ}{lt:HJ->HJ->Ir}{κ:Mj}{P:PySem.Fin->HH->Prop}(ho:s.heap.get? a=gV (seqObj "list" vs.toArray n))(h64:vs.length < 64)
  (hkind:2<=vs.length->∀h',(∀b o,b≠a->s.heap.get? b=gV o->h'.get? b=gV o)->∀Q:Mj->HH->Prop,Q κ { s with heap:=h' }->wpAny (model prog w) A (keyKind' vs.toArray) Q (λ_ _=>Jn) { s with heap:=h' })
  (hlt:2<=vs.length->∀h',(∀b o,b≠a->s.heap.get? b=gV o->h'.get? b=gV o)->∀i j,i < vs.length->j < vs.length->∀Q:Ir->HH->Prop,Q (lt i j) { s with heap:=h' }->
   wpAny (model prog w) A (keyLt' κ (vs.getD i Je) (vs.getD j Je)) Q (λ_ _=>Jn) { s with heap:=h' })
  (h:∀h' c,(∀b o,b≠a->s.heap.get? b=gV o->h'.get? b=gV o)->h'.get? a=gV (seqObj "list" (eP lt Je vs).toArray c)->P (.done (.ret .none)) { s with heap:=h' }) :
  wpAny (model prog w) A (M3.«list.sort» ⟨[.ref a],[]⟩) P E s:=by
 have ha:a < s.heap.objs.size:=Ik ho;obtain⟨e1,ho1⟩ : ∃e1,(s.heap.update a (Jv λ_=>(#[]:IW HE))).get? a=gV (seqObj "list" #[] e1):=⟨_,ME ho λ_=>#[]⟩
 have keep:∀b o,b≠a->s.heap.get? b=gV o->(((s.heap.update a (Jv λ_=>(#[]:IW HE))).push (seqObj "tuple" vs.toArray 0)).push (seqObj "list" #[] 0)).get? b=gV o:=λb o hb e=>
  HK _ (HK _ ((K1 _ _ _ _ hb).trans e))
 have ho3:(((s.heap.update a (Jv λ_=>(#[]:IW HE))).push (seqObj "tuple" vs.toArray 0)).push (seqObj "list" #[] 0)).get? a=gV (seqObj "list" #[] e1):=HK _ (HK _ ho1)
 have fin:∀(out:HC HE),out.length=vs.length->out=eP lt Je vs->P (.done (.ret .none)) { s with heap:=(((s.heap.update a (Jv λ_=>(#[]:IW HE))).push (seqObj "tuple" vs.toArray 0)).push (seqObj "list" #[] 0)).update a (Jv λ_=>out.toArray) }:=λout hl e=>by
  obtain⟨c2,hc2⟩ : ∃c2,((((s.heap.update a (Jv λ_=>(#[]:IW HE))).push (seqObj "tuple" vs.toArray 0)).push (seqObj "list" #[] 0)).update a (Jv λ_=>out.toArray)).get? a=gV (seqObj "list" out.toArray c2):=⟨_,ME ho3 λ_=>out.toArray⟩
  exact h _ c2 (λb o hb q=>(K1 _ _ _ _ hb).trans (keep b o hb q)) (e ▸ hc2)
 rw[list_sort_plain];refine HD (NR ho rfl ?_);refine HD (Mc ho rfl ?_ (by rw[HZ,Ja]; omega) (J6 _))
 refine HD (Oj ho1 rfl ?_);refine HD (OJ ?_ (by show vs.length<=_; rw[Ja]; omega))
 refine HD (Ni ?_ (J6 _));refine Jx ?_;show wpAny (model prog w) A _ P E { s with heap:=((s.heap.update a (Jv λ_=>(#[]:IW HE))).push (seqObj "tuple" vs.toArray 0)).push (seqObj "list" #[] 0) }
 dsimp only
 by_cases h2:vs.length < 2
 ·rw[Iv (by rw[HZ]; exact h2),Iv (by rw[HZ]; exact h2)]
  refine HD (HQ (HD ?_));rw[StateT.run_pure];refine HQ ?_;dsimp only;refine HD (Oj ho3 rfl ?_);have hs:((arrOf (SortSt.mk' general' (vs.toArray.zip vs.toArray) #[] 7 td)).map (·.2))=vs.toArray:=by
   show(vs.toArray.zip vs.toArray).map (·.2)=vs.toArray
   apply Array.toList_inj.mp;rw[Array.toList_map,Array.toList_zip];exact List.map_snd_zip (HW _)
  rw[hs];refine HD (Mc ho3 rfl ?_ (J6 _) (by rw[HZ,Ja]; omega))
  simp only[NS,Jq,Kq];exact HQ (fin vs rfl (by unfold eP; rw[Iv h2]))
 ·have hn2:¬ vs.toArray.size < 2:=by rw[HZ]; exact h2
  have h2':2<=vs.length:=by omega
  rw[IK hn2,IK hn2];refine HD (JN (hkind h2' _ keep (λ(k:Mj) (s':HH)=>k=κ/\s'={ s with heap:=((s.heap.update a (Jv λ_=>(#[]:IW HE))).push (seqObj "tuple" vs.toArray 0)).push (seqObj "list" #[] 0) }) ⟨rfl,rfl⟩) ?_ λ_ _ x=>x.elim)
  rintro _ _ ⟨rfl,rfl⟩;refine HD (JN (PySem.W.kat_run (Q:=λst' s'=>∃p:IW HJ,p.size=vs.length/\arrOf st'=p.map (kas_item (vs.toArray.zip vs.toArray))/\failedOf st'=td/\p=nQ lt (kas_sort vs.length)/\s'={ s with heap:=((s.heap.update a (Jv λ_=>(#[]:IW HE))).push (seqObj "tuple" vs.toArray 0)).push (seqObj "list" #[] 0) })
   (G:=λp s'=>p=nQ lt (kas_sort vs.length)/\s'={ s with heap:=((s.heap.update a (Jv λ_=>(#[]:IW HE))).push (seqObj "tuple" vs.toArray 0)).push (seqObj "list" #[] 0) }) rfl h2' h64 (λp' st' s' a1 a2 a3 a4=>⟨p',a1,a2,a3,a4⟩)
   (mH (lt:=lt) (λi j hi hj C hC=>hlt h2' _ keep i j hi hj C hC) (j8 (n:=vs.length) (by omega)) ⟨rfl,rfl⟩)) ?_ λ_ _ e=>e)
  rintro⟨⟨⟩,st'⟩ s' ⟨p,hp,har,hf,ep,rfl⟩;dsimp only;have hout:=PySem.W.kat_snds rfl har;have hsz:(p.toList.map λi=>vs.getD i Je).length=vs.length:=by rw[HF,II,hp]
  rw[hout];refine HD (Oj ho3 rfl ?_);refine HD (Mc ho3 rfl ?_ (J6 _) (by rw[HZ,hsz,Ja]; omega))
  rw[hf];simp only[NS,Jq,Kq];exact HQ (fin _ hsz (by unfold eP; rw[IK h2,ep]))
theorem uu {x:HE}{lt:HJ->HJ->Ir}{κ:Mj}{Q:HE->HH->Prop}(h64:vs.length < 64)
  (hcol:∀Q':HC HE->HH->Prop,(∀h' tk,(∀b o,s.heap.get? b=gV o->h'.get? b=gV o)->s.heap.objs.size<=h'.objs.size->Q' vs { s with heap:=h',toks:=tk })->wpAny (model prog w) A.in1 (collect x) Q' E s)
  (hkind:2<=vs.length->∀h' tk,(∀b o,s.heap.get? b=gV o->h'.get? b=gV o)->∀Q:Mj->HH->Prop,Q κ { s with heap:=h',toks:=tk }->wpAny (model prog w) A.in1.in1 (keyKind' vs.toArray) Q (λ_ _=>Jn) { s with heap:=h',toks:=tk })
  (hlt:2<=vs.length->∀h' tk,(∀b o,s.heap.get? b=gV o->h'.get? b=gV o)->∀i j,i < vs.length->j < vs.length->∀Q:Ir->HH->Prop,Q (lt i j) { s with heap:=h',toks:=tk }->
   wpAny (model prog w) A.in1.in1 (keyLt' κ (vs.getD i Je) (vs.getD j Je)) Q (λ_ _=>Jn) { s with heap:=h',toks:=tk })
  (h:∀D h' tk c,(∀b o,s.heap.get? b=gV o->h'.get? b=gV o)->s.heap.objs.size<=D->h'.get? D=gV (seqObj "list" (eP lt Je vs).toArray c)->Q (.ref D) { s with heap:=h',toks:=tk }) :
  wpAny (model prog w) A (call (.builtin "sorted") [x]) Q E s:=by
 refine L0 kind_sorted plain_sorted entry_sorted (args_sorted1 _) ?_;unfold M3.«sorted»;refine HD (m:=checkCount "sorted" 1 1 _) (HQ ?_);refine HD (hcol _ λh1 tk1 hk1 hle=>?_)
 refine HD (Ni ?_ (by rw[Ja]; omega))
 have hoL:(h1.push (seqObj "list" vs.toArray 0)).get? h1.objs.size=gV (seqObj "list" vs.toArray 0):=Il _ rfl;have kp:∀b o,s.heap.get? b=gV o->(h1.push (seqObj "list" vs.toArray 0)).get? b=gV o:=λb o e=>HK _ (hk1 b o e)
 have hne:∀b o,s.heap.get? b=gV o->b≠h1.objs.size:=λb o e=>IA (IB (Ik e) hle)
 show wpAny _ _ _ _ _ { s with heap:=h1.push (seqObj "list" vs.toArray 0),toks:=tk1 }
 refine HD (Jx (Js slot_list_sort ⟨_,hoL,rfl⟩ entry_list_sort ?_ (args_list_sort _)));refine ut (s:={ s with heap:=h1.push (seqObj "list" vs.toArray 0),toks:=tk1 }) (lt:=lt) (κ:=κ) hoL h64 (λh2 h' hk Q hq=>hkind h2 h' tk1 (λb o e=>hk b o (hne b o e) (kp b o e)) Q hq)
  (λh2 h' hk i j hi hj Q hq=>hlt h2 h' tk1 (λb o e=>hk b o (hne b o e) (kp b o e)) i j hi hj Q hq) λh' c hk hD=>?_
 exact⟨_,rfl,HQ ⟨_,rfl,h _ h' tk1 c (λb o e=>hk b o (hne b o e) (kp b o e)) hle hD⟩⟩
end
end Mi
namespace Mi
open PySem PySem.Spec PyProof.Rows L2
noncomputable def fP:T->Jp
 | .int _=>"int"|.str _=>"str"|.tup _=>"tuple"
noncomputable def bY:T->HI T
 | .tup (x::_)=>gV x
 | _=>td
noncomputable def zD (ks:HC T):HI HJ:=
 if ks.all (λk=>fP k == "int")then gV 0
 else if ks.all (λk=>fP k == "str")then gV 1
 else if ks.all (λk=>(bY k).any λf=>fP f == "int")then gV 2
 else if ks.all (λk=>(bY k).any λf=>fP f == "str")then gV 3
 else if ks.all (λk=>(bY k).any λf=>fP f == "tuple")then gV 4
 else td
noncomputable def wj:HJ->Mj
 | 0=>oneType'|1=>oneType'|2=>tuples' true|3=>tuples' true|_=>tuples' false
noncomputable def kH (ks:HC T):Ir:=ks.all λx=>ks.all λy=>(zC x y).isSome
noncomputable def yE (ks:HC T)(i j:HJ):Ir:=(zC (ks.getD i (.int 0)) (ks.getD j (.int 0))).getD false
theorem wm {ks:HC T}(h:kH ks=true){i j:HJ}(hi:i < ks.length)(hj:j < ks.length):zC (ks[i]) (ks[j])=gV (yE ks i j):=by
 unfold kH at h;rw[IC]at h;have h1:=h ks[i] (Jc hi);rw[IC]at h1;have h2:=h1 ks[j] (Jc hj);unfold yE;rw[show ks.getD i (.int 0)=ks[i] by simp[hi],show ks.getD j (.int 0)=ks[j] by simp[hj]]
 obtain⟨b,hb⟩:=Jh.mp h2;rw[hb]; rfl
noncomputable def Hj (c:HJ)(x y:T):Prop:=match c with|0=>fP x = "int"/\fP y = "int"|1=>fP x = "str"/\fP y = "str"|2=>∃f g,bY x=gV f/\bY y=gV g/\fP f = "int"/\fP g = "int"|3=>∃f g,bY x=gV f/\bY y=gV g/\fP f = "str"/\fP g = "str"|_=>∃f g,bY x=gV f/\bY y=gV g
section
variable{prog:Iz}{w:IM}{A:IJ}{E:HE->HH->Prop}{s:HH}
theorem sH {h:IX}{k:T}{v:HE}(x:IsT h k v):O3 (model prog w) h (typeOf v) (.type (fP k)):=by
 cases x with
 | int=>exact .now
 | str=>exact .now
 | tup a c d t=>exact c ▸ ((PZ a).andThen .now:O3 (model prog w) h (typeOf (.ref _)) _)
theorem IsTs.mem {h:IX}:∀ {ks:HC T} {vs:HC HE},IsTs h ks vs->∀v∈vs,∃k∈ks,IsT h k v
 | _,_,.cons a b,v,hv=>by
  rcases IG.mp hv with rfl|hv
  ·exact⟨_,.head _,a⟩
  ·obtain⟨k,hk,q⟩:=IsTs.mem b v hv;exact⟨k,.tail _ hk,q⟩
theorem mI {h:IX}{p:T->Ir}:∀ {ks:HC T} {vs:HC HE},IsTs h ks vs->ks.all (λk=>(bY k).any p)=true->∃fs,PySem.W.KatTups h vs fs/\fs.length=vs.length/\∀v∈fs,∃k,p k=true/\IsT h k v
 | _,_,.nil,_=>⟨[],.nil,rfl,λv hv=>nomatch hv⟩
 | k::ks,_,.cons a b,hp=>by
  rw[IZ,HL]at hp;obtain⟨fs,h1,h2,h3⟩:=mI b hp.2;cases a with
  | int=>simp[bY]at hp
  | str=>simp[bY]at hp
  | @tup kk ad o items n a1 c1 d1 t1=>
   cases kk with
   | nil=>simp[bY]at hp
   | cons x xs=>
    have hx:p x=true:=by simpa [bY]using hp.1
    generalize hit:items.toList=its at t1;cases t1 with
    | @cons _ u _ us q1 q2=>
     refine⟨u::fs,.cons a1 c1 d1 (by rw[<- JD,hit]; rfl) h1,by simp[h2],λv hv=>?_⟩
     rcases IG.mp hv with rfl|hv
     ·exact⟨x,hx,q1⟩
     ·exact h3 v hv
theorem CI {ks:HC T}{vs:HC HE}{c:HJ}{Q:Mj->HH->Prop}(h:IsTs s.heap ks vs)(h2:2<=vs.length)(hc:zD ks=gV c)(hq:Q (wj c) s):wpAny (model prog w) A (keyKind' vs.toArray) Q E s:=by
 have one:∀ty:Jp,(KO ty != KO "tuple")=true->ks.all (λk=>fP k==ty)=true->Q oneType' s->wpAny (model prog w) A (keyKind' vs.toArray) Q E s:=λty hty hall hq=>
  PySem.W.kas_kind (T:=.type ty) h2 (λv hv=>by
   obtain⟨k,hk,x⟩:=h.mem v hv;have:=eq_of_beq (IC.mp hall k hk);exact this ▸ sH x) hty (by simp) hq
 have tup:∀ty:Jp,ks.all (λk=>(bY k).any λf=>fP f==ty)=true->Q (tuples' (KO ty != KO "tuple")) s->wpAny (model prog w) A (keyKind' vs.toArray) Q E s:=λty hall hq=>by
  obtain⟨fs,h1,h3,h4⟩:=mI h hall;exact PySem.W.kat_kind (T:=.type ty) h1 (by omega) (λv hv=>by
   obtain⟨k,hk,x⟩:=h4 v hv;have:=eq_of_beq hk;exact this ▸ sH x) (by simp) hq
 unfold zD at hc;split at hc
 ·cases hc; exact one "int" (by decide) (by assumption) hq
 ·split at hc
  ·cases hc; exact one "str" (by decide) (by assumption) hq
  ·split at hc
   ·cases hc; exact tup "int" (by assumption) hq
   ·split at hc
    ·cases hc; exact tup "str" (by assumption) hq
    ·split at hc
     ·cases hc; exact tup "tuple" (by assumption) hq
     ·cases hc
theorem pK {b:Ir}{Q:Ir->HH->Prop}{d:HJ}(hu:A.units+d < cLine):∀(xs ys:HC T) (us vs:HC HE) (i:HJ) (k:Ir),T.depths xs<=d->T.depths ys<=d->IsTs s.heap xs us->IsTs s.heap ys vs->pH xs ys=gV k->
  (b=true->i=0->∀x y,xs.head?=gV x->ys.head?=gV y->(fP x = "int"/\fP y = "int")\/(fP x = "str"/\fP y = "str"))->Q k s->PySem.W.KatLex prog w A b (decide (us.length < vs.length)) Q (us.zip vs) i s
 | [],[],_,_,i,k,_,_,h1,h2,e,hb,hq=>by cases h1; cases h2; cases e; exact MF (by simpa using hq)
 | [],y::ys,_,_,i,k,_,_,h1,h2,e,hb,hq=>by cases h1; cases h2; cases e; exact MF (by simpa using hq)
 | x::xs,[],_,_,i,k,_,_,h1,h2,e,hb,hq=>by cases h1; cases h2; cases e; exact MF (by simpa using hq)
 | x::xs,y::ys,_,_,i,k,d1,d2,h1,h2,e,hb,hq=>by
  simp only[T.depths]at d1 d2;cases h1 with
  | @cons _ u _ us p1 q1=>
   cases h2 with
   | @cons _ v _ vs p2 q2=>
    have he:=um d x y _ _ A s (by omega) p1 p2 hu (by omega)
    rw[KD];refine PySem.W.kat_cons (he prog w _ _ ?_);simp only[pH]at e;have hlen:decide ((u::us).length < (v::vs).length)=decide (us.length < vs.length):=by simp
    rw[hlen]
    by_cases hxy:x=y
    ·rw[Iv hxy]at e;rw[JO hxy];exact PySem.W.kat_yes (pK hu xs ys us vs (i+1) k (by omega) (by omega) q1 q2 e (λ_ z=>absurd z (Nat.succ_ne_zero _)) hq)
    ·rw[IK hxy]at e;rw[ID hxy];refine PySem.W.kat_no ?_
     by_cases hb0:b=true/\i=0
     ·obtain⟨rfl,rfl⟩:=hb0;rcases hb rfl rfl x y rfl rfl with⟨hx,hy⟩|⟨hx,hy⟩
      ·cases p1 with
       | int=>cases p2 with
        | int=>cases e; exact oneLt_int hq
        | _=>exact absurd hy (by simp[fP])
       | _=>exact absurd hx (by simp[fP])
      ·cases p1 with
       | str=>cases p2 with
        | str=>cases e; exact oneLt_str hq
        | _=>exact absurd hy (by simp[fP])
       | _=>exact absurd hx (by simp[fP])
     ·have hf:(b&&i==0)=false:=by
       cases b with
       | false=>rfl
       | true=>
        have:i≠0:=λz=>hb0 ⟨rfl,z⟩
        simpa using this
      rw[hf];exact PySem.W.kat_one _ _ ((EJ d x y _ _ A s k (by omega) (by omega) p1 p2 hu e) prog w _ _ hq)
theorem zE {c d:HJ}{x y:T}{u v:HE}{k:Ir}{Q:Ir->HH->Prop}(hu:A.units+d < cLine)(d1:x.depth<=d)(d2:y.depth<=d)(h1:IsT s.heap x u)(h2:IsT s.heap y v)(e:zC x y=gV k)
  (hc:Hj c x y)
  (hq:Q k s):wpAny (model prog w) A (keyLt' (wj c) u v) Q E s:=by
 have tup:∀b:Ir,(∃f g,bY x=gV f/\bY y=gV g/\(b=true->(fP f = "int"/\fP g = "int")\/(fP f = "str"/\fP g = "str")))->wpAny (model prog w) A (keyLt' (tuples' b) u v) Q E s:=by
  rintro b ⟨f,g,hf,hg,hb⟩;cases h1 with
  | int=>cases hf
  | str=>cases hf
  | @tup xs a o items n a1 c1 e1 t1=>
   cases h2 with
   | int=>cases hg
   | str=>cases hg
   | @tup ys a' o' items' n' a2 c2 e2 t2=>
    simp only[T.depth]at d1 d2;refine PySem.W.kat_lt a1 e1 a2 e2 ?_;have:=pK (prog:=prog) (w:=w) (b:=b) (Q:=Q) hu xs ys items.toList items'.toList 0 k (by omega) (by omega) t1 t2 e (λhb' _ p q hp hq'=>by
     cases xs with
     | nil=>cases hp
     | cons x0 xs=>cases ys with
      | nil=>cases hq'
      | cons y0 ys=>cases hp; cases hq'; cases hf; cases hg; exact hb hb') hq
    simpa using this
 match c,hc with
 | 0,⟨hx,hy⟩=>
  cases h1 with
  | int=>cases h2 with
   | int=>cases e; exact PySem.W.kat_lt_int hq
   | _=>exact absurd hy (by simp[fP])
  | _=>exact absurd hx (by simp[fP])
 | 1,⟨hx,hy⟩=>
  cases h1 with
  | str=>cases h2 with
   | str=>cases e; exact PySem.W.kas_lt_str hq
   | _=>exact absurd hy (by simp[fP])
  | _=>exact absurd hx (by simp[fP])
 | 2,⟨f,g,h1',h2',h3,h4⟩=>exact tup true ⟨f,g,h1',h2',λ_=>.inl ⟨h3,h4⟩⟩
 | 3,⟨f,g,h1',h2',h3,h4⟩=>exact tup true ⟨f,g,h1',h2',λ_=>.inr ⟨h3,h4⟩⟩
 | n+4,⟨f,g,h1',h2'⟩=>exact tup false ⟨f,g,h1',h2',λz=>nomatch z⟩
end
theorem zF {ks:HC T}{c:HJ}(h:zD ks=gV c){x y:T}(hx:x∈ks)(hy:y∈ks) :
  Hj c x y:=by
 have one:∀ {ty:Jp},ks.all (λk=>fP k==ty)=true->fP x=ty/\fP y=ty:=λha=>⟨eq_of_beq (IC.mp ha x hx),eq_of_beq (IC.mp ha y hy)⟩
 have fst:∀ {ty:Jp},ks.all (λk=>(bY k).any λf=>fP f==ty)=true->∃f g,bY x=gV f/\bY y=gV g/\fP f=ty/\fP g=ty:=λ{ty} ha=>by
  have h1:=IC.mp ha x hx;have h2:=IC.mp ha y hy;cases e1:bY x with
  | none=>rw[e1]at h1; cases h1
  | some f=>
   cases e2:bY y with
   | none=>rw[e2]at h2; cases h2
   | some g=>
    rw[e1]at h1; rw[e2]at h2
    exact⟨f,g,rfl,rfl,eq_of_beq (by simpa using h1),eq_of_beq (by simpa using h2)⟩
 unfold zD at h;split at h
 ·cases h; exact one (by assumption)
 ·split at h
  ·cases h; exact one (by assumption)
  ·split at h
   ·cases h; exact fst (by assumption)
   ·split at h
    ·cases h; exact fst (by assumption)
    ·split at h
     ·cases h;obtain⟨f,g,h1,h2,_⟩:=fst (by assumption)
      exact⟨f,g,h1,h2⟩
     ·cases h
noncomputable def dW (S:aa):W->HI (HC W)
 | .tup xs=>gV xs
 | .ref i=>match g8 S i with
  | some xs=>gV xs
  | none=>(jT S i).map λkvs=>kvs.map λp=>p.1.w
 | _=>td
noncomputable def eR:HJ:=8
noncomputable def i6 (ks:HC T):Ir:=decide (ks.length < 64)&&decide (T.depths ks<=eR)&&(decide (ks.length < 2)||((zD ks).isSome&&kH ks))
noncomputable def fE (xs:HC W)(S:aa):HI (W×aa):=match xs with
 | [x]=>match dW S x with
  | some ws=>match W.ts ws with
   | some ks=>if i6 ks then gV (.ref S.length,S++[.lst (eP (yE ks) .non ws)])else td
   | none=>td
  | none=>td
 | _=>td
noncomputable def mJ (xs:HC W)(S:aa):HI (W×aa):=match xs with
 | [.ref i]=>match jT S i with
  | some kvs=>gV (.ref S.length,S++[.lst (kvs.map λp=>p.1.w)])
  | none=>iu [.ref i] S
 | xs=>iu xs S
noncomputable def rA (xs:HC W)(S:aa):HI (W×aa):=match xs with
 | [.ref i]=>match jT S i with
  | some kvs=>gV (.int kvs.length,S)
  | none=>rj [.ref i] S
 | xs=>rj xs S
noncomputable def nS (ks:HC T):HJ:=argBest (yE ks) (ks.length - 1)
noncomputable def zG (xs:HC W)(S:aa):HI (W×aa):=match xs with
 | [.ref i]=>match g8 S i with
  | some ws=>match W.ts ws with
   | some ks=>if T.depths ks<=eR/\kH ks=true then(ws[nS ks]?).map λw=>(w,S)else td
   | none=>td
  | none=>td
 | _=>td
noncomputable def hJ:HC W->HI (HC Ir)
 | []=>gV []
 | .bl b::ws=>(hJ ws).map (b :: ·)
 | _::_=>td
noncomputable def zH (xs:HC W)(S:aa):HI (W×aa):=match xs with
 | [.ref i]=>match g8 S i with
  | some ws=>(hJ ws).map λbs=>(.bl (bs.all id),S)
  | none=>td
 | _=>td
section
variable{X:Cx}{pins:HC (HN×JC)}{σ:L2.St}{H:Hp}{s:HH}{A:HC HN}{S:aa}
theorem RelL.pick {K:HS}{ws:HC W}{vs:HC V}(r:RelL K A H ws vs)(d:W)(d':V):∀(is:HC HJ),(∀i∈is,i < ws.length)->RelL K A H (is.map λi=>ws.getD i d) (is.map λi=>vs.getD i d')
 | [],_=>.nil
 | i::is,h=>by
  have hi:=h i (.head _);obtain⟨v,h1,h2⟩:=r.get (HX hi);refine .cons ?_ (RelL.pick r d d' is λj hj=>h j (.tail _ hj))
  have e1:ws.getD i d=ws[i]:=by simp[hi]
  have e2:vs.getD i d'=v:=by simp[h1]
  show Rel K A H (ws.getD i d) (vs.getD i d');rw[e1,e2]; exact h2
theorem Vals.pick {vs:HC V}{us:HC HE}(r:Vals vs us)(d:V)(d':HE):∀(is:HC HJ),(∀i∈is,i < vs.length)->Vals (is.map λi=>vs.getD i d) (is.map λi=>us.getD i d')
 | [],_=>.nil
 | i::is,h=>by
  have hi:=h i (.head _);obtain⟨v,h1,h2⟩:=L2.Vals.get r (HX hi);refine .cons ?_ (Vals.pick r d d' is λj hj=>h j (.tail _ hj))
  have e1:vs.getD i d=vs[i]:=by simp[hi]
  have e2:us.getD i d'=v:=by simp[h1]
  show L2.RelV (vs.getD i d) (us.getD i d');rw[e1,e2]; exact h2
theorem nT {n:HJ}{lt:HJ->HJ->Ir}(hn:0 < n):∀i∈(nQ lt (Oa n)).toList,i < n:=λi hi=>IN.mp ((nR (lt:=lt) (j8 hn)).mem_iff.mp hi)
theorem wn {K:HS}{lt:HJ->HJ->Ir}{ws:HC W}{vs:HC V}(r:RelL K A H ws vs):RelL K A H (eP lt .non ws) (eP lt .non vs):=by
 unfold eP;rw[r.length];split
 ·exact r
 ·exact r.pick _ _ _ λi hi=>by rw[r.length]; exact nT (by omega) i hi
theorem uw {lt:HJ->HJ->Ir}{vs:HC V}{us:HC HE}(r:Vals vs us):Vals (eP lt .non vs) (eP lt .none us):=by
 unfold eP;rw[L2.Vals.length r];split
 ·exact r
 ·exact Vals.pick r _ _ _ λi hi=>by rw[L2.Vals.length r]; exact nT (by omega) i hi
theorem pL {prog:Iz}{w:IM}{B:IJ}{E:HE->HH->Prop}{l:HN}{vs:HC HE}{Q:HC HE->HH->Prop}(hl:NA s.heap l vs.toArray)(hsz:vs.length<=sizeLine)
  (h:∀h' tk,(∀b o,s.heap.get? b=gV o->h'.get? b=gV o)->s.heap.objs.size<=h'.objs.size->Q vs { s with heap:=h',toks:=tk }):wpAny (model prog w) B (collect (.ref l)) Q E s:=by
 obtain⟨o,ho,hc,n,hd⟩:=id hl;unfold collect;refine HD (MV (JH entry_proto_collect' ?_));show wpAny _ _ (do again (.builtin "list.__iadd__" ⟨[<- newList [],.ref l],[]⟩)) _ _ s
 refine HD (Ni (HQ ⟨Code.quiet_builtin _ (by decide +kernel),JH entry_list_iadd' ?_⟩))
 show wpAny _ _ (J4 (.ref s.heap.objs.size) (.ref l) (.ref s.heap.objs.size)) _ _ { s with heap:=s.heap.push (seqObj "list" #[] 0) }
 unfold J4;have ho':(s.heap.push (seqObj "list" #[] 0)).get? l=gV o:=HK _ ho;refine HD (LJ (T:="tuple") ⟨o,ho',hc⟩ ?_);have ht:(KO "tuple" == KO "tuple")=true:=by rfl
 rw[Iv (by rw[ht]; simp)]
 refine HD (NR ho' hd ?_);refine HD (NR (xs:=#[]) (n:=0) (Il _ rfl) rfl ?_);rw[IK (by simp)]
 refine HD (Mc (xs:=#[]) (n:=0) (Il _ rfl) rfl ?_ (J6 _) (by show(#[]++vs.toArray).size<=sizeLine+1; simp only[Array.size_append,HZ,Jz]; omega))
 refine HQ ?_;show wpAny (model prog w) B (do
   let o <- load s.heap.objs.size
   match o.data with
   | .seq xs _=>pure xs.toList
   | _=>unsupported "internal:collect") Q E { s with heap:=(s.heap.push (seqObj "list" #[] 0)).update s.heap.objs.size (Jv (· ++ vs.toArray)) }
 refine HD (No (ME (Il _ rfl) _) ?_);show wpAny _ _ (pure ((#[]:IW HE)++vs.toArray).toList) Q E _;rw[show((#[]:IW HE)++vs.toArray).toList=vs by simp]
 refine HQ (h _ s.toks (λb o' e=>(K1 _ _ _ _ (IA (Ik e))).trans (HK _ e)) ?_)
 rw[Ob,size_push'];exact KR _
theorem DicAt.raw {wd:IM}{a:HN}{xs:HC (T×HN×HE)}{h:IX}(d:DicAt wd a xs h):∃es ep,RawD a es ep h/\es.toList=xs.map (vQ wd):=
 let ⟨_,_,_,o,es,ep,h1,h2,h3,h4⟩:=d; ⟨es,ep,⟨o,h1,h2,h3⟩,h4⟩
theorem KRel.keysL {kvs:HC (T×W)}{xs:HC (T×HN×HE)}(r:KRel X.K A H kvs xs):RelL X.K A H (kvs.map λp=>p.1.w) (xs.map λq=>V.ref q.2.1):=by
 unfold KRel at r
 induction r with
 | nil=>exact .nil
 | cons h t ih=>exact .cons h.2.2.2.1 ih
theorem mK (xs:HC (T×HN×HE)):Vals (xs.map λq=>V.ref q.2.1) (xs.map λq=>IS q.2.1):=by
 induction xs with
 | nil=>exact .nil
 | cons x xs ih=>exact .cons rfl ih
theorem kI {wd:IM}{es:IW JX}{xs:HC (T×HN×HE)}(he:es.toList=xs.map (vQ wd)){acc:IW HE}(ha:Mt (λi v=>∃e,es[i]?=gV e/\e.key=v) acc es.size):acc.toList=xs.map λq=>IS q.2.1:=by
 have hl:es.size=xs.length:=by rw[<- II,he,HF]
 apply Lv
 ·rw[II,ha.1,HF,hl]
 ·intro i h1 h2;rw[II]at h1;obtain⟨e,q1,q2⟩:=ha.2 i acc[i] (by simp[h1])
  rw[<- JD,he,HP]at q1;rw[HF]at h2;rw[HX h2]at q1;simp only[IH,IV]at q1;subst q1;rw[List.getElem_map,Array.getElem_toList];exact q2.symm
theorem uy {x:W}{a:V}{u:HE}{ws:HC W}(hh:X.A.handled=td)(I:Inv X pins σ H s)(so:StoreOk X.w X.K A H S)(rx:Rel X.K A H x a)(ru:RelV a u)(e:dW S x=gV ws):∃vs us,RelL X.K A H ws vs/\Vals vs us/\us.length<=sizeLine/\
  ∀(B:IJ) (hB:B.handled=td) (E:HE->HH->Prop) (Q':HC HE->HH->Prop),(∀h' tk,(∀b o,s.heap.get? b=gV o->h'.get? b=gV o)->s.heap.objs.size<=h'.objs.size->Q' us { s with heap:=h',toks:=tk })->wpAny (model X.prog X.w) B (collect u) Q' E s:=by
 cases rx with
 | tup h1 r1=>
  cases e;obtain⟨its,rv,ht,hz⟩:=I.tuple h1;obtain rfl:u=IS _:=ru;exact⟨_,its,r1,rv,by rw[<- L2.Vals.length rv]; exact hz,λB hB E Q' h=>pL ht (by rw[<- L2.Vals.length rv]; exact hz) h⟩
 | ref ea=>
  simp only[dW]at e;split at e
  ·rename_i xs hx;cases e;obtain⟨vs,h1,r1⟩:=cZ so hx ea;obtain⟨its,rv,p,hz⟩:=I.list h1;obtain rfl:u=IS _:=ru;refine⟨_,its,r1,rv,by rw[<- L2.Vals.length rv]; exact hz,λB hB E Q' h=>collect_list p.isList (h _ s.toks (λb o' e=>(K1 _ _ _ _ (IA (Ik e))).trans (HK _ e)) ?_) (by rw[<- L2.Vals.length rv]; exact hz)⟩
   rw[Ob,size_push'];exact KR _
  ·rw[HG]at e;obtain⟨kvs,hk,rfl⟩:=e;obtain⟨xs,rd,kr⟩:=fZ so hk ea;have d:=cV I rd;obtain⟨es,ep,raw,he⟩:=d.raw;obtain rfl:u=IS _:=ru;have hl:es.size=xs.length:=by rw[<- II,he,HF]
   refine⟨_,_,kr.keysL,mK xs,by rw[HF]; exact d.1,λB hB E Q' h=>pG (sF d.2.1) hB raw (by rw[hl]; exact d.1) λh' tk acc hk' hle ha=>?_⟩
   rw[kI he ha];exact h h' tk hk' hle
 | _=>cases e
theorem mL {h':IX}{tk c:HJ}{D:HN}{ws:HC W}{vs:HC V}{us:HC HE}(I:Inv X pins σ H s)(so:StoreOk X.w X.K A H S)(r:RelL X.K A H ws vs)(rv:Vals vs us)(hz:us.length<=sizeLine)(hk:∀b o,s.heap.get? b=gV o->h'.get? b=gV o)(hD:s.heap.objs.size<=D)
  (ho:h'.get? D=gV { cls:=.type "list",data:=.seq us.toArray c }):d0 X pins σ A H (S++[.lst ws]) (.ref S.length) (.ref D) { s with heap:=h',toks:=tk }:=by
 have hn:H D=td:=I.hok.fresh hD;refine⟨.ref D,_,A++[D],I.laid (a:=D) (o:=.lst vs) (t':=tk) hk hD ⟨by rw[L2.Vals.length rv]; exact hz,us,c,rv,ho⟩,rfl,ey hn,so.push hn r,.ref ?_⟩
 rw[<- so.len]; simp
theorem nU (hh:X.A.handled=td)(hu:X.A.units+12 < cLine):LCall X (.builtin "sorted") fE:=by
 intro pins s σ H A S xs vs us w S' I so rl rv e;cases rl with
 | nil=>cases e
 | cons r t=>
  cases t with
  | cons _ _=>cases e
  | nil=>
   cases rv with
   | cons ru rv2=>
    cases rv2;simp only[fE]at e;split at e
    ·rename_i ws hw;split at e
     ·rename_i ks hk;split at e
      ·rename_i hok;cases e;obtain⟨vs',us',r1,rv1,hz,hcol⟩:=uy hh I so r ru hw;simp only[i6,HL,Iy]at hok;obtain⟨⟨h64,hd⟩,hok⟩:=hok;have hws:T.ws ks=ws:=W.ts_w hk;have hT:IsTs s.heap ks us':=gB I ks (hws ▸ r1) rv1;have hl:us'.length=ks.length:=hT.length.symm;have sk:2<=us'.length->(zD ks).isSome=true/\kH ks=true:=λh2=>by
        rcases JY _ _ ▸ hok with h|h
        ·simp only[Iy]at h; omega
        ·simpa using h
       refine uu (vs:=us') (lt:=yE ks) (κ:=wj ((zD ks).getD 0)) (by omega) (λQ' hQ'=>hcol X.A.in1 hh _ Q' hQ') (λh2 h' tk hk' Q hq=>?_) (λh2 h' tk hk' i j hi hj Q hq=>?_) λD h' tk c hk' hD ho=>?_
       ·obtain⟨q1,q2⟩:=sk h2;obtain⟨c,hc⟩:=Jh.mp q1;rw[hc]at hq;exact CI (s:={ s with heap:=h',toks:=tk }) (hT.kept λb o _ e=>hk' b o e) h2 hc hq
       ·obtain⟨q1,q2⟩:=sk h2;obtain⟨c,hc⟩:=Jh.mp q1;rw[hc];have hi':i < ks.length:=by omega
        have hj':j < ks.length:=by omega
        have g:=(hT.kept (h':=h') λb o _ e=>hk' b o e)
        have e1:us'.getD i Je=us'[i]:=by simp[hi]
        have e2:us'.getD j Je=us'[j]:=by simp[hj]
        rw[e1,e2];have b1:=eB (ks:=ks) i hi';have b2:=eB (ks:=ks) j hj';exact zE (s:={ s with heap:=h',toks:=tk }) (d:=eR) (c:=c) (by rw[bT,bT]; unfold eR; omega) (by omega) (by omega) (g.get i hi' hi) (g.get j hj' hj) (wm q2 hi' hj') (zF hc (Jc hi') (Jc hj')) hq
       ·exact mL I so (wn r1) (uw rv1) (by rw[pJ]; exact hz) hk' hD ho
      ·cases e
     ·cases e
    ·cases e
theorem pM (hh:X.A.handled=td):LCall X (.type "list") mJ:=by
 intro pins s σ H A S xs vs us w S' I so rl rv e
 by_cases hd:∃i kvs,xs=[.ref i]/\jT S i=gV kvs
 ·obtain⟨i,kvs,rfl,hk⟩:=hd;simp only[mJ,hk]at e;cases e;cases rl with
  | cons r t=>
   cases t;cases rv with
   | cons ru rv2=>
    cases rv2;cases r with
    | ref ea=>
     obtain⟨xs,rd,kr⟩:=fZ so hk ea;have d:=cV I rd;obtain⟨es,ep,raw,he⟩:=d.raw;obtain rfl:_=IS _:=ru;have hl:es.size=xs.length:=by rw[<- II,he,HF]
     refine PySem.W.kdl_call (sF d.2.1) hh raw (by rw[hl]; exact d.1) λh' tk acc' c' hk' hD ha=>?_
     have ea':=kI he ha;refine mL (us:=acc'.toList) I so kr.keysL (ea' ▸ mK xs) (by rw[ea',HF]; exact d.1) hk' (HW _) (c:=c') ?_
     simpa using hD
 ·have:mJ xs S=iu xs S:=by
   unfold mJ;split
   ·rename_i i;split
    ·rename_i kvs hk;exact absurd ⟨i,kvs,rfl,hk⟩ hd
    ·rfl
   ·rfl
  rw[this]at e;exact hG pins s σ H A S xs vs us w S' I so rl rv e
end
open PySem.W (KasT kas_sort kas_asc kas_desc kas_tail3 kas_descPart kas_count kas_place kas_bin kas_rev)
noncomputable def gt (p:IW HJ)(i:HJ):HJ:=p.getD i 0
end Mi
namespace Mi
open PySem PySem.Spec PyProof.Rows L2
theorem wo {α:Type}{lt:HJ->HJ->Ir}{d:α}{xs:HC α}:(eP lt d xs).Perm xs:=by
 unfold eP;split
 ·exact .refl _
 ·have p:Pm xs.length (nQ lt (Oa xs.length)):=nR (j8 (by omega))
  refine(P7 _ p).trans ?_;have:(Ic xs.length).map (λi=>xs.getD i d)=xs:=by
   apply Lv
   ·simp
   ·intro k h1 h2; simp[h2]
  rw[this]
noncomputable def kJ (xs:HC W)(S:aa):HI (W×aa):=match xs with
 | [.ref i]=>match zA S i with
  | some (lo,hi)=>if -(2 ^ 62)<=lo/\lo < 2 ^ 62/\-(2 ^ 62)<=hi/\hi < 2 ^ 62/\(hi - lo).toNat<=sizeLine then gV (.tup (EG lo (hi - lo).toNat),S)else td
  | none=>kA [.ref i] S
 | xs=>kA xs S
section
variable{prog:Iz}{w:IM}{A:IJ}{E:HE->HH->Prop}{s:HH}
theorem lH {Q:HC HE->HH->Prop}{r:HN}{a b c:HY}{t u v:P9}{n:HJ}(hh:A.handled=td)(hr:PV s.heap r a b c t u v)(hsmall:LH a b c=true)
  (hn:JJ a b c=n) (hlen:n<=2 ^ 24)
  (hQ:∀h' tk (acc:IW HE),(∀b o,s.heap.get? b=gV o->h'.get? b=gV o)->s.heap.objs.size<=h'.objs.size->Mt (λi v=>∃t,v=.int (a+i*c) t) acc n->Q acc.toList { s with heap:=h',toks:=tk }):wpAny (model prog w) A (collect (.ref r)) Q E s:=by
 unfold collect;refine HD (MV (JH F.entry_proto_collect ?_));rw[Jw F.plain_proto_collect _];show wpAny _ A.in1 (newList [] >>= λl=>again (.builtin "list.__iadd__" ⟨[l,.ref r],[]⟩)) _ _ s
 refine HD (IY ?_);refine HQ ⟨KG F.plain_list_iadd _,JH F.entry_list_iadd ?_⟩;rw[Jw F.plain_list_iadd _];show wpAny _ A.in1 (J4 (.ref s.heap.objs.size) (.ref r) (.ref s.heap.objs.size)) _ _ _;have hS:(s.heap.push { cls:=.type "list",data:=.seq ([]:HC HE).toArray }).get? s.heap.objs.size=gV { cls:=.type "list",data:=.seq #[] 0 }:=Il _ rfl;have fin':∀s',(∃h' tk acc c',s'={ s with heap:=h',toks:=tk }/\(∀b o,s.heap.get? b=gV o->h'.get? b=gV o)/\h'.get? s.heap.objs.size=gV { cls:=.type "list",dict:=td,data:=.seq acc c',slots:=#[] }/\Mt (λi v=>∃t,v=.int (a+i*c) t) acc n)->wpAny (model prog w) A (do
   let o <- load s.heap.objs.size
   match o.data with
   | .seq xs _=>pure xs.toList
   | _=>unsupported "internal:collect") Q E s':=by
  rintro s' ⟨h',tk,acc,c',rfl,hk,hS',hacc⟩;exact HD (No hS' (HQ (hQ h' tk acc hk (Le (Ik hS')) hacc)))
 refine JN (wpAny_extend_range (A:=A) (s:={ s with heap:=s.heap.push { cls:=.type "list",data:=.seq ([]:HC HE).toArray } }) (R:=λr s'=>r=.ok (.ret (.ref s.heap.objs.size))/\∃h' tk acc c',s'={ s with heap:=h',toks:=tk }/\(∀b o,s.heap.get? b=gV o->h'.get? b=gV o)/\h'.get? s.heap.objs.size=gV { cls:=.type "list",dict:=td,data:=.seq acc c',slots:=#[] }/\Mt (λi v=>∃t,v=.int (a+i*c) t) acc n) hh (HK _ hr) hsmall hn hlen _ _ 0 hS λh' tk acc' c' hk hS' hacc=>⟨rfl,h',tk,acc',c',rfl,λb o e=>hk b o (IA (Ik e)) (HK _ e),hS',hacc⟩) (λfin s' h=>?_) (λe s' h=>?_)
 ·cases fin with
  | done f=>
   obtain⟨e,h⟩:=h;cases e;exact fin' s' h
  | again c'=>exact⟨h.1,Mq h.2 λr s'' hr=>by obtain⟨rfl,hr⟩:=hr; exact fin' s'' hr⟩
 ·exact absurd h.1 (by simp)
theorem i7 {Q₁:HE->HH->Prop}{r:HN}{a b c:HY}{t u v:P9}{n:HJ}(hh:A.handled=td)(hr:PV s.heap r a b c t u v)(hsmall:LH a b c=true)
  (hn:JJ a b c=n) (hlen:n<=2 ^ 24)
  (h:∀(h':IX) (tk:HJ) (acc:IW HE),(∀b o,s.heap.get? b=gV o->h'.get? b=gV o)->s.heap.objs.size<=h'.objs.size->Mt (λi v=>∃t,v=.int (a+i*c) t) acc n->Q₁ (.ref h'.objs.size) { s with heap:=h'.push { cls:=.type "tuple",data:=.seq acc },toks:=tk }) :
  codeAny (model prog w) A (.call (.builtin "tuple.__new__") ⟨[.type "tuple",.ref r],[]⟩) (wants Q₁ E) s:=by
 refine codeAny_of_tree ?_;show wpAny _ A.in1 (do checkBuiltinCall "tuple.__new__" ⟨[.type "tuple",.ref r],[]⟩; again (.builtin "tuple.__new__" ⟨[.type "tuple",.ref r],[]⟩)) _ _ s
 refine HD (MS (F.newCall_tuple_1 _) (HQ ⟨KG F.plain_tuple_new _,JH F.entry_tuple_new ?_⟩));rw[Jw F.plain_tuple_new _];have hsub:=PySem.sub_tuple_self;have hinit:=PySem.init_tuple_lookup;have hmh:=PySem.madeHere_tuple;have hTI:s.TypeIs (.ref r) "range":=⟨_,hr,rfl⟩;have hh1:A.in1.handled=td:=by simp[hh]
 wp_walk using LJ hTI,lH (A:=A.in1) hh1 hr hsmall hn hlen
 intro h' tk acc hk hle hacc;show wpAny _ _ (JE acc.toList.toArray >>= λv=>ret v) _ _ _
 unfold JE;refine HD (IY ?_ (by show acc.toList.toArray.size<=sizeLine; simp only[Array.toArray_toList]; rw[hacc.1,Ja]; omega))
 refine HQ ?_;have e:acc.toList.toArray=acc:=by simp
 rw[e];exact h h' tk acc hk hle hacc
theorem i8 {Q:HE->HH->Prop}{r:HN}{a b c:HY}{t u v:P9}{n:HJ}(hh:A.handled=td)(hr:PV s.heap r a b c t u v)(hsmall:LH a b c=true)
  (hn:JJ a b c=n) (hlen:n<=2 ^ 24)
  (hQ:∀(h':IX) (tk:HJ) (acc:IW HE),(∀b o,s.heap.get? b=gV o->h'.get? b=gV o)->s.heap.objs.size<=h'.objs.size->Mt (λi v=>∃t,v=.int (a+i*c) t) acc n->Q (.ref h'.objs.size) { s with heap:=h'.push { cls:=.type "tuple",data:=.seq acc },toks:=tk }) :
  wpAny (model prog w) A (call (.type "tuple") [.ref r]) Q E s:=by
 refine callType_codes (Q₁:=λobj s₁=>s₁.TypeIs obj "tuple"/\Q obj s₁) F.called_tuple (F.typeCall_tuple_1 _) F.entry_object_init
  (i7 (by simp[hh]) hr hsmall hn hlen λh' tk acc hk hle hacc=>⟨⟨_,Il _ rfl,rfl⟩,hQ h' tk acc hk hle hacc⟩) λobj s₁ h₁=>?_
 exact⟨h₁.1,F.args_object_init_2 obj _,object_init_meets F.called_tuple.init.lookup F.called_tuple.made (by decide) prog w A.in1 _ s₁ ⟨h₁.1,rfl,h₁.2⟩⟩
end
section
variable{X:Cx}{pins:HC (HN×JC)}{σ:L2.St}{H:Hp}{s:HH}{A:HC HN}{S:aa}
theorem nV (hh:X.A.handled=td):LCall X (.type "tuple") kJ:=by
 intro pins s σ H A S xs vs us w S' I so rl rv e;unfold kJ at e;split at e
 ·rename_i i;split at e
  ·rename_i lo hi hr;split at e
   ·rename_i hb;cases e;obtain⟨a,ea,rfl⟩:=sA (xs:=[]) rl rv;obtain⟨b1,b2,b3,b4,b5⟩:=hb;have hH:H a=gV (.rng lo hi):=by
     unfold zA at hr;split at hr
     ·rename_i hx; cases hr; exact so.obj i _ a hx ea
     ·cases hr
    obtain⟨t,u,v,ho⟩:=I.hok a _ hH;have hn:JJ lo hi 1=((hi - lo).toNat:HJ):=by rw[Nc]; split <;> omega
    refine i8 hh ho (O8 b1 b2 b3 b4) hn b5 λh' tk acc hk hle hacc=>?_
    have hv:Vals ((Ic (hi - lo).toNat).map λ(k:HJ)=>V.int (lo+(k:HY))) acc.toList:=by
     refine nK (by rw[HF,IU,II,hacc.1]) λi v u e1 e2=>?_
     rw[HP,HG]at e1;obtain⟨k,e1,rfl⟩:=e1;obtain⟨hk,rfl⟩:=Ig.mp e1;obtain⟨t,rfl⟩:=hacc.2 i u (by rw[<- JD]; exact e2)
     exact⟨t,by simp⟩
    have hnn:H h'.objs.size=td:=I.hok.fresh hle;refine⟨.ref h'.objs.size,_,A,I.laid (a:=h'.objs.size) (o:=.tup ((Ic (hi - lo).toNat).map λ(k:HJ)=>V.int (lo+(k:HY)))) (t':=tk) (λb o e=>HK _ (hk b o e)) hle ⟨by simpa using b5,acc.toList,hv,?_⟩,rfl,dF (.inl hnn),so.lay hnn,.tup (.inl (.inl bF)) (nL _)⟩
    exact⟨_,Il _ rfl,rfl,0,by simp⟩
   ·cases e
  ·exact jH pins s σ H A S _ vs us w S' I so rl rv e
 ·exact jH pins s σ H A S _ vs us w S' I so rl rv e
end
section
variable{X:Cx}{pins:HC (HN×JC)}{σ:L2.St}{H:Hp}{s:HH}{A:HC HN}{S:aa}
theorem uz (hh:X.A.handled=td)(hu:X.A.units+12 < cLine):LCall X (.builtin "min") zG:=by
 intro pins s σ H A S xs vs us w S' I so rl rv e;cases rl with
 | nil=>cases e
 | cons r t=>
  cases t with
  | cons _ _=>cases r <;> cases e
  | nil=>
   cases rv with
   | cons ru rv2=>
    cases rv2;cases r with
    | ref ea=>
     simp only[zG]at e;split at e
     ·rename_i ws hw;split at e
      ·rename_i ks hk;split at e
       ·rename_i hc;rw[HG]at e;obtain⟨w',e1,e2⟩:=e;cases e2;obtain⟨vs',h1,r1⟩:=cZ so hw ea;obtain⟨its,rv1,p,hz⟩:=I.list h1;obtain rfl:_=IS _:=ru;have hws:T.ws ks=ws:=W.ts_w hk;have hT:IsTs s.heap ks its:=gB I ks (hws ▸ r1) rv1;have hl:its.length=ks.length:=hT.length.symm;have hlw:ws.length=ks.length:=by rw[r1.length,L2.Vals.length rv1,hl]
        have hn:0 < ks.length:=by
         have:=(Ig.mp e1).1;omega
        refine we (items:=its.toArray) (bt:=yE ks) hh p.isList (by simpa [hl]using hn) (λi j vi vj s' Q E hk' hi hj hq=>?_) λv h' tk hv hk'=>?_
        ·have hi':i < ks.length:=by
          have:=(Kc.mp hi).1
          simpa [hl]using this
         have hj':j < ks.length:=by
          have:=(Kc.mp hj).1
          simpa [hl]using this
         have g:=hT.kept (h':=s'.heap) λb o _ e=>hk' b o e
         have e1:vi=its[i]'(by omega):=by
          have:=(Kc.mp hi).2
          simpa using this.symm
         have e2:vj=its[j]'(by omega):=by
          have:=(Kc.mp hj).2
          simpa using this.symm
         subst e1 e2;have b1:=eB (ks:=ks) i hi';have b2:=eB (ks:=ks) j hj';exact EJ eR _ _ _ _ X.A.in1 s' _ (by omega) (by omega) (g.get i hi' (by omega)) (g.get j hj' (by omega)) (by rw[bT]; unfold eR; omega) (wm hc.2 hi' hj') X.prog X.w _ _ hq
        ·have hv':its[nS ks]?=gV v:=by
          have:its.toArray.size=ks.length:=by simpa using hl
          rw[this]at hv
          simpa [nS]using hv
         obtain⟨v',q1,q2⟩:=r1.get e1;obtain⟨u',q3,q4⟩:=L2.Vals.get rv1 q1;rw[hv']at q3;cases q3;exact⟨v',H,A,I.kept hk',q4,.refl,so,q2⟩
       ·cases e
      ·cases e
     ·cases e
    | _=>cases e
theorem mM:∀ {ws:HC W} {bs:HC Ir},hJ ws=gV bs->ws=bs.map W.bl
 | [],bs,h=>by cases h; rfl
 | .bl b::ws,bs,h=>by
  simp only[hJ,HG]at h;obtain⟨r,h1,h2⟩:=h;subst h2;rw[mM h1]; rfl
 | .non::_,_,h|.int _::_,_,h|.str _::_,_,h|.tup _::_,_,h|.ref _::_,_,h=>by cases h
theorem rB {bs:HC Ir}{vs:HC V}{us:HC HE}(r:RelL X.K A H (bs.map W.bl) vs)(rv:Vals vs us):us=bs.map KN:=by
 induction bs generalizing vs us with
 | nil=>cases r; cases rv; rfl
 | cons b bs ih=>
  cases r with
  | cons r1 r2=>
   cases rv with
   | cons v1 v2=>
    cases r1;obtain rfl:_=KN b:=v1;rw[ih r2 v2]; rfl
theorem uA (bs:HC Ir):(Ic bs.length).all (λi=>bs.getD i false)=bs.all id:=by
 induction bs with
 | nil=>rfl
 | cons b bs ih=>simp[Ms,Pe,NT]at ih ⊢; rw[ih]
theorem CJ {id:Jp}{fb:HC Ir->Ir}{g:HC W->aa->HI (W×aa)}(hg:∀xs S,g xs S=match xs with|[.ref i]=>(match g8 S i with|some ws=>(hJ ws).map λbs=>(.bl (fb bs),S)|none=>td)|_=>td)
  (hcall:∀ {s:HH} {x:HE} {Q:HE->HH->Prop} {E:HE->HH->Prop} {bs:HC Ir},wpAny (model X.prog X.w) X.A.in1 (pyIter x) (λit s₂=>∃I fp wr P St,it=.ref I/\P5 X.prog X.w X.A.in1 I fp wr bs.length P St/\St 0 s₂.heap/\TruthOf X.prog X.w X.A.in1 P (λi=>bs.getD i false)/\
   ∀h' tk,(∀b o,b∉wr->s₂.heap.get? b=gV o->h'.get? b=gV o)->Q (.bool (fb bs)) { s₂ with heap:=h',toks:=tk }) E s->wpAny (model X.prog X.w) X.A (call (.builtin id) [x]) Q E s)
  (hh:X.A.handled=td):LCall X (.builtin id) g:=by
 intro pins s σ H A S xs vs us w S' I so rl rv e;rw[hg]at e;cases rl with
 | nil=>cases e
 | cons r t=>
  cases t with
  | cons _ _=>cases r <;> cases e
  | nil=>
   cases rv with
   | cons ru rv2=>
    cases rv2;cases r with
    | @ref ri ad ea=>
     simp only at e;split at e
     ·rename_i ws hw;rw[HG]at e;obtain⟨bs,e1,e2⟩:=e;cases e2;obtain⟨vs',h1,r1⟩:=cZ so hw ea;obtain⟨its,rv1,p,hz⟩:=I.list h1;obtain rfl:_=IS _:=ru;rw[mM e1]at r1;have hits:=rB r1 rv1;refine hcall (bs:=bs) ?_;refine L6 p.isList ?_;have hlt:ad < s.heap.objs.size:=by obtain⟨_,ho,_⟩:=p.isList; exact Ik ho
      have W:=PK (prog:=X.prog) (w:=X.w) (A:=X.A.in1) hh s.heap.objs.size ad (IA hlt) its.toArray;have hsz:its.toArray.size=bs.length:=by rw[HZ,hits,HF]
      rw[hsz]at W;refine⟨_,_,_,_,_,rfl,W,⟨⟨_,Il _ rfl,rfl,rfl⟩,?_⟩,λi v s' Q E hi hq=>?_,λh' tk hk=>?_⟩
      ·obtain⟨o,ho,hc⟩:=p.isList;exact⟨o,HK _ ho,hc⟩
      ·have hb:bs[i]?.map KN=gV v:=by rw[<- HP,<- hits]; simpa using hi
       cases q:bs[i]? with
       | none=>rw[q]at hb; cases hb
       | some b=>
        rw[q]at hb;cases hb;have eb:bs.getD i false=b:=by simp[q]
        have hq:Q (bs.getD i false) s':=hq;rw[eb]at hq;exact JW hq
      ·refine⟨.bl (fb bs),H,A,I.kept (λb o e=>hk b o (λz=>?_) (HK _ e)),rfl,.refl,so,.bl⟩
       have hb:=Ik e;rw[Im.mp z]at hb;exact Jr _ hb
     ·cases e
    | _=>cases e
theorem uB (hh:X.A.handled=td):LCall X (.builtin "all") zH:=
 CJ (fb:=λbs=>bs.all id) (λxs S=>rfl) (λ{s x Q E bs} h=>call_all_walk (JN h (λit s₂ ⟨I,fp,wr,P,St',a,b,c,d,f⟩=>⟨I,fp,wr,_,P,St',_,a,b,c,d,λh' tk hk=>by rw[uA]; exact f h' tk hk⟩) λ_ _ e=>e)) hh
end
noncomputable abbrev FA:=Fm->aa->HI (HC W×aa)
noncomputable abbrev FT:=Fm->aa->HI (Ir×aa)
inductive Out where
 | nx (ρ:Fm)|rt (w:W)|bk (ρ:Fm)|ct (ρ:Fm)
noncomputable abbrev FS:=Fm->aa->HI (Out×aa)
section
variable (X:Cx)
noncomputable def tE (f:FE):TE:=λσ H Q=>∃A ρ S w S',EnvRel X.K A H ρ σ/\StoreOk X.w X.K A H S/\f ρ S=gV (w,S')/\∀v H',EndV X.w X.K A H S' w v H'->Q v H'
noncomputable def EndB (A:HC HN)(H:Hp)(S':aa)(k:Ir):Ir->Hp->Prop:=λb H'=>b=k/\∃A',Ext X.K A H A' H'/\StoreOk X.w X.K A' H' S'
noncomputable def tT (f:FT):TT:=λσ H Q=>∃A ρ S k S',EnvRel X.K A H ρ σ/\StoreOk X.w X.K A H S/\f ρ S=gV (k,S')/\∀b H',EndB X A H S' k b H'->Q b H'
noncomputable def CK (A:HC HN)(H:Hp)(S':aa)(ws:HC W):HC V->Hp->Prop:=λvs H'=>∃A',Ext X.K A H A' H'/\StoreOk X.w X.K A' H' S'/\RelL X.K A' H' ws vs
noncomputable def tA (f:FA):TA:=λσ H Q=>∃A ρ S ws S',EnvRel X.K A H ρ σ/\StoreOk X.w X.K A H S/\f ρ S=gV (ws,S')/\∀vs H',CK X A H S' ws vs H'->Q vs H'
noncomputable def EndS (A:HC HN)(H:Hp)(o:Out)(S':aa):Ends where
 nx:=λσ' H'=>∃ρ' A',o=.nx ρ'/\Ext X.K A H A' H'/\StoreOk X.w X.K A' H' S'/\EnvRel X.K A' H' ρ' σ'
 rt:=λv H'=>∃w A',o=.rt w/\Ext X.K A H A' H'/\StoreOk X.w X.K A' H' S'/\Rel X.K A' H' w v
 bk:=λσ' H'=>∃ρ' A',o=.bk ρ'/\Ext X.K A H A' H'/\StoreOk X.w X.K A' H' S'/\EnvRel X.K A' H' ρ' σ'
 ct:=λσ' H'=>∃ρ' A',o=.ct ρ'/\Ext X.K A H A' H'/\StoreOk X.w X.K A' H' S'/\EnvRel X.K A' H' ρ' σ'
structure Imp (E D:Ends):Prop where
 nx:∀σ H,E.nx σ H->D.nx σ H
 rt:∀v H,E.rt v H->D.rt v H
 bk:∀σ H,E.bk σ H->D.bk σ H
 ct:∀σ H,E.ct σ H->D.ct σ H
noncomputable def tS (f:FS):TS:=λD σ H=>∃A ρ S o S',EnvRel X.K A H ρ σ/\StoreOk X.w X.K A H S/\f ρ S=gV (o,S')/\Imp (EndS X A H o S') D
noncomputable abbrev GE (e:Io)(f:FE):Prop:=PE X e (tE X f)
noncomputable abbrev GT (e:Io)(f:FT):Prop:=PT X e (tT X f)
noncomputable abbrev GW (e:Io)(f:FT):Prop:=PW X e (tT X f)
noncomputable abbrev GA (es:HC Io)(f:FA):Prop:=PA X es (tA X f)
noncomputable abbrev GS (st:Kt)(f:FS):Prop:=PS X st (tS X f)
noncomputable abbrev GSs (sts:HC Kt)(f:FS):Prop:=PSs X sts (tS X f)
end
theorem Imp.trans {E D F:Ends}(a:Imp E D)(b:Imp D F):Imp E F:=⟨λ_ _ h=>b.nx _ _ (a.nx _ _ h),λ_ _ h=>b.rt _ _ (a.rt _ _ h),λ_ _ h=>b.bk _ _ (a.bk _ _ h),λ_ _ h=>b.ct _ _ (a.ct _ _ h)⟩
section
variable{X:Cx}
theorem GE.of {e:Io}{t:TE}{f:FE}(h:PE X e t)(hf:∀(σ:L2.St) (H:Hp) (A:HC HN) (ρ:Fm) (S:aa) (w:W) (S':aa),EnvRel X.K A H ρ σ->StoreOk X.w X.K A H S->f ρ S=gV (w,S')->∀Q:VK,(∀v H',EndV X.w X.K A H S' w v H'->Q v H')->t σ H Q):GE X e f:=
 λpins s σ H Q I ⟨A,ρ,S,w,S',er,so,e1,hq⟩=>h pins s σ H Q I (hf σ H A ρ S w S' er so e1 Q hq)
theorem GT.of {e:Io}{t:TT}{f:FT}(h:PT X e t)(hf:∀(σ:L2.St) (H:Hp) (A:HC HN) (ρ:Fm) (S:aa) (k:Ir) (S':aa),EnvRel X.K A H ρ σ->StoreOk X.w X.K A H S->f ρ S=gV (k,S')->∀Q:Ir->Hp->Prop,(∀b H',EndB X A H S' k b H'->Q b H')->t σ H Q):GT X e f:=
 λpins s σ H Q I ⟨A,ρ,S,w,S',er,so,e1,hq⟩=>h pins s σ H Q I (hf σ H A ρ S w S' er so e1 Q hq)
theorem GW.of {e:Io}{t:TT}{f:FT}(h:PW X e t)(hf:∀(σ:L2.St) (H:Hp) (A:HC HN) (ρ:Fm) (S:aa) (k:Ir) (S':aa),EnvRel X.K A H ρ σ->StoreOk X.w X.K A H S->f ρ S=gV (k,S')->∀Q:Ir->Hp->Prop,(∀b H',EndB X A H S' k b H'->Q b H')->t σ H Q):GW X e f:=
 λwh pins s σ H Q I ⟨A,ρ,S,w,S',er,so,e1,hq⟩=>h wh pins s σ H Q I (hf σ H A ρ S w S' er so e1 Q hq)
theorem GA.of {es:HC Io}{t:TA}{f:FA}(h:PA X es t)(hf:∀(σ:L2.St) (H:Hp) (A:HC HN) (ρ:Fm) (S:aa) (ws:HC W) (S':aa),EnvRel X.K A H ρ σ->StoreOk X.w X.K A H S->f ρ S=gV (ws,S')->∀Q:HC V->Hp->Prop,(∀vs H',CK X A H S' ws vs H'->Q vs H')->t σ H Q):GA X es f:=
 λpos pins s σ H Q I ⟨A,ρ,S,w,S',er,so,e1,hq⟩=>h pos pins s σ H Q I (hf σ H A ρ S w S' er so e1 Q hq)
theorem GS.of {st:Kt}{t:TS}{f:FS}(h:PS X st t)(hf:∀(σ:L2.St) (H:Hp) (A:HC HN) (ρ:Fm) (S:aa) (o:Out) (S':aa),EnvRel X.K A H ρ σ->StoreOk X.w X.K A H S->f ρ S=gV (o,S')->∀D:Ends,Imp (EndS X A H o S') D->t D σ H):GS X st f:=
 λpins s σ H D I ⟨A,ρ,S,o,S',er,so,e1,hq⟩=>h pins s σ H D I (hf σ H A ρ S o S' er so e1 D hq)
theorem GSs.of {st:HC Kt}{t:TS}{f:FS}(h:PSs X st t)(hf:∀(σ:L2.St) (H:Hp) (A:HC HN) (ρ:Fm) (S:aa) (o:Out) (S':aa),EnvRel X.K A H ρ σ->StoreOk X.w X.K A H S->f ρ S=gV (o,S')->∀D:Ends,Imp (EndS X A H o S') D->t D σ H):GSs X st f:=
 λpins s σ H D I ⟨A,ρ,S,o,S',er,so,e1,hq⟩=>h pins s σ H D I (hf σ H A ρ S o S' er so e1 D hq)
theorem EndV.after {A A1:HC HN}{H H1:Hp}{S':aa}{w:W}{v:V}{H':Hp}(e:Ext X.K A H A1 H1)(h:EndV X.w X.K A1 H1 S' w v H'):EndV X.w X.K A H S' w v H':=by
 obtain⟨A',x,y,z⟩:=h;exact⟨A',e.trans x,y,z⟩
theorem EndB.after {A A1:HC HN}{H H1:Hp}{S':aa}{k b:Ir}{H':Hp}(e:Ext X.K A H A1 H1)(h:EndB X A1 H1 S' k b H'):EndB X A H S' k b H':=by
 obtain⟨h1,A',x,y⟩:=h;exact⟨h1,A',e.trans x,y⟩
theorem EndS.after {A A1:HC HN}{H H1:Hp}{S':aa}{o:Out}(e:Ext X.K A H A1 H1):Imp (EndS X A1 H1 o S') (EndS X A H o S'):=
 ⟨λ_ _ ⟨ρ',A',a,b,c,d⟩=>⟨ρ',A',a,e.trans b,c,d⟩,λ_ _ ⟨ρ',A',a,b,c,d⟩=>⟨ρ',A',a,e.trans b,c,d⟩,λ_ _ ⟨ρ',A',a,b,c,d⟩=>⟨ρ',A',a,e.trans b,c,d⟩,λ_ _ ⟨ρ',A',a,b,c,d⟩=>⟨ρ',A',a,e.trans b,c,d⟩⟩
noncomputable def fC (w:W):FE:=λ_ S=>gV (w,S)
noncomputable def fV (i:HJ):FE:=λρ S=>match ρ[i]? with
 | some (gV w)=>gV (w,S)
 | _=>td
theorem pN {e:Io}{v:V}{w:W}(h:PE X e (tC v))(r:∀A H,Rel X.K A H w v):GE X e (fC w):=
 GE.of h λσ H A ρ S w' S' er so e Q hq=>by cases e; exact hq _ _ (.here so (r A H))
theorem GL {i:HJ}{e:Io}(h:PE X e (D0 i)):GE X e (fV i):=GE.of h λσ H A ρ S w S' er so e Q hq=>by
 unfold fV at e;split at e
 ·rename_i w' hw;cases e;obtain⟨v,h1,h2⟩:=er.2 i _ hw;exact⟨v,h1,hq _ _ (.here so h2)⟩
 ·cases e
noncomputable def zI (g:W->W->aa->HI (W×aa))(fa fb:FE):FE:=λρ S=>match fa ρ S with
 | some (x,S1)=>match fb ρ S1 with
  | some (y,S2)=>g x y S2
  | none=>td
 | none=>td
theorem F1 {fa fb:FE}{g:W->W->aa->HI (W×aa)}{ρ:Fm}{S:aa}{r:W×aa}(e:zI g fa fb ρ S=gV r):∃x S1 y S2,fa ρ S=gV (x,S1)/\fb ρ S1=gV (y,S2)/\g x y S2=gV r:=by
 unfold zI at e;split at e
 ·rename_i x S1 h1;split at e
  ·rename_i y S2 h2;exact⟨x,S1,y,S2,h1,h2,e⟩
  ·cases e
 ·cases e
theorem iB {fa fb:FE}{ρ:Fm}{S S1 S2:aa}{x y:W}{σ:L2.St}{H:Hp}{A:HC HN}{R:V->V->Hp->Prop}(er:EnvRel X.K A H ρ σ)(so:StoreOk X.w X.K A H S)(h1:fa ρ S=gV (x,S1))(h2:fb ρ S1=gV (y,S2))
  (h:∀a b H2 A2,Ext X.K A H A2 H2->StoreOk X.w X.K A2 H2 S2->Rel X.K A2 H2 x a->Rel X.K A2 H2 y b->R a b H2):tE X fa σ H λa H1=>tE X fb σ H1 λb H2=>R a b H2:=by
 refine⟨A,ρ,S,x,S1,er,so,h1,λa H1 ⟨A1,e1,o1,r1⟩=>?_⟩
 refine⟨A1,ρ,S1,y,S2,er.mono e1,o1,h2,λb H2 ⟨A2,e2,o2,r2⟩=>?_⟩
 exact h a b H2 A2 (e1.trans e2) o2 (r1.mono e2) r2
theorem LOp.opr {f:HE->HE->Pi HE}{g:W->W->aa->HI (W×aa)}(h:LOp X f g):OpR X f (λa b H Q=>∃A S x y w S',StoreOk X.w X.K A H S/\Rel X.K A H x a/\Rel X.K A H y b/\g x y S=gV (w,S')/\∀v H',EndV X.w X.K A H S' w v H'->Q v H'):=by
 intro pins s σ H a b u v Q I ru rv ⟨A,S,x,y,w,S',so,rx,ry,e,hq⟩;exact b8 (h pins s σ H A S x y a b u v w S' I so rx ru ry rv e) λu' s' ⟨v',H',A',I',r',e1,o1,z1⟩=>⟨v',H',I',r',hq v' H' ⟨A',e1,o1,z1⟩⟩
theorem Bw {a b:Io}{op:NE}{pos:J9}{fa fb:FE}{g:W->W->aa->HI (W×aa)}(ho:LOp X (binaryOp op) g)(ha:GE X a fa)(hb:GE X b fb):GE X (.BinOp a op b pos) (zI g fa fb):=
 GE.of (El ho.opr ha hb) λσ H A ρ S w S' er so e Q hq=>by
  obtain⟨x,S1,y,S2,h1,h2,h3⟩:=F1 e;exact iB er so h1 h2 λa b H2 A2 e2 o2 r1 r2=>⟨A2,S2,x,y,w,S',o2,r1,r2,h3,λv H' z=>hq v H' (z.after e2)⟩
noncomputable def wp (fa:FE):FE:=λρ S=>match fa ρ S with
 | some (.int i,S1)=>gV (.int (-i),S1)
 | _=>td
theorem wq {a:Io}{pos:J9}{fa:FE}(ha:GE X a fa):GE X (.UnaryOp .USub a pos) (wp fa):=
 GE.of (Em Cq ha) λσ H A ρ S w S' er so e Q hq=>by
  unfold wp at e;split at e
  ·rename_i i S1 h1;cases e;refine⟨A,ρ,S,_,_,er,so,h1,λv H1 ⟨A1,e1,o1,r1⟩=>?_⟩
   cases r1;exact⟨_,rfl,hq _ _ ⟨A1,e1,o1,.int⟩⟩
  ·cases e
noncomputable def zJ (o:COp)(fa fb:FE):FE:=zI (cp o) fa fb
theorem CL {a b:Io}{o:COp}{pos:J9}{fa fb:FE}(hu:X.A.units+g9 < cLine)(ha:GE X a fa)(hb:GE X b fb)(hm:behindInMarks o.py b=false):GE X (.Compare a [o.py] [b] pos) (zJ o fa fb):=
 GE.of (yT (pA hu o).opr ha hb hm) λσ H A ρ S w S' er so e Q hq=>by
  obtain⟨x,S1,y,S2,h1,h2,h3⟩:=F1 e;exact iB er so h1 h2 λa b H2 A2 e2 o2 r1 r2=>⟨A2,S2,x,y,w,S',o2,r1,r2,h3,λv H' z=>hq v H' (z.after e2)⟩
noncomputable def wt (f:FE):FT:=λρ S=>match f ρ S with
 | some (.bl k,S')=>gV (k,S')
 | _=>td
theorem CM {a b:Io}{o:COp}{pos:J9}{fa fb:FE}(hu:X.A.units+g9 < cLine)(ha:GE X a fa)(hb:GE X b fb)(hm:behindInMarks o.py b=false):GT X (.Compare a [o.py] [b] pos) (wt (zJ o fa fb)):=
 GT.of (yU (pA hu o).opr ha hb hm) λσ H A ρ S k S' er so e Q hq=>by
  unfold wt at e;split at e
  ·rename_i k' S'' h0;cases e;obtain⟨x,S1,y,S2,h1,h2,h3⟩:=F1 h0;refine iB er so h1 h2 λa b H2 A2 e2 o2 r1 r2=>⟨A2,S2,x,y,_,_,o2,r1,r2,h3,λv H' ⟨A',z1,z2,z3⟩=>?_⟩
   cases z3;exact⟨k,rfl,hq _ _ ⟨rfl,A',e2.trans z1,z2⟩⟩
  ·cases e
noncomputable def gI (f:FE):FT:=λρ S=>match f ρ S with
 | some (w,S')=>(eA S' w).map λk=>(k,S')
 | none=>td
theorem cO {e:Io}{f:FE}(h:GE X e f)(he:∀whole,isTrue e X.env whole=(do let v <- whole; standAt e.pos; holding [v] (truthy v))):GT X e (gI f):=by
 intro pins s σ H Q I ⟨A,ρ,S,k,S',er,so,e1,hq⟩;unfold gI at e1;split at e1
 ·rename_i w S1 h1;rw[HG]at e1;obtain⟨k',ek,e2⟩:=e1;cases e2;refine isTrue_plain (b8 (h pins s σ H (EndV X.w X.K A H _ w) I ⟨A,ρ,S,w,_,er,so,h1,λ_ _ z=>z⟩) λv s1 ⟨x,H1,I1,r1,A1,e1,o1,z1⟩=>?_) (he _)
  exact GJ I1 o1 z1 r1 ek λs' I'=>⟨H1,I',hq _ _ ⟨rfl,A1,e1,o1⟩⟩
 ·cases e1
noncomputable def wu (f g:FT):FT:=λρ S=>match f ρ S with
 | some (true,S1)=>g ρ S1
 | some (false,S1)=>gV (false,S1)
 | none=>td
noncomputable def EK (f g:FT):FT:=λρ S=>match f ρ S with
 | some (true,S1)=>gV (true,S1)
 | some (false,S1)=>g ρ S1
 | none=>td
noncomputable def zK (f:FT):FT:=λρ S=>match f ρ S with
 | some (k,S1)=>gV (!k,S1)
 | none=>td
theorem ww {f g:FT}{σ:L2.St}{H:Hp}{A:HC HN}{ρ:Fm}{S:aa}{k:Ir}{S':aa}(er:EnvRel X.K A H ρ σ)(so:StoreOk X.w X.K A H S)(e:wu f g ρ S=gV (k,S'))(Q:Ir->Hp->Prop)(hq:∀b H',EndB X A H S' k b H'->Q b H') :
  D2 (tT X f) (tT X g) σ H Q:=by
 unfold wu at e;split at e
 ·rename_i S1 h1;refine⟨A,ρ,S,true,S1,er,so,h1,λb H1 ⟨z0,A1,z1,z2⟩=>?_⟩
  subst z0;rw[Iv rfl];exact⟨A1,ρ,S1,k,S',er.mono z1,z2,e,λb H' q=>hq b H' (q.after z1)⟩
 ·rename_i S1 h1;cases e;refine⟨A,ρ,S,false,_,er,so,h1,λb H1 ⟨z0,A1,z1,z2⟩=>?_⟩
  subst z0;rw[IK Ip];exact hq _ _ ⟨rfl,A1,z1,z2⟩
 ·cases e
theorem zL {f g:FT}{σ:L2.St}{H:Hp}{A:HC HN}{ρ:Fm}{S:aa}{k:Ir}{S':aa}(er:EnvRel X.K A H ρ σ)(so:StoreOk X.w X.K A H S)(e:EK f g ρ S=gV (k,S'))(Q:Ir->Hp->Prop)(hq:∀b H',EndB X A H S' k b H'->Q b H') :
  Hh (tT X f) (tT X g) σ H Q:=by
 unfold EK at e;split at e
 ·rename_i S1 h1;cases e;refine⟨A,ρ,S,true,_,er,so,h1,λb H1 ⟨z0,A1,z1,z2⟩=>?_⟩
  subst z0;rw[Iv rfl];exact hq _ _ ⟨rfl,A1,z1,z2⟩
 ·rename_i S1 h1;refine⟨A,ρ,S,false,S1,er,so,h1,λb H1 ⟨z0,A1,z1,z2⟩=>?_⟩
  subst z0;rw[IK Ip];exact⟨A1,ρ,S1,k,S',er.mono z1,z2,e,λb H' q=>hq b H' (q.after z1)⟩
 ·cases e
theorem zM {a:Io}{pos:J9}{f:FT}(h:GT X a f):GW X (.BoolOp .And [a] pos) f:=yK h
theorem CN {a:Io}{pos:J9}{f:FT}(h:GT X a f):GW X (.BoolOp .Or [a] pos) f:=B0 h
theorem CO {a b:Io}{r:HC Io}{pos:J9}{f g:FT}(h:GT X a f)(h2:GW X (.BoolOp .And (b::r) pos) g):GW X (.BoolOp .And (a::b::r) pos) (wu f g):=
 GW.of (B1 h h2) λσ H A ρ S k S' er so e Q hq=>ww er so e Q hq
theorem EL {a b:Io}{r:HC Io}{pos:J9}{f g:FT}(h:GT X a f)(h2:GW X (.BoolOp .Or (b::r) pos) g):GW X (.BoolOp .Or (a::b::r) pos) (EK f g):=
 GW.of (D6 h h2) λσ H A ρ S k S' er so e Q hq=>zL er so e Q hq
theorem CP {a:Io}{pos:J9}{f:FT}(h:GT X a f):GT X (.UnaryOp .Not a pos) (zK f):=
 GT.of (B2 h) λσ H A ρ S k S' er so e Q hq=>by
  unfold zK at e;split at e
  ·rename_i k1 S1 h1;cases e;refine⟨A,ρ,S,k1,_,er,so,h1,λb H1 ⟨z0,A1,z1,z2⟩=>?_⟩
   subst z0;exact hq _ _ ⟨rfl,A1,z1,z2⟩
  ·cases e
noncomputable def sI (f g:FE):FE:=λρ S=>match f ρ S with
 | some (.bl true,S1)=>g ρ S1
 | some (.bl false,S1)=>gV (.bl false,S1)
 | _=>td
noncomputable def zN (f g:FE):FE:=λρ S=>match f ρ S with
 | some (.bl true,S1)=>gV (.bl true,S1)
 | some (.bl false,S1)=>g ρ S1
 | _=>td
noncomputable def sJ (f:FE):FE:=λρ S=>match f ρ S with
 | some (.bl k,S1)=>gV (.bl (!k),S1)
 | _=>td
theorem CQ {a:Io}{op:PM}{pos:J9}{f:FE}(h:GE X a f):GE X (.BoolOp op [a] pos) f:=B3 h
theorem CS {a b:Io}{r:HC Io}{pos:J9}{f g:FE}(h:GE X a f)(h2:GE X (.BoolOp .And (b::r) pos) g):GE X (.BoolOp .And (a::b::r) pos) (sI f g):=
 GE.of (B4 h h2) λσ H A ρ S w S' er so e Q hq=>by
  unfold sI at e;split at e
  ·rename_i S1 h1;refine⟨A,ρ,S,_,S1,er,so,h1,λv H1 ⟨A1,z1,z2,z3⟩=>?_⟩
   cases z3;refine⟨true,rfl,?_⟩;rw[Iv rfl];exact⟨A1,ρ,S1,w,S',er.mono z1,z2,e,λb H' q=>hq b H' (q.after z1)⟩
  ·rename_i S1 h1;cases e;refine⟨A,ρ,S,_,_,er,so,h1,λv H1 ⟨A1,z1,z2,z3⟩=>?_⟩
   cases z3;refine⟨false,rfl,?_⟩;rw[IK Ip];exact hq _ _ ⟨A1,z1,z2,.bl⟩
  ·cases e
theorem EM {a b:Io}{r:HC Io}{pos:J9}{f g:FE}(h:GE X a f)(h2:GE X (.BoolOp .Or (b::r) pos) g):GE X (.BoolOp .Or (a::b::r) pos) (zN f g):=
 GE.of (Eb h h2) λσ H A ρ S w S' er so e Q hq=>by
  unfold zN at e;split at e
  ·rename_i S1 h1;cases e;refine⟨A,ρ,S,_,_,er,so,h1,λv H1 ⟨A1,z1,z2,z3⟩=>?_⟩
   cases z3;refine⟨true,rfl,?_⟩;rw[Iv rfl];exact hq _ _ ⟨A1,z1,z2,.bl⟩
  ·rename_i S1 h1;refine⟨A,ρ,S,_,S1,er,so,h1,λv H1 ⟨A1,z1,z2,z3⟩=>?_⟩
   cases z3;refine⟨false,rfl,?_⟩;rw[IK Ip];exact⟨A1,ρ,S1,w,S',er.mono z1,z2,e,λb H' q=>hq b H' (q.after z1)⟩
  ·cases e
theorem CT {a:Io}{pos:J9}{f:FE}(h:GE X a f):GE X (.UnaryOp .Not a pos) (sJ f):=
 GE.of (B5 h) λσ H A ρ S w S' er so e Q hq=>by
  unfold sJ at e;split at e
  ·rename_i k1 S1 h1;cases e;refine⟨A,ρ,S,_,_,er,so,h1,λb H1 ⟨A1,z1,z2,z3⟩=>?_⟩
   cases z3;exact⟨_,rfl,hq _ _ ⟨A1,z1,z2,.bl⟩⟩
  ·cases e
noncomputable def zO (c:FT)(f g:FE):FE:=λρ S=>match c ρ S with
 | some (true,S1)=>f ρ S1
 | some (false,S1)=>g ρ S1
 | none=>td
theorem CU {c a b:Io}{pos:J9}{fc:FT}{f g:FE}(hc:GT X c fc)(ha:GE X a f)(hb:GE X b g):GE X (.IfExp c a b pos) (zO fc f g):=
 GE.of (vp hc ha hb) λσ H A ρ S w S' er so e Q hq=>by
  unfold zO at e;split at e
  ·rename_i S1 h1;refine⟨A,ρ,S,_,S1,er,so,h1,λb H1 ⟨z0,A1,z1,z2⟩=>?_⟩
   subst z0;rw[Iv rfl];exact⟨A1,ρ,S1,w,S',er.mono z1,z2,e,λb H' q=>hq b H' (q.after z1)⟩
  ·rename_i S1 h1;refine⟨A,ρ,S,_,S1,er,so,h1,λb H1 ⟨z0,A1,z1,z2⟩=>?_⟩
   subst z0;rw[IK Ip];exact⟨A1,ρ,S1,w,S',er.mono z1,z2,e,λb H' q=>hq b H' (q.after z1)⟩
  ·cases e
noncomputable def hW:FA:=λ_ S=>gV ([],S)
noncomputable def eC (f:FE)(g:FA):FA:=λρ S=>match f ρ S with
 | some (w,S1)=>match g ρ S1 with
  | some (ws,S2)=>gV (w::ws,S2)
  | none=>td
 | none=>td
theorem CV:GA X [] hW:=GA.of vB λσ H A ρ S ws S' er so e Q hq=>by cases e; exact hq _ _ ⟨A,.refl,so,.nil⟩
theorem zP {e:Io}{es:HC Io}{f:FE}{g:FA}(h:GE X e f)(h2:GA X es g)(hs:starEach (e::es) X.env=(false,eval e X.env)::starEach es X.env):GA X (e::es) (eC f g):=
 GA.of (nv h h2 hs) λσ H A ρ S ws S' er so e Q hq=>by
  unfold eC at e;split at e
  ·rename_i w S1 h1;split at e
   ·rename_i ws2 S2 h2;cases e;refine⟨A,ρ,S,w,S1,er,so,h1,λv H1 ⟨A1,z1,z2,z3⟩=>?_⟩
    refine⟨A1,ρ,S1,ws2,_,er.mono z1,z2,h2,λvs H2 ⟨A2,y1,y2,y3⟩=>?_⟩
    exact hq _ _ ⟨A2,z1.trans y1,y2,.cons (z3.mono y1) y3⟩
   ·cases e
  ·cases e
noncomputable def wx (f:FA):FE:=λρ S=>match f ρ S with
 | some (ws,S1)=>rg S1 ws
 | none=>td
noncomputable def wy (f:FA):FE:=λρ S=>match f ρ S with
 | some (ws,S1)=>lG S1 ws
 | none=>td
theorem wz {es:HC Io}{k:HJ}{pos:J9}{f:FA}(h:GA X es f):GE X (.Tuple es k pos) (wx f):=
 GE.of (Ct h) λσ H A ρ S w S' er so e Q hq=>by
  unfold wx at e;split at e
  ·rename_i ws S1 h1;obtain⟨hl,rfl,rfl⟩:=sn e;refine⟨A,ρ,S,ws,_,er,so,h1,λvs H1 ⟨A1,z1,z2,z3⟩=>⟨by rw[<- z3.length]; exact hl,λp hp=>?_⟩⟩
   exact hq _ _ (EndV.after z1 (.tup z2 z3 hp))
  ·cases e
theorem wD {es:HC Io}{pos:J9}{f:FA}(h:GA X es f):GE X (.List es pos) (wy f):=
 GE.of (Cu h) λσ H A ρ S w S' er so e Q hq=>by
  unfold wy at e;split at e
  ·rename_i ws S1 h1;obtain⟨hl,rfl,rfl⟩:=j4 e;refine⟨A,ρ,S,ws,_,er,so,h1,λvs H1 ⟨A1,z1,z2,z3⟩=>⟨by rw[<- z3.length]; exact hl,λp hp=>?_⟩⟩
   exact hq _ _ (EndV.after z1 (.lst z2 z3 hp))
  ·cases e
noncomputable def jL (g:HC W->aa->HI (W×aa))(f:FA):FE:=λρ S=>match f ρ S with
 | some (ws,S1)=>g ws S1
 | none=>td
theorem LCall.callr {v:HE}{g:HC W->aa->HI (W×aa)}(h:LCall X v g):CallR X v (λvs H Q=>∃A S ws w S',StoreOk X.w X.K A H S/\RelL X.K A H ws vs/\g ws S=gV (w,S')/\∀v H',EndV X.w X.K A H S' w v H'->Q v H'):=by
 intro pins s σ H vs us Q I rv ⟨A,S,ws,w,S',so,rl,e,hq⟩;exact b8 (h pins s σ H A S ws vs us w S' I so rl rv e) λu' s' ⟨v',H',A',I',r',e1,o1,z1⟩=>⟨v',H',I',r',hq v' H' ⟨A',e1,o1,z1⟩⟩
theorem mN {g:HC W->aa->HI (W×aa)}{f:FA}{σ:L2.St}{H:Hp}{A:HC HN}{ρ:Fm}{S:aa}{w:W}{S':aa}(er:EnvRel X.K A H ρ σ)(so:StoreOk X.w X.K A H S)(e:jL g f ρ S=gV (w,S'))(Q:VK)(hq:∀v H',EndV X.w X.K A H S' w v H'->Q v H') :
  tA X f σ H λvs H1=>∃A S ws w S',StoreOk X.w X.K A H1 S/\RelL X.K A H1 ws vs/\g ws S=gV (w,S')/\∀v H',EndV X.w X.K A H1 S' w v H'->Q v H':=by
 unfold jL at e;split at e
 ·rename_i ws S1 h1;exact⟨A,ρ,S,ws,S1,er,so,h1,λvs H1 ⟨A1,z1,z2,z3⟩=>⟨A1,S1,ws,w,S',z2,z3,e,λv H' q=>hq v H' (q.after z1)⟩⟩
 ·cases e
theorem sK {id:Jp}{x:Ih}{e:Io}{es:HC Io}{p pos:J9}{f:FA}{g:HC W->aa->HI (W×aa)}(hc:LCall X (.builtin id) g)(hg:Gl X x)(hm:X.mg x=td)(hv:bootBuiltins x=gV (.builtin id))(ha:GA X (e::es) f)
  (hn:x≠"__name__") (hdb:(x==("__debug__" : Ih))=false) (hs:starEach (e::es) X.env=(false,eval e X.env)::starEach es X.env) (hpl:(backTo pos (starEach es X.env)).any (·.1)=false):GE X (.Call (.Name x p) (e::es) [] pos) (jL g f):=
 GE.of (pd hc.callr hg hm hv ha hn hdb hs hpl) λσ H A ρ S w S' er so e Q hq=>mN er so e Q hq
theorem sL {id:Jp}{x:Ih}{e:Io}{es:HC Io}{p pos:J9}{f:FA}{g:HC W->aa->HI (W×aa)}(hc:LCall X (.type id) g)(hg:Gl X x)(hm:X.mg x=td)(hv:bootBuiltins x=gV (.type id))(ha:GA X (e::es) f)
  (hn:x≠"__name__") (hdb:(x==("__debug__" : Ih))=false) (hs:starEach (e::es) X.env=(false,eval e X.env)::starEach es X.env) (hpl:(backTo pos (starEach es X.env)).any (·.1)=false):GE X (.Call (.Name x p) (e::es) [] pos) (jL g f):=
 GE.of (t4 hc.callr hg hm hv ha hn hdb hs hpl) λσ H A ρ S w S' er so e Q hq=>mN er so e Q hq
end
noncomputable def tyOk (T:Jp)(S:aa):W->Ir
 | .str _=>T == "str"
 | .ref i=>(T == "list" && (g8 S i).isSome)||(T == "dict" && (jT S i).isSome)
 | _=>false
noncomputable def Bx (T:Jp)(g:W->HC W->aa->HI (W×aa))(fo:FE)(f:FA):FE:=λρ S=>match fo ρ S with
 | some (x,S1)=>if tyOk T S1 x then match f ρ S1 with
  | some (ws,S2)=>g x ws S2
  | none=>td
  else td
 | none=>td
noncomputable def GM (fa fb:FE):FE:=zI j6 fa fb
noncomputable abbrev FO:=Fm->aa->HI (HI HY×aa)
noncomputable def CW:FO:=λ_ S=>gV (td,S)
noncomputable def sM (f:FE):FO:=λρ S=>match f ρ S with
 | some (.int i,S1)=>gV (gV i,S1)
 | _=>td
noncomputable def EN (fa:FE)(fl fh:FO):FE:=λρ S=>match fa ρ S with
 | some (x,S1)=>match fl ρ S1 with
  | some (lo,S2)=>match fh ρ S2 with
   | some (hi,S3)=>mE x lo hi S3
   | none=>td
  | none=>td
 | none=>td
section
variable{X:Cx}
theorem LMeth.mtr {id:Jp}{g:W->HC W->aa->HI (W×aa)}(h:LMeth X id g):MtR X id (λa vs H Q=>∃A S x ws w S',StoreOk X.w X.K A H S/\Rel X.K A H x a/\RelL X.K A H ws vs/\g x ws S=gV (w,S')/\∀v H',EndV X.w X.K A H S' w v H'->Q v H'):=by
 intro pins s σ H a vs u us Q I ru rv ⟨A,S,x,ws,w,S',so,rx,rl,e,hq⟩;exact b8 (h pins s σ H A S x a u ws vs us w S' I so rx ru rl rv e) λu' s' ⟨v',H',A',I',r',e1,o1,z1⟩=>⟨v',H',I',r',hq v' H' ⟨A',e1,o1,z1⟩⟩
theorem tyOk.is {pins:HC (HN×JC)}{σ:L2.St}{s:HH}{A:HC HN}{H:Hp}{S:aa}{T:Jp}{x:W}{a:V}{v:HE}(I:Inv X pins σ H s)(so:StoreOk X.w X.K A H S)(r:Rel X.K A H x a)(rv:RelV a v)(h:tyOk T S x=true) :
  s.TypeIs v T/\∀b,v=.ref b->∃ob,s.heap.get? b=gV ob/\ob.dict=td:=by
 cases r with
 | str=>exact vK I rv (show GD X.K T (.str _) H from eq_of_beq h)
 | ref ea=>
  simp only[tyOk,JY,HL]at h;rcases h with⟨h1,h2⟩|⟨h1,h2⟩
  ·obtain⟨xs,hx⟩:=Jh.mp h2;obtain⟨vs,h3,_⟩:=cZ so hx ea;exact vK I rv (show GD X.K T (.ref _) H from .inl ⟨eq_of_beq h1,vs,h3⟩)
  ·obtain⟨kvs,hx⟩:=Jh.mp h2;obtain⟨xs,rd,_⟩:=fZ so hx ea;obtain⟨_,_,_,o,es,ep,q1,q2,q3,q4⟩:=cV I rd;have e:=eq_of_beq h1;subst e;obtain rfl:v=IS _:=rv;exact⟨⟨o,q1,q2.1⟩,λb e=>by cases e; exact⟨o,q1,q2.2.1⟩⟩
 | _=>cases h
theorem CY {o:Io}{name:Ih}{apos cpos:J9}{T id:Jp}{g:W->HC W->aa->HI (W×aa)}{fo:FE}(pa:PlainAttrs T)(slot:Slot T name id)(hty:typeOf (.builtin id)=pure (.type "method_descriptor"))(hm:LMeth X id g)
  (ho:GE X o fo) (hbase:attributeBase o name X.env (eval o X.env)=eval o X.env) (hline:(apos.endLine==cpos.line)=true) :
  GE X (.Call (.Attribute o name apos) [] [] cpos) (Bx T g fo hW):=by
 intro pins s σ H Q I ⟨A,ρ,S,w,S',er,so,e,hq⟩;unfold Bx at e;split at e
 ·rename_i x S1 h1;split at e
  ·rename_i ht;dsimp only[hW]at e;refine wpAny_Call_method0_late hbase hline (b8 (ho pins s σ H (EndV X.w X.K A H S1 x) I ⟨A,ρ,S,_,_,er,so,h1,λ_ _ z=>z⟩) λv s1 ⟨a,H1,I1,r1,A1,e1,o1,z1⟩=>?_)
   obtain⟨t1,t2⟩:=tyOk.is I1 o1 z1 r1 ht;refine⟨T,id,pa,slot,hty,t1,t2,Mu rfl (PySem.evalArgs_none ?_)⟩;refine b8 (hm pins s1 σ H1 A1 S1 x a v [] [] [] w S' I1 o1 z1 r1 .nil .nil e) λu' s' ⟨v',H',A',I',r',e3,o3,z3⟩=>?_
   exact⟨v',H',I',r',hq v' H' ⟨A',e1.trans e3,o3,z3⟩⟩
  ·cases e
 ·cases e
theorem kK {o e:Io}{es:HC Io}{name:Ih}{apos cpos:J9}{T id:Jp}{g:W->HC W->aa->HI (W×aa)}{fo:FE}{f:FA}(pa:PlainAttrs T)(slot:Slot T name id)(hty:typeOf (.builtin id)=pure (.type "method_descriptor"))(hm:LMeth X id g)
  (ho:GE X o fo) (ha:GA X (e::es) f) (hbase:attributeBase o name X.env (eval o X.env)=eval o X.env)
  (hfew:((backTo cpos (starEach (e::es) X.env)).all (λx=>!x.1)&&(backToKw cpos (keywordEach [] X.env)).all (λx=>x.1.isSome)
   && decide ((e::es).length+([]:HC Ot).length+(if ([]:HC Ot).isEmpty then 0 else 1) < 30))=true)
  (hline:(apos.endLine==cpos.line)=true) (hs:starEach (e::es) X.env=(false,eval e X.env)::starEach es X.env) (hplain:(backTo cpos (starEach es X.env)).any (·.1)=false) :
  GE X (.Call (.Attribute o name apos) (e::es) [] cpos) (Bx T g fo f):=by
 intro pins s σ H Q I ⟨A,ρ,S,w,S',er,so,e,hq⟩;unfold Bx at e;split at e
 ·rename_i x S1 h1;split at e
  ·rename_i ht;split at e
   ·rename_i ws S2 h2;refine wpAny_Call_method_late hbase hfew hline rfl (b8 (ho pins s σ H (EndV X.w X.K A H S1 x) I ⟨A,ρ,S,_,_,er,so,h1,λ_ _ z=>z⟩) λv s1 ⟨a,H1,I1,r1,A1,e1,o1,z1⟩=>?_)
    obtain⟨t1,t2⟩:=tyOk.is I1 o1 z1 r1 ht;refine⟨T,id,pa,slot,hty,t1,t2,?_⟩;have hA:=ha cpos pins s1 σ H1 (CK X A1 H1 S2 ws) I1 ⟨A1,ρ,S1,ws,S2,er.mono e1,o1,h2,λ_ _ z=>z⟩
    rw[hs]at hA ⊢;refine Mu (by show(false||(backTo cpos (starEach es X.env)).any (·.1))=false; rw[hplain] <;> rfl) (Calls.evalArgs_plain ?_)
    refine b8 hA λus s2 ⟨vs,H2,I2,r2,A2,e2,o2,z2⟩=>?_
    refine b8 (hm pins s2 σ H2 A2 S2 x a v ws vs us w S' I2 o2 (z1.mono e2) r1 z2 r2 e) λu' s' ⟨v',H',A',I',r',e3,o3,z3⟩=>?_
    exact⟨v',H',I',r',hq v' H' ⟨A',(e1.trans e2).trans e3,o3,z3⟩⟩
   ·cases e
  ·cases e
 ·cases e
theorem LIx.ixr {g:W->W->aa->HI (W×aa)}(h:LIx X g):IxR X (λa b H Q=>∃A S x y w S',StoreOk X.w X.K A H S/\Rel X.K A H x a/\Rel X.K A H y b/\g x y S=gV (w,S')/\∀v H',EndV X.w X.K A H S' w v H'->Q v H'):=by
 intro value slice pins s σ H a b u v Q I ru rv ⟨A,S,x,y,w,S',so,rx,ry,e,hq⟩ hs;exact b8 (h value slice pins s σ H A S x y a b u v w S' I so rx ru ry rv e hs) λu' s' ⟨v',H',A',I',r',e1,o1,z1⟩=>⟨v',H',I',r',hq v' H' ⟨A',e1,o1,z1⟩⟩
theorem EO {a b:Io}{pos:J9}{fa fb:FE}(hu:X.A.units+10 < cLine)(ha:GE X a fa)(hb:GE X b fb)(hs:nz b):GE X (.Subscript a b pos) (GM fa fb):=
 GE.of (EB (GK hu).ixr ha hb hs) λσ H A ρ S w S' er so e Q hq=>by
  obtain⟨x,S1,y,S2,h1,h2,h3⟩:=F1 e;exact iB er so h1 h2 λa b H2 A2 e2 o2 r1 r2=>⟨A2,S2,x,y,w,S',o2,r1,r2,h3,λv H' z=>hq v H' (z.after e2)⟩
noncomputable def tO (X:Cx)(f:FO):TO:=λσ H Q=>∃A ρ S k S',EnvRel X.K A H ρ σ/\StoreOk X.w X.K A H S/\f ρ S=gV (k,S')/\∀H' A',Ext X.K A H A' H'->StoreOk X.w X.K A' H' S'->Q k H'
noncomputable abbrev GO (X:Cx)(e:HI Io)(f:FO):Prop:=PO X e (tO X f)
theorem zQ:GO X td CW:=λpins s σ H Q I ⟨A,ρ,S,k,S',er,so,e,hq⟩=>by
 cases e;exact yY pins s σ H Q I (hq H A .refl so)
theorem zR {e:Io}{f:FE}(h:GE X e f):GO X (gV e) (sM f):=λpins s σ H Q I ⟨A,ρ,S,k,S',er,so,e,hq⟩=>by
 unfold sM at e;split at e
 ·rename_i i S1 h1;cases e;refine yZ h pins s σ H Q I ⟨A,ρ,S,_,_,er,so,h1,λv H1 ⟨A1,z1,z2,z3⟩=>?_⟩
  cases z3;exact⟨i,rfl,hq H1 A1 z1 z2⟩
 ·cases e
theorem LSl.slr {g:W->HI HY->HI HY->aa->HI (W×aa)}(h:LSl X g):EA X (λa lo hi H Q=>∃A S x w S',StoreOk X.w X.K A H S/\Rel X.K A H x a/\g x lo hi S=gV (w,S')/\∀v H',EndV X.w X.K A H S' w v H'->Q v H'):=by
 intro pins s σ H a v vl vu lo hi sl Q I rv hs pl pu ⟨A,S,x,w,S',so,rx,e,hq⟩;obtain⟨T,id,h1,h2,h3⟩:=h pins s σ H A S x a v vl vu lo hi sl w S' I so rx rv hs pl pu e;exact⟨T,id,h1,h2,b8 h3 λu' s' ⟨v',H',A',I',r',e1,o1,z1⟩=>⟨v',H',I',r',hq v' H' ⟨A',e1,o1,z1⟩⟩⟩
theorem EQ {a:Io}{lo hi:HI Io}{p2 pos:J9}{fa:FE}{fl fh:FO}(ha:GE X a fa)(hl:GO X lo fl)(hh:GO X hi fh):GE X (.Subscript a (.Slice lo hi td p2) pos) (EN fa fl fh):=
 GE.of (vH Hw.slr ha hl hh) λσ H A ρ S w S' er so e Q hq=>by
  unfold EN at e;split at e
  ·rename_i x S1 h1;split at e
   ·rename_i l S2 h2;split at e
    ·rename_i h S3 h3;refine⟨A,ρ,S,x,S1,er,so,h1,λv H1 ⟨A1,z1,z2,z3⟩=>?_⟩
     refine⟨A1,ρ,S1,l,S2,er.mono z1,z2,h2,λH2 A2 y1 y2=>?_⟩
     refine⟨A2,ρ,S2,h,S3,er.mono (z1.trans y1),y2,h3,λH3 A3 x1 x2=>?_⟩
     exact⟨A3,S3,x,w,S',x2,(z3.mono y1).mono x1,e,λv H' q=>hq v H' (q.after ((z1.trans y1).trans x1))⟩
    ·cases e
   ·cases e
  ·cases e
noncomputable abbrev FF:=HC W->aa->HI (W×aa)
noncomputable def wF (wd:IM)(K:HS)(n:HJ)(g:FF):Sp:=λvs H Q _=>∃A S ws w S',StoreOk wd K A H S/\RelL K A H ws vs/\ws.length=n/\g ws S=gV (w,S')/\∀v H',EndV wd K A H S' w v H'->Q v H'
noncomputable def pO (n:HJ)(g:FF)(f:FA):FE:=λρ S=>match f ρ S with
 | some (ws,S1)=>if ws.length=n then g ws S1 else td
 | none=>td
theorem pP {n:HJ}{g:FF}{f:FA}{σ:L2.St}{H:Hp}{A:HC HN}{ρ:Fm}{S:aa}{w:W}{S':aa}{E:XK}(er:EnvRel X.K A H ρ σ)(so:StoreOk X.w X.K A H S)(e:pO n g f ρ S=gV (w,S'))(Q:VK)(hq:∀v H',EndV X.w X.K A H S' w v H'->Q v H') :
  vD (wF X.w X.K n g) [] E (tA X f) σ H Q:=by
 unfold pO at e;split at e
 ·rename_i ws S1 h1;split at e
  ·rename_i hl;refine⟨A,ρ,S,ws,S1,er,so,h1,λvs H1 ⟨A1,z1,z2,z3⟩=>?_⟩
   show wF X.w X.K n g (vs++[]) H1 Q E;rw[Jy];exact⟨A1,S1,ws,w,S',z2,z3,hl,e,λv H' q=>hq v H' (q.after z1)⟩
  ·cases e
 ·cases e
theorem CZ {k n:HJ}{fa:HN}{fd:Kb}{ps:HC Ih}{g:FF}{x:Ih}{e:Io}{es:HC Io}{p pos:J9}{f:FA}(F:FnOk X.prog X.w X.K X.mg X.base vg k fa fd ps (wF X.w X.K n g))(hr:Room k X.A)(hg:Gl X x)(hm:X.mg x=gV (.ref fa))(hk:Ju X.K (.ref fa)=true)
  (hb:Binds X.K fd ps []) (ha:GA X (e::es) f) (hdb:(x==("__debug__" : Ih))=false) (he:starEach (e::es) X.env=(false,eval e X.env)::starEach es X.env) (hpl:(backTo pos (starEach es X.env)).any (·.1)=false) :
  GE X (.Call (.Name x p) (e::es) [] pos) (pO n g f):=
 GE.of (yV F hr hg hm hk hb .nil Bs ha hdb he hpl) λσ H A ρ S w S' er so e Q hq=>pP er so e Q hq
theorem zS {k n:HJ}{fa:HN}{fd:Kb}{ps:HC Ih}{g:FF}{x:Ih}{p pos:J9}(F:FnOk X.prog X.w X.K X.mg X.base vg k fa fd ps (wF X.w X.K n g))(hr:Room k X.A)(hg:Gl X x)(hm:X.mg x=gV (.ref fa))(hk:Ju X.K (.ref fa)=true)
  (hb:Binds X.K fd ps []) (hdb:(x==("__debug__" : Ih))=false):GE X (.Call (.Name x p) [] [] pos) (pO n g hW):=
 GE.of (vF F hr hg hm hk hb .nil Bs hdb) λσ H A ρ S w S' er so e Q hq=>by
  obtain⟨A1,S1,ws,w1,S1',a1,a2,a3,a4,a5⟩:=pP (f:=hW) (E:=E0) er so e Q hq |> λ⟨A,ρ,S,ws,S',b1,b2,b3,b4⟩=>b4 [] H (by cases b3; exact⟨A,.refl,b2,.nil⟩)
  exact⟨A1,S1,ws,w1,S1',a1,a2,a3,a4,a5⟩
theorem zT:GSs X [] (λρ S=>gV (.nx ρ,S)):=GSs.of yL λσ H A ρ S o S' er so e D hd=>by cases e; exact hd.nx _ _ ⟨ρ,A,rfl,.refl,so,er⟩
noncomputable def zU (f g:FS):FS:=λρ S=>match f ρ S with
 | some (.nx ρ',S1)=>g ρ' S1
 | some (.rt w,S1)=>gV (.rt w,S1)
 | some (.bk ρ',S1)=>gV (.bk ρ',S1)
 | some (.ct ρ',S1)=>gV (.ct ρ',S1)
 | none=>td
theorem wH {st:Kt}{sts:HC Kt}{f g:FS}(h:GS X st f)(h2:GSs X sts g):GSs X (st::sts) (zU f g):=GSs.of (vw h h2) λσ H A ρ S o S' er so e D hd=>by
 unfold zU at e;split at e
 ·rename_i ρ1 S1 h1;refine⟨A,ρ,S,_,_,er,so,h1,⟨λσ' H' ⟨ρ',A',e1,e2,e3,e4⟩=>?_,λv H' ⟨w,A',e1,_⟩=>(by cases e1),λv H' ⟨w,A',e1,_⟩=>(by cases e1),λv H' ⟨w,A',e1,_⟩=>(by cases e1)⟩⟩
  cases e1;exact⟨A',_,S1,o,S',e4,e3,e,(EndS.after e2).trans hd⟩
 ·rename_i w S1 h1;cases e;exact⟨A,ρ,S,_,_,er,so,h1,⟨λσ' H' ⟨w,A',e1,_⟩=>(by cases e1),hd.rt,hd.bk,hd.ct⟩⟩
 ·rename_i w S1 h1;cases e;exact⟨A,ρ,S,_,_,er,so,h1,⟨λσ' H' ⟨w,A',e1,_⟩=>(by cases e1),hd.rt,hd.bk,hd.ct⟩⟩
 ·rename_i w S1 h1;cases e;exact⟨A,ρ,S,_,_,er,so,h1,⟨λσ' H' ⟨w,A',e1,_⟩=>(by cases e1),hd.rt,hd.bk,hd.ct⟩⟩
 ·cases e
noncomputable def zV (f:FE):FS:=λρ S=>match f ρ S with
 | some (_,S1)=>gV (.nx ρ,S1)
 | none=>td
theorem ER {e:Io}{pos:J9}{f:FE}(h:GE X e f)(hs:swapsWith e td pos.line X.env=pure false):GS X (.Expr e pos) (zV f):=GS.of (yN h hs) λσ H A ρ S o S' er so e D hd=>by
 unfold zV at e;split at e
 ·rename_i w S1 h1;cases e;exact⟨A,ρ,S,w,_,er,so,h1,λv H1 ⟨A1,z1,z2,z3⟩=>hd.nx _ _ ⟨ρ,A1,rfl,z1,z2,er.mono z1⟩⟩
 ·cases e
noncomputable def wI:FS:=λρ S=>gV (.nx ρ,S)
theorem C0 {x:Ih}{j:HJ}{pos pos':J9}:GS X (.Expr (.Constant (.str x) j pos) pos') wI:=GS.of B7 λσ H A ρ S o S' er so e D hd=>by cases e; exact hd.nx _ _ ⟨ρ,A,rfl,.refl,so,er⟩
theorem zW {pos:J9}:GS X (.Pass pos) wI:=GS.of yM λσ H A ρ S o S' er so e D hd=>by cases e; exact hd.nx _ _ ⟨ρ,A,rfl,.refl,so,er⟩
theorem wJ {pos:J9}:GS X (.Break pos) (λρ S=>gV (.bk ρ,S)):=GS.of vx λσ H A ρ S o S' er so e D hd=>by cases e; exact hd.bk _ _ ⟨ρ,A,rfl,.refl,so,er⟩
theorem zX {pos:J9}:GS X (.Continue pos) (λρ S=>gV (.ct ρ,S)):=GS.of o9 λσ H A ρ S o S' er so e D hd=>by cases e; exact hd.ct _ _ ⟨ρ,A,rfl,.refl,so,er⟩
noncomputable def zY (f:FE):FS:=λρ S=>match f ρ S with
 | some (w,S1)=>gV (.rt w,S1)
 | none=>td
theorem C3 {e:Io}{pos:J9}{f:FE}(h:GE X e f):GS X (.Return (gV e) pos) (zY f):=GS.of (B8 h) λσ H A ρ S o S' er so e D hd=>by
 unfold zY at e;split at e
 ·rename_i w S1 h1;cases e;exact⟨A,ρ,S,w,_,er,so,h1,λv H1 ⟨A1,z1,z2,z3⟩=>hd.rt _ _ ⟨w,A1,rfl,z1,z2,z3⟩⟩
 ·cases e
theorem zZ {pos:J9}:GS X (.Return td pos) (λρ S=>gV (.rt .non,S)):=GS.of yO λσ H A ρ S o S' er so e D hd=>by cases e; exact hd.rt _ _ ⟨_,A,rfl,.refl,so,.non⟩
noncomputable def Aa (c:FT)(f g:FS):FS:=λρ S=>match c ρ S with
 | some (true,S1)=>f ρ S1
 | some (false,S1)=>g ρ S1
 | none=>td
theorem ES {c:Io}{a b:HC Kt}{pos:J9}{fc:FT}{f g:FS}(hc:GT X c fc)(ha:GSs X a f)(hb:GSs X b g):GS X (.If c a b pos) (Aa fc f g):=GS.of (Ef hc ha hb) λσ H A ρ S o S' er so e D hd=>by
 unfold Aa at e;split at e
 ·rename_i S1 h1;refine⟨A,ρ,S,_,S1,er,so,h1,λb H1 ⟨z0,A1,z1,z2⟩=>?_⟩
  subst z0;rw[Iv rfl];exact⟨A1,ρ,S1,o,S',er.mono z1,z2,e,(EndS.after z1).trans hd⟩
 ·rename_i S1 h1;refine⟨A,ρ,S,_,S1,er,so,h1,λb H1 ⟨z0,A1,z1,z2⟩=>?_⟩
  subst z0;rw[IK Ip];exact⟨A1,ρ,S1,o,S',er.mono z1,z2,e,(EndS.after z1).trans hd⟩
 ·cases e
noncomputable abbrev FG:=W->Fm->aa->HI (Fm×aa)
noncomputable def tG (X:Cx)(f:FG):TG:=λv σ H Q=>∃A ρ S w ρ' S',EnvRel X.K A H ρ σ/\StoreOk X.w X.K A H S/\Rel X.K A H w v/\f w ρ S=gV (ρ',S')/\∀σ' H' A',Ext X.K A H A' H'->StoreOk X.w X.K A' H' S'->EnvRel X.K A' H' ρ' σ'->Q σ' H'
noncomputable abbrev GG (X:Cx)(tg:Io)(f:FG):Prop:=PG X tg (tG X f)
noncomputable def Ab (i:HJ):FG:=λw ρ S=>gV (ρ.set i (gV w),S)
theorem sN {i:HJ}{x:Ih}{pos:J9}(hN:X.N.Nodup)(hi:X.N[i]?=gV x)(hx:yI X.env.scope x)(hf:X.fn x=true\/X.env.scope.names.lookup x=gV .local):GG X (.Name x pos) (Ab i):=by
 intro pins s σ H v u Q I r ⟨A,ρ,S,w,ρ',S',er,so,rw',e,hq⟩;cases e;exact se hN hi hx hf pins s σ H v u Q I r (hq _ _ A .refl so (er.set rw' i))
noncomputable def dz:HC HJ->HC W->Fm->HI Fm
 | [],[],ρ=>gV ρ
 | i::is,w::ws,ρ=>dz is ws (ρ.set i (gV w))
 | _,_,_=>td
noncomputable def DU (is:HC HJ):FG:=λw ρ S=>match w with
 | .tup ws=>(dz is ws ρ).map λρ'=>(ρ',S)
 | _=>td
theorem uC:∀ {ts:HC Io} {is:HC HJ},(∀x∈ts,∃y p,x=.Name y p)->Mo (λ(t:Io) (i:HJ)=>∃x p,t=M4 x p/\X.N[i]?=gV x/\yI X.env.scope x/\(X.fn x=true\/X.env.scope.names.lookup x=gV .local)) ts is->X.N.Nodup->
  Eg X ts (λvs σ H Q=>∃A ρ ws ρ' S,EnvRel X.K A H ρ σ/\StoreOk X.w X.K A H S/\RelL X.K A H ws vs/\dz is ws ρ=gV ρ'/\∀σ',EnvRel X.K A H ρ' σ'->Q σ' H):=by
 intro ts
 induction ts with
 | nil=>
  intro is _ h hN;cases h;intro pins s σ H vs us Q I r ⟨A,ρ,ws,ρ',S,er,so,rl,e,hq⟩;cases rl with
  | nil=>cases e; exact yP pins s σ H [] us Q I r ⟨rfl,hq _ er⟩
  | cons _ _=>cases e
 | cons t ts ih=>
  intro is hs h hN;cases h with
  | cons h1 h2=>
   obtain⟨x,p,rfl,hi,hl,hf⟩:=h1;have:=ih (λy hy=>hs y (Jg _ hy)) h2 hN
   intro pins s σ H vs us Q I r ⟨A,ρ,ws,ρ',S,er,so,rl,e,hq⟩;cases rl with
   | nil=>cases e
   | cons r1 r2=>
    refine vy (se hN hi hl hf) this rfl pins s σ H _ us Q I r ⟨_,_,rfl,?_⟩;exact⟨A,_,_,ρ',S,er.set r1 _,so,r2,e,hq⟩
theorem C4 {ts:HC Io}{is:HC HJ}{k:HJ}{pos:J9}(hc:X.calm=true)(hs:∀x∈ts,∃y p,x=.Name y p)(h:Mo (λ(t:Io) (i:HJ)=>∃x p,t=M4 x p/\X.N[i]?=gV x/\yI X.env.scope x/\(X.fn x=true\/X.env.scope.names.lookup x=gV .local)) ts is)(hN:X.N.Nodup)
  (hn:(assignEach ts X.env).length=ts.length) (hst:(assignEach ts X.env).findIdx? (·.1)=td):GG X (.Tuple ts k pos) (DU is):=by
 intro pins s σ H v u Q I r ⟨A,ρ,S,w,ρ',S',er,so,rw',e,hq⟩;unfold DU at e;split at e
 ·rw[HG]at e;obtain⟨ρ1,e1,e2⟩:=e;cases e2;cases rw' with
  | tup h1 r1=>
   have hl:∀(is:HC HJ) (ws:HC W) (ρ ρ':Fm),dz is ws ρ=gV ρ'->is.length=ws.length:=by
    intro is
    induction is with
    | nil=>intro ws ρ ρ' e; cases ws <;> first|rfl|cases e
    | cons i is ih=>intro ws ρ ρ' e; cases ws <;> first|cases e|(simp; exact ih _ _ _ e)
   exact Cd hc (uC hs h hN) hn hst pins s σ H _ u Q I r ⟨_,_,rfl,h1,by rw[<- r1.length,<- hl _ _ _ _ e1,<- L9 h],A,ρ,_,_,_,er,so,r1,e1,λσ' z=>hq _ _ A .refl so z⟩
 ·cases e
noncomputable def Ac (fo fi:FE):FG:=λw ρ S=>match fo ρ S with
 | some (o,S1)=>match fi ρ S1 with
  | some (i,S2)=>match iA o i w S2 with
   | some S3=>gV (ρ,S3)
   | none=>td
  | none=>td
 | none=>td
theorem LSet.pset {g:W->W->W->aa->HI aa}(h:LSet X g):Cc X (λao ai av H Q=>∃A S o i w S',StoreOk X.w X.K A H S/\Rel X.K A H o ao/\Rel X.K A H i ai/\Rel X.K A H w av/\g o i w S=gV S'/\∀H' A',Ext X.K A H A' H'->StoreOk X.w X.K A' H' S'->Q H'):=by
 intro pins s σ H ao ai av uo ui uv Q I ro ri rv ⟨A,S,o,i,w,S',so,r1,r2,r3,e,hq⟩;exact b8 (h pins s σ H A S o i w ao ai av uo ui uv S' I so r1 ro r2 ri r3 rv e) λ_ s' ⟨H',A',I',e1,o1⟩=>⟨H',I',hq H' A' e1 o1⟩
theorem C5 {o i:Io}{pos:J9}{fo fi:FE}(hu:X.A.units+10 < cLine)(ho:GE X o fo)(hi:GE X i fi)(ha:∀v,assign (.Subscript o i pos) X.env v=(do
   let ov <- holding [v] (eval o X.env)
   let iv <- holding [v,ov] (eval i X.env)
   standAt pos
   holding [v,ov,iv] (setItem ov iv v)
   release [v,ov,iv] [])):GG X (.Subscript o i pos) (Ac fo fi):=by
 intro pins s σ H v u Q I r ⟨A,ρ,S,w,ρ',S',er,so,rw',e,hq⟩;unfold Ac at e;split at e
 ·rename_i o' S1 h1;split at e
  ·rename_i i' S2 h2;split at e
   ·rename_i S3 h3;cases e;refine Ce ho hi (EH hu).pset ha pins s σ H v u Q I r ?_;refine⟨A,ρ,S,o',S1,er,so,h1,λa H1 ⟨A1,e1,o1,r1⟩=>?_⟩
    refine⟨A1,ρ,S1,i',S2,er.mono e1,o1,h2,λb H2 ⟨A2,e2,o2,r2⟩=>?_⟩
    exact⟨A2,S2,o',i',w,_,o2,r1.mono e2,r2,rw'.mono (e1.trans e2),h3,λH' A' z1 z2=>hq σ H' A' ((e1.trans e2).trans z1) z2 (er.mono ((e1.trans e2).trans z1))⟩
   ·cases e
  ·cases e
 ·cases e
noncomputable def kL (f:FE)(g:FG):FS:=λρ S=>match f ρ S with
 | some (w,S1)=>match g w ρ S1 with
  | some (ρ',S2)=>gV (.nx ρ',S2)
  | none=>td
 | none=>td
theorem rC {tg e:Io}{pos:J9}{f:FE}{g:FG}(h:GE X e f)(hg:GG X tg g)(hs:swapsWithSole [tg] e pos.line X.env=pure false)(hw:swappedStores [tg] e X.env=pure td)(h1:(assignEach [tg] X.env).map (·.2)=[assign tg X.env]) :
  GS X (.Assign [tg] e pos) (kL f g):=GS.of (Cf h hg hs hw h1) λσ H A ρ S o S' er so e D hd=>by
 unfold kL at e;split at e
 ·rename_i w S1 h1;split at e
  ·rename_i ρ1 S2 h2;cases e;refine⟨A,ρ,S,w,S1,er,so,h1,λv H1 ⟨A1,z1,z2,z3⟩=>?_⟩
   exact⟨A1,ρ,S1,w,ρ1,_,er.mono z1,z2,z3,h2,λσ' H' A' y1 y2 y3=>hd.nx _ _ ⟨ρ1,A',rfl,z1.trans y1,y2,y3⟩⟩
  ·cases e
 ·cases e
noncomputable def Ad (i j:HJ)(f:FA):FS:=λρ S=>match f ρ S with
 | some ([x,y],S1)=>gV (.nx ((ρ.set i (gV x)).set j (gV y)),S1)
 | _=>td
theorem C6 {i j:HJ}{x y:Ih}{a b:Io}{f:FA}{px py pt pos:J9}{kt k2:HJ}{pt2:J9}(hc:X.calm=true)(hN:X.N.Nodup)(hi:X.N[i]?=gV x)(hj:X.N[j]?=gV y)(hij:i≠j)
  (hx:X.env.scope.names.lookup x=gV .local) (hy:X.env.scope.names.lookup y=gV .local) (ha:GA X [a,b] f)
  (hw:swappedStores [.Tuple [.Name x px,.Name y py] kt pt] (.Tuple [a,b] k2 pt2) X.env=pure (gV [x,y]))
  (hs:swapsWithSole [.Tuple [.Name x px,.Name y py] kt pt] (.Tuple [a,b] k2 pt2) pos.line X.env=pure false) :
  GS X (.Assign [.Tuple [.Name x px,.Name y py] kt pt] (.Tuple [a,b] k2 pt2) pos) (Ad i j f):=GS.of (Cg hc hN hi hj hij hx hy ha hw hs) λσ H A ρ S o S' er so e D hd=>by
 unfold Ad at e;split at e
 ·rename_i x y S1 h1;cases e;refine⟨A,ρ,S,_,_,er,so,h1,λvs H1 ⟨A1,z1,z2,z3⟩=>?_⟩
  cases z3 with
  | cons r1 t=>
   cases t with
   | cons r2 t=>
    cases t;exact⟨_,_,rfl,hd.nx _ _ ⟨_,A1,rfl,z1,z2,((er.mono z1).set r1 i).set r2 j⟩⟩
 ·cases e
noncomputable def nW (c:FT)(b:FS):HJ->FS
 | 0,_,_=>td
 | n+1,ρ,S=>match c ρ S with
  | some (true,S1)=>match b ρ S1 with
   | some (.nx ρ',S2)=>nW c b n ρ' S2
   | some (.ct ρ',S2)=>nW c b n ρ' S2
   | some (.bk ρ',S2)=>gV (.nx ρ',S2)
   | some (.rt w,S2)=>gV (.rt w,S2)
   | none=>td
  | some (false,S1)=>gV (.nx ρ,S1)
  | none=>td
theorem wK {c:Io}{body:HC Kt}{pos:J9}{fc:FT}{fb:FS}(n:HJ)(hp:M2 (model X.prog X.w) X.A X.env X.xe)(hc:GT X c fc)(hb:GSs X body fb):GS X (.While c body [] pos) (nW fc fb n):=GS.of (vz hp hc hb) λσ H A ρ S o S' er so e D hd=>by
 refine⟨λm σ1 H1=>∃A1 ρ1 S1,Ext X.K A H A1 H1/\EnvRel X.K A1 H1 ρ1 σ1/\StoreOk X.w X.K A1 H1 S1/\nW fc fb m ρ1 S1=gV (o,S'),⟨n,A,ρ,S,.refl,er,so,e⟩,?_⟩
 rintro m σ1 H1 ⟨A1,ρ1,S1,e1,er1,so1,w1⟩;cases m with
 | zero=>cases w1
 | succ m=>
  simp only[nW]at w1;split at w1
  ·rename_i S2 h1;refine⟨A1,ρ1,S1,_,S2,er1,so1,h1,λb H2 ⟨z0,A2,z1,z2⟩=>?_⟩
   subst z0;rw[Iv rfl];refine⟨λσ3 H3=>∃A3 ρ3 S3,Ext X.K A H A3 H3/\EnvRel X.K A3 H3 ρ3 σ3/\StoreOk X.w X.K A3 H3 S3/\nW fc fb m ρ3 S3=gV (o,S'),λσ' H' h=>⟨m,KT _,h⟩,?_⟩
   split at w1
   ·rename_i ρ3 S3 h3;refine⟨A2,ρ1,S2,_,S3,er1.mono z1,z2,h3,⟨λσ' H' ⟨ρ',A',y0,y1,y2,y3⟩=>?_,λv H' ⟨w,A',y0,_⟩=>(by cases y0),λv H' ⟨w,A',y0,_⟩=>(by cases y0),λv H' ⟨w,A',y0,_⟩=>(by cases y0)⟩⟩
    cases y0;exact⟨A',_,S3,(e1.trans z1).trans y1,y3,y2,w1⟩
   ·rename_i ρ3 S3 h3;refine⟨A2,ρ1,S2,_,S3,er1.mono z1,z2,h3,⟨λv H' ⟨w,A',y0,_⟩=>(by cases y0),λv H' ⟨w,A',y0,_⟩=>(by cases y0),λv H' ⟨w,A',y0,_⟩=>(by cases y0),λσ' H' ⟨ρ',A',y0,y1,y2,y3⟩=>?_⟩⟩
    cases y0;exact⟨A',_,S3,(e1.trans z1).trans y1,y3,y2,w1⟩
   ·rename_i ρ3 S3 h3;cases w1;refine⟨A2,ρ1,S2,_,_,er1.mono z1,z2,h3,⟨λv H' ⟨w,A',y0,_⟩=>(by cases y0),λv H' ⟨w,A',y0,_⟩=>(by cases y0),λσ' H' ⟨ρ',A',y0,y1,y2,y3⟩=>?_,λv H' ⟨w,A',y0,_⟩=>(by cases y0)⟩⟩
    cases y0;exact hd.nx _ _ ⟨_,A',rfl,(e1.trans z1).trans y1,y2,y3⟩
   ·rename_i w3 S3 h3;cases w1;refine⟨A2,ρ1,S2,_,_,er1.mono z1,z2,h3,⟨λv H' ⟨w,A',y0,_⟩=>(by cases y0),λv H' ⟨w,A',y0,y1,y2,y3⟩=>?_,λv H' ⟨w,A',y0,_⟩=>(by cases y0),λv H' ⟨w,A',y0,_⟩=>(by cases y0)⟩⟩
    cases y0;exact hd.rt _ _ ⟨_,A',rfl,(e1.trans z1).trans y1,y2,y3⟩
   ·cases w1
  ·rename_i S2 h1;cases w1;refine⟨A1,ρ1,S1,_,_,er1,so1,h1,λb H2 ⟨z0,A2,z1,z2⟩=>?_⟩
   subst z0;rw[IK Ip];exact hd.nx _ _ ⟨_,A2,rfl,e1.trans z1,z2,er1.mono z1⟩
  ·cases w1
end
inductive MI where
 | its (ws:HC W)
 | live (r:HJ)
 | zl (r q:HJ)
noncomputable def ET (xs ys:HC W):HC W:=Ii (λx y=>.tup [x,y]) xs ys
noncomputable def MI.at (S:aa)(i:HJ):MI->HI (HI W)
 | .its ws=>gV ws[i]?
 | .live r=>match g8 S r with
  | some xs=>gV xs[i]?
  | none=>td
 | .zl r q=>match g8 S r,g8 S q with
  | some xs,gV ys=>gV (ET xs ys)[i]?
  | _,_=>td
noncomputable def MI.len (S:aa):MI->HI HJ
 | .its ws=>gV ws.length
 | .live r=>(g8 S r).map (·.length)
 | .zl r q=>match g8 S r,g8 S q with
  | some xs,gV ys=>gV (ET xs ys).length
  | _,_=>td
noncomputable abbrev FI:=Fm->aa->HI (MI×aa)
structure MIt (wd:IM)(K:HS)(mi:MI)(J:It)(A0:HC HN)(H0:Hp):Prop where
 go:∀A H S i w,Ext K A0 H0 A H->StoreOk wd K A H S->mi.at S i=gV (gV w)->J.go i H/\∀x H',J.yld i H x H'->Ext K A H A H'/\StoreOk wd K A H' S/\Rel K A H' w x
 stop:∀A H S i,Ext K A0 H0 A H->StoreOk wd K A H S->mi.at S i=gV td->J.stop i H
noncomputable def tI (X:Cx)(f:FI):TI:=λσ H R=>∃A ρ S mi S',EnvRel X.K A H ρ σ/\StoreOk X.w X.K A H S/\f ρ S=gV (mi,S')/\∀J H' A',Ext X.K A H A' H'->StoreOk X.w X.K A' H' S'->MIt X.w X.K mi J A' H'->R J H'
noncomputable abbrev GI (X:Cx)(tg iter:Io)(f:FI):Prop:=PI X tg iter (tI X f)
noncomputable def Ae (f:FE):FI:=λρ S=>match f ρ S with
 | some (.tup ws,S1)=>gV (.its ws,S1)
 | some (.ref r,S1)=>match g8 S1 r with
  | some _=>gV (.live r,S1)
  | none=>td
 | _=>td
noncomputable def dt (lo:HY)(n:HJ):HC W:=(Ic n).map λ(k:HJ)=>.int (lo+(k:HY))
noncomputable def rD (f:FA):FI:=λρ S=>match f ρ S with
 | some ([.int j],S1)=>if -(2 ^ 62)<=j/\j < 2 ^ 62 then gV (.its (dt 0 j.toNat),S1)else td
 | _=>td
noncomputable def iRng2 (f:FA):FI:=λρ S=>match f ρ S with
 | some ([.int i,.int j],S1)=>if -(2 ^ 62)<=i/\i < 2 ^ 62/\-(2 ^ 62)<=j/\j < 2 ^ 62 then gV (.its (dt i (j - i).toNat),S1)else td
 | _=>td
noncomputable def ga (mi:MI)(g:FG)(b:FS):HJ->HJ->FS
 | 0,i,ρ,S=>match mi.at S i with
  | some td=>gV (.nx ρ,S)
  | _=>td
 | n+1,i,ρ,S=>match mi.at S i with
  | some (gV w)=>match g w ρ S with
   | some (ρ1,S1)=>match b ρ1 S1 with
    | some (.nx ρ2,S2)=>ga mi g b n (i+1) ρ2 S2
    | some (.ct ρ2,S2)=>ga mi g b n (i+1) ρ2 S2
    | some (.bk ρ2,S2)=>gV (.nx ρ2,S2)
    | some (.rt w,S2)=>gV (.rt w,S2)
    | none=>td
   | none=>td
  | _=>td
noncomputable def wL (fi:FI)(g:FG)(b:FS):FS:=λρ S=>match fi ρ S with
 | some (mi,S1)=>match mi.len S1 with
  | some n=>ga mi g b n 0 ρ S1
  | none=>td
 | none=>td
section
variable{X:Cx}
theorem Ag {A:HC HN}{H:Hp}{ws:HC W}{a:HN}{vs:HC V}(h:SqT X.K H a vs)(r:RelL X.K A H ws vs):MIt X.w X.K (.its ws) (DR X.K a) A H:=by
 refine⟨λA' H' S i w e so hi=>?_,λA' H' S i e so hi=>?_⟩
 ·simp only[MI.at,IV]at hi;obtain⟨v,h1,h2⟩:=(r.mono e).get hi;refine⟨⟨vs,v,e.tp _ _ h,h1⟩,λx H2 ⟨z1,z2⟩=>?_⟩
  subst z1;have:=z2 vs (e.tp _ _ h);rw[h1]at this; cases this
  exact⟨.refl,so,h2⟩
 ·simp only[MI.at,IV]at hi;refine⟨vs,e.tp _ _ h,?_⟩;rw[<- r.length];exact JR.mp hi
theorem Ah {A:HC HN}{H:Hp}{r:HJ}{a:HN}(ea:A[r]?=gV a):MIt X.w X.K (.live r) (Gk X.K a) A H:=by
 refine⟨λA' H' S i w e so hi=>?_,λA' H' S i e so hi=>?_⟩
 ·simp only[MI.at]at hi;split at hi
  ·rename_i xs hx;simp only[IV]at hi;obtain⟨vs,h1,r1⟩:=cZ so hx (e.ad _ _ ea);obtain⟨v,h2,h3⟩:=r1.get hi;refine⟨⟨vs,v,h1,h2⟩,λx H2 ⟨z1,z2⟩=>?_⟩
   subst z1;have:=z2 vs h1;rw[h2]at this; cases this
   exact⟨.refl,so,h3⟩
  ·cases hi
 ·simp only[MI.at]at hi;split at hi
  ·rename_i xs hx;simp only[IV]at hi;obtain⟨vs,h1,r1⟩:=cZ so hx (e.ad _ _ ea);refine⟨vs,h1,?_⟩;rw[<- r1.length];exact JR.mp hi
  ·cases hi
theorem eD {lo:HY}{n i:HJ}:(dt lo n)[i]?=if i < n then gV (.int (lo+i))else td:=by
 unfold dt;rw[HP]
 by_cases h:i < n
 ·rw[Iv h,J0 h]; rfl
 ·rw[IK h,JR.mpr (by simp; omega)]; rfl
theorem sO {A:HC HN}{H:Hp}{lo:HY}{n:HJ}:MIt X.w X.K (.its (dt lo n)) (Ej lo n) A H:=by
 refine⟨λA' H' S i w e so hi=>?_,λA' H' S i e so hi=>?_⟩
 ·simp only[MI.at,IV]at hi;rw[eD]at hi;split at hi
  ·cases hi;refine⟨by assumption,λx H2 ⟨z1,z2⟩=>?_⟩
   subst z1 z2;exact⟨.refl,so,.int⟩
  ·cases hi
 ·simp only[MI.at,IV]at hi;rw[eD]at hi;split at hi
  ·cases hi
  ·show n<=i;omega
theorem pQ {tg:Io}{pins:HC (HN×JC)}{σ:L2.St}{H1:Hp}{s1:HH}{R:It->Hp->Prop}{a:HN}{xs:HC V}{v:HE}(I1:Inv X pins σ H1 s1)(r1:RelV (.ref a) v)(hq:SqL X.K H1 a xs)(q:R (Gk X.K a) H1) :
  wpAny (model X.prog X.w) X.A (pyIter v) (FV X pins σ tg R) X.xe s1:=by
 cases r1;obtain⟨its,rv,p,hz⟩:=I1.list hq;refine L6 p.isList ?_;refine⟨s1.heap.objs.size,[s1.heap.objs.size],_,_,H1,rfl,I1.kept (t':=s1.toks) λb o e=>HK _ e,tV a _,⟨_,Il _ rfl,rfl,rfl⟩,λb hb=>?_,q⟩
 have e:b=s1.heap.objs.size:=by simpa using hb
 subst e;exact I1.fpOk (HW _) (I1.hok.fresh (HW _))
theorem rE {tg:Io}{pins:HC (HN×JC)}{σ:L2.St}{H1:Hp}{s1:HH}{R:It->Hp->Prop}{a:HN}{xs:HC V}{v:HE}(I1:Inv X pins σ H1 s1)(r1:RelV (.ref a) v)(hq:SqT X.K H1 a xs)(q:R (DR X.K a) H1) :
  wpAny (model X.prog X.w) X.A (pyIter v) (FV X pins σ tg R) X.xe s1:=by
 cases r1;obtain⟨its,rv,p,hz⟩:=I1.tuple hq;refine Nv (show s1.heap.IsTuple a its.toArray from p) ?_
 refine⟨s1.heap.objs.size,[s1.heap.objs.size],_,_,H1,rfl,I1.kept (t':=s1.toks) λb o e=>HK _ e,qW a _,⟨_,Il _ rfl,rfl,rfl⟩,λb hb=>?_,q⟩
 have e:b=s1.heap.objs.size:=by simpa using hb
 subst e;exact I1.fpOk (HW _) (I1.hok.fresh (HW _))
theorem Ai {tg a:Io}{f:FA}{p pos:J9}(hg:Gl X "range")(hm:X.mg "range" = td)(ha:GA X [a] f)(hs:starEach [a] X.env=[(false,eval a X.env)]):GI X tg (.Call (.Name "range" p) [a] [] pos) (rD f):=by
 intro pins s σ H R I ⟨A,ρ,S,mi,S',er,so,e,hq⟩;unfold rD at e;split at e
 ·rename_i j S1 h1;split at e
  ·rename_i hj;cases e;refine tW hg hm ha hs pins s σ H R I ⟨A,ρ,S,_,_,er,so,h1,λvs H1 ⟨A1,z1,z2,z3⟩=>?_⟩
   cases z3 with
   | cons r1 t=>
    cases t;cases r1;exact⟨j,rfl,hj.1,hj.2,hq _ _ A1 z1 z2 sO⟩
  ·cases e
 ·cases e
theorem Aj {tg a b:Io}{f:FA}{p pos:J9}(hg:Gl X "range")(hm:X.mg "range" = td)(ha:GA X [a,b] f)(hs:starEach [a,b] X.env=[(false,eval a X.env),(false,eval b X.env)])(hs2:starEach [b] X.env=[(false,eval b X.env)]):GI X tg (.Call (.Name "range" p) [a,b] [] pos) (iRng2 f):=by
 intro pins s σ H R I ⟨A,ρ,S,mi,S',er,so,e,hq⟩;unfold iRng2 at e;split at e
 ·rename_i i j S1 h1;split at e
  ·rename_i hj;cases e;refine tX hg hm ha hs hs2 pins s σ H R I ⟨A,ρ,S,_,_,er,so,h1,λvs H1 ⟨A1,z1,z2,z3⟩=>?_⟩
   cases z3 with
   | cons r1 t=>
    cases t with
    | cons r2 t=>
     cases t;cases r1;cases r2;exact⟨i,j,rfl,hj,hq _ _ A1 z1 z2 sO⟩
  ·cases e
 ·cases e
theorem C7 {tg l:Io}{f:FE}(h:GE X l f):GI X tg l (Ae f):=by
 intro pins s σ H R I ⟨A,ρ,S,mi,S',er,so,e,hq⟩;unfold Ae at e;split at e
 ·rename_i ws S1 h1;cases e;refine b8 (h pins s σ H (EndV X.w X.K A H _ (.tup ws)) I ⟨A,ρ,S,_,_,er,so,h1,λ_ _ z=>z⟩) λv s1 ⟨x,H1,I1,r1,A1,e1,o1,z1⟩=>?_
  cases z1 with
  | tup hq1 rl=>
   refine rE I1 r1 hq1 (hq _ _ A1 e1 o1 (Ag hq1 rl))
 ·rename_i r S1 h1;split at e
  ·rename_i ys hy;cases e;refine b8 (h pins s σ H (EndV X.w X.K A H _ (.ref r)) I ⟨A,ρ,S,_,_,er,so,h1,λ_ _ z=>z⟩) λv s1 ⟨x,H1,I1,r1,A1,e1,o1,z1⟩=>?_
   cases z1 with
   | ref ea=>
    obtain⟨vs,hl,_⟩:=cZ o1 hy ea;exact pQ I1 r1 hl (hq _ _ A1 e1 o1 (Ah ea))
  ·cases e
 ·cases e
theorem C8 {tg iter:Io}{body:HC Kt}{pos:J9}{fi:FI}{g:FG}{fb:FS}(hp:M2 (model X.prog X.w) X.A X.env X.xe)(hc:X.calm=true)(hi:GI X tg iter fi)(hg:GG X tg g)(hb:GSs X body fb)
  (hs:∀x,foldedSetIterable iter X.env x=pure x):GS X (.For tg iter body [] pos) (wL fi g fb):=GS.of (Ci hp hc hi hg hb hs) λσ H A ρ S o S' er so e D hd=>by
 unfold wL at e;split at e
 ·rename_i mi S1 h1;split at e
  ·rename_i n hn;refine⟨A,ρ,S,mi,S1,er,so,h1,λJ H1 A1 z1 z2 mit=>?_⟩
   refine⟨λi m σ2 H2=>∃A2 ρ2 S2,Ext X.K A1 H1 A2 H2/\EnvRel X.K A2 H2 ρ2 σ2/\StoreOk X.w X.K A2 H2 S2/\ga mi g fb m i ρ2 S2=gV (o,S'),⟨n,A1,ρ,S1,.refl,er.mono z1,z2,e⟩,?_⟩
   rintro i m σ2 H2 ⟨A2,ρ2,S2,e2,er2,so2,w2⟩;cases m with
   | zero=>
    dsimp only[ga]at w2;split at w2
    ·rename_i hs;cases w2;exact .inl ⟨mit.stop A2 H2 _ i e2 so2 hs,hd.nx _ _ ⟨_,A2,rfl,z1.trans e2,so2,er2⟩⟩
    ·cases w2
   | succ m=>
    dsimp only[ga]at w2;split at w2
    ·rename_i w hw;obtain⟨go,yl⟩:=mit.go A2 H2 S2 i w e2 so2 hw;refine .inr ⟨go,λσ3 H3=>∃A3 ρ3 S3,Ext X.K A1 H1 A3 H3/\EnvRel X.K A3 H3 ρ3 σ3/\StoreOk X.w X.K A3 H3 S3/\ga mi g fb m (i+1) ρ3 S3=gV (o,S'),λσ' H' h=>⟨m,KT _,h⟩,λx H3 hy=>?_⟩
     obtain⟨x1,x2,x3⟩:=yl x H3 hy;split at w2
     ·rename_i ρ3 S3 h3;refine⟨A2,ρ2,S2,w,ρ3,S3,er2.mono x1,x2,x3,h3,λσ4 H4 A4 y1 y2 y3=>?_⟩
      have ex:Ext X.K A1 H1 A4 H4:=(e2.trans x1).trans y1;split at w2
      ·rename_i ρ5 S5 h5;refine⟨A4,ρ3,S3,_,S5,y3,y2,h5,⟨λσ' H' ⟨ρ',A',u0,u1,u2,u3⟩=>?_,λv H' ⟨w,A',y0,_⟩=>(by cases y0),λv H' ⟨w,A',y0,_⟩=>(by cases y0),λv H' ⟨w,A',y0,_⟩=>(by cases y0)⟩⟩
       cases u0;exact⟨A',_,S5,ex.trans u1,u3,u2,w2⟩
      ·rename_i ρ5 S5 h5;refine⟨A4,ρ3,S3,_,S5,y3,y2,h5,⟨λv H' ⟨w,A',y0,_⟩=>(by cases y0),λv H' ⟨w,A',y0,_⟩=>(by cases y0),λv H' ⟨w,A',y0,_⟩=>(by cases y0),λσ' H' ⟨ρ',A',u0,u1,u2,u3⟩=>?_⟩⟩
       cases u0;exact⟨A',_,S5,ex.trans u1,u3,u2,w2⟩
      ·rename_i ρ5 S5 h5;cases w2;refine⟨A4,ρ3,S3,_,_,y3,y2,h5,⟨λv H' ⟨w,A',y0,_⟩=>(by cases y0),λv H' ⟨w,A',y0,_⟩=>(by cases y0),λσ' H' ⟨ρ',A',u0,u1,u2,u3⟩=>?_,λv H' ⟨w,A',y0,_⟩=>(by cases y0)⟩⟩
       cases u0;exact hd.nx _ _ ⟨_,A',rfl,(z1.trans ex).trans u1,u2,u3⟩
      ·rename_i w5 S5 h5;cases w2;refine⟨A4,ρ3,S3,_,_,y3,y2,h5,⟨λv H' ⟨w,A',y0,_⟩=>(by cases y0),λv H' ⟨w,A',u0,u1,u2,u3⟩=>?_,λv H' ⟨w,A',y0,_⟩=>(by cases y0),λv H' ⟨w,A',y0,_⟩=>(by cases y0)⟩⟩
       cases u0;exact hd.rt _ _ ⟨_,A',rfl,(z1.trans ex).trans u1,u2,u3⟩
      ·cases w2
     ·cases w2
    ·cases w2
  ·cases e
 ·cases e
end
section
variable{prog:Iz}{w:IM}{B:IJ}{E:HE->HH->Prop}{s:HH}
theorem Ak {d:HN}{es:IW JX}{ep:HJ}{Q:HE->HH->Prop}(hd:(d==sysModules)=false)(hm:RawD d es ep s.heap)(hfit:(es.size:HY) < 2 ^ 63)
  (h:Q (.int es.size (s.toks+1)) { s with toks:=s.toks+1+1 }):wpAny (model prog w) B (call (.builtin "len") [.ref d]) Q E s:=by
 have hT:=hm.type;obtain⟨o,ho,hc,hdat⟩:=id hm;refine L0 kind_len plain_len entry_len (args_len1 _) ?_;unfold M3.«len»;refine HD (m:=oneArg "len" _) (HQ ?_);refine HD (m:=callSpecial? (.ref d) (J3 "__len__")) (Jk (name:=J3 "__len__") hT F.slot_dict_len (Js F.slot_dict_len hT F.entry_dict_len ?_ (F.args_dict_len_1 _)));show wpAny _ _ (dictSize d >>= _) _ _ s;unfold dictSize;refine HD (HD (Li ho hdat (HQ ?_)));show wpAny _ _ (OS d >>= _) _ _ s;refine HD (wpAny_pendingCount_other hd ?_);refine wpAny_ret_mkInt ?_;rw[Nat.add_zero];show wpAny _ _ _ _ _ { s with toks:=s.toks+1 }
 refine HD (Jx (HQ ?_));refine HD (Lz ?_);show wpAny _ _ (if ((es.size:HJ):HY) < 0 then _ else _) _ _ _
 rw[IK (by omega)]
 show wpAny _ _ (if ((es.size:HJ):HY)>=2 ^ 63 then _ else _) _ _ _
 rw[IK (by omega)]
 exact HD (Oi (HQ ⟨_,rfl,h⟩))
end
section
variable{X:Cx}{pins:HC (HN×JC)}{σ:L2.St}{H:Hp}{s:HH}{A:HC HN}{S:aa}
theorem rF:LCall X (.builtin "len") rA:=by
 intro pins s σ H A S xs vs us w S' I so rl rv e
 by_cases hd:∃i kvs,xs=[.ref i]/\jT S i=gV kvs
 ·obtain⟨i,kvs,rfl,hk⟩:=hd;simp only[rA,hk]at e;cases e;cases rl with
  | cons r t=>
   cases t;cases rv with
   | cons ru rv2=>
    cases rv2;cases r with
    | ref ea=>
     obtain⟨xs,rd,kr⟩:=fZ so hk ea;have d:=cV I rd;obtain⟨es,ep,raw,he⟩:=d.raw;obtain rfl:_=IS _:=ru;have hl:es.size=xs.length:=by rw[<- II,he,HF]
     have hz:=d.1;have hs:sizeLine=16777216:=Ja;refine Ak d.2.1 raw (by omega) ⟨.int kvs.length,H,A,I.tok _,⟨_,by rw[kr.length,hl]⟩,.refl,so,.int⟩
 ·have:rA xs S=rj xs S:=by
   unfold rA;split
   ·rename_i i;split
    ·rename_i kvs hk;exact absurd ⟨i,kvs,rfl,hk⟩ hd
    ·rfl
   ·rfl
  rw[this]at e;exact ug pins s σ H A S xs vs us w S' I so rl rv e
noncomputable def F2 (S:aa):W->HI Jp
 | .non=>gV "NoneType"|.bl _=>gV "bool"|.int _=>gV "int"|.str _=>gV "str"|.tup _=>gV "tuple"
 | .ref i=>match g8 S i with
  | some _=>gV "list"
  | none=>(jT S i).map λ_=>"dict"
noncomputable def pR:HC Jp:=["bool","int","str","tuple","list","dict"]
noncomputable def uD (S:aa)(x:W)(c:Jp):HI Ir:=match F2 S x with
 | some t=>if pR.contains c then gV (t==c||(t == "bool" && c == "int"))else td
 | none=>td
theorem hX {K:HS}{t c:Jp}(ht:t∈["NoneType","bool","int","str","tuple","list","dict"])(hc:c∈pR):PySem.W.kitOne K (.type t) (.type c)=gV (t==c||(t == "bool" && c == "int")):=by
 simp only[pR,IG,JA,Lj]at ht hc;rcases ht with rfl|rfl|rfl|rfl|rfl|rfl|rfl <;> rcases hc with rfl|rfl|rfl|rfl|rfl|rfl <;> rfl
theorem wM:CallR X (.builtin "isinstance") (λvs H Q=>∃A S x v c b,vs=[v,.ty c]/\StoreOk X.w X.K A H S/\Rel X.K A H x v/\uD S x c=gV b/\Q (.bl b) H):=by
 intro pins s σ H vs us Q I rv ⟨A,S,x,v,c,b,e1,so,rx,e2,hq⟩;subst e1;cases rv with
 | cons r1 rv2=>cases rv2 with
  | cons r2 rv3=>
   cases rv3;obtain rfl:_=KO c:=r2;unfold uD at e2;split at e2
   ·rename_i t ht;split at e2
    ·rename_i hc;cases e2;have hc':c∈pR:=by simpa using hc
     have fin:∀tk,EP X pins σ Q (.bool (t==c||(t == "bool" && c == "int"))) { s with toks:=tk }:=λtk=>⟨.bl _,H,I.tok _,rfl,hq⟩
     cases rx with
     | non=>cases ht; cases(show _=Je from r1); exact Kk PySem.W.kitx_none I.kIn Lw (hX (by simp) hc') (λz=>nomatch z) fin
     | bl=>cases ht; cases(show _=KN _ from r1); exact Kk PySem.W.kitx_bool I.kIn Lw (hX (by simp) hc') (λz=>nomatch z) fin
     | int=>cases ht; obtain⟨t',q⟩:=(show ∃t,_=Lp _ t from r1); cases q; exact Kk PySem.W.kitx_int I.kIn Lw (hX (by simp) hc') (λz=>nomatch z) fin
     | str=>cases ht; obtain⟨t',q⟩:=(show ∃t,_=Lq _ t from r1); cases q; exact Kk PySem.W.kitx_str I.kIn Lw (hX (by simp) hc') (λz=>nomatch z) fin
     | tup h1 r1'=>
      cases ht;obtain⟨its,rv,⟨o,q1,q2,_⟩,hz⟩:=I.tuple h1;cases(show _=IS _ from r1)
      exact Kk PySem.W.kitx_tuple I.kIn ⟨o,q1,q2⟩ (hX (by simp) hc') (λz=>nomatch z) fin
     | ref ea=>
      cases(show _=IS _ from r1)
      simp only[F2]at ht;split at ht
      ·rename_i ws hw;cases ht;obtain⟨vs,h1,_⟩:=cZ so hw ea;obtain⟨its,rv,p,hz⟩:=I.list h1;obtain⟨o,q1,q2,_⟩:=p.isList;exact Kk PySem.W.kitx_list I.kIn ⟨o,q1,q2⟩ (hX (by simp) hc') (λz=>nomatch z) fin
      ·rw[HG]at ht;obtain⟨kvs,hk,rfl⟩:=ht;obtain⟨xs,rd,kr⟩:=fZ so hk ea;obtain⟨es,ep,⟨o,q1,q2,_⟩,he⟩:=(cV I rd).raw;exact Kk PySem.W.kitx_dict I.kIn ⟨o,q1,q2.1⟩ (hX (by simp) hc') (λz=>nomatch z) fin
    ·cases e2
   ·cases e2
noncomputable def wQ (c:Jp)(f:FE):FE:=λρ S=>match f ρ S with
 | some (x,S1)=>(uD S1 x c).map λb=>(.bl b,S1)
 | none=>td
theorem C9 {cn:Ih}{c:Jp}{e:Io}{p p2 pos:J9}{f:FE}(hg:Gl X "isinstance")(hm:X.mg "isinstance" = td)(hg2:Gl X cn)(hm2:X.mg cn=td)(hv2:bootBuiltins cn=gV (.type c))(hn2:cn≠"__name__")(hd2:(cn==("__debug__" : Ih))=false)
  (he:GE X e f) (hs:starEach [e,.Name cn p2] X.env=(false,eval e X.env)::starEach [.Name cn p2] X.env):GE X (.Call (.Name "isinstance" p) [e,.Name cn p2] [] pos) (wQ c f):=
 GE.of (pd (wM) hg hm rfl (nv he (nv (yJ (v:=.ty c) hg2 hm2 hv2 rfl hn2 hd2) vB) hs) (by decide) (by decide) hs rfl) λσ H A ρ S w S' er so e Q hq=>by
  unfold wQ at e;split at e
  ·rename_i x1 S1 h1;rw[HG]at e;obtain⟨b,e1,e2⟩:=e;cases e2;exact⟨A,ρ,S,x1,_,er,so,h1,λv H1 ⟨A1,z1,z2,z3⟩=>⟨A1,_,x1,v,c,b,rfl,z2,z3,e1,hq _ _ ⟨A1,z1,z2,.bl⟩⟩⟩
  ·cases e
end
noncomputable def dX:HC (T×W)->HC W->HI (HC (T×W))
 | kvs,[]=>gV kvs
 | kvs,k::v::ws=>match gH k with
  | some t=>dX (eO kvs t v) ws
  | none=>td
 | _,[_]=>td
noncomputable def By:FE:=λ_ S=>gV (.ref S.length,S++[.dic []])
noncomputable def pS (f:FA):FE:=λρ S=>match f ρ (S++[.dic []])with
 | some (ws,S1)=>match S1[S.length]? with
  | some (.dic [])=>match dX [] ws with
   | some kvs=>gV (.ref S.length,S1.set S.length (.dic kvs))
   | none=>td
  | _=>td
 | none=>td
section
variable (K:HS) (A:HC HN) (H:Hp)
inductive RelP:HC W->HC (V×V)->Prop
 | nil:RelP [] []
 | cons {k v:W} {a b:V} {ws:HC W} {ps:HC (V×V)}:Rel K A H k a->Rel K A H v b->RelP ws ps->RelP (k::v::ws) ((a,b)::ps)
end
theorem RelP.mono {K:HS}{A A':HC HN}{H H':Hp}(e:Ext K A H A' H'){ws:HC W}{ps:HC (V×V)}(h:RelP K A H ws ps):RelP K A' H' ws ps:=by
 induction h with
 | nil=>exact .nil
 | cons a b c ih=>exact .cons (a.mono e) (b.mono e) ih
section
variable{X:Cx}{pins:HC (HN×JC)}{σ:L2.St}{H:Hp}{s:HH}{A:HC HN}{S:aa}
noncomputable def GN (X:Cx)(A:HC HN)(H:Hp)(S':aa)(ws:HC W):HC (V×V)->Hp->Prop:=λps H'=>∃A',Ext X.K A H A' H'/\StoreOk X.w X.K A' H' S'/\RelP X.K A' H' ws ps
noncomputable def EU (X:Cx)(pos:J9)(keys:HC (HI Io))(values:HC Io)(f:FA):Prop:=
 ∀(pins:HC (HN×JC)) (s:HH) (σ:L2.St) (H:Hp) (A:HC HN) (ρ:Fm) (S:aa) (ws:HC W) (S':aa),Inv X pins σ H s->EnvRel X.K A H ρ σ->StoreOk X.w X.K A H S->f ρ S=gV (ws,S')->
  wpAny (model X.prog X.w) X.A (evalPairs (pairTrees keys values X.env pos)) (λvs s'=>∃ps H',Inv X pins σ H' s'/\VV ps vs/\GN X A H S' ws ps H') X.xe s
theorem Al {pos:J9}:EU X pos [] [] hW:=λpins s σ H A ρ S ws S' I er so e=>by
 cases e;exact pairTrees_nil_walk ⟨[],H,I,.nil,A,.refl,so,.nil⟩
theorem wR {pos:J9}{k v:Io}{ks:HC (HI Io)}{vs:HC Io}{fk fv:FE}{f:FA}(hk:GE X k fk)(hv:GE X v fv)(hr:EU X pos ks vs f):EU X pos (gV k::ks) (v::vs) (eC fk (eC fv f)):=λpins s σ H A ρ S ws S' I er so e=>by
 unfold eC at e;split at e
 ·rename_i w1 S1 h1;split at e
  ·rename_i w2 S2 h2;cases e;split at h2
   ·rename_i w3 S3 h3;split at h2
    ·rename_i w4 S4 h4;cases h2;refine pairTrees_cons_walk (b8 (hk pins s σ H (EndV X.w X.K A H S1 w1) I ⟨A,ρ,S,_,_,er,so,h1,λ_ _ z=>z⟩) λu s1 ⟨x,H1,I1,r1,A1,e1,o1,z1⟩=>
      b8 (hv pins s1 σ H1 (EndV X.w X.K A1 H1 S3 w3) I1 ⟨A1,ρ,S1,_,_,er.mono e1,o1,h3,λ_ _ z=>z⟩) λu2 s2 ⟨x2,H2,I2,r2,A2,e2,o2,z2⟩=>
      b8 (hr pins s2 σ H2 A2 ρ S3 _ _ I2 (er.mono (e1.trans e2)) o2 h4) λvs' s3 ⟨ps,H3,I3,rel,A3,e3,o3,z3⟩=>?_)
     exact⟨(x,x2)::ps,H3,I3,.cons ⟨r1,r2⟩ rel,A3,e1.trans (e2.trans e3),o3,.cons (z1.mono (e2.trans e3)) (z2.mono e3) z3⟩
    ·cases h2
   ·cases h2
  ·cases e
 ·cases e
theorem mO {r:HJ}{d:HN}{E:HE->HH->Prop}(hu:X.A.units+10 < cLine):∀(vs:HC (HE×HE)) (ps:HC (V×V)) (ws:HC W) (kvs kvs':HC (T×W)) (s:HH) (H:Hp) (S:aa) (Q:PUnit->HH->Prop),
  Inv X pins σ H s->StoreOk X.w X.K A H S->nM S r=gV kvs->A[r]?=gV d->RelP X.K A H ws ps->VV ps vs->dX kvs ws=gV kvs'->kvs.length+vs.length<=30->
  (∀s' H',Inv X pins σ H' s'->Ext X.K A H A H'->StoreOk X.w X.K A H' (S.set r (.dic kvs'))->Q Nu s')->
  wpAny (model X.prog X.w) X.A (forIn vs Nu λ(x:HE×HE) (_:PUnit)=>(do dictSet d x.1 x.2; pure (JG Nu):Pi (ForInStep PUnit))) Q E s
 | [],_,_,kvs,kvs',s,H,S,Q,I,so,hr,ea,rp,vv,e,hl,hq=>by
  cases vv;cases rp;cases e;rw[OL];refine HQ (hq s H I .refl ?_);have hS:=iz hr;have:S.set r (.dic kvs)=S:=by
   apply L7;intro j;rw[JP];split
   ·rename_i e; subst e
    split
    ·exact hS.symm
    ·rename_i h; exact absurd (Ig.mp hS).1 h
   ·rfl
  rw[this]; exact so
 | (ku,vu)::vs,_,_,kvs,kvs',s,H,S,Q,I,so,hr,ea,rp,vv,e,hl,hq=>by
  cases vv with
  | cons hv vv2=>
   cases rp with
   | @cons wk wv va vb ws2 ps2 rk rv' rp2=>
    simp only[dX]at e;split at e
    ·rename_i t ht;rw[MB];obtain⟨xs,hH,kr⟩:=sC so hr ea;have dd0:=cV I (.inl hH);have dd:=dd0.dict I kr;obtain⟨bk,e1,e2,rkk⟩:=iy ht rk hv.1;have e2:ku=IS bk:=e2;subst e2;obtain⟨q1,q2,q3⟩:=ef ht;rw[IQ]at hl;have hz:xs.length<=sizeLine:=dd0.1;refine HD (HD (wpAny_dictSet_heap (hsz:=hz) (show X.A.units+bU < cLine by unfold bU; omega) (i5 I rkk q3) dd λh' dd' hs=>HQ ?_))
     have kr':=kr.put q2 q3 rkk rv' hv.2;have hz':(storedH xs t bk vu).length<=sizeLine:=by
      rw[<- kr'.length];have h2:=c8 kvs t wv;rw[Ja];omega
     have dn:DicAt X.w d (storedH xs t bk vu) h':=.of hz' dd0.2.1 dd';obtain⟨so',ex⟩:=so.writeO (iz hr) rfl ea (u:=eu X.w d (storedH xs t bk vu)) (n:=.dic (eO kvs t wv)) ⟨_,bF,kr'.mono (dF (.ext hH))⟩;have I':Inv X pins σ (cv H d (eu X.w d (storedH xs t bk vu))) { s with heap:=h',toks:=s.toks+(dg X.prog X.w).draws t }:=nD I (by rw[hH]; exact Lw) hs (let ⟨q,_,_,hq,_⟩:=dd'; ⟨q,hq⟩) dn.ok
     have hl':(S.set r (.dic (eO kvs t wv)))[r]?=gV (.dic (eO kvs t wv)):=by
      rw[JP,Iv rfl,Iv (Ig.mp (iz hr)).1]
     refine mO hu vs _ _ (eO kvs t wv) kvs' _ _ _ Q I' so' (by unfold nM; rw[hl']) ea (rp2.mono ex) vv2 e (by have:=c8 kvs t wv; omega) λs' H' I2 ex2 so2=>?_
     rw[List.set_set]at so2;exact hq s' H' I2 (ex.trans ex2) so2
    ·cases e
theorem Am {pos:J9}:GE X (.Dict [] [] pos) By:=λpins s σ H Q I ⟨A,ρ,S,w,S',er,so,e,hq⟩=>by
 cases e;have hn:=I.hok.fresh (HW s.heap.objs.size);have dn:DicAt X.w s.heap.objs.size [] (s.heap.push { cls:=.type "dict",data:=.dict #[] }):=⟨J6 _,LG.mpr (Ne.symm (IA I.big)),MW,_,#[],0,Il _ rfl,⟨rfl,rfl,rfl⟩,rfl,rfl⟩;refine wpAny_Dict_empty ⟨.ref s.heap.objs.size,_,I.laid (a:=s.heap.objs.size) (o:=eu X.w s.heap.objs.size []) (t':=s.toks) (λ_ _ q=>HK _ q) (HW _) dn.ok,rfl,hq _ _ ⟨A++[s.heap.objs.size],ey hn,so.pushO hn ⟨[],bF,.nil⟩,.ref ?_⟩⟩
 rw[<- so.len]; simp
theorem An {pos:J9}{keys:HC (HI Io)}{values:HC Io}{f:FA}(hu:X.A.units+10 < cLine)(h:EU X pos keys values f)(hall:keys.all (·.isSome)=true)(hl:keys.length=values.length)(h0:keys≠[])(h15:keys.length<=15):GE X (.Dict keys values pos) (pS f):=by
 intro pins s σ H Q I ⟨A,ρ,S,w,S',er,so,e,hq⟩;unfold pS at e;split at e
 ·rename_i ws S1 h1;split at e
  ·rename_i hS1;split at e
   ·rename_i kvs hp;cases e;have hn:=I.hok.fresh (HW s.heap.objs.size);have dn:DicAt X.w s.heap.objs.size [] (s.heap.push { cls:=.type "dict",data:=.dict #[] }):=⟨J6 _,LG.mpr (Ne.symm (IA I.big)),MW,_,#[],0,Il _ rfl,⟨rfl,rfl,rfl⟩,rfl,rfl⟩;have I1:=I.laid (a:=s.heap.objs.size) (o:=eu X.w s.heap.objs.size []) (h':=s.heap.push { cls:=.type "dict",data:=.dict #[] }) (t':=s.toks) (λ_ _ q=>HK _ q) (HW _) dn.ok
    have ex0:Ext X.K A H (A++[s.heap.objs.size]) (cv H s.heap.objs.size (eu X.w s.heap.objs.size [])):=ey hn;have so0:StoreOk X.w X.K (A++[s.heap.objs.size]) (cv H s.heap.objs.size (eu X.w s.heap.objs.size [])) (S++[.dic []]):=so.pushO hn ⟨[],bF,.nil⟩;have hlen:=pairTrees_length keys values X.env pos hall hl;have hne:pairTrees keys values X.env pos≠[]:=λhe=>by
     rw[he]at hlen;exact h0 (Ld.mp hlen.symm)
    rw[arm_eval_Dict,zip_pairTrees keys values X.env pos hall hl,dictDisplay_pairs _ hne (by omega)]
    refine HD (Lx (HD ?_));unfold subDict;refine HD (wpAny_alloc ?_);refine HD (Jx ?_);rw[Iv (by omega)]
    refine HD (JN (wpAny_evalPairs_len (h pins _ σ _ _ ρ _ _ _ I1 (er.mono ex0) so0 h1)) (λvs s₁ h₁=>?_) λ_ _ e=>e)
    obtain⟨hvl,ps,H2,I2,vv,A2,ex2,so2,rp⟩:=h₁;refine Jx ?_;have ea:A2[S.length]?=gV s.heap.objs.size:=ex2.ad _ _ (by rw[<- so.len]; simp)
    refine HD (mO hu vs ps ws [] kvs s₁ H2 S1 _ I2 so2 (by unfold nM; rw[hS1]) ea rp vv hp (by rw[Jz]; omega) λs' H' I3 ex3 so3=>?_)
    exact HQ (HQ (HQ ⟨.ref s.heap.objs.size,H',I3,rfl,hq _ _ ⟨A2,ex0.trans (ex2.trans ex3),so3,.ref ea⟩⟩))
   ·cases e
  ·cases e
 ·cases e
end
noncomputable def Hk (wd:IM)(a:HN)(o:JC)(xs:HC (T×HN×HE)):It:=
 ⟨λi H=>H a=gV (.frz o (eu wd a xs))/\i < xs.length,λi H x H'=>H'=H/\∃q,xs[i]?=gV q/\x=.ref q.2.1,λi H=>H a=gV (.frz o (eu wd a xs))/\xs.length<=i⟩
theorem uE {P:Iz}{w:IM}{K:HS}{tg:Io}(a it:HN){o:JC}{es:IW JX}{ep:HJ}{xs:HC (T×HN×HE)}(hx:o.ExactDict)(hd:o.data=.dict es ep)(he:es.toList=xs.map (vQ w)) :
  Turn P w K tg (Hk w a o xs) [it] it (λi h=>h.IsKeyIter it a i es.size ep) where
 mem:=by simp
 obj:=λi h st b hb=>by
  have e:b=it:=by simpa using hb
  subst e;obtain⟨o,e,c,d⟩:=st;exact⟨o,e,λv z=>by rw[d]at z; cases z⟩
 keep:=λi h h' st k=>st.at λo e=>k it (by simp) o e
 item:=by
  intro X hP hw hK hc i pins s σ H E I hf st hg;subst hP hw hK;obtain⟨hH,hi⟩:=hg;have ho:s.heap.get? a=gV o:=(show ObjOk X.prog X.w H s.heap a (.frz o (eu X.w a xs))from I.hok a _ hH).1
  have hl:es.size=xs.length:=by rw[<- II,he,HF]
  have hi':i < es.size:=by omega
  obtain⟨f0,f1,f2,f3,f4,f5⟩:=hf it (by simp)
  have hk:es[i].key=.ref (xs[i]).2.1:=by
   have:es.toList[i]?=gV (vQ X.w xs[i]):=by rw[he,HP,HX hi]; rfl
   rw[JD,LZ hi']at this;have:=Jo this;rw[this]; rfl
  refine pE st ⟨o,ho,hx,hd⟩ hi' λh' st' sb=>?_
  have I1:Inv X pins σ H { s with heap:=h' }:=I.turned (t':=s.toks) (λb o hb e=>(sb.2 b hb).trans e) f0 f1 f3 f4 f5
  obtain⟨o',e,c,d⟩:=id st';exact⟨_,rfl,sf (s:={ s with heap:=h' }) e c d (by decide) ⟨.ref (xs[i]).2.1,H,I1,hk,⟨rfl,xs[i],HX hi,rfl⟩,st',λb hb=>(hf b hb).1⟩⟩
 done:=by
  intro X hP hw hK hc i pins s σ H E I hf st hg;subst hP hw hK;obtain⟨hH,hi⟩:=hg;have ho:s.heap.get? a=gV o:=(show ObjOk X.prog X.w H s.heap a (.frz o (eu X.w a xs))from I.hok a _ hH).1
  have hl:es.size=xs.length:=by rw[<- II,he,HF]
  obtain⟨f0,f1,f2,f3,f4,f5⟩:=hf it (by simp)
  exact sE (I.ok.hd hc) st ⟨o,ho,hx,hd⟩ (by omega) λh' eb=>⟨rfl,I.turned (t':=s.toks) (λb o hb e=>eb b o hb e) f0 f1 f3 f4 f5⟩
 self:=λ_ _ _ _ _ st h=>MT st h
noncomputable def fQ (f:FE):FI:=λρ S=>match f ρ S with
 | some (.tup ws,S1)=>gV (.its ws,S1)
 | some (.ref r,S1)=>match g8 S1 r with
  | some _=>gV (.live r,S1)
  | none=>match jT S1 r with
   | some kvs=>gV (.its (kvs.map λp=>p.1.w),S1.set r (.frd kvs))
   | none=>td
 | _=>td
section
variable{X:Cx}{pins:HC (HN×JC)}{σ:L2.St}{H:Hp}{s:HH}{A:HC HN}{S:aa}
theorem wW {a:HN}{o:JC}{kvs:HC (T×W)}{xs:HC (T×HN×HE)}(hH:H a=gV (.frz o (eu X.w a xs)))(kr:KRel X.K A H kvs xs):MIt X.w X.K (.its (kvs.map λp=>p.1.w)) (Hk X.w a o xs) A H:=by
 refine⟨λA' H' S i w e so hi=>?_,λA' H' S i e so hi=>?_⟩
 ·simp only[MI.at,IV]at hi;obtain⟨v,h1,h2⟩:=((kr.mono e).keysL).get hi;rw[HP,HG]at h1;obtain⟨q,q1,q2⟩:=h1;refine⟨⟨e.fz _ _ _ hH,(Ig.mp q1).1⟩,λx H2 ⟨z1,q',z2,z3⟩=>?_⟩
  subst z1 z3;rw[q1]at z2; cases z2
  exact⟨.refl,so,by rw[q2]; exact h2⟩
 ·simp only[MI.at,IV]at hi;refine⟨e.fz _ _ _ hH,?_⟩;have:=JR.mp hi;rw[HF,kr.length]at this;exact this
theorem Ao {tg l:Io}{f:FE}(h:GE X l f):GI X tg l (fQ f):=by
 intro pins s σ H R I ⟨A,ρ,S,mi,S',er,so,e,hq⟩
 by_cases hd:∃r S1 kvs,f ρ S=gV (.ref r,S1)/\g8 S1 r=td/\jT S1 r=gV kvs
 ·obtain⟨r,S1,kvs,h1,h2,h3⟩:=hd;simp only[fQ,h1,h2,h3]at e;cases e;refine b8 (h pins s σ H (EndV X.w X.K A H S1 (.ref r)) I ⟨A,ρ,S,_,_,er,so,h1,λ_ _ z=>z⟩) λv s1 ⟨x,H1,I1,r1,A1,e1,o1,z1⟩=>?_
  cases z1 with
  | @ref _ a ea=>
   obtain rfl:v=IS a:=r1;have fz:∃o xs H2,Inv X pins σ H2 s1/\Ext X.K A1 H1 A1 H2/\StoreOk X.w X.K A1 H2 (S1.set r (.frd kvs))/\H2 a=gV (.frz o (eu X.w a xs))/\KRel X.K A1 H2 kvs xs:=by
    unfold jT at h3;split at h3
    ·rename_i k hk;cases h3;obtain⟨xs,hH,kr⟩:=o1.obj r _ a hk ea;have d:=cV I1 (.inl hH);obtain⟨_,_,_,o,es,ep,q1,q2,q3,q4⟩:=id d;obtain⟨so',ex⟩:=o1.writeO hk rfl ea (u:=.frz o (eu X.w a xs)) (n:=.frd kvs) ⟨o,xs,bF,kr.mono (dF (.ext hH))⟩;exact⟨o,xs,_,nD (h':=s1.heap) (t':=s1.toks) (ob:=.frz o (eu X.w a xs)) I1 (by rw[hH]; exact Lw) (PX _ _) ⟨o,q1⟩ ⟨q1,d.ok⟩,ex,so',bF,kr.mono ex⟩
    ·rename_i k hk;cases h3;obtain⟨o,xs,hH,kr⟩:=o1.obj r _ a hk ea;have:S1.set r (.frd kvs)=S1:=by
      apply L7;intro j;rw[JP];split
      ·rename_i e; subst e
       split
       ·exact hk.symm
       ·rename_i h; exact absurd (Ig.mp hk).1 h
      ·rfl
     rw[this];exact⟨o,xs,H1,I1,.refl,o1,hH,kr⟩
    ·cases h3
   obtain⟨o,xs,H2,I2,ex,so2,hH,kr⟩:=fz;have d:=cV I2 (.inr ⟨o,hH⟩);have ho:s1.heap.get? a=gV o:=(show ObjOk X.prog X.w H2 s1.heap a (.frz o (eu X.w a xs))from I2.hok a _ hH).1
   obtain⟨_,hsm,_,o',es,ep,q1,q2,q3,q4⟩:=id d;rw[ho]at q1;cases q1;refine pB hsm ⟨o,ho,q2,q3⟩ ?_;refine⟨s1.heap.objs.size,[s1.heap.objs.size],_,_,H2,rfl,I2.kept (t':=s1.toks) λb o e=>HK _ e,uE a _ q2 q3 q4,⟨_,Il _ rfl,rfl,rfl⟩,λb hb=>?_,hq _ _ A1 (e1.trans ex) so2 (wW hH kr)⟩
   have e:b=s1.heap.objs.size:=by simpa using hb
   subst e;exact I2.fpOk (HW _) (I2.hok.fresh (HW _))
 ·have:fQ f ρ S=Ae f ρ S:=by
   unfold fQ Ae;cases hf:f ρ S with
   | none=>rfl
   | some p=>
    obtain⟨w,S1⟩:=p;cases w with
    | ref r=>
     cases h2:g8 S1 r with
     | some _=>simp only[h2]
     | none=>
      cases h3:jT S1 r with
      | none=>simp only[h2,h3]
      | some kvs=>exact absurd ⟨r,S1,kvs,hf,h2,h3⟩ hd
    | _=>rfl
  rw[this]at e;exact C7 h pins s σ H R I ⟨A,ρ,S,mi,S',er,so,e,hq⟩
end
noncomputable def cq (mi:MI)(g:FG)(c:FT)(f:FE):HJ->HJ->Fm->aa->HI (HC W×aa)
 | 0,i,_,S=>match mi.at S i with
  | some td=>gV ([],S)
  | _=>td
 | n+1,i,ρ,S=>match mi.at S i with
  | some (gV w)=>match g w ρ S with
   | some (ρ1,S1)=>match c ρ1 S1 with
    | some (true,S2)=>match f ρ1 S2 with
     | some (y,S3)=>match cq mi g c f n (i+1) ρ1 S3 with
      | some (ys,S4)=>gV (y::ys,S4)
      | none=>td
     | none=>td
    | some (false,S2)=>cq mi g c f n (i+1) ρ1 S2
    | none=>td
   | none=>td
  | _=>td
noncomputable def fS (cap:HC (HI HJ))(ρ:Fm):Fm:=cap.map λo=>match o with
 | some j=>(ρ[j]?).join
 | none=>td
noncomputable def kM (fi:FI)(g:FG)(c:FT)(f:FE)(cap:HC (HI HJ)):FE:=λρ S=>match fi ρ S with
 | some (mi,S1)=>match mi.len S1 with
  | some n=>match cq mi g c f n 0 (fS cap ρ) S1 with
   | some (ys,S2)=>lG S2 ys
   | none=>td
  | none=>td
 | none=>td
noncomputable def Bz:FT:=λ_ S=>gV (true,S)
noncomputable def lE (X:Cx)(scope:KI)(cl:HC (Ih×HN))(C:HN)(N:HC Ih)(s0:HH)(H0:Hp)(ex:HC HN):Cx:=
 { X with env:=compEnvC scope cl C X.env,N:=N,s₀:=s0,H₀:=H0,outer:=X.stack,stack:=X.stack,ex:=ex,fn:=λ_=>false,pn:=[],xe:=λ_ _=>Jn }
structure CompOk (X:Cx)(scope:KI)(cl:HC (Ih×HN))(N:HC Ih)(cap:HC (HI HJ)):Prop where
 clos:closureFor scope X.env=pure cl
 kind:scope.kind=.function
 names:∀y∈scope.names,y.2=.local->scope.names.lookup y.1=gV .local
 nocell:∀y∈scope.names,y.2≠.cell
 sub:∀x c,cl.lookup x=gV c->X.env.cells.lookup x=gV c
 has:∀x,((relabel scope X.env).names.lookup x=gV .cell\/(relabel scope X.env).names.lookup x=gV .free)->∃c,cl.lookup x=gV c
 len:cap.length=N.length
 cap:∀(i j:HJ) (x:Ih),cap[i]?=gV (gV j)->N[i]?=gV x->X.N[j]?=gV x/\(X.env.kindOf x=gV .cell\/X.env.kindOf x=gV .free)/\((relabel scope X.env).names.lookup x=gV .cell\/(relabel scope X.env).names.lookup x=gV .free)
theorem gJ {prog:Iz}{w:IM}{A:IJ}{R:N3->HH->Prop}{s:HH}{elt target iter:Io}{ifs:HC Io}{scope:KI}{pos:J9}{it acc:HE}{env:NB}(I:HJ->HH->Prop)
    (turn:∀n s,I n s->wpAny (model prog w) A (pyNext it) (λr s₁=>match r with
      | none=>R (.ok .next) s₁
      | some v=>wpAny (model prog w) A (letOwnedTupleGo target it v) (λ_ s₁=>wpAny (model prog w) A (assign target env v) (λ_ s₂=>
          wpAny (model prog w) A (forIn ifs true λc r=>if r=true then do let ok <- isTrue c env (eval c env); pure (JG ok)else pure (JG r)) (λok s₃=>
            if ok=true then wpAny (model prog w) A (eval elt env) (λx s₄=>
              wpAny (model prog w) A (call (.builtin "list.append") [acc,x]) (λ_ s₅=>∃m,m < n/\I m s₅) (λ_ _=>Jn) s₄) (λ_ _=>Jn) s₃
            else ∃m,m < n/\I m s₃) (λ_ _=>Jn) s₂) (λ_ _=>Jn) s₁) (λ_ _=>Jn) s₁) (λ_ _=>Jn) s)
    (n:HJ) (h:I n s) :
    codeAny (model prog w) A (.compLoop (.ListComp elt [⟨target,iter,ifs,0⟩] scope pos) 0 it acc env) R s:=by
  refine codeAny_loop rfl I (λn s hI=>?_) n h
  show wpAny _ A ((compTurn (.ListComp elt [⟨target,iter,ifs,0⟩] scope pos) 0 it acc env).onRaise (λx=>do noteFrame x env; theTreesLotGoes x)) _ _ s
  refine wpAny_noted ?_;rw[compTurn_list];refine HD (Lx (HD (JN (turn n s hI) (λr s₁ h₁=>?_) λ_ _ h'=>h'.elim)))
  cases r with
  | none=>exact HQ h₁
  | some v=>
    refine HD (JN h₁ (λ_ s₁ h₁=>?_) λ_ _ h'=>h'.elim)
    refine HD (JN h₁ (λ_ s₂ h₂=>HD (JN h₂ (λok s₃ h₃=>?_) λ_ _ h'=>h'.elim)) λ_ _ h'=>h'.elim)
    cases ok with
    | false=>exact HQ ⟨rfl,h₃⟩
    | true=>
      exact HD (HD (JN h₃ (λx s₄ h₄=>HD (JN h₄ (λ_ s₅ h₅=>HQ (HQ ⟨rfl,h₅⟩)) λ_ _ h'=>h'.elim)) λ_ _ h'=>h'.elim))
section
variable{X:Cx}{pins:HC (HN×JC)}{σ:L2.St}{H:Hp}{s:HH}
theorem Inv.adopt {D:HN}{o:HO}(I:Inv X pins σ H s)(hn:H D=td)(h1:D∈X.ex\/X.s₀.heap.objs.size<=D)(hL:D≠X.env.locals)(h2:∀x c,X.env.cells.lookup x=gV c->c≠D)(h3:∀p∈X.pn++pins,p.1≠D)
  (new:ObjOk X.prog X.w (cv H D o) s.heap D o):Inv X pins σ (cv H D o) s:=by
 have nit:∀b u,H b=gV u->b≠D:=λb u e z=>by rw[z,hn]at e; cases e
 have key:Inv X pins σ (cv H D o) { s with heap:=s.heap,gens:=s.gens,drawn:=s.drawn,toks:=s.toks }:=by
  refine I.step (g':=s.gens) (d':=s.drawn) (t':=s.toks) (h':=s.heap) (ch:=[D]) (λb hb=>?_) (λb o _ _ hc e _=>e) (λb o _ _ hc e _=>⟨o.slots,e⟩) (λb o hc e n=>?_)
   (λb o hc e=>⟨o,e⟩) (λb xs e=>?_) (λb o xs e=>?_) (λb ps e=>⟨#[],?_⟩) (λm hm=>hm) (λb u e=>?_) I.bare
  ·have e:b=D:=by simpa using hb
   subst e;exact⟨h1,hL,h2,h3⟩
  ·rw[aY (λz=>hc (by simp[z]))]; exact n
  ·rw[aY (nit b _ e)]; exact e
  ·rw[aY (nit b _ e)]; exact e
  ·rw[aY (nit b _ e),e]; simp
  ·by_cases hb:b=D
   ·subst hb; rw[bF]at e; cases e; exact new
   ·rw[aY hb]at e;refine(I.hok b u e).stay (λc v hc q=>q) (λc q=>?_) λc xs q=>?_
    ·rw[aY (nit c _ q)]; exact q
    ·rw[aY (nit c _ q)]; exact q
 exact key
theorem Da {scope:KI}{cl:HC (Ih×HN)}{N:HC Ih}{cap:HC (HI HJ)}{C:HN}{s0:HH}{ex:HC HN}(I:Inv X pins σ H s)(ck:CompOk X scope cl N cap)(hs:s.heap.objs.size<=s0.heap.objs.size)(hC:s0.heap.objs.size<=C)
  (hk:∀b o,s.heap.get? b=gV o->s0.heap.get? b=gV o) (hex:∀b∈ex,(b≠C)/\(∀x c,X.env.cells.lookup x=gV c->c≠b)/\(∀o,X.base.get? b≠gV o)/\b∉qV X.stack) :
  (lE X scope cl C N s0 H ex).Ok where
 mod:=I.ok.mod
 kind:=ck.kind
 glob:=I.ok.glob
 blt:=I.ok.blt
 above:=hC
 inj:=λx y c h1 h2=>I.ok.inj x y c (ck.sub x c h1) (ck.sub y c h2)
 has:=λx h=>ck.has x h
 cab:=λx c h=>by cases h
 hd:=I.ok.hd
 frames:=I.ok.frames
 stk:=.inl rfl
 exf:=λb hb=>⟨(hex b hb).1,λx c h=>(hex b hb).2.1 x c (ck.sub x c h)⟩
 bs:=λb o e=>⟨hk b o (I.bk b o e),(I.bs b o e).2⟩
 bsz:=IT (IT I.ok.bsz I.sz) hs
 noex:=λb o e hb=>(hex b hb).2.2.1 o e
 exfs:=λb hb=>(hex b hb).2.2.2
 funs:=I.stack.of_keeps λb o e _=>⟨o,hk b o e,rfl⟩
 frf:=I.stkFree
structure BlockOk (X:Cx)(scope:KI)(cl:HC (Ih×HN))(N:HC Ih)(tg elt:Io)(ifs:HC Io)(g:FG)(c:FT)(f:FE):Prop where
 tgt:∀C s0 H0 ex,GG (lE X scope cl C N s0 H0 ex) tg g
 tst:∀C s0 H0 ex pins s σ H Q,Inv (lE X scope cl C N s0 H0 ex) pins σ H s->tT (lE X scope cl C N s0 H0 ex) c σ H Q->
  wpAny (model X.prog X.w) X.A (forIn ifs true λc r=>if r=true then do let ok <- isTrue c (compEnvC scope cl C X.env) (eval c (compEnvC scope cl C X.env)); pure (JG ok)else pure (JG r)) (TP (lE X scope cl C N s0 H0 ex) pins σ Q) (λ_ _=>Jn) s
 elt:∀C s0 H0 ex,GE (lE X scope cl C N s0 H0 ex) elt f
theorem nX {prog:Iz}{w:IM}{B:IJ}{s:HH}{E:HE->HH->Prop}{Q:HE->HH->Prop}{D:HN}{its:HC HE}{n:HJ}{u:HE}(e:s.heap.get? D=gV { cls:=.type "list",data:=.seq its.toArray n })(hz:its.length < sizeLine)
  (h:∀h' n',h'.get? D=gV { cls:=.type "list",data:=.seq (its++[u]).toArray n' }->(∀b o,b≠D->s.heap.get? b=gV o->h'.get? b=gV o)->Q .none { s with heap:=h' }) :
  wpAny (model prog w) B (call (.builtin "list.append") [.ref D,u]) Q E s:=by
 refine Lu F.slot_list_append ⟨_,e,rfl⟩ F.entry_list_append (F.args_list_append_2 _ _) (NL D its.toArray n u (by rw[HZ]; omega)) ⟨e,?_⟩
 have q:=N7 e (λa=>a.push u)
 have e2:its.toArray.push u=(its++[u]).toArray:=by simp
 rw[e2]at q;exact h _ _ q (λb o hb ho=>(Jf s.heap (Jv λa=>a.push u) (Ne.symm hb)).trans ho)
theorem mP {scope:KI}{cl:HC (Ih×HN)}{N:HC Ih}{cap:HC (HI HJ)}{tg elt iter:Io}{ifs:HC Io}{g:FG}{c:FT}{f:FE}{pos:J9}{A:HC HN}{ρ:Fm}{S S':aa}{mi:MI}{n:HJ}{ws:HC W}{E:HE->HH->Prop}
  {it:HN} {fp:HC HN} {tn:HJ->IX->Prop} {J:It} {RR:HE->HN->N3->HH->Prop}
  (I:Inv X pins σ H s) (hc:X.calm=true) (er:EnvRel X.K A H ρ σ) (so:StoreOk X.w X.K A H S) (ck:CompOk X scope cl N cap) (bk:BlockOk X scope cl N tg elt ifs g c f)
  (T:Turn X.prog X.w X.K tg J fp it tn) (t0:tn 0 s.heap) (hfp:∀b∈fp,iZ X pins H b) (mit:MIt X.w X.K mi J A H) (e:cq mi g c f n 0 (fS cap ρ) S=gV (ws,S')) (hz:ws.length<=sizeLine)
  (fin:∀D C s' H' A' vs m,s'.heap.Ns C m->H' D=td->D≠C->C≠X.env.locals->C∉X.fs->H' C=td->X.s₀.heap.objs.size<=C->(∀x c,X.env.cells.lookup x=gV c->c≠C)->(∀p∈X.pn++pins,p.1≠C)->
   Inv X pins σ (cv H' D (.lst vs)) s'->Ext X.K A H A' H'->StoreOk X.w X.K A' H' S'->RelL X.K A' H' ws vs->RR (.ref D) C (.ok .next) s') :
  wpAny (model X.prog X.w) X.A (newList []) (λacc s₃=>wpAny (model X.prog X.w) X.A (newFunctionEnv scope X.env.globals cl [] X.env.qual td .none (gV X.env)) (λcenv s₄=>
   codeAny (model X.prog X.w) X.A (.compStart (.ListComp elt [⟨tg,iter,ifs,0⟩] scope pos) 0 (.ref it) acc { cenv with scope:=relabel scope X.env }) (RR acc cenv.locals) s₄) E s₃) E s:=by
 refine IY (wpAny_newFunctionEnv ck.nocell (by intro y hy; simp at hy) (λh₁ hns₁ hsb₁=>?_) ck.kind)
 dsimp only at hns₁ hsb₁ ⊢;generalize hH2:s.heap.push { cls:=.type "list",dict:=td,data:=.seq ([]:HC HE).toArray }=h2 at hns₁ hsb₁ ⊢;have hCs:h2.objs.size=s.heap.objs.size+1:=by rw[<- hH2,OM]
 have k2:∀b o,s.heap.get? b=gV o->h2.get? b=gV o:=λb o z=>hH2 ▸ HK _ z
 have lt2:∀b o,h2.get? b=gV o->b < h2.objs.size:=λb o z=>Ik z
 have k1:∀b o,h2.get? b=gV o->h₁.get? b=gV o:=λb o z=>hsb₁.extBut b o (IA (lt2 b o z)) (HK _ z)
 have hD2:h2.get? s.heap.objs.size=gV { cls:=.type "list",data:=.seq ([]:HC HE).toArray }:=hH2 ▸ Il _ rfl;have hDC:s.heap.objs.size≠h2.objs.size:=by rw[hCs]; omega
 have fresh:∀a,s.heap.objs.size<=a->H a=td:=λa ha=>I.hok.fresh ha
 have cellLt:∀x c,X.env.cells.lookup x=gV c->c < s.heap.objs.size:=λx c z=>let ⟨_,q⟩:=I.cell x c z; q.lt
 have fpLt:∀b∈fp,b < s.heap.objs.size:=λb hb=>let ⟨_,q,_⟩:=T.obj 0 s.heap t0 b hb; Ik q
 have stkLt:∀b∈qV X.stack,b < s.heap.objs.size:=λb hb=>let ⟨_,o,q,_⟩:=I.stack.mem hb; Ik q
 have baseLt:∀b o,X.base.get? b=gV o->b < s.heap.objs.size:=λb o z=>Ik (I.bk b o z)
 have fpStk:∀b∈fp,b∉qV X.stack:=λb hb z=>by
  rcases IG.mp (I.stkSub b z)with q|q
  ·exact(hfp b hb).2.1 q
  ·exact(hfp b hb).2.2.1 q
 have fpBase:∀b∈fp,∀o,X.base.get? b≠gV o:=λb hb o z=>by
  rcases(hfp b hb).2.2.2.1 with q|q
  ·exact I.ok.noex b o z q
  ·exact absurd (IB (Ik (I.ok.bs b o z).1) q) (Jr _)
 have ltC:∀ {b:HN},b < s.heap.objs.size->b≠h2.objs.size:=λhb=>by rw[hCs]; exact IA (Nat.lt_succ_of_lt hb)
 let s3:HH:={ s with heap:=h2 }
 have ok':(lE X scope cl h2.objs.size N s3 H (fp++[s.heap.objs.size])).Ok:=by
  refine Da I ck (show s.heap.objs.size<=h2.objs.size by rw[hCs]; omega) (HW _) k2 λb hb=>?_
  rcases IP.mp hb with hb|hb
  ·exact⟨ltC (fpLt b hb),(hfp b hb).2.2.2.2.1,fpBase b hb,fpStk b hb⟩
  ·have eb:b=s.heap.objs.size:=by simpa using hb
   subst eb;exact⟨hDC,λx c z=>IA (cellLt x c z),λo z=>Jr _ (baseLt _ o z),λz=>Jr _ (stkLt _ z)⟩
 obtain⟨m0,hn0,hl0⟩:=I.loc;have I0:Inv (lE X scope cl h2.objs.size N s3 H (fp++[s.heap.objs.size])) [] (cap.map λo=>match o with|some j=>(σ[j]?).join|none=>td) H { s3 with heap:=h₁,toks:=s3.toks+([]:HC (Ih×HE)).length }:=by
  refine⟨ok',rfl,I.bare,Un.kept k1,⟨_,hns₁,λi x v e1 e2 e3=>?_⟩,λx cc z=>?_,fresh _ (show s.heap.objs.size<=h2.objs.size by rw[hCs]; exact KR _),λx cc z=>I.freeC x cc (ck.sub x cc z),λp hp=>absurd hp (by simp[lE]),(I.hok.kept k2).kept k1,by rw[HF]; exact ck.len⟩
  ·rw[HP]at e2;cases q:cap[i]? with
   | none=>rw[q]at e2; cases e2
   | some oj=>
    rw[q]at e2;cases oj with
    | none=>cases e2
    | some j=>
     obtain⟨z1,z2,z3⟩:=ck.cap i j x q e1;have e2':(σ[j]?).join=gV v:=by simpa using e2
     have e2'':σ[j]?=gV (gV v):=by
      cases r:σ[j]? with
      | none=>rw[r]at e2'; cases e2'
      | some y=>rw[r]at e2'; exact congrArg gV e2'
     obtain⟨u,ru,lk⟩:=hl0 j x v z1 e2'' (by
      rcases z2 with z|z
      ·exact .inr (.inl z)
      ·exact .inr (.inr z))
     refine⟨u,ru,?_⟩;rcases lk with⟨zk,_⟩|⟨_,cc,zc,zi⟩
     ·rcases z2 with z|z <;> (rw[zk]at z; cases z)
     ·obtain⟨c2,hc2⟩:=ck.has x z3;have:=ck.sub x c2 hc2;rw[zc]at this; cases this
      refine .inr ⟨z3,cc,hc2,?_⟩;obtain⟨o,ho,hd⟩:=zi;exact⟨o,k1 _ _ (k2 _ _ ho),hd⟩
  ·obtain⟨v,o,ho,hd⟩:=I.cell x cc (ck.sub x cc z);exact⟨v,o,k1 _ _ (k2 _ _ ho),hd⟩
 have er0:EnvRel X.K A H (fS cap ρ) (cap.map λo=>match o with|some j=>(σ[j]?).join|none=>td):=by
  refine⟨by simp[fS],λi w q=>?_⟩
  unfold fS at q;rw[HP]at q ⊢;cases r:cap[i]? with
  | none=>rw[r]at q; cases q
  | some oj=>
   rw[r]at q;cases oj with
   | none=>cases q
   | some j=>
    have q':(ρ[j]?).join=gV w:=by simpa using q
    have q'':ρ[j]?=gV (gV w):=by
     cases z:ρ[j]? with
     | none=>rw[z]at q'; cases q'
     | some y=>rw[z]at q'; exact congrArg gV q'
    obtain⟨v,z1,z2⟩:=er.2 j w q'';exact⟨v,by simp[z1],z2⟩
 have t1:tn 0 h₁:=T.keep 0 s.heap h₁ t0 λb hb o z=>k1 b o (k2 b o z)
 have fpOk':∀ {H':Hp} {pp:HC (HN×JC)},(∀b∈fp,H' b=td)->(∀p∈pp,p.1=s.heap.objs.size)->∀b∈fp,iZ (lE X scope cl h2.objs.size N s3 H (fp++[s.heap.objs.size])) pp H' b:=λhn hp b hb=>
  ⟨hn b hb,ltC (fpLt b hb),fpStk b hb,.inl (Kn _ hb),λx cc z=>(hfp b hb).2.2.2.2.1 x cc (ck.sub x cc z),λp hpp=>by
   rw[hp p (by simpa [lE]using hpp)]
   exact(IA (fpLt b hb)).symm⟩
 have DinEx:s.heap.objs.size∈fp++[s.heap.objs.size]:=IE _ (by simp)
 have cellD:∀x c,cl.lookup x=gV c->c≠s.heap.objs.size:=λx cc z=>IA (cellLt x cc (ck.sub x cc z))
 have fpD:∀b∈fp,b≠s.heap.objs.size:=λb hb=>IA (fpLt b hb)
 have theEnd:∀s' σ' H' A' vs its nn,Inv (lE X scope cl h2.objs.size N s3 H (fp++[s.heap.objs.size])) [] σ' H' s'->s'.heap.get? s.heap.objs.size=gV { cls:=.type "list",data:=.seq its nn }->∀(hits:∃l:HC HE,its=l.toArray/\Vals vs l),H' s.heap.objs.size=td->Ext X.K A H A' H'->StoreOk X.w X.K A' H' S'->RelL X.K A' H' ws vs->
   RR (.ref s.heap.objs.size) h2.objs.size (.ok .next) s':=by
  intro s' σ' H' A' vs its nn I' hD hits hDn ex so' rl;obtain⟨l,rfl,rv⟩:=hits;obtain⟨m,hn,_⟩:=id I'.loc;have un:Un (qV X.stack) (fp++[s.heap.objs.size]) H H' s.heap s'.heap:=(Un.kept k2).trans I'.base;have hch:∀b∈fp++[s.heap.objs.size],(b∈X.ex\/X.s₀.heap.objs.size<=b)/\b≠X.env.locals/\(∀x c,X.env.cells.lookup x=gV c->c≠b)/\∀p∈X.pn++pins,p.1≠b:=λb hb=>by
   rcases IP.mp hb with hb|hb
   ·exact⟨(hfp b hb).2.2.2.1,(hfp b hb).2.1,(hfp b hb).2.2.2.2.1,(hfp b hb).2.2.2.2.2⟩
   ·have eb:b=s.heap.objs.size:=by simpa using hb
    subst eb;exact⟨.inr I.sz,(IA I.lt).symm,λx cc z=>IA (cellLt x cc z),λp hp=>IA (Ik (I.pin p hp).1)⟩
  have I2:Inv X pins σ H' s':=I.call' (show s'.os=s.os from I'.os) un I'.hok I'.bare hch
  have I3:Inv X pins σ (cv H' s.heap.objs.size (.lst vs)) s':=Inv.adopt I2 hDn (hch _ DinEx).1 (hch _ DinEx).2.1 (hch _ DinEx).2.2.1 (hch _ DinEx).2.2.2 ⟨by rw[<- rl.length]; exact hz,l,nn,rv,hD⟩
  have hCle:s.heap.objs.size<=h2.objs.size:=by rw[hCs]; exact KR _
  exact fin _ _ s' H' A' vs m hn hDn hDC (KC (IB I.lt hCle)) (I.nofs hCle) I'.free (IT I.sz hCle) (λx cc z=>IA (IB (cellLt x cc z) hCle))
   (λp hp=>IA (IB (Ik (I.pin p hp).1) hCle)) I3 ex so' rl
 have loop:∀s4:HH,s4={ s3 with heap:=h₁,toks:=s3.toks+([]:HC (Ih×HE)).length }->
   codeAny (model X.prog X.w) X.A (.compLoop (.ListComp elt [⟨tg,iter,ifs,0⟩] scope pos) 0 (.ref it) (.ref s.heap.objs.size) (compEnvC scope cl h2.objs.size X.env)) (RR (.ref s.heap.objs.size) h2.objs.size) s4:=by
  rintro s4 rfl;refine gJ (λk s5=>∃i σ5 H5 A5 ρ5 S5 done its nn vs ys,Inv (lE X scope cl h2.objs.size N s3 H (fp++[s.heap.objs.size])) [] σ5 H5 s5/\tn i s5.heap/\(∀b∈fp,H5 b=td)/\s5.heap.get? s.heap.objs.size=gV { cls:=.type "list",data:=.seq (its:HC HE).toArray nn }/\H5 s.heap.objs.size=td/\Vals vs its/\
   Ext X.K A H A5 H5/\EnvRel X.K A5 H5 ρ5 σ5/\StoreOk X.w X.K A5 H5 S5/\RelL X.K A5 H5 done vs/\ws=done++ys/\cq mi g c f k i ρ5 S5=gV (ys,S')) ?_ n
   ⟨0,_,H,A,_,S,[],[],0,[],ws,I0,t1,λb hb=>(hfp b hb).1,k1 _ _ hD2,fresh _ (HW _),.nil,.refl,er0,so,.nil,rfl,e⟩
  rintro k s5 ⟨i,σ5,H5,A5,ρ5,S5,done,its,nn,vs,ys,I5,t5,f5,d5,n5,v5,e5,er5,so5,rl5,hw5,w5⟩;have pinD:Inv (lE X scope cl h2.objs.size N s3 H (fp++[s.heap.objs.size])) [(s.heap.objs.size,{ cls:=.type "list",data:=.seq its.toArray nn })] σ5 H5 s5:=I5.pins_of λp hp=>by
   have hp':p=(s.heap.objs.size,{ cls:=.type "list",data:=.seq its.toArray nn }):=by simpa using hp
   subst hp';exact⟨d5,n5,hDC,λz=>Jr _ (stkLt _ z),λv z=>by cases z⟩
  have oneD:∀p∈[(s.heap.objs.size,({ cls:=.type "list",data:=.seq its.toArray nn }:JC))],p.1=s.heap.objs.size:=λp hp=>by
   have hp':p=(s.heap.objs.size,{ cls:=.type "list",data:=.seq its.toArray nn }):=by simpa using hp
   rw[hp']
  cases k with
  | zero=>
   dsimp only[cq]at w5;split at w5
   ·rename_i hst;cases w5;rw[Jy]at hw5;subst hw5;refine b8 (T.done (lE X scope cl h2.objs.size N s3 H (fp++[s.heap.objs.size])) rfl rfl rfl hc i _ s5 σ5 H5 _ pinD (fpOk' f5 oneD) t5 (mit.stop A5 H5 _ i e5 so5 hst)) λr s6 ⟨hr,I6⟩=>?_
    subst hr;have p6:=I6.pin _ (IE _ (Im.mpr rfl));exact theEnd s6 σ5 H5 A5 vs _ nn (I6.pins_of λp hp=>absurd hp (by simp)) p6.1 ⟨its,rfl,v5⟩ n5 e5 so5 rl5
   ·cases w5
  | succ k=>
   dsimp only[cq]at w5;split at w5
   ·rename_i w hw;obtain⟨go,yl⟩:=mit.go A5 H5 S5 i w e5 so5 hw;refine b8 (T.item (lE X scope cl h2.objs.size N s3 H (fp++[s.heap.objs.size])) rfl rfl rfl hc i _ s5 σ5 H5 _ pinD (fpOk' f5 oneD) t5 go) λr s6 ⟨u,hr,h6⟩=>?_
    subst hr;refine b8 h6 λ_ s7 ⟨x,H7,I7,r7,y7,t7,f7⟩=>?_
    obtain⟨x1,x2,x3⟩:=yl x H7 y7;have I7':=I7.pinned (fpOk' f7 oneD) (T.obj _ _ t7);split at w5
    ·rename_i ρ8 S8 h8;refine b8 (bk.tgt _ _ _ _ _ s7 σ5 H7 x u (λσ' H'=>∃A',Ext X.K A5 H5 A' H'/\StoreOk X.w X.K A' H' S8/\EnvRel X.K A' H' ρ8 σ') I7' r7 ⟨A5,ρ5,S5,w,ρ8,S8,er5.mono x1,x2,x3,h8,λσ' H' A' q1 q2 q3=>⟨A',x1.trans q1,q2,q3⟩⟩) λ_ s8 ⟨σ8,H8,I8,A8,e58,so8,er8⟩=>?_
     have e8:Ext X.K A H A8 H8:=e5.trans e58;have pD:∀ {σ':L2.St} {H':Hp} {s':HH},Inv (lE X scope cl h2.objs.size N s3 H (fp++[s.heap.objs.size])) ([(s.heap.objs.size,{ cls:=.type "list",data:=.seq its.toArray nn })]++i3 fp s7.heap) σ' H' s'->s'.heap.get? s.heap.objs.size=gV { cls:=.type "list",data:=.seq its.toArray nn }/\H' s.heap.objs.size=td:=λI'=>
      let q:=I'.pin _ (IE _ (Kn _ (Im.mpr rfl)))
      ⟨q.1,q.2.1⟩
     have pF:∀ {σ':L2.St} {H':Hp} {s':HH},Inv (lE X scope cl h2.objs.size N s3 H (fp++[s.heap.objs.size])) ([(s.heap.objs.size,{ cls:=.type "list",data:=.seq its.toArray nn })]++i3 fp s7.heap) σ' H' s'->(∀b∈fp,H' b=td)/\∀b∈fp,∀o,s7.heap.get? b=gV o->s'.heap.get? b=gV o:=λI'=>
      ⟨λb hb=>by
       obtain⟨o,eo,_⟩:=T.obj _ _ t7 b hb;exact(I'.pin (b,o) (IE _ (IE _ (fD hb eo)))).2.1,
       λb hb o eo=>(I'.pin (b,o) (IE _ (IE _ (fD hb eo)))).1⟩
     split at w5
     ·rename_i S9 h9;refine b8 (bk.tst _ _ _ _ _ s8 σ8 H8 (λb H'=>b=true/\∃A',Ext X.K A8 H8 A' H'/\StoreOk X.w X.K A' H' S9) I8 ⟨A8,ρ8,S8,true,S9,er8,so8,h9,λb H' ⟨z0,A',z1,z2⟩=>⟨z0,A',z1,z2⟩⟩) λb s9 ⟨H9,I9,z0,A9,e9,so9⟩=>?_
      subst z0;rw[Iv rfl];split at w5
      ·rename_i y S10 h10;split at w5
       ·rename_i ys' S4 h11;cases w5;refine b8 (bk.elt _ _ _ _ _ s9 σ8 H9 (EndV X.w X.K A9 H9 S10 y) I9 ⟨A9,ρ8,S9,y,S10,er8.mono e9,so9,h10,λ_ _ z=>z⟩) λu10 s10 ⟨v10,H10,I10,r10,A10,e10,so10,rl10⟩=>?_
        obtain⟨d10,n10⟩:=pD I10;obtain⟨f10,k10⟩:=pF I10;have hlen:its.length < sizeLine:=by
         have l1:=v5.length;have l2:=rl5.length;rw[hw5,HM,IQ]at hz;omega
        refine nX d10 hlen λh' n' hd' hk'=>?_
        have Ib:Inv (lE X scope cl h2.objs.size N s3 H (fp++[s.heap.objs.size])) [] σ8 H10 { s10 with heap:=h' }:=by
         have Ia:Inv (lE X scope cl h2.objs.size N s3 H (fp++[s.heap.objs.size])) [] σ8 H10 s10:=I10.pins_of λp hp=>absurd hp (by simp)
         exact Ia.turned (t':=s10.toks) (it:=s.heap.objs.size) hk' n10 hDC (.inl DinEx) cellD (λp hp=>absurd hp (by simp[lE]))
        refine⟨k,KT k,i+1,σ8,H10,A10,ρ8,S10,done++[y],its++[u10],n',vs++[v10],ys',Ib,?_,f10,hd',n10,v5.append (.cons r10 .nil),(e8.trans e9).trans e10,(er8.mono e9).mono e10,so10,?_,?_,h11⟩
        ·exact T.keep (i+1) s7.heap h' t7 λb hb o eo=>hk' b o (fpD b hb) (k10 b hb o eo)
        ·exact(rl5.mono ((e58.trans e9).trans e10)).append (.cons rl10 .nil)
        ·rw[hw5,KL]; rfl
       ·cases w5
      ·cases w5
     ·rename_i S9 h9;refine b8 (bk.tst _ _ _ _ _ s8 σ8 H8 (λb H'=>b=false/\∃A',Ext X.K A8 H8 A' H'/\StoreOk X.w X.K A' H' S9) I8 ⟨A8,ρ8,S8,false,S9,er8,so8,h9,λb H' ⟨z0,A',z1,z2⟩=>⟨z0,A',z1,z2⟩⟩) λb s9 ⟨H9,I9,z0,A9,e9,so9⟩=>?_
      subst z0;rw[IK Ip];obtain⟨d9,n9⟩:=pD I9;obtain⟨f9,k9⟩:=pF I9;refine⟨k,KT k,i+1,σ8,H9,A9,ρ8,S9,done,its,nn,vs,ys,I9.pins_of λp hp=>absurd hp (by simp),T.keep (i+1) s7.heap _ t7 k9,f9,d9,n9,v5,e8.trans e9,er8.mono e9,so9,rl5.mono (e58.trans e9),hw5,w5⟩
     ·cases w5
    ·cases w5
   ·cases w5
 exact codeAny_compStart_list (loop _ rfl) (T.self X.A 0 _ _ _ t1 (loop _ rfl))
theorem pT {fi:FI}{g:FG}{c:FT}{f:FE}{cap:HC (HI HJ)}{ρ:Fm}{S:aa}{w:W}{S':aa}(e:kM fi g c f cap ρ S=gV (w,S')) :
  ∃mi S1 n ys S2,fi ρ S=gV (mi,S1)/\mi.len S1=gV n/\cq mi g c f n 0 (fS cap ρ) S1=gV (ys,S2)/\ys.length<=sizeLine/\w=.ref S2.length/\S'=S2++[.lst ys]:=by
 unfold kM at e;split at e
 ·rename_i mi S1 h1;split at e
  ·rename_i n h2;split at e
   ·rename_i ys S2 h3;obtain⟨h4,h5,h6⟩:=j4 e;exact⟨mi,S1,n,ys,S2,h1,h2,h3,h4,h5,h6⟩
   ·cases e
  ·cases e
 ·cases e
theorem Ap {scope:KI}{N:HC Ih}{cap:HC (HI HJ)}{tg elt iter:Io}{ifs:HC Io}{fi:FI}{g:FG}{c:FT}{f:FE}{pos:J9}(hc:X.calm=true)(hi:GI X tg iter fi)(hck:X.Ok->∃cl,CompOk X scope cl N cap/\BlockOk X scope cl N tg elt ifs g c f)
  (hs:∀x,foldedSetIterable iter X.env x=pure x):GE X (.ListComp elt [⟨tg,iter,ifs,0⟩] scope pos) (kM fi g c f cap):=by
 intro pins s σ H Q I ⟨A,ρ,S,w,S',er,so,e,hq⟩;obtain⟨mi,S1,n,ys,S2,h1,h2,h3,h4,rfl,rfl⟩:=pT e;obtain⟨cl,ck,bk⟩:=hck I.ok;rw[eval_ListComp];refine Mf (use:=td) rfl hs ck.clos ck.kind ck.names (b8 (hi pins s σ H (λJ H'=>∃A',Ext X.K A H A' H'/\StoreOk X.w X.K A' H' S1/\MIt X.w X.K mi J A' H') I ⟨A,ρ,S,mi,S1,er,so,h1,λJ H' A' z1 z2 z3=>⟨A',z1,z2,z3⟩⟩) λv s1 q1=>b8 q1 λitv s2 q2=>?_)
 obtain⟨it,fp,tn,J,H2,rfl,I2,T,t0,hfp,A2,e2,so2,mit⟩:=q2;refine mP (RR:=λacc C=>compPost (model X.prog X.w) X.A X.xe td (EP X pins σ Q) acc C) I2 hc (er.mono e2) so2 ck bk T t0 hfp mit h3 h4 ?_
 intro D C s' H' A' vs m hn hDn hDC hCL hCf hCn hCs hCc hCp I3 ex so3 rl;refine⟨m,hn,λh' hs'=>?_⟩
 have I4:Inv X pins σ (cv H' D (.lst vs)) { s' with heap:=h' }:=I3.turned (t':=s'.toks) (it:=C) (λb o hb eo=>hs'.extBut b o hb eo) (by rw[aY (Ne.symm hDC)]; exact hCn) hCL (.inr hCs) hCc hCp
 exact⟨.ref D,_,I4,rfl,hq _ _ (EndV.after (e2.trans ex) (.lst so3 rl hDn))⟩
theorem rG {scope:KI}{N:HC Ih}{cap:HC (HI HJ)}{tg elt iter:Io}{ifs:HC Io}{fi:FI}{g:FG}{c:FT}{f:FE}{pos py spos:J9}{y:Ih}{i:HJ}(hc:X.calm=true)(hi:GI X tg iter fi)(hck:X.Ok->∃cl,CompOk X scope cl N cap/\BlockOk X scope cl N tg elt ifs g c f)
  (hs:∀x,foldedSetIterable iter X.env x=pure x) (hsw:swapsWith (.ListComp elt [⟨tg,iter,ifs,0⟩] scope pos) (gV (.Name y py)) spos.line X.env=pure true) (hN:X.N.Nodup) (hy:X.N[i]?=gV y) (hl:X.env.scope.names.lookup y=gV .local) :
  GS X (.Assign [.Name y py] (.ListComp elt [⟨tg,iter,ifs,0⟩] scope pos) spos) (kL (kM fi g c f cap) (Ab i)):=by
 intro pins s σ H Dd I ⟨A,ρ,S,o,S',er,so,e,hd⟩;unfold kL at e;split at e
 ·rename_i w S0 h0;simp only[Ab]at e;cases e;obtain⟨mi,S1,n,ys,S2,h1,h2,h3,h4,rfl,rfl⟩:=pT h0;obtain⟨cl,ck,bk⟩:=hck I.ok;rw[exec_Assign_Name_used _ _ _ _ hsw];refine HD (Lx (HD ?_));show wpAny _ X.A (do let _ <- comprehension (.ListComp elt [⟨tg,iter,ifs,0⟩] scope pos) scope X.env _ (newList []) false (eval iter X.env) (gV (assign (.Name y py) X.env))) _ _ s
  refine HD (JN (Mf (use:=gV (assign (.Name y py) X.env)) (Q:=λ_ s'=>SP X pins Dd .next s') rfl hs ck.clos ck.kind ck.names
   (b8 (hi pins s σ H (λJ H'=>∃A',Ext X.K A H A' H'/\StoreOk X.w X.K A' H' S1/\MIt X.w X.K mi J A' H') I ⟨A,ρ,S,mi,S1,er,so,h1,λJ H' A' z1 z2 z3=>⟨A',z1,z2,z3⟩⟩) λv s1 q1=>b8 q1 λitv s2 q2=>?_)) (λ_ s' hq=>HQ (HQ hq)) λ_ _ e=>e)
  obtain⟨it,fp,tn,J,H2,rfl,I2,T,t0,hfp,A2,e2,so2,mit⟩:=q2;refine mP (RR:=λacc C=>compPost (model X.prog X.w) X.A X.xe (gV (assign (.Name y py) X.env)) (λ_ s'=>SP X pins Dd .next s') acc C) I2 hc (er.mono e2) so2 ck bk T t0 hfp mit h3 h4 ?_
  intro D C s' H' A' vs m hn hDn hDC hCL hCf hCn hCs hCc hCp I3 ex so3 rl;obtain⟨oC,esC,epC,hoC,hdC,hrC⟩:=id hn;have I3':Inv X (pins++[(C,oC)]) σ (cv H' D (.lst vs)) s':=I3.pins_of λp hp=>by
   rcases IP.mp hp with hp|hp
   ·exact I3.pin p (IE _ hp)
   ·have hp':p=(C,oC):=by simpa using hp
    subst hp';exact⟨hoC,by rw[aY (Ne.symm hDC)]; exact hCn,hCL,hCf,λv z=>by rw[hdC]at z; cases z⟩
  show wpAny _ X.A (assign (.Name y py) X.env (.ref D)) _ _ _;refine NC (im I3' hN hy (.inl hl) (v:=.ref D) rfl (λs4 I4=>?_) (.inr hl))
  have pC:=I4.pin (C,oC) (IE _ (IE _ (Im.mpr rfl)));refine⟨m,⟨oC,esC,epC,pC.1,hdC,hrC⟩,λh' hs'=>?_⟩
  have I5:Inv X pins (σ.set i (gV (.ref D))) (cv H' D (.lst vs)) s4:=I4.pins_of λp hp=>I4.pin p (IE _ (Kn _ hp))
  have I6:Inv X pins (σ.set i (gV (.ref D))) (cv H' D (.lst vs)) { s4 with heap:=h' }:=I5.turned (t':=s4.toks) (it:=C) (λb o hb eo=>hs'.extBut b o hb eo) (by rw[aY (Ne.symm hDC)]; exact hCn) hCL (.inr hCs) hCc hCp
  obtain⟨Af,f1,f2,f3⟩:=EndV.after (e2.trans ex) (EndV.lst so3 rl hDn);exact⟨_,_,I6,hd.nx _ _ ⟨_,Af,rfl,f1,f2,(er.mono f1).set f3 i⟩⟩
 ·cases e
end
open PySem.Builtin.SmallTypes (nextOf)
section
variable{prog:Iz}{w:IM}
structure Zit (prog:Iz)(w:IM)(it:HN)(T:HJ->IX->Prop)(C:IX->Prop)(i:HJ)(U:HI (HE->Prop)):Prop where
 keep:∀j h h',T j h->(∀o,h.get? it=gV o->h'.get? it=gV o)->T j h'
 next:∀V,U=gV V->∀(B:IJ) (s:HH) (Q:HE->HH->Prop) (E:HE->HH->Prop),T i s.heap->C s.heap->(∀u h' tk,V u->T (i+1) h'->Ko it s.heap h'->Q u { s with heap:=h',toks:=tk })->wpAny (model prog w) B (nextOf (.ref it)) Q E s
 stop:U=td->∀(B:IJ) (s:HH) (Q:HE->HH->Prop) (E:HE->HH->Prop),B.handled=td->T i s.heap->C s.heap->(∀h' e,MR it s.heap h'->(∃o,h'.get? e=gV o/\o.cls=.type "StopIteration")->E (.ref e) { s with heap:=h' })->wpAny (model prog w) B (nextOf (.ref it)) Q E s
variable{B:IJ}{E:HE->HH->Prop}{s:HH}{z p q i1 i2:HN}{T1 T2:HJ->IX->Prop}{C1 C2:IX->Prop}{i:HJ}{a b:HE}
noncomputable def Zc (z q i1 i2:HN)(C:IX->Prop):Prop:=∀h h',C h->(∀c o,c≠z->c≠q->c≠i1->c≠i2->h.get? c=gV o->h'.get? c=gV o)->C h'
end
end Mi
namespace Mi
open PySem PySem.Spec PyProof.Rows L2
open PySem.Builtin.SmallTypes (nextOf)
noncomputable def rH (prog:Iz)(w:IM)(v:HE)(o:JC)(C:IX->Prop):Prop:=∀(B:IJ) (s:HH) (Q:HE->HH->Prop) (E:HE->HH->Prop),C s.heap->Q (.ref s.heap.objs.size) { s with heap:=s.heap.push o }->wpAny (model prog w) B (pyIter v) Q E s
end Mi
namespace Mi
open PySem PySem.Spec PyProof.Rows L2
open PySem.Builtin.SmallTypes (nextOf)
section
variable{prog:Iz}{w:IM}{A:IJ}{E:HE->HH->Prop}{s:HH}
theorem EV {it t:HN}{i:HJ}{items:IW HE}{x:HE}{Q:HE->HH->Prop}(hit:s.heap.IsTupleIter it t i)(ht:s.heap.IsTuple t items)(hx:items[i]?=gV x)
  (hQ:∀h',h'.IsTupleIter it t (i+1)->Ko it s.heap h'->Q x { s with heap:=h' }):wpAny (model prog w) A (nextOf (.ref it)) Q E s:=by
 obtain⟨o,ho,hc,hd⟩:=id hit;obtain⟨ot,hot,_,nt,hdt⟩:=ht;unfold L1;refine HD (Jk (name:=J3 "__next__") hit.typeIs F.slot_tuple_iterator_next (Js F.slot_tuple_iterator_next hit.typeIs F.entry_tuple_iterator_next ?_ (F.args_tuple_iterator_next_1 _)));show wpAny _ _ (field (.ref it) 0 >>= _) _ _ s;refine HD (JU ho hd (x:=.ref t) rfl ?_);show wpAny _ _ (if (IS t==Je)=true then _ else _) _ _ s
 rw[IK (show ¬ ((IS t==Je)=true)from Ip)]
 show wpAny _ _ (field (.ref it) 1 >>= _) _ _ s;refine HD (JU ho hd (x:=.int i 0) rfl (HD (KS hot hdt ?_)));simp only[HU,hx];refine HD (LS ho hd (by simp) (HQ ⟨x,rfl,HQ (hQ _ ⟨_,Kf _ ho (MM (La hd _)),(NQ ..).trans hc,?_⟩ (KZ ..))⟩))
 rw[La hd]; simp[rawInt]
theorem EW {it t:HN}{i:HJ}{items:IW HE}{Q:HE->HH->Prop}(hh:A.handled=td)(hit:s.heap.IsTupleIter it t i)(ht:s.heap.IsTuple t items)(hx:items[i]?=td)
  (hE:∀h' e,MR it s.heap h'->(∃o,h'.get? e=gV o/\o.cls=.type "StopIteration")->E (.ref e) { s with heap:=h' }):wpAny (model prog w) A (nextOf (.ref it)) Q E s:=by
 obtain⟨o,ho,hc,hd⟩:=id hit;obtain⟨ot,hot,_,nt,hdt⟩:=ht;unfold L1;refine HD (Jk (name:=J3 "__next__") hit.typeIs F.slot_tuple_iterator_next (Js F.slot_tuple_iterator_next hit.typeIs F.entry_tuple_iterator_next ?_ (F.args_tuple_iterator_next_1 _)));show wpAny _ _ (field (.ref it) 0 >>= _) _ _ s;refine HD (JU ho hd (x:=.ref t) rfl ?_);show wpAny _ _ (if (IS t==Je)=true then _ else _) _ _ s
 rw[IK (show ¬ ((IS t==Je)=true)from Ip)]
 show wpAny _ _ (field (.ref it) 1 >>= _) _ _ s;refine HD (JU ho hd (x:=.int i 0) rfl (HD (KS hot hdt ?_)));simp only[HU,hx];refine HD (Nn (HD (LS ho hd (by simp) ?_)))
 show wpAny _ _ (newExc (.type "StopIteration") [] >>= _) _ _ _;refine HD ?_;simp only[newExc,newTuple];refine HD (IY ?_ (by size_fits))
 refine HD (m:=firstArgMember _ _) (MS (a:=Je) (by first|rfl|(simp only[firstArgMember]; rfl)) (IY ?_ (by size_fits)))
 simp only[raiseNew];refine HD (O2 ?_)
 first|rw[show A.in1.handled=td from hh]|rw[hh]
 exact HD (HQ (Pr (hE _ _ (((KZ ..).extBut.push _).push _) ⟨_,Il _ rfl,rfl⟩)))
end
inductive Zs where|tup (a:HN)|lst (a:HN)|txt (x:Ih)
noncomputable def Zs.T (it:HN):Zs->HJ->IX->Prop
 | .tup a,i,h=>h.IsTupleIter it a i
 | .lst a,i,h=>h.IsListIter it a i
 | .txt x,i,h=>∃t,h.IsStrIter it "str_ascii_iterator" x t i\/h.IsStrIter it "str_iterator" x t i
noncomputable def Zs.at (K:HS)(H:Hp)(i:HJ)(v:V):Zs->Prop
 | .tup a=>∃xs,SqT K H a xs/\xs[i]?=gV v
 | .lst a=>∃xs,SqL K H a xs/\xs[i]?=gV v
 | .txt x=>∃c,x.cps[i]?=gV c/\v=.str ⟨[c].toArray⟩
noncomputable def Zs.out (K:HS)(H:Hp)(i:HJ):Zs->Prop
 | .tup a=>∃xs,SqT K H a xs/\xs.length<=i
 | .lst a=>∃xs,SqL K H a xs/\xs.length<=i
 | .txt x=>x.cps.size<=i
theorem Zs.keep {S:Zs}{it:HN}{j:HJ}{h h':IX}(t:S.T it j h)(k:∀o,h.get? it=gV o->h'.get? it=gV o):S.T it j h':=by
 cases S with
 | tup a=>exact t.at k
 | lst a=>exact t.at k
 | txt x=>
  obtain⟨tk,t⟩:=t;exact⟨tk,t.imp (λ⟨o,e,r⟩=>⟨o,k _ e,r⟩) λ⟨o,e,r⟩=>⟨o,k _ e,r⟩⟩
section
variable{X:Cx}{pins:HC (HN×JC)}{σ:L2.St}{H:Hp}{s:HH}
theorem wX (I:Inv X pins σ H s){a b:HN}{o:JC}(h:X.K.lookup a=gV o)(f:iZ X pins H b):a≠b:=λz=>by
 subst z;have hb:=I.ok.mod.kin a o h;rcases f.2.2.2.1 with q|q
 ·exact I.ok.noex a o hb q
 ·exact absurd (IB (Ik (I.ok.bs a o hb).1) q) (Jr _)
end
end Mi
namespace Mi
open PySem PySem.Spec PyProof.Rows L2
open PySem.Builtin.SmallTypes (nextOf)
section
variable{X:Cx}{pins:HC (HN×JC)}{σ:L2.St}{H:Hp}{s:HH}{h':IX}
theorem wY {a b:HN}{u:HO}(h:Rd H a u)(f:H b=td):a≠b:=λz=>by
 subst z;rcases h with h|⟨o,h⟩ <;> (rw[f]at h; cases h)
theorem Inv.turnedL {t':HJ}{ch:HC HN}(I:Inv X pins σ H s)(k:∀b o,b∉ch->s.heap.get? b=gV o->h'.get? b=gV o)(hf:∀b∈ch,iZ X pins H b):Inv X pins σ H { s with heap:=h',toks:=t' }:=by
 have nit:∀b u,H b=gV u->b∉ch:=λb u e z=>by have:=(hf b z).1; rw[e]at this; cases this
 refine I.step (g':=s.gens) (d':=s.drawn) (ch:=ch) (λb hb=>?_) (λb o _ _ hc e _=>k b o hc e) (λb o _ _ hc e _=>⟨o.slots,k b o hc e⟩) (λ_ _ _ _ n=>n) (λb o hc e=>⟨o,k b o hc e⟩) (λ_ _ e=>e) (λ_ _ _ e=>e) (λb ps e=>⟨#[],by rw[e]; simp⟩) (λm hm=>?_) (λb u e=>?_) I.bare
 ·obtain⟨_,f1,_,f3,f4,f5⟩:=hf b hb;exact⟨f3,f1,f4,f5⟩
 ·obtain⟨o,es,ep,ho,r⟩:=hm;exact⟨o,es,ep,k _ o (λz=>(hf _ z).2.1 rfl) ho,r⟩
 ·refine(I.hok b u e).stay (λc v hc q=>k c v ?_ q) (λ_ q=>q) λ_ _ q=>q
  rcases hc with z|z
  ·rw[z]; exact nit b u e
  ·exact nit c _ z
theorem Zs.zit {S:Zs}{it z q i1 i2:HN}{i:HJ}{U:HI V}(I:Inv X pins σ H s)(hf:∀b∈[z,q,i1,i2],iZ X pins H b)(g:match U with|some v=>S.at X.K H i v|none=>S.out X.K H i) :
  ∃C,Zit X.prog X.w it (S.T it) C i (U.map λv u=>RelV v u)/\C s.heap/\Zc z q i1 i2 C:=by
 have zc:∀(a:HN) (P:IX->Prop),(∀h h',P h->(∀o,h.get? a=gV o->h'.get? a=gV o)->P h')->(∀b∈[z,q,i1,i2],a≠b)->Zc z q i1 i2 P:=λa P hP hn h h' p k=>
  hP h h' p λo e=>k a o (hn z (by simp)) (hn q (by simp)) (hn i1 (by simp)) (hn i2 (by simp)) e
 have sep:∀ {a:HN} {u:HO} {o:JC} {b:HN},(Rd H a u\/X.K.lookup a=gV o)->b∈[z,q,i1,i2]->a≠b:=λh hb=>h.elim (λr=>wY r (hf _ hb).1) λr=>wX I r (hf _ hb)
 cases S with
 | tup a=>
  obtain⟨xs,hq,hx⟩ : ∃xs,SqT X.K H a xs/\(match U with|some v=>xs[i]?=gV v|none=>xs.length<=i):=by
   cases U <;> exact g
  obtain⟨its,rv,p,_⟩:=I.tuple hq;have hne:∀b∈[z,q,i1,i2],a≠b:=λb hb=>by
   rcases hq with r|⟨o,_,_,r,_⟩
   ·exact wY r (hf b hb).1
   ·exact wX I r (hf b hb)
  refine⟨λh=>h.IsTuple a its.toArray,⟨λj h h' t k=>Zs.keep (S:=.tup a) t k,λV hV B s2 Q E t c hQ=>?_,λhU B s2 Q E hh t c hE=>?_⟩,p,zc a _ (λh h' ⟨o,e,r⟩ k=>⟨o,k _ e,r⟩) hne⟩
  ·cases U with
   | none=>cases hV
   | some v=>
    cases hV;obtain⟨u,hu,ru⟩:=rv.get hx;exact EV t c (x:=u) (by simpa using hu) λh' t' sb=>hQ u h' s2.toks ru t' sb
  ·cases U with
   | some v=>cases hU
   | none=>
    have:=L2.Vals.length rv;have hx':xs.length<=i:=hx;exact EW hh t c (by simp; omega) hE
 | lst a=>
  obtain⟨xs,hq,hx⟩ : ∃xs,SqL X.K H a xs/\(match U with|some v=>xs[i]?=gV v|none=>xs.length<=i):=by
   cases U <;> exact g
  obtain⟨its,rv,p,_⟩:=I.list hq;have hne:∀b∈[z,q,i1,i2],a≠b:=λb hb=>by
   rcases hq with r|⟨o,_,_,r,_⟩
   ·exact wY r (hf b hb).1
   ·exact wX I r (hf b hb)
  refine⟨λh=>h.IsList a its.toArray,⟨λj h h' t k=>Zs.keep (S:=.lst a) t k,λV hV B s2 Q E t c hQ=>?_,λhU B s2 Q E hh t c hE=>?_⟩,p.isList,zc a _ (λh h' ⟨o,e,r⟩ k=>⟨o,k _ e,r⟩) hne⟩
  ·cases U with
   | none=>cases hV
   | some v=>
    cases hV;obtain⟨u,hu,ru⟩:=rv.get hx;exact wpAny_nextOf_list_item t c (x:=u) (by simpa using hu) λh' t' sb=>hQ u h' s2.toks ru t' sb
  ·cases U with
   | some v=>cases hU
   | none=>
    have:=L2.Vals.length rv;have hx':xs.length<=i:=hx;exact wpAny_nextOf_list_end hh t c (by simp; omega) hE
 | txt x=>
  refine⟨λ_=>Nz,⟨λj h h' t k=>Zs.keep (S:=.txt x) t k,λV hV B s2 Q E t _ hQ=>?_,λhU B s2 Q E hh t _ hE=>?_⟩,trivial,λ_ _ _ _=>trivial⟩
  ·cases U with
   | none=>cases hV
   | some v=>
    cases hV;obtain⟨c,hc,rfl⟩ : ∃c,x.cps[i]?=gV c/\v=.str ⟨[c].toArray⟩:=g;obtain⟨tk,t|t⟩:=t
    ·exact wpAny_nextOf_ascii_item t hc λh' t' sb=>hQ _ h' _ ⟨_,rfl⟩ ⟨tk,.inl t'⟩ sb
    ·exact wpAny_nextOf_wide_item t hc λh' t' sb=>hQ _ h' _ ⟨_,rfl⟩ ⟨tk,.inr t'⟩ sb
  ·cases U with
   | some v=>cases hU
   | none=>
    have hx:x.cps[i]?=td:=by simpa using(show x.cps.size<=i from g)
    obtain⟨tk,t|t⟩:=t
    ·exact wpAny_nextOf_ascii_end hh t hx hE
    ·exact wpAny_nextOf_wide_end hh t hx hE
end
noncomputable def Zs.is (K:HS)(H:Hp)(i:HJ)(v:V):Zs->Prop
 | .tup a=>∀xs,SqT K H a xs->xs[i]?=gV v
 | .lst a=>∀xs,SqL K H a xs->xs[i]?=gV v
 | .txt x=>∃c,x.cps[i]?=gV c/\v=.str ⟨[c].toArray⟩
theorem Zs.at_is {S:Zs}{X:Cx}{pins:HC (HN×JC)}{σ:L2.St}{H:Hp}{s:HH}{i:HJ}{v:V}(I:Inv X pins σ H s)(h:S.at X.K H i v):S.is X.K H i v:=by
 cases S with
 | tup a=>obtain⟨xs,hq,hx⟩:=h; exact λys hy=>by rw[I.tuple_inj hy hq]; exact hx
 | lst a=>obtain⟨xs,hq,hx⟩:=h; exact λys hy=>by rw[I.list_inj hy hq]; exact hx
 | txt x=>exact h
end Mi
namespace Mi
open PySem PySem.Spec PyProof.Rows L2
noncomputable def GP:W->HI (HC W)
 | .tup xs=>gV xs
 | .str x=>gV (x.cps.toList.map λc=>.str ⟨[c].toArray⟩)
 | _=>td
section
variable{X:Cx}{pins:HC (HN×JC)}{σ:L2.St}{H:Hp}{s:HH}{A:HC HN}
noncomputable def ZRel (K:HS)(A:HC HN)(H:Hp)(xs:HC W):Zs->Prop
 | .tup a=>∃vs,SqT K H a vs/\RelL K A H xs vs
 | .lst a=>Jn
 | .txt x=>xs=x.cps.toList.map λc=>.str ⟨[c].toArray⟩
theorem ZRel.mono {K:HS}{A A':HC HN}{H H':Hp}{xs:HC W}{S:Zs}(e:Ext K A H A' H')(h:ZRel K A H xs S):ZRel K A' H' xs S:=by
 cases S with
 | tup a=>obtain⟨vs,h1,h2⟩:=h; exact⟨vs,e.tp _ _ h1,h2.mono e⟩
 | lst a=>exact h
 | txt x=>exact h
theorem ZRel.at {K:HS}{xs:HC W}{S:Zs}{i:HJ}{w:W}(h:ZRel K A H xs S)(hi:xs[i]?=gV w):∃v,S.at K H i v/\Rel K A H w v:=by
 cases S with
 | tup a=>obtain⟨vs,h1,h2⟩:=h; obtain⟨v,h3,h4⟩:=h2.get hi; exact⟨v,⟨vs,h1,h3⟩,h4⟩
 | lst a=>exact h.elim
 | txt x=>
  have h:xs=x.cps.toList.map λc=>.str ⟨[c].toArray⟩:=h
  subst h;rw[HP,HG]at hi;obtain⟨c,hc,rfl⟩:=hi;exact⟨.str ⟨[c].toArray⟩,⟨c,by rw[<- JD]; exact hc,rfl⟩,.str⟩
theorem ZRel.is {K:HS}{xs:HC W}{S:Zs}{i:HJ}{w:W}{v:V}(h:ZRel K A H xs S)(hi:xs[i]?=gV w)(z:S.is K H i v):Rel K A H w v:=by
 obtain⟨v',h1,h2⟩:=h.at hi;cases S with
 | tup a=>
  obtain⟨vs,q,e⟩:=h1;have:=z vs q;rw[e]at this; cases this
  exact h2
 | lst a=>exact h.elim
 | txt x=>
  obtain⟨c,e,rfl⟩:=h1;obtain⟨c',e',rfl⟩:=z;rw[e]at e'; cases e'
  exact h2
theorem ZRel.out {K:HS}{xs:HC W}{S:Zs}{i:HJ}(h:ZRel K A H xs S)(hi:xs.length<=i):S.out K H i:=by
 cases S with
 | tup a=>obtain⟨vs,h1,h2⟩:=h; exact⟨vs,h1,by rw[<- h2.length]; exact hi⟩
 | lst a=>exact h.elim
 | txt x=>
  have h:xs=x.cps.toList.map λc=>.str ⟨[c].toArray⟩:=h
  subst h;show x.cps.size<=i
  simpa using hi
theorem Aq {x:W}{v:V}{u:HE}{xs:HC W}(I:Inv X pins σ H s)(r:Rel X.K A H x v)(ru:RelV v u)(e:GP x=gV xs) :
  ∃(S:Zs) (o:JC) (C:IX->Prop),ZRel X.K A H xs S/\rH X.prog X.w u o C/\C s.heap/\(∀h o,C h->C (h.push o))/\o.isFreed=false/\∀it h,h.get? it=gV o->S.T it 0 h:=by
 cases r with
 | @tup ws a vs hq rl=>
  cases e;obtain⟨its,rv,p,_⟩:=I.tuple hq;obtain rfl:u=IS a:=ru;exact⟨.tup a,{ cls:=.type "tuple_iterator",data:=.fields [.ref a,.int 0 0].toArray },λh=>h.IsTuple a its.toArray,⟨vs,hq,rl⟩,λB s Q E c hQ=>Nv c hQ,p,λh o ⟨ot,e,r⟩=>⟨ot,HK _ e,r⟩,rfl,λit h e=>⟨_,e,rfl,rfl⟩⟩
 | @str x=>
  cases e;obtain⟨t,rfl⟩:=ru;cases ha:x.cps.all (· < 128)with
  | false=>exact⟨.txt x,{ cls:=.type "str_iterator",data:=.fields [.str x t,.int 0 0].toArray },λ_=>Nz,rfl,λB s Q E _ hQ=>wpAny_pyIter_wide ha hQ,trivial,λ_ _ _=>trivial,rfl,λit h e=>⟨t,.inr ⟨_,e,rfl,rfl⟩⟩⟩
  | true=>exact⟨.txt x,{ cls:=.type "str_ascii_iterator",data:=.fields [.str x t,.int 0 0].toArray },λ_=>Nz,rfl,λB s Q E _ hQ=>wpAny_pyIter_ascii ha hQ,trivial,λ_ _ _=>trivial,rfl,λit h e=>⟨t,.inl ⟨_,e,rfl,rfl⟩⟩⟩
 | _=>cases e
end
open PySem.Builtin.SmallTypes (nextOf)
section
variable{prog:Iz}{w:IM}{B:IJ}{E:HE->HH->Prop}{s:HH}{e it:HN}{T:HJ->IX->Prop}{C:IX->Prop}{i:HJ}{old:HE}
structure EnAt (h0 h:IX)(e it:HN)(fs:IW HE)(T:IX->Prop):Prop where
 here:h.get? e=gV { cls:=.type "enumerate",dict:=td,data:=.fields fs,slots:=#[] }
 turn:T h
 kept:∀b o,b≠e->b≠it->h0.get? b=gV o->h.get? b=gV o
theorem EnAt.put {h0:IX}{fs:IW HE}{T:IX->Prop}{k:HJ}{v:HE}{Q:Unit->HH->Prop}(x:EnAt h0 s.heap e it fs T)(hne:e≠it)(kT:∀h h',T h->(∀o,h.get? it=gV o->h'.get? it=gV o)->T h')(hk:k < fs.size)
  (q:∀h',EnAt h0 h' e it (fs.setIfInBounds k v) T->Ko e s.heap h'->Q () { s with heap:=h' }):wpAny (model prog w) B (setField (.ref e) k v) Q E s:=
 wpAny_setField_rec x.here hk λh' y sb=>q h' ⟨y,kT _ _ x.turn λo z=>sb.extBut _ _ (Ne.symm hne) z,λb o h1 h2 z=>sb.extBut b o h1 (x.kept b o h1 h2 z)⟩ sb
theorem mQ {U:HI (HE->Prop)}{Q:HE->HH->Prop}(Z:Zit prog w it T C i U)(hh:B.handled=td)(he:PN s.heap e it (i:HY) old)(t:T i s.heap)(c:C s.heap)(hne:e≠it)
  (hI:∀V,U=gV V->∀u h' tk tk0,V u->IsEnumOut h' e it ((i:HY)+1) u s.heap.objs.size->T (i+1) h'->h'.get? s.heap.objs.size=gV { cls:=.type "tuple",data:=.seq [.int i tk0,u].toArray }->
   (∀b o,b≠e->b≠it->s.heap.get? b=gV o->h'.get? b=gV o)->Q (.ref s.heap.objs.size) { s with heap:=h',toks:=tk })
  (hE:U=td->∀h' x,MR it s.heap h'->(∃o,h'.get? x=gV o/\o.cls=.type "StopIteration")->E (.ref x) { s with heap:=h' }) :
  wpAny (model prog w) B (M3.«enumerate.__next__» ⟨[.ref e],[]⟩) (λfin s'=>∃v,fin=.done (.ret v)/\Q v s') E s:=by
 obtain⟨hp,g,d,tk,os⟩:=s;show wpAny _ _ (field (.ref e) 2 >>= _) _ _ _;refine HD (JU he rfl (x:=.ref it) rfl (HD ?_));cases U with
 | none=>exact Z.stop rfl _ _ _ _ hh t c λh' x a b=>hE rfl h' x a b
 | some V=>
  refine Z.next V rfl _ _ _ _ t c λu ha tka hu ta sba=>?_
  have kT:=Z.keep (i+1);have xa:EnAt hp ha e it [.none,.bool false,.ref it,rawInt i,.none,old].toArray (T (i+1)):=⟨(sba.2 e hne).trans he,ta,λb o _ h2 z=>sba.extBut b o h2 z⟩
  have za:ha.objs.size=hp.objs.size:=sba.1;clear sba ta;show wpAny _ _ (field (.ref e) 3 >>= _) _ _ ⟨ha,g,d,tka,os⟩;refine HD (JU xa.here rfl (x:=rawInt i) rfl ?_);show wpAny _ _ (field (.ref e) 4 >>= _) _ _ ⟨ha,g,d,tka,os⟩;refine HD (JU xa.here rfl (x:=.none) rfl ?_);show wpAny _ _ (mkInt i >>= _) _ _ ⟨ha,g,d,tka,os⟩;refine HD (Oi (HD (xa.put (s:=⟨ha,g,d,tka+1,os⟩) hne kT (by simp) λhb xb sb1=>HD (xb.put (s:=⟨hb,g,d,tka+1,os⟩) hne kT (by simp) λhc xc sb2=>HD (OJ ?_)))))
  have zc:hc.objs.size=hp.objs.size:=by rw[sb2.1,<- za]; exact sb1.1
  have hel:hp.objs.size≠e:=KC (Ik he);have new:=Il hc (o:={ cls:=.type "tuple",data:=.seq [.int i tka,u].toArray }) rfl;have xd:EnAt hp (hc.push { cls:=.type "tuple",data:=.seq [.int i tka,u].toArray }) e it [.none,.bool false,.ref it,rawInt ((i:HY)+1),.none,old].toArray (T (i+1)):=⟨HK _ xc.here,kT _ _ xc.turn λo z=>HK _ z,λb o h1 h2 z=>HK _ (xc.kept b o h1 h2 z)⟩
  rw[zc]at new;show wpAny _ _ (K5 (.ref e) >>= _) _ _ ⟨hc.push _,g,d,tka+1,os⟩;rw[zc];generalize hc.push { cls:=.type "tuple",data:=.seq [.int i tka,u].toArray }=hd at new xd ⊢;clear zc sb2 xc sb1 xb hb xa za;refine HD ?_;unfold K5;refine HD (JU xd.here rfl (x:=.none) rfl (HQ ?_));simp only[KJ];refine HD (Nn (HD (JU xd.here rfl (x:=old) rfl (HD (xd.put (s:=⟨hd,g,d,tka+1,os⟩) hne kT (by simp) λh1 x1 s1=>HD ?_)))))
  unfold M8;refine HD (x1.put (s:=⟨h1,g,d,tka+1,os⟩) hne kT (by simp) λh2 x2 s2=>x2.put (s:=⟨h2,g,d,tka+1,os⟩) hne kT (by simp) λh3 x3 s3=>HD (Lz (HQ ⟨_,rfl,hI V rfl u h3 (tka+1) tka hu x3.here x3.turn ?_ x3.kept⟩)))
  exact s3.extBut _ _ hel (s2.extBut _ _ hel (s1.extBut _ _ hel new))
variable{v:HE}{o:JC}
theorem pU (h1:rH prog w v o C) :
  MeetsIn prog w (M3.«enumerate.__new__» ⟨[.type "enumerate",v],[]⟩) (λ_ R s=>C s.heap/\R (.ok (.ret (.ref (s.heap.push o).objs.size))) { s with heap:=(s.heap.push o).push { cls:=.type "enumerate",data:=.fields [.none,.bool false,.ref s.heap.objs.size,rawInt 0,.none,.none].toArray } }):=
 .of_wp λA R s h=>by
  obtain⟨hp,g,d,tk,os⟩:=s;obtain⟨c,h⟩:=h;have hsub:=sub_enumerate;have d1:∀(B:IJ) (Q:HE->HH->Prop) (E:HE->HH->Prop),Q (.ref hp.objs.size) ⟨hp.push o,g,d,tk,os⟩->wpAny (model prog w) B (pyIter v) Q E ⟨hp,g,d,tk,os⟩:=λB Q E q=>h1 B ⟨hp,g,d,tk,os⟩ Q E c q
  wp_walk
  refine wpAny_stack_any λst=>HQ ?_
  split
  ·rename_i c _ _ _ _ _;cases(c==KO "enumerate")
   ·wp_walk using d1 _ _ _
    exact⟨_,rfl,h⟩
   ·wp_walk using d1 _ _ _
    exact⟨_,rfl,h⟩
  ·wp_walk using d1 _ _ _
   exact⟨_,rfl,h⟩
theorem uF {Q:HE->HH->Prop}(h1:rH prog w v o C)(c:C s.heap)(n1:o.isFreed=false)
  (h:∀h',PN h' (s.heap.objs.size+1) s.heap.objs.size 0 .none->h'.get? s.heap.objs.size=gV o->(∀b o,s.heap.get? b=gV o->h'.get? b=gV o)->Q (.ref (s.heap.objs.size+1)) { s with heap:=h' }) :
  wpAny (model prog w) B (call (.type "enumerate") [v]) Q E s:=by
 refine callType_newIn F.called_enumerate (by decide) (F.typeCall_enumerate_1 _) (F.newCall_enumerate_1 _) (λobj=>F.args_object_init_2 obj _) F.entry_enumerate_new (pU h1) ⟨c,?_⟩
 have hz:(s.heap.push o).objs.size=s.heap.objs.size+1:=OM ..;show _/\_;rw[hz];have he:PN ((s.heap.push o).push { cls:=.type "enumerate",data:=.fields [.none,.bool false,.ref s.heap.objs.size,rawInt 0,.none,.none].toArray }) (s.heap.objs.size+1) s.heap.objs.size 0 .none:=by
  have:=Il (s.heap.push o) (o:={ cls:=.type "enumerate",data:=.fields [.none,.bool false,.ref s.heap.objs.size,rawInt 0,.none,.none].toArray }) rfl;rw[hz]at this; exact this
 exact⟨⟨_,he,rfl⟩,h _ he (HK _ (Il _ n1)) λb o x=>HK _ (HK _ x)⟩
end
noncomputable def Hl (K:HS)(S1:Zs):It:=
 ⟨λi H=>∃x,S1.at K H i x,λi H v H'=>∃p x,S1.is K H i x/\v=.ref p/\H p=td/\H'=cv H p (.tup [.int i,x]),λi H=>S1.out K H i⟩
theorem uG {P:Iz}{w:IM}{K:HS}{els:HC Io}{k0:HJ}{tp:J9}{S1:Zs}{z i1:HN}(D:z≠i1) :
  Turn P w K (.Tuple els k0 tp) (Hl K S1) [z,i1] z (λi h=>(∃old,PN h z i1 i old)/\S1.T i1 i h) where
 mem:=by simp
 obj:=λi h ⟨⟨old,a⟩,d⟩ b' hb=>by
  have it:∀ {S:Zs} {it:HN},S.T it i h->∃o,h.get? it=gV o/\∀v,o.data≠.cell v:=λ{S it} t=>by
   cases S with
   | tup a=>obtain⟨o,e,_,d⟩:=t; exact⟨o,e,λv z=>by rw[d]at z; cases z⟩
   | lst a=>obtain⟨o,e,_,d⟩:=t; exact⟨o,e,λv z=>by rw[d]at z; cases z⟩
   | txt x=>obtain⟨tk,⟨o,e,_,d⟩|⟨o,e,_,d⟩⟩:=t <;> exact⟨o,e,λv z=>by rw[d]at z; cases z⟩
  simp only[IG,JA,Lj]at hb;rcases hb with rfl|rfl
  ·exact⟨_,a,λv z=>by cases z⟩
  ·exact it d
 keep:=λi h h' ⟨⟨old,a⟩,d⟩ k=>⟨⟨old,k z (by simp) _ a⟩,Zs.keep d (k i1 (by simp))⟩
 item:=by
  intro X hP hw hK hc i pins s σ H E I hf st hg;subst hP hw hK;obtain⟨x,g1⟩:=hg;obtain⟨⟨old,a⟩,d⟩:=st;have hf4:∀b∈[z,z,i1,i1],iZ X pins H b:=λb hb=>hf b (by simp only[IG,JA,Lj]at hb ⊢; rcases hb with h|h|h|h <;> simp[h])
  obtain⟨C1,Z1,c1,k1⟩:=Zs.zit (it:=i1) (U:=gV x) I hf4 g1;have hT:s.TypeIs (.ref z) "enumerate":=⟨_,a,rfl⟩;unfold pyNext;refine HD (Mb (Jk (name:=J3 "__next__") hT F.slot_enumerate_next (Js F.slot_enumerate_next hT F.entry_enumerate_next ?_ (F.args_enumerate_next_1 _))));refine mQ Z1 (I.ok.hd hc) a d c1 D (λV e1 u g tk tk0 r1 zg t1 ng kp=>?_) (λz=>by cases z)
  cases e1;refine HQ ⟨_,rfl,?_⟩;refine wpAny_letOwnedTupleGo_enum (s:={ s with heap:=g,toks:=tk }) zg λg' zg' sb=>?_
  have N0:H s.heap.objs.size=td:=I.hok.fresh (HW _);have lt:∀ {b:HN},b∈[z,i1]->s.heap.objs.size≠b:=λ{b} hb=>by
   have:∃o,s.heap.get? b=gV o:=by
    have it:∀ {S:Zs} {it:HN},S.T it i s.heap->∃o,s.heap.get? it=gV o:=λ{S it} t=>by
     cases S with
     | tup a=>obtain⟨o,e,_⟩:=t; exact⟨o,e⟩
     | lst a=>obtain⟨o,e,_⟩:=t; exact⟨o,e⟩
     | txt x=>obtain⟨tk,⟨o,e,_⟩|⟨o,e,_⟩⟩:=t <;> exact⟨o,e⟩
    simp only[IG,JA,Lj]at hb;rcases hb with rfl|rfl
    ·exact⟨_,a⟩
    ·exact it d
   obtain⟨o,e⟩:=this;exact KC (Ik e)
  have up:∀b o,b∉[z,i1]->s.heap.get? b=gV o->g'.get? b=gV o:=λb o hb e=>by
   simp only[IG,JA,Lj,not_or]at hb;exact sb.extBut _ _ hb.1 (kp b o hb.1 hb.2 e)
  have I1:Inv X pins σ H { s with heap:=g',toks:=tk }:=Mi.Inv.turnedL I up hf
  have ng':g'.get? s.heap.objs.size=gV { cls:=.type "tuple",data:=.seq [.int i tk0,u].toArray }:=sb.extBut _ _ (lt (by simp)) ng
  have I2:Inv X pins σ (cv H s.heap.objs.size (.tup [.int i,x])) { s with heap:=g',toks:=tk }:=by
   refine Mi.Inv.adopt I1 N0 (.inr I.sz) (KC I.lt) (λw c e=>?_) (λp hp=>?_) ⟨by show 2<=sizeLine; decide,[.int i tk0,u],.cons ⟨_,rfl⟩ (.cons r1 .nil),⟨_,ng',rfl,0,rfl⟩⟩
   ·obtain⟨v,q⟩:=I.cell w c e;exact IA q.lt
   ·exact IA (Ik (I.pin p hp).1)
  refine⟨.ref s.heap.objs.size,_,I2,rfl,⟨s.heap.objs.size,x,Zs.at_is I g1,rfl,N0,rfl⟩,⟨⟨_,zg'⟩,Zs.keep t1 λo e=>sb.extBut _ _ (Ne.symm D) e⟩,λb hb=>?_⟩
  rw[aY (Ne.symm (lt hb))];exact(hf b hb).1
 done:=by
  intro X hP hw hK hc i pins s σ H E I hf st hg;subst hP hw hK;obtain⟨⟨old,a⟩,d⟩:=st;have hf4:∀b∈[z,z,i1,i1],iZ X pins H b:=λb hb=>hf b (by simp only[IG,JA,Lj]at hb ⊢; rcases hb with h|h|h|h <;> simp[h])
  obtain⟨C1,Z1,c1,k1⟩:=Zs.zit (it:=i1) (U:=td) I hf4 hg;have hT:s.TypeIs (.ref z) "enumerate":=⟨_,a,rfl⟩;unfold pyNext;refine HD (Mb (Jk (name:=J3 "__next__") hT F.slot_enumerate_next (Js F.slot_enumerate_next hT F.entry_enumerate_next ?_ (F.args_enumerate_next_1 _))));refine mQ Z1 (I.ok.hd hc) a d c1 D (λV e1=>by cases e1) λ_ h' e k ⟨o,ho,hc⟩=>?_
  exact HD (Mh (T:="StopIteration") (b:=true) ⟨o,ho,hc⟩ OH (HQ ⟨rfl,Mi.Inv.turnedL (t':=s.toks) I (λb o hb e=>by
    simp only[IG,JA,Lj,not_or]at hb;exact k b o hb.2 e) hf⟩))
 self:=λ_ _ _ _ _ st h=>by obtain⟨⟨old,a⟩,_⟩:=st; exact NU a h
noncomputable def nY (xs:HC W):HC W:=xs.zipIdx.map λp=>.tup [.int (p.2:HJ),p.1]
theorem pV {xs:HC W}{i:HJ}{w:W}(h:(nY xs)[i]?=gV w):∃x,xs[i]?=gV x/\w=.tup [.int i,x]:=by
 unfold nY at h;rw[HP,List.getElem?_zipIdx,Option.map_map,HG]at h;obtain⟨x,h1,rfl⟩:=h;exact⟨x,h1,by simp⟩
noncomputable def Ar (f:FA):FI:=λρ S=>match f ρ S with
 | some ([x],S1)=>match GP x with
  | some xs=>gV (.its (nY xs),S1)
  | none=>td
 | _=>td
section
variable{X:Cx}{pins:HC (HN×JC)}{σ:L2.St}{H:Hp}{s:HH}{A:HC HN}
theorem w6 {S1:Zs}{xs:HC W}(z1:ZRel X.K A H xs S1):MIt X.w X.K (.its (nY xs)) (Hl X.K S1) A H:=by
 refine⟨λA' H' S i w e so hi=>?_,λA' H' S i e so hi=>?_⟩
 ·simp only[MI.at,IV]at hi;obtain⟨x,e1,rfl⟩:=pV hi;obtain⟨v,g1,r1⟩:=(z1.mono e).at e1;refine⟨⟨v,g1⟩,λp H2 ⟨a,v',q1,hp,hn,hH⟩=>?_⟩
  subst hp hH;have ex:Ext X.K A' H' A' (cv H' a (.tup [.int i,v'])):=dF (.inl hn);exact⟨ex,so.lay hn,.tup (.of bF) (.cons .int (.cons (((z1.mono e).is e1 q1).mono ex) .nil))⟩
 ·simp only[MI.at,IV,JR,nY,HF,List.length_zipIdx]at hi;exact(z1.mono e).out hi
theorem uH:bootBuiltins "enumerate" = gV (.type "enumerate"):=rfl
theorem As {els:HC Io}{k0:HJ}{tp:J9}{a:Io}{f:FA}{p pos:J9}(hg:Gl X "enumerate")(hm:X.mg "enumerate" = td)(ha:GA X [a] f)(hs:starEach [a] X.env=[(false,eval a X.env)]) :
  GI X (.Tuple els k0 tp) (.Call (.Name "enumerate" p) [a] [] pos) (Ar f):=by
 intro pins s σ H R I ⟨A,ρ,S,mi,S',er,so,e,hq⟩;unfold Ar at e;split at e
 ·rename_i x S1 h1;split at e
  ·rename_i xs e1;cases e;refine Call_ (iY I hg hm uH (J2 (b8 (ha pos pins s σ H _ I ⟨A,ρ,S,_,_,er,so,h1,λ_ _ z=>z⟩) λus s1 ⟨vs,H1,I1,r1,A1,z1,z2,z3⟩=>?_) (by rw[hs]; rfl) (by rfl)))
   cases z3 with
   | cons ra t=>
    cases t;cases r1 with
    | cons ua t=>
     cases t;obtain⟨Sa,oa,Ca,za,ia,ca,ka,na,ta⟩:=Aq I1 ra ua e1;refine uF ia ca na λh' hz g1 kp=>?_
     have I2:Inv X pins σ H1 { s1 with heap:=h' }:=I1.kept (t':=s1.toks) kp
     refine NU (s:={ s1 with heap:=h' }) hz ?_
     refine⟨s1.heap.objs.size+1,_,_,_,H1,rfl,I2,uG (S1:=Sa) (i1:=s1.heap.objs.size) (by simp),⟨⟨_,hz⟩,ta _ _ g1⟩,λb hb=>?_,hq _ _ A1 z1 z2 (w6 za)⟩
     have hb':s1.heap.objs.size<=b:=by
      simp only[IG,JA,Lj]at hb;rcases hb with rfl|rfl
      ·exact Nat.le_add_right _ _
      ·exact HW _
     exact I1.fpOk hb' (I1.hok.fresh hb')
  ·cases e
 ·cases e
end
end Mi
namespace Mi
open PySem PySem.Spec PyProof.Rows L2
noncomputable def EX (g1 g2:HC W->aa->HI (W×aa))(xs:HC W)(S:aa):HI (W×aa):=match g1 xs S with
 | some r=>gV r
 | none=>g2 xs S
theorem w8 {X:Cx}{f:HE}{g1 g2:HC W->aa->HI (W×aa)}(h1:LCall X f g1)(h2:LCall X f g2):LCall X f (EX g1 g2):=by
 intro pins s σ H A S xs vs us w S' I so rl rv e;unfold EX at e;split at e
 ·rename_i r hr;cases e;exact h1 pins s σ H A S xs vs us w S' I so rl rv hr
 ·exact h2 pins s σ H A S xs vs us w S' I so rl rv e
inductive Bi where|len|list|tuple|int|sorted|range|all|min
 deriving KM
noncomputable def Bi.fn:Bi->HC W->aa->HI (W×aa)
 | .len=>rA|.list=>EX mF mJ|.tuple=>kJ|.int=>EF|.sorted=>fE|.range=>rn|.all=>zH|.min=>zG
noncomputable def Bi.name:Bi->Ih
 | .len=>"len"|.list=>"list"|.tuple=>"tuple"|.int=>"int"|.sorted=>"sorted"|.range=>"range"|.all=>"all"|.min=>"min"
inductive Me where|append|extend|join|pop|get|clear|count
 deriving KM
noncomputable def Me.fn:Me->W->HC W->aa->HI (W×aa)
 | .append=>iw|.extend=>j5|.join=>v6|.pop=>CG|.get=>sD|.clear=>kB|.count=>kC
noncomputable def Me.name:Me->Ih
 | .append=>"append"|.extend=>"extend"|.join=>"join"|.pop=>"pop"|.get=>"get"|.clear=>"clear"|.count=>"count"
noncomputable def Me.ty:Me->Jp
 | .append=>"list"|.extend=>"list"|.join=>"str"|.pop=>"list"|.get=>"dict"|.clear=>"list"|.count=>"list"
inductive Tg where
 | nm (i:HJ)|tp (is:HC HJ)
set_option genSizeOf false in
set_option genInjectivity false in
mutual
inductive E where
 | c (w:W)|v (i:HJ)
 | op (o:BOp) (a b:E)
 | cmp (o:COp) (a b:E)
 | and (a b:E)|or (a b:E)|not (a:E)
 | own (f:Ih) (n:HJ) (es:Es)|bi (b:Bi) (es:Es)|me (m:Me) (o:E) (es:Es)
 | ix (a b:E)|sl (a:E) (lo hi:Ep)|tup (es:Es)|lst (es:Es)
 | isi (c:Jp) (a:E)
 | neg (a:E)|dnew|disp (es:Es)|ite (t a b:E)
 | comp (elt:E) (tg:Tg) (it:Ie) (cs:Es) (cap:HC (HI HJ))
inductive Es where
 | nil|cons (e:E) (es:Es)
inductive Ep where
 | no|yes (e:E)
inductive Ie where
 | seq (e:E)|rng (es:Es)|rng2 (es:Es)|enu (es:Es)
end
set_option genSizeOf false in
set_option genInjectivity false in
mutual
inductive Sm where
 | set (i:HJ) (e:E)|asg (is:HC HJ) (e:E)|par (i j:HJ) (es:Es)|put (o k e:E)
 | ex (e:E)|ret (e:E)|retN|pass|brk|cont|bad
 | ite (t:E) (a b:Ss)|whl (t:E) (b:Ss)|loop (tg:Tg) (it:Ie) (b:Ss)
inductive Ss where
 | nil|cons (s:Sm) (ss:Ss)
end
noncomputable def gK:Tg->FG
 | .nm i=>Ab i
 | .tp is=>DU is
section
variable (Φ:Ih->FF)
mutual
noncomputable def aK:E->FE
 | .c w=>fC w
 | .v i=>fV i
 | .op o a b=>zI (iq o) (aK a) (aK b)
 | .cmp o a b=>zJ o (aK a) (aK b)
 | .and a b=>sI (aK a) (aK b)
 | .or a b=>zN (aK a) (aK b)
 | .not a=>sJ (aK a)
 | .own f n es=>pO n (Φ f) (dy es)
 | .bi b es=>jL b.fn (dy es)
 | .me m o es=>Bx m.ty m.fn (aK o) (dy es)
 | .ix a b=>GM (aK a) (aK b)
 | .sl a lo hi=>EN (aK a) (sP lo) (sP hi)
 | .tup es=>wx (dy es)
 | .lst es=>wy (dy es)
 | .isi c a=>wQ c (aK a)
 | .neg a=>wp (aK a)
 | .dnew=>By
 | .disp es=>pS (dy es)
 | .ite t a b=>zO (du t) (aK a) (aK b)
 | .comp elt tg it cs cap=>kM (kN it) (gK tg) (At cs) (aK elt) cap
noncomputable def du:E->FT
 | .cmp o a b=>wt (zJ o (aK a) (aK b))
 | .and a b=>wu (du a) (du b)
 | .or a b=>EK (du a) (du b)
 | .not a=>zK (du a)
 | .c w=>gI (fC w)
 | .v i=>gI (fV i)
 | .op o a b=>gI (zI (iq o) (aK a) (aK b))
 | .own f n es=>gI (pO n (Φ f) (dy es))
 | .bi b es=>gI (jL b.fn (dy es))
 | .me m o es=>gI (Bx m.ty m.fn (aK o) (dy es))
 | .ix a b=>gI (GM (aK a) (aK b))
 | .sl a lo hi=>gI (EN (aK a) (sP lo) (sP hi))
 | .tup es=>gI (wx (dy es))
 | .lst es=>gI (wy (dy es))
 | .isi c a=>gI (wQ c (aK a))
 | .neg a=>gI (wp (aK a))
 | .dnew=>λ_ _=>td
 | .disp _=>λ_ _=>td
 | .ite _ _ _=>λ_ _=>td
 | .comp _ _ _ _ _=>λ_ _=>td
noncomputable def dy:Es->FA
 | .nil=>hW
 | .cons e es=>eC (aK e) (dy es)
noncomputable def At:Es->FT
 | .nil=>Bz
 | .cons e .nil=>du e
 | .cons _ (.cons _ _)=>λ_ _=>td
noncomputable def sP:Ep->FO
 | .no=>CW
 | .yes e=>sM (aK e)
noncomputable def kN:Ie->FI
 | .seq e=>fQ (aK e)
 | .rng es=>rD (dy es)
 | .rng2 es=>iRng2 (dy es)
 | .enu es=>Ar (dy es)
end
variable (fuel:HJ)
mutual
noncomputable def gb:Sm->FS
 | .set i e=>kL (aK Φ e) (Ab i)
 | .asg is e=>kL (aK Φ e) (DU is)
 | .par i j es=>Ad i j (dy Φ es)
 | .put o k e=>kL (aK Φ e) (Ac (aK Φ o) (aK Φ k))
 | .ex e=>zV (aK Φ e)
 | .ret e=>zY (aK Φ e)
 | .retN=>λ_ S=>gV (.rt .non,S)
 | .pass=>wI
 | .brk=>λρ S=>gV (.bk ρ,S)
 | .cont=>λρ S=>gV (.ct ρ,S)
 | .bad=>λ_ _=>td
 | .ite t a b=>Aa (du Φ t) (gc a) (gc b)
 | .whl t b=>nW (du Φ t) (gc b) fuel
 | .loop tg it b=>wL (kN Φ it) (gK tg) (gc b)
noncomputable def gc:Ss->FS
 | .nil=>λρ S=>gV (.nx ρ,S)
 | .cons s ss=>zU (gb s) (gc ss)
end
end
structure Gam where
 sc:HC (Ih×JK)
 N:HC Ih
 fns:HC (Ih×HJ)
 blt:HC Ih
 dfn:Ir
noncomputable def Db:HI JK->Ir
 | some .local=>true|some .cell=>true|some .free=>true|_=>false
noncomputable def Au:HI JK->Ir
 | some .cell=>true|some .free=>true|_=>false
noncomputable def gd (names outer:HC (Ih×JK)):HC (Ih×JK):=names.map λ(n,k)=>if (k==.free&&outer.lookup n==gV .cell)then(n,.cell)else(n,k)
noncomputable def slot (Γ:Gam)(x:Ih):HI HJ:=if Db (Γ.sc.lookup x) && !(x==("__debug__" : Ih)) && !(x==("__classdict__" : Ih))then Γ.N.findIdx? (· == x)else td
noncomputable def sQ:NE->HI BOp
 | .Add=>gV .add|.Sub=>gV .sub|.Mult=>gV .mul|.FloorDiv=>gV .fdiv|.Mod=>gV .mod|.Pow=>gV .pow|_=>td
noncomputable def sR:O9->HI COp
 | .Eq=>gV .eq|.NotEq=>gV .ne|.Lt=>gV .lt|.LtE=>gV .le|.Gt=>gV .gt|.GtE=>gV .ge|.In=>gV .isin|.NotIn=>gV .notin|.Is=>gV .is|.IsNot=>gV .isnot
noncomputable def Av (x:Ih):HI Bi:=[Bi.len,.list,.tuple,.int,.sorted,.range,.all,.min].find? λb=>b.name==x
noncomputable def Aw (x:Ih):HI Me:=[Me.append,.extend,.join,.pop,.get,.clear,.count].find? λb=>b.name==x
noncomputable def EY (Γ:Gam)(x:Ih):Ir:=Γ.sc.lookup x==gV .globalImplicit && !(x==("__debug__" : Ih))
noncomputable def w9 (x:Ih):HI Jp:=if x==("bool" : Ih)then gV "bool" else if x==("int" : Ih)then gV "int" else if x==("str" : Ih)then gV "str" else if x==("tuple" : Ih)then gV "tuple" else if x==("list" : Ih)then gV "list" else if x==("dict" : Ih)then gV "dict" else td
noncomputable def sS:HC (HI Io)->HC Io->HC Io
 | some k::ks,v::vs=>k::v::sS ks vs
 | _,_=>[]
noncomputable def Ax (Γ:Gam)(f:Io->HI E):HC Io->HI E
 | [a,.Name c _]=>if EY Γ c&&Γ.blt.contains c then match w9 c,f a with
  | some cs,gV a'=>gV (.isi cs a')
  | _,_=>td
  else td
 | _=>td
noncomputable def eh:Io->Ir
 | .Name _ _=>true|.Constant _ _ _=>true|.Subscript _ _ _=>true|_=>false
noncomputable def lI (Γ:Gam)(x:Ih):Ir:=Γ.sc.lookup x==gV .globalImplicit && !(x==("__debug__" : Ih))
noncomputable def dA (Γ:Gam)(x:Ih):HI HJ:=if (Γ.sc.lookup x==gV .local)||(Γ.dfn&&Γ.sc.lookup x==gV .cell)then Γ.N.findIdx? (· == x)else td
noncomputable def cA (f:Io->HI E)(es:HC Io):HI Es:=es.foldr (λe acc=>match f e,acc with|some e',gV es'=>gV (.cons e' es')|_,_=>td) (gV .nil)
noncomputable def cB (f:Io->HI E)(op:PM):HC Io->HI E
 | []=>td
 | [a]=>f a
 | a::b::dq=>match f a,cB f op (b::dq)with
  | some a',gV b'=>gV (match op with|.And=>.and a' b'|.Or=>.or a' b')
  | _,_=>td
noncomputable def cP (f:Io->HI E):HI Io->HI Ep
 | none=>gV .no
 | some e=>(f e).map .yes
noncomputable def isTup:Io->Ir
 | .Tuple _ _ _=>true
 | _=>false
noncomputable def cI (Γ:Gam)(f:Io->HI E)(tg:Io):Io->HI Ie
 | .Call (.Name x p) [a] [] q=>if x==("range" : Ih)&&lI Γ x&&Γ.blt.contains x then(cA f [a]).map .rng else if x==("enumerate" : Ih)&&lI Γ x&&Γ.blt.contains x&&isTup tg then(cA f [a]).map .enu else(f (.Call (.Name x p) [a] [] q)).map .seq
 | .Call (.Name x p) [a,b] [] q=>if x==("range" : Ih)&&lI Γ x&&Γ.blt.contains x then(cA f [a,b]).map .rng2 else(f (.Call (.Name x p) [a,b] [] q)).map .seq
 | e=>(f e).map .seq
noncomputable def DV (Γ:Gam):HC Io->HI (HC HJ)
 | []=>gV []
 | .Name x _::ts=>match dA Γ x,DV Γ ts with
  | some i,gV is=>gV (i::is)
  | _,_=>td
 | _::_=>td
noncomputable def cT (Γ:Gam):Io->HI Tg
 | .Name x _=>(dA Γ x).map .nm
 | .Tuple ts _ _=>(DV Γ ts).map .tp
 | _=>td
noncomputable def gW (names:HC (Ih×JK)):HC Ih:=(names.filter λp=>p.2==.local||p.2==.free).map (·.1)
noncomputable def gC (Γ:Gam)(names:HC (Ih×JK)):HC (HI HJ):=(gW names).map λx=>if names.lookup x==gV .local then td else Γ.N.findIdx? (· == x)
noncomputable def xf (Γ:Gam)(scope:KI):Ir:=
 (scope.kind==.function)&&scope.names.all (λy=>!(y.2==.local)||scope.names.lookup y.1==gV .local)&&scope.names.all (λy=>!(y.2==.cell)) &&
 scope.names.all (λy=>!(y.2==.free)||(Au (Γ.sc.lookup y.1)&&scope.names.lookup y.1==gV .free&&(Γ.N.findIdx? (· == y.1)).isSome))&&decide (gW scope.names).Nodup
noncomputable def gX (Γ:Gam)(scope:KI):Gam:={ Γ with sc:=gd scope.names Γ.sc,N:=gW scope.names,dfn:=false }
noncomputable def xg (f:Io->HI E)(keys:HC (HI Io))(values:HC Io):HI E:=
 if keys.isEmpty&&values.isEmpty then gV .dnew
 else if keys.all (·.isSome)&&decide (keys.length=values.length)&&decide (keys.length<=15)then(cA f (sS keys values)).map .disp else td
noncomputable def cE:HJ->Gam->Io->HI E
 | 0,_,_=>td
 | n+1,Γ,e=>match e with
  | .Constant (.int i) _ _=>gV (.c (.int i))
  | .Constant (.str x) _ _=>gV (.c (.str x))
  | .Constant (.bool b) _ _=>gV (.c (.bl b))
  | .Constant .none _ _=>gV (.c .non)
  | .Name x _=>match slot Γ x with
   | some i=>gV (.v i)
   | none=>td
  | .BinOp a op b _=>match sQ op,cE n Γ a,cE n Γ b with
   | some o,gV a',gV b'=>gV (.op o a' b')
   | _,_,_=>td
  | .UnaryOp .Not a _=>(cE n Γ a).map .not
  | .UnaryOp .USub a _=>(cE n Γ a).map .neg
  | .BoolOp op vs _=>cB (cE n Γ) op vs
  | .Compare a [op] [b] _=>match sR op,cE n Γ a,cE n Γ b with
   | some o,gV a',gV b'=>gV (.cmp o a' b')
   | _,_,_=>td
  | .IfExp t a b _=>match cE n Γ t,cE n Γ a,cE n Γ b with
   | some t',gV a',gV b'=>gV (.ite t' a' b')
   | _,_,_=>td
  | .Call (.Name f _) args [] _=>if lI Γ f then match Γ.fns.lookup f with
    | some k=>(cA (cE n Γ) args).map (.own f k)
    | none=>if f==("isinstance" : Ih)then(if Γ.blt.contains f then Ax Γ (cE n Γ) args else td)else match Av f,args with
     | some b,a::as=>if Γ.blt.contains f then(cA (cE n Γ) (a::as)).map (.bi b)else td
     | _,_=>td
   else td
  | .Call (.Attribute o m apos) [] [] cpos=>if (m==("clear" : Ih))&&eh o&&(apos.endLine==cpos.line)then(cE n Γ o).map λo'=>.me .clear o' .nil else td
  | .Call (.Attribute o m apos) (a::as) [] cpos=>match Aw m,cE n Γ o,cA (cE n Γ) (a::as)with
   | some m',gV o',gV es=>if eh o&&(apos.endLine==cpos.line)&&decide ((a::as).length < 29)then gV (.me m' o' es)else td
   | _,_,_=>td
  | .Subscript a (.Slice lo hi td _) _=>match cE n Γ a,cP (cE n Γ) lo,cP (cE n Γ) hi with
   | some a',gV lo',gV hi'=>gV (.sl a' lo' hi')
   | _,_,_=>td
  | .Subscript a b _=>match cE n Γ a,cE n Γ b with
   | some a',gV b'=>gV (.ix a' b')
   | _,_=>td
  | .Tuple es _ _=>(cA (cE n Γ) es).map .tup
  | .List es _=>(cA (cE n Γ) es).map .lst
  | .Dict keys values _=>xg (cE n Γ) keys values
  | .ListComp elt [⟨tg,iter,ifs,asy⟩] scope _=>if (asy==0)&&(xf Γ scope&&decide (ifs.length<=1))then
    match cI Γ (cE n Γ) tg iter,cT (gX Γ scope) tg,cA (cE n (gX Γ scope)) ifs,cE n (gX Γ scope) elt with
    | some it,gV t,gV cs,gV el=>gV (.comp el t it cs (gC Γ scope.names))
    | _,_,_,_=>td
   else td
  | _=>td
structure CtxOk (Φ:Ih->FF)(X:Cx)(Γ:Gam):Prop where
 names:X.env.scope.names=Γ.sc
 kind:X.env.scope.kind=.function
 N:X.N=Γ.N
 nd:Γ.N.Nodup
 calm:X.calm=true
 xe:X.xe=λ_ _=>Jn
 un:X.A.units+g9 < cLine
 dfn:Γ.dfn=true->∀x,X.fn x=true
 blt:∀x∈Γ.blt,X.mg x=td
 fns:∀f n,Γ.fns.lookup f=gV n->∃k fa fd ps,FnOk X.prog X.w X.K X.mg X.base vg k fa fd ps (wF X.w X.K n (Φ f))/\Room k X.A/\X.mg f=gV (.ref fa)/\Ju X.K (.ref fa)=true/\Binds X.K fd ps []
theorem bj {α:Type}{x:α}{P:Prop}(h:(td:HI α)=gV x):P:=nomatch h
noncomputable def hZ:Io->Ir
 | .Starred _ _=>false
 | _=>true
theorem aE {e:Io}{es:HC Io}{env:NB}(h:hZ e=true):starEach (e::es) env=(false,eval e env)::starEach es env:=by
 cases e <;> first|rfl|cases h
theorem bB {env:NB}{pos:J9}:∀ {es:HC Io},es.all hZ=true->(backTo pos (starEach es env)).any (·.1)=false
 | [],_=>rfl
 | e::es,h=>by
  rw[IZ,HL]at h;rw[aE h.1];show(false||(backTo pos (starEach es env)).any (·.1))=false
  rw[bB h.2];rfl
theorem pW {env:NB}{pos:J9}:∀ {es:HC Io},es.all hZ=true->(backTo pos (starEach es env)).all (λx=>!x.1)=true
 | [],_=>rfl
 | e::es,h=>by
  rw[IZ,HL]at h;rw[aE h.1];show(true&&(backTo pos (starEach es env)).all (λx=>!x.1))=true
  rw[pW h.2];rfl
theorem i9 {n:HJ}{Γ:Gam}{e:Io}{e':E}(h:cE n Γ e=gV e'):hZ e=true:=by
 cases n with
 | zero=>cases h
 | succ n=>cases e <;> first|rfl|(exact bj h)
theorem iC {f:Io->HI E}{e:Io}{es:HC Io}{r:Es}(h:cA f (e::es)=gV r):∃e' es',f e=gV e'/\cA f es=gV es'/\r=.cons e' es':=by
 simp only[cA,Op]at h;split at h
 ·rename_i e' es' h1 h2;cases h;exact⟨e',es',h1,h2,rfl⟩
 ·cases h
theorem c9 {n:HJ}{Γ:Gam}:∀ {es:HC Io} {r:Es},cA (cE n Γ) es=gV r->es.all hZ=true
 | [],_,_=>rfl
 | e::es,r,h=>by
  obtain⟨e',es',h1,h2,_⟩:=iC h;rw[IZ,i9 h1,c9 h2];rfl
theorem dJ {N:HC Ih}{x:Ih}{i:HJ}(h:N.findIdx? (· == x)=gV i):N[i]?=gV x:=by
 obtain⟨hl,h1,_⟩:=List.findIdx?_eq_some_iff_getElem.mp h;rw[HX hl];exact congrArg gV (eq_of_beq h1)
section
variable{Φ:Ih->FF}{X:Cx}{Γ:Gam}
theorem j9 {e:Io}:GT X e (λ_ _=>td):=λpins s σ H Q I ⟨A,ρ,S,k,S',er,so,e1,hq⟩=>by cases e1
theorem xh {x:Ih}(h:Db (X.env.scope.names.lookup x)=true):F7 X.env.scope x:=by
 unfold Db at h;split at h
 ·exact .inl (by assumption)
 ·exact .inr (.inl (by assumption))
 ·exact .inr (.inr (by assumption))
 ·cases h
theorem xi (K:CtxOk Φ X Γ){x:Ih}{pos:J9}{i:HJ}(h:slot Γ x=gV i):GE X (.Name x pos) (fV i):=by
 unfold slot at h;split at h
 ·rename_i hc;rw[HL,HL]at hc;obtain⟨⟨h1,h2⟩,h3⟩:=hc;refine GL (BZ (by rw[K.N]; exact dJ h) (xh (by rw[K.names]; exact h1)) (by simpa using h2) (by simpa using h3))
 ·cases h
theorem kO (K:CtxOk Φ X Γ){x:Ih}(h:lI Γ x=true):Gl X x/\(x==("__debug__" : Ih))=false:=by
 unfold lI at h;rw[HL]at h;refine⟨?_,by simpa using h.2⟩
 show X.env.scope.names.lookup x=_;rw[K.names];exact eq_of_beq h.1
theorem xj {o:O9}{c:COp}(h:sR o=gV c):c.py=o:=by
 cases o <;> (simp only[sR,IV]at h; subst h; rfl)
theorem xk {o:NE}{c:BOp}(h:sQ o=gV c):c.py=o:=by
 cases o <;> simp only[sQ,IV]at h <;> first|(subst h; rfl)|cases h
theorem uI {x:Ih}{b:Bi}(h:Av x=gV b):b.name=x:=by
 have:=MG h;exact eq_of_beq this
theorem uJ {x:Ih}{b:Me}(h:Aw x=gV b):b.name=x:=by
 have:=MG h;exact eq_of_beq this
theorem dY {n:HJ}(ih:∀ {e:Io} {e':E},cE n Γ e=gV e'->GE X e (aK Φ e')):∀ {es:HC Io} {r:Es},cA (cE n Γ) es=gV r->GA X es (dy Φ r)
 | [],r,h=>by cases h; exact CV
 | e::es,r,h=>by
  obtain⟨e',es',h1,h2,rfl⟩:=iC h;exact zP (ih h1) (dY ih h2) (aE (i9 h1))
theorem EZ (K:CtxOk Φ X Γ){n:HJ}{f:Ih}{p pos:J9}{args:HC Io}{k:HJ}{r:Es}(hg:lI Γ f=true)(hf:Γ.fns.lookup f=gV k)(ha:cA (cE n Γ) args=gV r)(h:GA X args (dy Φ r)):GE X (.Call (.Name f p) args [] pos) (pO k (Φ f) (dy Φ r)):=by
 obtain⟨d,fa,fd,ps,F,hr,hm,hk,hb⟩:=K.fns f k hf;obtain⟨g1,g2⟩:=kO K hg;cases args with
 | nil=>cases ha; exact zS F hr g1 hm hk hb g2
 | cons a as=>
  have ns:=c9 ha;rw[IZ,HL]at ns;exact CZ F hr g1 hm hk hb h g2 (aE ns.1) (bB ns.2)
theorem GQ (K:CtxOk Φ X Γ){n:HJ}{f:Ih}{p pos:J9}{a:Io}{as:HC Io}{b:Bi}{r:Es}(hg:lI Γ f=true)(hb:Av f=gV b)(hc:Γ.blt.contains f=true)(ha:cA (cE n Γ) (a::as)=gV r)(h:GA X (a::as) (dy Φ r)):GE X (.Call (.Name f p) (a::as) [] pos) (jL b.fn (dy Φ r)):=by
 obtain⟨g1,g2⟩:=kO K hg;have hm:X.mg f=td:=K.blt f (by simpa using hc)
 have ns:=c9 ha;rw[IZ,HL]at ns;have e:=uI hb;subst e;have hu:X.A.units+12 < cLine:=by have:=K.un; have:g9=20:=rfl; omega
 have calm:∀ {f:HE} {g:HC W->aa->HI (W×aa)},(X.A.handled=td->LCall X f g)->LCall X f g:=λh pins s σ H A S xs vs us w S' I=>h (I.ok.hd K.calm) pins s σ H A S xs vs us w S' I
 cases b with
 | len=>exact sK rF g1 hm PySem.boot_len h (by decide) g2 (aE ns.1) (bB ns.2)
 | list=>exact sL (calm λhh=>w8 (pq hh) (pM hh)) g1 hm rfl h (by decide) g2 (aE ns.1) (bB ns.2)
 | tuple=>exact sL (calm nV) g1 hm rfl h (by decide) g2 (aE ns.1) (bB ns.2)
 | int=>exact sL uh g1 hm rfl h (by decide) g2 (aE ns.1) (bB ns.2)
 | sorted=>exact sK (calm λhh=>nU hh hu) g1 hm rfl h (by decide) g2 (aE ns.1) (bB ns.2)
 | range=>exact sL po g1 hm rfl h (by decide) g2 (aE ns.1) (bB ns.2)
 | all=>exact sK (calm uB) g1 hm rfl h (by decide) g2 (aE ns.1) (bB ns.2)
 | min=>exact sK (calm λhh=>uz hh hu) g1 hm rfl h (by decide) g2 (aE ns.1) (bB ns.2)
theorem xl {x:Ih}{c:Jp}(h:w9 x=gV c):bootBuiltins x=gV (.type c)/\x≠"__name__":=by
 unfold w9 at h;split at h
 ·rename_i e; cases h; rw[eq_of_beq e]; exact⟨rfl,by decide⟩
 ·split at h
  ·rename_i e; cases h; rw[eq_of_beq e]; exact⟨rfl,by decide⟩
  ·split at h
   ·rename_i e; cases h; rw[eq_of_beq e]; exact⟨rfl,by decide⟩
   ·split at h
    ·rename_i e; cases h; rw[eq_of_beq e]; exact⟨rfl,by decide⟩
    ·split at h
     ·rename_i e; cases h; rw[eq_of_beq e]; exact⟨rfl,by decide⟩
     ·split at h
      ·rename_i e; cases h; rw[eq_of_beq e]; exact⟨rfl,by decide⟩
      ·cases h
theorem E1 (K:CtxOk Φ X Γ){n:HJ}{f:Ih}{p pos:J9}{args:HC Io}{r:E}(hg:lI Γ f=true)(hb:(f==("isinstance" : Ih))=true)(hc:Γ.blt.contains f=true)(ih:∀ {e:Io} {e':E},cE n Γ e=gV e'->GE X e (aK Φ e'))(h:Ax Γ (cE n Γ) args=gV r) :
  GE X (.Call (.Name f p) args [] pos) (aK Φ r)/\∃a c,r=.isi c a:=by
 obtain⟨g1,g2⟩:=kO K hg;have hm:X.mg f=td:=K.blt f (by simpa using hc)
 have e:=eq_of_beq hb;subst e;unfold Ax at h;split at h
 ·rename_i a c q;split at h
  ·rename_i hcc;rw[HL]at hcc;obtain⟨g3,g4⟩:=kO K (x:=c) hcc.1;have hm2:X.mg c=td:=K.blt c (by simpa using hcc.2)
   split at h
   ·rename_i cs a' h1 h2;cases h;obtain⟨b1,b2⟩:=xl h1;exact⟨C9 g1 hm g3 hm2 b1 b2 g4 (ih h2) (aE (i9 h2)),a',cs,rfl⟩
   ·cases h
  ·cases h
 ·cases h
theorem da {o:Io}{name:Ih}{env:NB}(h:eh o=true):attributeBase o name env (eval o env)=eval o env:=by
 cases o <;> first|rfl|cases h
theorem sT {n:HJ}{pos:J9}(ih:∀ {e:Io} {e':E},cE n Γ e=gV e'->GE X e (aK Φ e')):∀(keys:HC (HI Io)) (values:HC Io) {r:Es},keys.all (·.isSome)=true->keys.length=values.length->cA (cE n Γ) (sS keys values)=gV r->EU X pos keys values (dy Φ r)
 | [],[],r,_,_,h=>by cases h; exact Al
 | [],_::_,r,_,hl,_=>by cases hl
 | _::_,[],r,_,hl,_=>by cases hl
 | none::_,_::_,r,ha,_,_=>by cases ha
 | some k::ks,v::vs,r,ha,hl,h=>by
  dsimp only[sS]at h;obtain⟨e1,es1,h1,h2,rfl⟩:=iC h;obtain⟨e2,es2,h3,h4,rfl⟩:=iC h2;rw[IZ,HL]at ha;exact wR (ih h1) (ih h3) (sT ih ks vs ha.2 (by simpa using hl) h4)
theorem GR (K:CtxOk Φ X Γ){n:HJ}{m:Ih}{apos cpos:J9}{o a:Io}{as:HC Io}{b:Me}{o':E}{r:Es}(hm:Aw m=gV b)(hr:eh o=true)(hl:(apos.endLine==cpos.line)=true)(hn:(a::as).length < 29)(ho:GE X o (aK Φ o'))(ha:cA (cE n Γ) (a::as)=gV r)(h:GA X (a::as) (dy Φ r)) :
  GE X (.Call (.Attribute o m apos) (a::as) [] cpos) (Bx b.ty b.fn (aK Φ o') (dy Φ r)):=by
 have ns:=c9 ha;have ns':=ns;rw[IZ,HL]at ns;have kY:((backTo cpos (starEach (a::as) X.env)).all (λx=>!x.1)&&(backToKw cpos (keywordEach [] X.env)).all (λx=>x.1.isSome)&&decide ((a::as).length+([]:HC Ot).length+(if ([]:HC Ot).isEmpty then 0 else 1) < 30))=true:=by
  rw[pW ns',K6,HL];exact⟨rfl,JO (by simp only[Jz,List.isEmpty_nil,KJ]; omega)⟩
 have e:=uJ hm;subst e;cases b with
 | append=>exact kK JL PySem.F.slot_list_append PySem.F.type_list_append nH ho h (da hr) kY hl (aE ns.1) (bB ns.2)
 | extend=>exact kK JL PySem.F.slot_list_extend PySem.F.type_list_extend nI ho h (da hr) kY hl (aE ns.1) (bB ns.2)
 | join=>exact kK PySem.F.plainAttrs_str PySem.F.slot_str_join PySem.F.type_str_join rm ho h (da hr) kY hl (aE ns.1) (bB ns.2)
 | pop=>exact kK JL PySem.F.slot_list_pop PySem.F.type_list_pop uj ho h (da hr) kY hl (aE ns.1) (bB ns.2)
 | get=>exact kK PySem.F.plainAttrs_dict MJ PySem.F.type_dict_get (rq (by have:=K.un; have:g9=20:=rfl; omega)) ho h (da hr) kY hl (aE ns.1) (bB ns.2)
 | clear=>exact kK JL Mk Ml jI ho h (da hr) kY hl (aE ns.1) (bB ns.2)
 | count=>exact kK JL PySem.F.slot_list_count PySem.F.type_list_count pj ho h (da hr) kY hl (aE ns.1) (bB ns.2)
theorem pX {n:HJ}{Γ:Gam}{e:Io}{e':E}{op:O9}(h:cE n Γ e=gV e'):behindInMarks op e=false:=by
 cases n with
 | zero=>cases h
 | succ n=>cases e <;> first|rfl|(exact bj h)
theorem rJ {n:HJ}{Γ:Gam}{e:Io}{e':E}(h:cE n Γ e=gV e'):nz e:=by
 cases n with
 | zero=>cases h
 | succ n=>cases e <;> first|(intro o i; rfl)|(exact bj h)
theorem nZ {n:HJ}{Γ:Gam}{f:Io->HI E}{e:Io}{i:Ie}{env:NB}{tg:Io}(hf:∀el k p,f (.Set el k p)=td)(h:cI Γ f tg e=gV i):∀x,foldedSetIterable e env x=pure x:=by
 intro x;cases e <;> first|rfl|(simp[cI,hf]at h)
theorem n0 {n:HJ}{op:PM}{pos:J9}(ih:∀ {e:Io} {e':E},cE n Γ e=gV e'->GE X e (aK Φ e')):∀ {vs:HC Io} {r:E},cB (cE n Γ) op vs=gV r->GE X (.BoolOp op vs pos) (aK Φ r)
 | [],r,h=>by cases h
 | [a],r,h=>CQ (ih h)
 | a::b::dq,r,h=>by
  simp only[cB]at h;split at h
  ·rename_i a' b' h1 h2;cases h;cases op with
   | And=>exact CS (ih h1) (n0 ih h2)
   | Or=>exact EM (ih h1) (n0 ih h2)
  ·cases h
theorem n6 {n:HJ}{op:PM}{pos:J9}(ih:∀ {e:Io} {e':E},cE n Γ e=gV e'->GT X e (du Φ e')):∀ {vs:HC Io} {r:E},cB (cE n Γ) op vs=gV r->GW X (.BoolOp op vs pos) (du Φ r)
 | [],r,h=>by cases h
 | [a],r,h=>by
  cases op with
  | And=>exact zM (ih h)
  | Or=>exact CN (ih h)
 | a::b::dq,r,h=>by
  simp only[cB]at h;split at h
  ·rename_i a' b' h1 h2;cases h;cases op with
   | And=>exact CO (ih h1) (n6 ih h2)
   | Or=>exact EL (ih h1) (n6 ih h2)
  ·cases h
theorem xm {n:HJ}(ih:∀ {e:Io} {e':E},cE n Γ e=gV e'->GE X e (aK Φ e')){o:HI Io}{p:Ep}(h:cP (cE n Γ) o=gV p):GO X o (sP Φ p):=by
 cases o with
 | none=>cases h; exact zQ
 | some e=>
  simp only[cP,HG]at h;obtain⟨e',h1,rfl⟩:=h;exact zR (ih h1)
theorem rK (K:CtxOk Φ X Γ){n:HJ}(ih:∀ {e:Io} {e':E},cE n Γ e=gV e'->GE X e (aK Φ e')){tg e:Io}{i:Ie}(h:cI Γ (cE n Γ) tg e=gV i):GI X tg e (kN Φ i):=by
 have gen:(cE n Γ e).map Ie.seq=gV i->GI X tg e (kN Φ i):=λh=>by
  rw[HG]at h;obtain⟨e',h1,rfl⟩:=h;exact Ao (ih h1)
 unfold cI at h;split at h
 ·rename_i x p a pos;split at h
  ·rename_i hc;rw[HL,HL]at hc;obtain⟨⟨h1,h2⟩,h3⟩:=hc;have hx:=eq_of_beq h1;subst hx;rw[HG]at h;obtain⟨r,hr,rfl⟩:=h;have ns:=c9 hr;rw[IZ,HL]at ns;exact Ai (kO K h2).1 (K.blt _ (by simpa using h3)) (dY ih hr) (aE ns.1)
  ·split at h
   ·rename_i hc;rw[HL,HL,HL]at hc;obtain⟨⟨⟨h1,h2⟩,h3⟩,h4⟩:=hc;have hx:=eq_of_beq h1;subst hx;rw[HG]at h;obtain⟨r,hr,rfl⟩:=h;have ns:=c9 hr;rw[IZ,HL]at ns;cases tg with
    | Tuple els k0 tp=>exact As (kO K h2).1 (K.blt _ (by simpa using h3)) (dY ih hr) (aE ns.1)
    | _=>cases h4
   ·exact gen h
 ·rename_i x p a b pos;split at h
  ·rename_i hc;rw[HL,HL]at hc;obtain⟨⟨h1,h2⟩,h3⟩:=hc;have hx:=eq_of_beq h1;subst hx;rw[HG]at h;obtain⟨r,hr,rfl⟩:=h;have ns:=c9 hr;rw[IZ,IZ,HL,HL]at ns;exact Aj (kO K h2).1 (K.blt _ (by simpa using h3)) (dY ih hr) (by rw[aE ns.1,aE ns.2.1]; rfl) (aE ns.2.1)
  ·exact gen h
 ·exact gen h
theorem n8 (K:CtxOk Φ X Γ){x:Ih}{i:HJ}(h:dA Γ x=gV i):X.N[i]?=gV x/\yI X.env.scope x/\(X.fn x=true\/X.env.scope.names.lookup x=gV .local):=by
 unfold dA at h;split at h
 ·rename_i hc;refine⟨by rw[K.N]; exact dJ h,?_⟩
  unfold L2.yI;rw[K.names];rw[JY,HL]at hc;rcases hc with hc|⟨hd,hc⟩
  ·have:=eq_of_beq hc;exact⟨.inl this,.inr this⟩
  ·exact⟨.inr (eq_of_beq hc),.inl (K.dfn hd x)⟩
 ·cases h
theorem pY (K:CtxOk Φ X Γ):∀ {ts:HC Io} {is:HC HJ},DV Γ ts=gV is->(∀x∈ts,∃y p,x=M4 y p)/\Mo (λ(t:Io) (i:HJ)=>∃x p,t=M4 x p/\X.N[i]?=gV x/\yI X.env.scope x/\(X.fn x=true\/X.env.scope.names.lookup x=gV .local)) ts is
 | [],is,h=>by cases h; exact⟨λx hx=>by simp at hx,.nil⟩
 | t::ts,is,h=>by
  cases t with
  | Name x p=>
   dsimp only[DV]at h;split at h
   ·rename_i i is' h1 h2;cases h;obtain⟨a,b⟩:=pY K h2;exact⟨λy hy=>(IG.mp hy).elim (λe=>⟨x,p,e⟩) (a y),.cons ⟨x,p,rfl,n8 K h1⟩ b⟩
   ·cases h
  | _=>cases h
theorem ib {env:NB}:∀ {ts:HC Io},(∀x∈ts,∃y p,x=M4 y p)->(assignEach ts env).length=ts.length/\(assignEach ts env).findIdx? (·.1)=td
 | [],_=>⟨rfl,rfl⟩
 | t::ts,h=>by
  obtain⟨y,p,rfl⟩:=h t JI;obtain⟨a,b⟩:=ib (env:=env) λx hx=>h x (Jg _ hx)
  refine⟨by show(assignEach ts env).length+1=ts.length+1; rw[a],?_⟩
  show List.findIdx? (·.1) ((false,assign (.Name y p) env)::assignEach ts env)=td
  rw[List.findIdx?_cons,b];rfl
theorem sU (K:CtxOk Φ X Γ){tg:Io}{t:Tg}(h:cT Γ tg=gV t):GG X tg (gK t):=by
 have hN:X.N.Nodup:=by rw[K.N]; exact K.nd
 cases tg with
 | Name x p=>
  dsimp only[cT]at h; simp only[HG]at h
  obtain⟨i,h1,rfl⟩:=h;obtain⟨a,b,c⟩:=n8 K h1;exact sN hN a b c
 | Tuple ts k p=>
  dsimp only[cT]at h; simp only[HG]at h
  obtain⟨is,h1,rfl⟩:=h;obtain⟨a,b⟩:=pY K h1;exact C4 K.calm a b hN (ib a).1 (ib a).2
 | _=>cases h
end
noncomputable def eZ (env:NB):HC (Ih×JK)->HC (Ih×HN)->HC (Ih×HN)
 | [],cs=>cs
 | (n,k)::r,cs=>eZ env r (if k==.free then(n,(env.cells.lookup n).getD 0)::cs else cs)
theorem ja {env:NB}:∀(names:HC (Ih×JK)) (cs:HC (Ih×HN)),(∀y∈names,y.2=.free->(env.cells.lookup y.1).isSome=true)->
  (forIn names cs λx r=>match x with|(name,kind)=>if (kind==K7)=true then do let a <- cellOf env name; pure (JG ((name,a)::r))else pure (JG r):Pi (HC (Ih×HN)))=pure (eZ env names cs)
 | [],cs,_=>by rw[OL]; rfl
 | (n,k)::r,cs,h=>by
  rw[MB];have hr:=λy hy=>h y (Jg _ hy)
  by_cases hk:(k==K7)=true
  ·obtain⟨c,hc⟩:=Jh.mp (h (n,k) JI (eq_of_beq hk));have e1:cellOf env n=pure c:=by unfold cellOf; rw[hc]
   simp only[hk,KJ,e1,pure_bind];rw[ja r _ hr];simp only[eZ,hk,KJ,hc,Oc]
  ·have hk':(k==K7)=false:=by simpa using hk
   simp only[hk',Jq,Kq,pure_bind];rw[ja r _ hr];simp only[eZ,hk',Jq,Kq]
theorem jU {scope:KI}{env:NB}(h:∀y∈scope.names,y.2=.free->(env.cells.lookup y.1).isSome=true):closureFor scope env=pure (eZ env scope.names []):=by
 have:=ja scope.names [] h;unfold closureFor;simp only[this,pure_bind]
theorem kP {env:NB}:∀(names:HC (Ih×JK)) (cs:HC (Ih×HN)),(∀y∈names,y.2=.free->(env.cells.lookup y.1).isSome=true)->(∀x c,cs.lookup x=gV c->env.cells.lookup x=gV c)->
  ∀x c,(eZ env names cs).lookup x=gV c->env.cells.lookup x=gV c
 | [],cs,_,h,x,c,e=>h x c e
 | (n,k)::r,cs,hn,h,x,c,e=>by
  refine kP r _ (λy hy=>hn y (Jg _ hy)) (λx c e=>?_) x c e
  split at e
  ·rename_i hk;rw[JM]at e;split at e
   ·rename_i hx;cases e;have:=eq_of_beq hx;subst this;obtain⟨c,hc⟩:=Jh.mp (hn (x,k) JI (eq_of_beq hk));rw[hc]; rfl
   ·exact h x c e
  ·exact h x c e
theorem jM {env:NB}{x:Ih}:∀(names:HC (Ih×JK)) (cs:HC (Ih×HN)),(∃c,cs.lookup x=gV c)->∃c,(eZ env names cs).lookup x=gV c
 | [],cs,h=>h
 | (n,k)::r,cs,h=>by
  refine jM r _ ?_;split
  ·rw[JM];split
   ·exact⟨_,rfl⟩
   ·exact h
  ·exact h
theorem kQ {env:NB}{x:Ih}:∀(names:HC (Ih×JK)) (cs:HC (Ih×HN)),(x,K7)∈names->∃c,(eZ env names cs).lookup x=gV c
 | [],cs,h=>by simp at h
 | (n,k)::r,cs,h=>by
  rcases IG.mp h with e|h
  ·cases e;refine jM r _ ?_;simp[JM]
  ·exact kQ r _ h
theorem kR {x:Ih}{k:JK}:∀ {l:HC (Ih×JK)},l.lookup x=gV k->(x,k)∈l
 | [],h=>by simp at h
 | (n,j)::r,h=>by
  rw[JM]at h;split at h
  ·rename_i hx;cases h;have:=eq_of_beq hx;subst this;exact JI
  ·exact Jg _ (kR h)
theorem fg {X:Cx}{Φ:Ih->FF}{Γ:Gam}(K:CtxOk Φ X Γ)(scope:KI):(relabel scope X.env).names=gd scope.names Γ.sc:=by
 unfold relabel gd Mv;rw[K.kind,K.names];refine J1 λ⟨n,k⟩ _=>?_
 have e:(Nw==Nw)=true:=rfl;simp only[e,Nf]
theorem eE {outer:HC (Ih×JK)}{x:Ih}:∀ {names:HC (Ih×JK)},(gd names outer).lookup x=(names.lookup x).map λk=>if (k==.free&&outer.lookup x==gV .cell)then .cell else k
 | []=>rfl
 | (n,k)::r=>by
  have ih:=eE (outer:=outer) (x:=x) (names:=r);show List.lookup x ((if (k==K7&&outer.lookup n==gV .cell)=true then(n,P8)else(n,k))::gd r outer)=_
  cases hx:x==n with
  | true=>
   have:=eq_of_beq hx;subst this;simp only[JM,IR,IH];split <;> simp[JM]
  | false=>
   simp only[JM,hx];split <;> (simp only[JM,hx]; exact ih)
section
variable{Φ:Ih->FF}{X:Cx}{Γ:Gam}
structure ScOk (Γ:Gam)(scope:KI):Prop where
 kind:scope.kind=.function
 names:∀y∈scope.names,y.2=.local->scope.names.lookup y.1=gV .local
 nocell:∀y∈scope.names,y.2≠.cell
 free:∀y∈scope.names,y.2=.free->Au (Γ.sc.lookup y.1)=true/\scope.names.lookup y.1=gV .free/\(Γ.N.findIdx? (· == y.1)).isSome=true
 nd:(gW scope.names).Nodup
theorem sV {scope:KI}(h:xf Γ scope=true):ScOk Γ scope:=by
 unfold xf at h;rw[HL,HL,HL,HL]at h;obtain⟨⟨⟨⟨h1,h2⟩,h3⟩,h4⟩,h5⟩:=h;refine⟨eq_of_beq h1,λy hy e=>?_,λy hy e=>?_,λy hy e=>?_,Jm h5⟩
 ·have:=IC.mp h2 y hy;rw[e]at this
  simpa using this
 ·have:=IC.mp h3 y hy;rw[e]at this;simp at this
 ·have:=IC.mp h4 y hy;rw[e]at this;simp only[IR,Ng,Nh,HL]at this;exact⟨this.1.1,eq_of_beq this.1.2,this.2⟩
theorem sW {o:HI JK}(h:Au o=true):o=gV .cell\/o=gV .free:=by
 unfold Au at h;split at h
 ·exact .inl rfl
 ·exact .inr rfl
 ·cases h
theorem mR (K:CtxOk Φ X Γ)(ok:X.Ok){scope:KI}(sc:ScOk Γ scope):CompOk X scope (eZ X.env scope.names []) (gW scope.names) (gC Γ scope.names):=by
 have cells:∀y∈scope.names,y.2=.free->(X.env.cells.lookup y.1).isSome=true:=λy hy e=>by
  have hk:=sW (sc.free y hy e).1;obtain⟨c,hc⟩:=ok.has y.1 (by unfold Mv; rw[K.names]; exact hk)
  rw[hc]; rfl
 have relab:∀x,((relabel scope X.env).names.lookup x=gV .cell\/(relabel scope X.env).names.lookup x=gV .free)->(x,K7)∈scope.names:=λx h=>by
  rw[fg K,eE]at h;cases q:scope.names.lookup x with
  | none=>rw[q]at h; rcases h with h|h <;> cases h
  | some k=>
   rw[q]at h;have hm:=kR q;cases k with
   | free=>exact hm
   | cell=>exact absurd rfl (sc.nocell _ hm)
   | _=>rcases h with h|h <;> simp at h
 refine⟨jU cells,sc.kind,sc.names,sc.nocell,kP _ _ cells (λx c e=>by cases e),λx h=>kQ _ _ (relab x h),by simp[gC],λi j x hi hx=>?_⟩
 unfold gC at hi;rw[HP,hx]at hi;simp only[IH,IV]at hi;split at hi
 ·cases hi
 ·rename_i hl;have hx2:x∈gW scope.names:=Ij hx;unfold gW at hx2;obtain⟨⟨x',k⟩,hf,e⟩:=Iq.mp hx2;obtain⟨hm,hk⟩:=LC.mp hf;have e':x'=x:=e;subst e';have hkf:k=.free:=by
   simp only[JY]at hk;rcases hk with hk|hk
   ·have:k=.local:=eq_of_beq hk;subst this;have:=sc.names (x',.local) hm rfl;rw[this]at hl;simp at hl
   ·exact eq_of_beq hk
  subst hkf;obtain⟨f1,f2,f3⟩:=sc.free _ hm rfl;refine⟨by rw[K.N]; exact dJ hi,by unfold Mv; rw[K.names]; exact sW f1,?_⟩
  rw[fg K,eE,f2];simp only[IH,IV,IR,K6];split
  ·exact .inl rfl
  ·exact .inr rfl
theorem ft (K:CtxOk Φ X Γ){scope:KI}(sc:ScOk Γ scope)(C:HN)(s0:HH)(H0:Hp)(ex:HC HN):CtxOk Φ (lE X scope (eZ X.env scope.names []) C (gW scope.names) s0 H0 ex) (gX Γ scope) where
 names:=fg K scope
 kind:=sc.kind
 N:=rfl
 nd:=sc.nd
 calm:=K.calm
 xe:=rfl
 un:=K.un
 dfn:=λh=>by cases h
 blt:=K.blt
 fns:=K.fns
theorem pZ {cs:Es}{n:HJ}{ifs:HC Io}{Γ:Gam}(hl:ifs.length<=1)(hc:cA (cE n Γ) ifs=gV cs){Y:Cx}(ih:∀ {e:Io} {e':E},cE n Γ e=gV e'->GT Y e (du Φ e'))(hx:Y.xe=λ_ _=>Jn) :
  ∀pins s σ H Q,Inv Y pins σ H s->tT Y (At Φ cs) σ H Q->
  wpAny (model Y.prog Y.w) Y.A (forIn ifs true λc r=>if r=true then do let ok <- isTrue c Y.env (eval c Y.env); pure (JG ok)else pure (JG r)) (TP Y pins σ Q) (λ_ _=>Jn) s:=by
 intro pins s σ H Q I h
 match ifs,hl,hc with
 | [],_,hc=>
  cases hc;obtain⟨A,ρ,S,k,S',er,so,e,hq⟩:=h;cases e;exact wpAny_tests_nil ⟨H,I,hq _ _ ⟨rfl,A,.refl,so⟩⟩
 | [c],_,hc=>
  obtain⟨e',es',h1,h2,rfl⟩:=iC hc;cases h2;have:=ih h1 pins s σ H Q I h;rw[hx]at this;exact wpAny_tests_one this
theorem cC:∀(n:HJ) {Γ:Gam} {X:Cx} {e:Io} {e':E},CtxOk Φ X Γ->cE n Γ e=gV e'->GE X e (aK Φ e')/\GT X e (du Φ e'):=by
 intro n
 induction n with
 | zero=>intro Γ X e e' K h; cases h
 | succ n ih=>
  intro Γ X e e' K h;have ihE:∀ {e:Io} {e':E},cE n Γ e=gV e'->GE X e (aK Φ e'):=λq=>(ih K q).1
  have ihT:∀ {e:Io} {e':E},cE n Γ e=gV e'->GT X e (du Φ e'):=λq=>(ih K q).2
  have hu10:X.A.units+10 < cLine:=by have:=K.un; have:g9=20:=rfl; omega
  cases e with
  | Constant c k p=>
   cases c <;> cases h
   all_goals first
    | exact⟨pN vn (λ_ _=>.non),cO (pN vn (λ_ _=>.non)) λ_=>rfl⟩
    | exact⟨pN Bq (λ_ _=>.bl),cO (pN Bq (λ_ _=>.bl)) λ_=>rfl⟩
    | exact⟨pN vm (λ_ _=>.int),cO (pN vm (λ_ _=>.int)) λ_=>rfl⟩
    | exact⟨pN vo (λ_ _=>.str),cO (pN vo (λ_ _=>.str)) λ_=>rfl⟩
  | Name x p=>
   replace h:(match slot Γ x with|some i=>gV (E.v i)|none=>td)=gV e':=h
   split at h
   ·rename_i i h1;cases h;exact⟨xi K h1,cO (xi K h1) λ_=>rfl⟩
   ·cases h
  | BinOp a op b p=>
   replace h:(match sQ op,cE n Γ a,cE n Γ b with|some o,gV a',gV b'=>gV (E.op o a' b')|_,_,_=>td)=gV e':=h
   split at h
   ·rename_i o a' b' h1 h2 h3;cases h;have e:=xk h1;subst e;exact⟨Bw (sr o) (ihE h2) (ihE h3),cO (Bw (sr o) (ihE h2) (ihE h3)) λ_=>rfl⟩
   ·cases h
  | UnaryOp op a p=>
   cases op with
   | Not=>
    replace h:(cE n Γ a).map E.not=gV e':=h;rw[HG]at h;obtain⟨a',h1,rfl⟩:=h;exact⟨CT (ihE h1),CP (ihT h1)⟩
   | USub=>
    replace h:(cE n Γ a).map E.neg=gV e':=h;rw[HG]at h;obtain⟨a',h1,rfl⟩:=h;exact⟨wq (ihE h1),cO (wq (ihE h1)) λ_=>rfl⟩
   | _=>exact bj h
  | BoolOp op vs p=>
   replace h:cB (cE n Γ) op vs=gV e':=h;exact⟨n0 ihE h,(n6 ihT h).pt⟩
  | Compare a ops cs p=>
   match ops,cs,h with
   | [op],[b],h=>
    replace h:(match sR op,cE n Γ a,cE n Γ b with|some o,gV a',gV b'=>gV (E.cmp o a' b')|_,_,_=>td)=gV e':=h
    split at h
    ·rename_i o a' b' h1 h2 h3;cases h;have e:=xj h1;subst e;exact⟨CL K.un (ihE h2) (ihE h3) (pX h3),CM K.un (ihE h2) (ihE h3) (pX h3)⟩
    ·cases h
   | [],_,h=>exact bj h
   | [_],[],h=>exact bj h
   | [_],_::_::_,h=>exact bj h
   | _::_::_,_,h=>exact bj h
  | IfExp t a b p=>
   replace h:(match cE n Γ t,cE n Γ a,cE n Γ b with|some t',gV a',gV b'=>gV (E.ite t' a' b')|_,_,_=>td)=gV e':=h
   split at h
   ·rename_i t' a' b' h1 h2 h3;cases h;exact⟨CU (ihT h1) (ihE h2) (ihE h3),j9⟩
   ·cases h
  | Call f args kws p=>
   cases kws with
   | cons _ _=>cases f <;> first|(exact bj h)|(cases args <;> (exact bj h))
   | nil=>
    cases f with
    | Name x q=>
     replace h:(if lI Γ x then match Γ.fns.lookup x with|some k=>(cA (cE n Γ) args).map (E.own x k)|none=>if x==("isinstance" : Ih)then(if Γ.blt.contains x then Ax Γ (cE n Γ) args else td)else match (generalizing:=false) Av x,args with|some b,a::as=>if Γ.blt.contains x then(cA (cE n Γ) (a::as)).map (E.bi b)else td|_,_=>td else td)=gV e':=h
     split at h
     ·rename_i hg;split at h
      ·rename_i k hk;rw[HG]at h;obtain⟨r,hr,rfl⟩:=h;have g:=EZ (pos:=p) (p:=q) K hg hk hr (dY ihE hr);exact⟨g,cO g λ_=>rfl⟩
      ·split at h
       ·rename_i his;split at h
        ·rename_i hc;obtain⟨g,a',c',rfl⟩:=E1 (pos:=p) (p:=q) K hg his hc ihE h;exact⟨g,cO g λ_=>rfl⟩
        ·cases h
       ·split at h
        ·rename_i bb a as hb;split at h
         ·rename_i hc;rw[HG]at h;obtain⟨r,hr,rfl⟩:=h;have g:=GQ (pos:=p) (p:=q) K hg hb hc hr (dY ihE hr);exact⟨g,cO g λ_=>rfl⟩
         ·cases h
        ·cases h
     ·cases h
    | Attribute o m q=>
     cases args with
     | nil=>
      replace h:(if (m==("clear" : Ih))&&eh o&&(q.endLine==p.line)then(cE n Γ o).map λo'=>E.me .clear o' .nil else td)=gV e':=h
      split at h
      ·rename_i hc;rw[HL,HL]at hc;rw[HG]at h;obtain⟨o',h1,rfl⟩:=h;have e:=eq_of_beq hc.1.1;subst e;have g:GE X (.Call (.Attribute o ("clear" : Ih) q) [] [] p) (aK Φ (.me .clear o' .nil)):=CY JL Mk Ml jI (ihE h1) (da hc.1.2) hc.2;exact⟨g,cO g λ_=>rfl⟩
      ·cases h
     | cons a as=>
      replace h:(match Aw m,cE n Γ o,cA (cE n Γ) (a::as)with|some m',gV o',gV es=>if eh o&&(q.endLine==p.line)&&decide ((a::as).length < 29)then gV (E.me m' o' es)else td|_,_,_=>td)=gV e':=h
      split at h
      ·rename_i m' o' es h1 h2 h3;split at h
       ·rename_i hc;rw[HL,HL,Iy]at hc;cases h;have g:=GR K (cpos:=p) (apos:=q) h1 hc.1.1 hc.1.2 hc.2 (ihE h2) h3 (dY ihE h3);exact⟨g,cO g λ_=>rfl⟩
       ·cases h
      ·cases h
    | _=>exact bj h
  | Subscript a b p=>
   have plain:(match cE n Γ a,cE n Γ b with|some a',gV b'=>gV (E.ix a' b')|_,_=>td)=gV e'->GE X (.Subscript a b p) (aK Φ e')/\GT X (.Subscript a b p) (du Φ e'):=λh=>by
    split at h
    ·rename_i a' b' h1 h2;cases h;have g:=EO (pos:=p) hu10 (ihE h1) (ihE h2) (rJ h2);exact⟨g,cO g λ_=>rfl⟩
    ·cases h
   cases b with
   | Slice lo hi st q=>
    cases st with
    | none=>
     replace h:(match cE n Γ a,cP (cE n Γ) lo,cP (cE n Γ) hi with|some a',gV lo',gV hi'=>gV (E.sl a' lo' hi')|_,_,_=>td)=gV e':=h
     split at h
     ·rename_i a' lo' hi' h1 h2 h3;cases h;have g:=EQ (pos:=p) (p2:=q) (ihE h1) (xm ihE h2) (xm ihE h3);exact⟨g,cO g λ_=>rfl⟩
     ·cases h
    | some z=>exact plain h
   | _=>exact plain h
  | Tuple es k p=>
   replace h:(cA (cE n Γ) es).map E.tup=gV e':=h;rw[HG]at h;obtain⟨r,h1,rfl⟩:=h;exact⟨wz (dY ihE h1),cO (wz (dY ihE h1)) λ_=>rfl⟩
  | List es p=>
   replace h:(cA (cE n Γ) es).map E.lst=gV e':=h;rw[HG]at h;obtain⟨r,h1,rfl⟩:=h;exact⟨wD (dY ihE h1),cO (wD (dY ihE h1)) λ_=>rfl⟩
  | Dict keys values p=>
   replace h:xg (cE n Γ) keys values=gV e':=h;unfold xg at h;split at h
   ·rename_i hc;cases h;rw[HL]at hc;have k0:keys=[]:=Od.mp hc.1;have v0:values=[]:=Od.mp hc.2;subst k0 v0;exact⟨Am,j9⟩
   ·rename_i hc0;split at h
    ·rename_i hc;rw[HL,HL,Iy,Iy]at hc;rw[HG]at h;obtain⟨r,hr,rfl⟩:=h;have h0:keys≠[]:=λz=>by
      subst z;have v0:values=[]:=Ld.mp hc.1.2.symm;subst v0;exact hc0 rfl
     exact⟨An (pos:=p) hu10 (sT ihE keys values hc.1.1 hc.1.2 hr) hc.1.1 hc.1.2 h0 hc.2,j9⟩
    ·cases h
  | ListComp elt gens scope p=>
   match gens,h with
   | [⟨tg,iter,ifs,asy⟩],h=>
    replace h:(if (asy==0)&&(xf Γ scope&&decide (ifs.length<=1))then match cI Γ (cE n Γ) tg iter,cT (gX Γ scope) tg,cA (cE n (gX Γ scope)) ifs,cE n (gX Γ scope) elt with|some it,gV t,gV cs,gV el=>gV (E.comp el t it cs (gC Γ scope.names))|_,_,_,_=>td else td)=gV e':=h
    split at h
    ·rename_i hc;rw[HL,HL,Iy]at hc;have e0:asy=0:=eq_of_beq hc.1;subst e0;replace hc:=hc.2;split at h
     ·rename_i it t cs el h1 h2 h3 h4;cases h;have sc:=sV hc.1;refine⟨Ap K.calm (rK K ihE h1) (λok=>⟨_,mR K ok sc,?_⟩) (nZ (n:=n) (λel k p=>by cases n <;> rfl) h1),j9⟩
      refine⟨λC s0 H0 ex=>sU (ft K sc C s0 H0 ex) h2,λC s0 H0 ex pins s σ H Q I q=>?_,λC s0 H0 ex=>(ih (ft K sc C s0 H0 ex) h4).1⟩
      exact pZ hc.2 h3 (λz=>(ih (ft K sc C s0 H0 ex) z).2) rfl pins s σ H Q I q
     ·cases h
    ·cases h
   | [],h=>exact bj h
   | ⟨_,_,_,_⟩::_::_,h=>exact bj h
  | _=>exact bj h
end
noncomputable abbrev cD:HJ:=30
noncomputable def BA:Io->Ir
 | .Constant (.str _) _ _=>true
 | _=>false
noncomputable def jb:Io->Ir
 | .ListComp _ _ _ _=>true
 | _=>false
noncomputable def sX:Io->Ir
 | .Slice _ _ _ _=>true
 | _=>false
noncomputable def uK (f:Kt->HI Sm)(ss:HC Kt):HI Ss:=ss.foldr (λs acc=>match f s,acc with|some s',gV ss'=>gV (.cons s' ss')|_,_=>td) (gV .nil)
noncomputable def Dc (Γ:Gam):HC Io->Io->HI Sm
 | [.Name x px,.Name y py],.Tuple [a,b] _ _=>match Γ.N.findIdx? (· == x),Γ.N.findIdx? (· == y),cA (cE cD Γ) [a,b]with
  | some i,gV j,gV es=>if !(i==j)&&(Γ.sc.lookup x==gV .local)&&(Γ.sc.lookup y==gV .local)&&(py.line==px.line) && !([a,b].all (foldedForSure 8)) && !([a,b].all (constantsAlone 8))then gV (.par i j es)else td
  | _,_,_=>td
 | _,_=>td
noncomputable def cS:HJ->Gam->Kt->HI Sm
 | 0,_,_=>td
 | n+1,Γ,st=>match st with
  | .Assign [.Name x _] e _=>match dA Γ x,cE cD Γ e with
   | some i,gV e'=>gV (.set i e')
   | _,_=>td
  | .Assign [.Tuple ts _ _] e _=>if isTup e then Dc Γ ts e else if jb e then td else match DV Γ ts,cE cD Γ e with
   | some is,gV e'=>gV (.asg is e')
   | _,_=>td
  | .Assign [.Subscript o k _] e _=>if sX k then td else match cE cD Γ o,cE cD Γ k,cE cD Γ e with
   | some o',gV k',gV e'=>gV (.put o' k' e')
   | _,_,_=>td
  | .Expr e _=>if BA e then gV .pass else if jb e then td else(cE cD Γ e).map .ex
  | .Return (gV e) _=>(cE cD Γ e).map .ret
  | .Return td _=>gV .retN
  | .Pass _=>gV .pass
  | .Raise _ _ _=>gV .bad
  | .Break _=>gV .brk
  | .Continue _=>gV .cont
  | .If t a b _=>match cE cD Γ t,uK (cS n Γ) a,uK (cS n Γ) b with
   | some t',gV a',gV b'=>gV (.ite t' a' b')
   | _,_,_=>td
  | .While t b [] _=>match cE cD Γ t,uK (cS n Γ) b with
   | some t',gV b'=>gV (.whl t' b')
   | _,_=>td
  | .For tg it b [] _=>match cT Γ tg,cI Γ (cE cD Γ) tg it,uK (cS n Γ) b with
   | some t,gV i,gV b'=>gV (.loop t i b')
   | _,_,_=>td
  | _=>td
section
variable{Φ:Ih->FF}{X:Cx}{Γ:Gam}{fuel:HJ}
theorem xn {f:Kt->HI Sm}{s:Kt}{ss:HC Kt}{r:Ss}(h:uK f (s::ss)=gV r):∃s' ss',f s=gV s'/\uK f ss=gV ss'/\r=.cons s' ss':=by
 simp only[uK,Op]at h;split at h
 ·rename_i e' es' h1 h2;cases h;exact⟨e',es',h1,h2,rfl⟩
 ·cases h
theorem gD {n:HJ}(ih:∀ {st:Kt} {s':Sm},cS n Γ st=gV s'->GS X st (gb Φ fuel s')):∀ {ss:HC Kt} {r:Ss},uK (cS n Γ) ss=gV r->GSs X ss (gc Φ fuel r)
 | [],r,h=>by cases h; exact zT
 | s::ss,r,h=>by
  obtain⟨s',ss',h1,h2,rfl⟩:=xn h;exact wH (ih h1) (gD ih h2)
theorem kS {e:Io}{t:HI Io}{l:HJ}{env:NB}(h:jb e=false)(n:HJ){Γ:Gam}{e':E}(hc:cE n Γ e=gV e'):swapsWith e t l env=pure false:=by
 cases n with
 | zero=>cases hc
 | succ n=>cases e <;> first|(exfalso; exact bj hc)|rfl|cases h
theorem rL (K:CtxOk Φ X Γ){n:HJ}{elt:Io}{gens:HC Comprehension}{scope:KI}{p:J9}{e':E}(h:cE (n+1) Γ (.ListComp elt gens scope p)=gV e') :
  ∃tg iter ifs fi g c f cap,gens=[⟨tg,iter,ifs,0⟩]/\aK Φ e'=kM fi g c f cap/\GI X tg iter fi/\(X.Ok->∃cl,CompOk X scope cl (gW scope.names) cap/\BlockOk X scope cl (gW scope.names) tg elt ifs g c f)/\∀x,foldedSetIterable iter X.env x=pure x:=by
 match gens,h with
 | [⟨tg,iter,ifs,asy⟩],h=>
  replace h:(if (asy==0)&&(xf Γ scope&&decide (ifs.length<=1))then match cI Γ (cE n Γ) tg iter,cT (gX Γ scope) tg,cA (cE n (gX Γ scope)) ifs,cE n (gX Γ scope) elt with|some it,gV t,gV cs,gV el=>gV (E.comp el t it cs (gC Γ scope.names))|_,_,_,_=>td else td)=gV e':=h
  split at h
  ·rename_i hc;rw[HL,HL,Iy]at hc;have e0:asy=0:=eq_of_beq hc.1;subst e0;replace hc:=hc.2;split at h
   ·rename_i it t cs el h1 h2 h3 h4;cases h;have sc:=sV hc.1;refine⟨tg,iter,ifs,_,_,_,_,_,rfl,rfl,rK K (λz=>(cC n K z).1) h1,λok=>⟨_,mR K ok sc,?_⟩,nZ (n:=n) (λel k p=>by cases n <;> rfl) h1⟩
    refine⟨λC s0 H0 ex=>sU (ft K sc C s0 H0 ex) h2,λC s0 H0 ex pins s σ H Q I q=>?_,λC s0 H0 ex=>(cC n (ft K sc C s0 H0 ex) h4).1⟩
    exact pZ hc.2 h3 (λz=>(cC n (ft K sc C s0 H0 ex) z).2) rfl pins s σ H Q I q
   ·cases h
  ·cases h
 | [],h=>exact bj h
 | ⟨_,_,_,_⟩::_::_,h=>exact bj h
theorem E2 (K:CtxOk Φ X Γ){x:Ih}{px pos:J9}{e:Io}{i:HJ}{e':E}(hi:dA Γ x=gV i)(he:cE cD Γ e=gV e'):GS X (.Assign [.Name x px] e pos) (kL (aK Φ e') (Ab i)):=by
 obtain⟨a,b,c⟩:=n8 K hi;have hN:X.N.Nodup:=by rw[K.N]; exact K.nd
 have plain:swapsWith e (gV (.Name x px)) pos.line X.env=pure false->GS X (.Assign [.Name x px] e pos) (kL (aK Φ e') (Ab i)):=λhs=>rC (cC _ K he).1 (sN hN a b c) hs (by cases e <;> rfl) rfl
 cases hc:jb e with
 | false=>exact plain (kS hc _ he)
 | true=>
  cases e with
  | ListComp elt gens scope p=>
   cases hsw:(X.env.blockKind==.function&&X.env.kindOf x==gV .local&&px.line==p.line && !(scope.names.any λ(n,k)=>n==x&&(k==.local||k==.cell)))with
   | false=>
    refine plain ?_;show(pure (X.env.blockKind==.function&&X.env.kindOf x==gV .local&&px.line==p.line && !(scope.names.any λ(n,k)=>n==x&&(k==.local||k==.cell))):Pi Ir)=pure false
    rw[hsw]
   | true=>
    have hsw':swapsWith (.ListComp elt gens scope p) (gV (.Name x px)) pos.line X.env=pure true:=by
     show(pure (X.env.blockKind==.function&&X.env.kindOf x==gV .local&&px.line==p.line && !(scope.names.any λ(n,k)=>n==x&&(k==.local||k==.cell))):Pi Ir)=pure true
     rw[hsw]
    rw[HL,HL,HL]at hsw;have hl:X.env.scope.names.lookup x=gV .local:=eq_of_beq hsw.1.1.2;obtain⟨tg,iter,ifs,fi,g,c',f,cap,rfl,e2,gi,hck,hs⟩:=rL K he;rw[e2];exact rG K.calm gi hck hs hsw' hN a hl
  | _=>cases hc
theorem p4 (K:CtxOk Φ X Γ){x y:Ih}{px py pt pt2:J9}{kt k2:HJ}{a b:Io}(hxy:x≠y)(hx:Γ.sc.lookup x=gV .local)(hy:Γ.sc.lookup y=gV .local)(hl:(py.line==px.line)=true)(h1:[a,b].all (foldedForSure 8)=false)(h2:[a,b].all (constantsAlone 8)=false)(hs:hZ a=true)(hs2:hZ b=true) :
  swappedStores [.Tuple [.Name x px,.Name y py] kt pt] (.Tuple [a,b] k2 pt2) X.env=pure (gV [x,y]):=by
 have kx:(X.env.kindOf x==gV .local)=true:=by unfold Mv; rw[K.names,hx]; rfl
 have ky:(X.env.kindOf y==gV .local)=true:=by unfold Mv; rw[K.names,hy]; rfl
 have bk:(X.env.blockKind != .function)=false:=by
  unfold Env.blockKind;rw[K.kind];rfl
 have hp:(px.line==px.line)=true:=by simp
 have ed:([x,y].eraseDups.length != [x,y].length)=false:=by
  have:(y==x)=false:=by simpa using Ne.symm hxy
  simp[M9,this]
 have kx':X.env.kindOf x=gV .local:=eq_of_beq kx;have ky':X.env.kindOf y=gV .local:=eq_of_beq ky;have hl':py.line=px.line:=eq_of_beq hl;have bk':X.env.blockKind=.function:=by simpa using bk
 have yx:(y==x)=false:=by simpa using Ne.symm hxy
 have h1':(foldedForSure 8 a&&foldedForSure 8 b)=false:=by simpa using h1
 have h2':(constantsAlone 8 a&&constantsAlone 8 b)=false:=by simpa using h2
 unfold swappedStores;simp only[Ku,List.any_nil,OW,KY,List.filterMap_nil,kx',ky',bk',List.head?_cons,IH,Oc,IQ,Jz,IZ,List.all_nil,Nf,h1',h2'];refine Eq.trans (IK ?_) (Eq.trans (IK ?_) ?_)
 ·decide
 ·rw[JY];rintro(hh|hh)
  ·clear h1 h2 h1' h2';cases a <;> first|(cases hh; done)|(cases hs; done)
  ·clear h1 h2 h1' h2';cases b <;> first|(cases hh; done)|(cases hs2; done)
 ·dsimp only[Expr.pos]; simp[hl',yx,M9]
theorem Ay (fuel:HJ)(K:CtxOk Φ X Γ):∀(n:HJ) {st:Kt} {s':Sm},cS n Γ st=gV s'->GS X st (gb Φ fuel s'):=by
 have hN:X.N.Nodup:=by rw[K.N]; exact K.nd
 have own:M2 (model X.prog X.w) X.A X.env X.xe:=by rw[K.xe]; exact P2
 intro n
 induction n with
 | zero=>intro st s' h; cases h
 | succ n ih=>
  intro st s' h;cases st with
  | Expr e p=>
   replace h:(if BA e then gV Sm.pass else if jb e then td else(cE cD Γ e).map Sm.ex)=gV s':=h
   split at h
   ·rename_i hd;cases h;cases e with
    | Constant c k q=>
     cases c with
     | str x=>exact C0
     | _=>cases hd
    | _=>cases hd
   ·split at h
    ·cases h
    ·rename_i hd hc;rw[HG]at h;obtain⟨e',h1,rfl⟩:=h;exact ER (cC _ K h1).1 (kS (by simpa using hc) _ h1)
  | Return o p=>
   cases o with
   | none=>cases h; exact zZ
   | some e=>
    replace h:(cE cD Γ e).map Sm.ret=gV s':=h;rw[HG]at h;obtain⟨e',h1,rfl⟩:=h;exact C3 (cC _ K h1).1
  | Pass p=>cases h; exact zW
  | Raise exc cause pos=>cases h; exact λpins s D σ H I ⟨A,ρ,S,o,S',er,so,e,hq⟩=>nomatch e
  | Break p=>cases h; exact wJ
  | Continue p=>cases h; exact zX
  | If t a b p=>
   replace h:(match cE cD Γ t,uK (cS n Γ) a,uK (cS n Γ) b with|some t',gV a',gV b'=>gV (Sm.ite t' a' b')|_,_,_=>td)=gV s':=h
   split at h
   ·rename_i t' a' b' h1 h2 h3;cases h;exact ES (cC _ K h1).2 (gD ih h2) (gD ih h3)
   ·cases h
  | While t b o p=>
   cases o with
   | cons _ _=>exact bj h
   | nil=>
    replace h:(match cE cD Γ t,uK (cS n Γ) b with|some t',gV b'=>gV (Sm.whl t' b')|_,_=>td)=gV s':=h
    split at h
    ·rename_i t' b' h1 h2;cases h;exact wK fuel own (cC _ K h1).2 (gD ih h2)
    ·cases h
  | For tg it b o p=>
   cases o with
   | cons _ _=>exact bj h
   | nil=>
    replace h:(match cT Γ tg,cI Γ (cE cD Γ) tg it,uK (cS n Γ) b with|some t,gV i,gV b'=>gV (Sm.loop t i b')|_,_,_=>td)=gV s':=h
    split at h
    ·rename_i t i b' h1 h2 h3;cases h;exact C8 own K.calm (rK K (λz=>(cC _ K z).1) h2) (sU K h1) (gD ih h3) (nZ (n:=cD) (λel k p=>rfl) h2)
    ·cases h
  | Assign ts e p=>
   match ts,h with
   | [],h=>exact bj h
   | a::_::_,h=>cases a <;> exact bj h
   | [t],h=>
    cases t with
    | Name x px=>
     replace h:(match dA Γ x,cE cD Γ e with|some i,gV e'=>gV (Sm.set i e')|_,_=>td)=gV s':=h
     split at h
     ·rename_i i e' h1 h2;cases h;exact E2 K h1 h2
     ·cases h
    | Subscript o k q=>
     replace h:(if sX k then td else match cE cD Γ o,cE cD Γ k,cE cD Γ e with|some o',gV k',gV e'=>gV (Sm.put o' k' e')|_,_,_=>td)=gV s':=h
     split at h
     ·cases h
     ·rename_i hc;split at h
      ·rename_i o' k' e' h1 h2 h3;cases h;refine rC (cC _ K h3).1 (C5 (by have:=K.un; have:g9=20:=rfl; omega) (cC _ K h1).1 (cC _ K h2).1 ?_) (by cases e <;> rfl) (by cases e <;> rfl) rfl
       intro v;cases k <;> first|rfl|exact absurd rfl hc
      ·cases h
    | Tuple ts' k q=>
     have par:∀ {x y:Ih} {px py:J9} {a b:PySem.Expr} {k2:HJ} {q2:J9},(match Γ.N.findIdx? (· == x),Γ.N.findIdx? (· == y),cA (cE cD Γ) [a,b]with
       | some i,gV j,gV es=>if !(i==j)&&(Γ.sc.lookup x==gV .local)&&(Γ.sc.lookup y==gV .local)&&(py.line==px.line) && !([a,b].all (foldedForSure 8)) && !([a,b].all (constantsAlone 8))then gV (Sm.par i j es)else td
       | _,_,_=>td)=gV s'->GS X (.Assign [.Tuple [.Name x px,.Name y py] k q] (.Tuple [a,b] k2 q2) p) (gb Φ fuel s'):=λ{x y px py a b k2 q2} h=>by
      split at h
      ·rename_i i j es h1 h2 h3;split at h
       ·rename_i hc;cases h;rw[HL,HL,HL,HL,HL]at hc;obtain⟨⟨⟨⟨⟨c1,c2⟩,c3⟩,c4⟩,c5⟩,c6⟩:=hc;have hij:i≠j:=by simpa using c1
        have ns:=c9 h3;rw[IZ,IZ,HL,HL]at ns;have hi:X.N[i]?=gV x:=by rw[K.N]; exact dJ h1
        have hj:X.N[j]?=gV y:=by rw[K.N]; exact dJ h2
        refine C6 K.calm hN hi hj hij (by rw[K.names]; exact eq_of_beq c2) (by rw[K.names]; exact eq_of_beq c3) (dY (λz=>(cC _ K z).1) h3) (p4 K ?_ (eq_of_beq c2) (eq_of_beq c3) c4 (by rw[<- Lk]; exact c5) (by rw[<- Lk]; exact c6) ns.1 ns.2.1) rfl
        rintro rfl;rw[h1]at h2;cases h2;exact hij rfl
       ·cases h
      ·cases h
     replace h:(if isTup e then Dc Γ ts' e else if jb e then td else match DV Γ ts',cE cD Γ e with|some is,gV e'=>gV (Sm.asg is e')|_,_=>td)=gV s':=h
     split at h
     ·unfold Dc at h;split at h
      ·exact par h
      ·cases h
     ·split at h
      ·cases h
      ·rename_i hc1 hc2;split at h
       ·rename_i is e' h1 h2;cases h;refine rC (cC _ K h2).1 (sU (tg:=.Tuple ts' k q) (t:=.tp is) K (by simp[cT,h1])) (kS (t:=gV (.Tuple ts' k q)) (l:=p.line) (env:=X.env) (by simpa using hc2) _ h2) ?_ rfl
        cases e <;> first|rfl|exact absurd rfl hc1
       ·cases h
    | _=>exact bj h
  | _=>exact bj h
end
structure Df where
 ps:HC Ih
 N:HC Ih
 body:Ss
noncomputable def fF (N:HC Ih)(ws:HC W):Fm:=ws.map gV++Ix (N.length - ws.length) td
noncomputable def ar (defs:HC (Ih×Df))(fuel:HJ):HJ->Ih->FF
 | 0,_,_,_=>td
 | d+1,f,ws,S=>match defs.lookup f with
  | some df=>if ws.length=df.ps.length then match gc (ar defs fuel d) fuel df.body (fF df.N ws) S with
    | some (.rt w,S')=>gV (w,S')
    | some (.nx _,S')=>gV (.non,S')
    | _=>td
   else td
  | none=>td
structure Md where
 fns:HC (Ih×HJ)
 blt:HC Ih
noncomputable def BB (M:Md)(st:Kt)(N:HC Ih):Gam:={ sc:=(ag st).names,N:=N,fns:=M.fns,blt:=M.blt,dfn:=true }
noncomputable def bH (M:Md)(st:Kt)(df:Df):Prop:=uK (cS 20 (BB M st df.N)) (de st)=gV df.body
theorem mS {K:HS}{A:HC HN}{H:Hp}{ws:HC W}{vs:HC V}{N:HC Ih}(r:RelL K A H ws vs):EnvRel K A H (fF N ws) (fX N vs):=by
 refine⟨by simp[fF,L2.fX,r.length],λi w h=>?_⟩
 unfold fF at h;unfold L2.fX
 by_cases hi:i < ws.length
 ·rw[IF (by simpa using hi),HP]at h
  rw[IF (by rw[HF,<- r.length]; exact hi),HP]
  cases q:ws[i]? with
  | none=>rw[q]at h; cases h
  | some w'=>
   rw[q]at h;simp only[IH,IV]at h;subst h;obtain⟨v,h1,h2⟩:=r.get q;exact⟨v,by rw[h1]; rfl,h2⟩
 ·rw[Jb (by simpa using hi)]at h
  have:=Ij h;simp at this
section
variable{P:Iz}{w:IM}{K:HS}{mg:Ih->HI HE}{base:IX}
noncomputable def BC (P:Iz)(w:IM)(K:HS)(mg:Ih->HI HE)(base:IX)(M:Md)(defs:HC (Ih×Df))(fuel d:HJ):Prop:=
 ∀f n,M.fns.lookup f=gV n->∃fa fd ps,FnOk P w K mg base vg d fa fd ps (wF w K n (ar defs fuel d f))/\mg f=gV (.ref fa)/\Ju K (.ref fa)=true/\Binds K fd ps []
structure MdOk (w:IM)(K:HS)(mg:Ih->HI HE)(M:Md):Prop where
 blt:∀y∈M.blt,mg y=td
theorem BE {M:Md}{defs:HC (Ih×Df)}{fuel d:HJ}{x qual:Ih}{st:Kt}{f:HN}{fd:Kb}{df:Df}(F:Fun K x qual st f fd)(S:FnScope df.N df.ps (ag st))(hd:defs.lookup x=gV df)(hc:bH M st df)
  (hb:MdOk w K mg M) (prev:BC P w K mg base M defs fuel d):FnOk P w K mg base vg (d+1) f fd df.ps (wF w K df.ps.length (ar defs fuel (d+1) x)):=by
 refine F.ok S (λvs H Q E h=>?_) (λcdv A outer s H vs Q E hr h=>?_)
 ·obtain⟨A,S,ws,w',S',_,rl,hl,_⟩:=h;rw[<- rl.length]; exact hl
 ·obtain⟨A',St,ws,w',S',so,rl,hl,e,hq⟩:=h;have K':CtxOk (ar defs fuel d) (q8 vg P w K mg base df.N qual (ag st) f cdv A outer s H E).nox (BB M st df.N):=by
   refine⟨rfl,S.kind,rfl,S.nd,rfl,rfl,?_,λ_ _=>rfl,hb.blt,λg n hg=>?_⟩
   ·have:=hr.un;show(A.deeper _).units+20 < cLine;omega
   ·obtain⟨fa,fd',ps',h1,h2,h3,h4⟩:=prev g n hg;exact⟨d,fa,fd',ps',h1,hr,h2,h3,h4⟩
  refine⟨tS _ (gc (ar defs fuel d) fuel df.body),gD (λz=>Ay fuel K' 20 z) hc,?_⟩
  simp only[ar,hd]at e;rw[Iv hl]at e;split at e
  ·rename_i w1 S1 h1;cases e;refine⟨A',fF df.N ws,St,_,_,mS rl,so,h1,⟨λσ' H' ⟨_,_,z,_⟩=>(by cases z),λv H' ⟨w2,A2,z0,z1,z2,z3⟩=>?_,λσ' H' ⟨_,_,z,_⟩=>(by cases z),λσ' H' ⟨_,_,z,_⟩=>(by cases z)⟩⟩
   cases z0;exact hq v H' ⟨A2,z1,z2,z3⟩
  ·rename_i ρ1 S1 h1;cases e;refine⟨A',fF df.N ws,St,_,_,mS rl,so,h1,⟨λσ' H' ⟨w2,A2,z0,z1,z2,z3⟩=>?_,λσ' H' ⟨_,_,z,_⟩=>(by cases z),λσ' H' ⟨_,_,z,_⟩=>(by cases z),λσ' H' ⟨_,_,z,_⟩=>(by cases z)⟩⟩
   exact hq _ H' ⟨A2,z1,z2,.non⟩
  ·cases e
theorem uL {H:Hp}{a:HN}{ns:HC HY}(hO:vN H)(hS:SqL K H a (ns.map V.int)):StoreOk w K [a] H [.fro (ns.map W.int)]/\RelL K [a] H [.ref 0] [.ref a]:=by
 have rl:∀ns:HC HY,RelL K [a] H (ns.map W.int) (ns.map V.int):=by
  intro ns
  induction ns with
  | nil=>exact .nil
  | cons n ns ih=>exact .cons .int ih
 have fr:FroL K H a (ns.map V.int):=by
  rcases hS with(h|⟨o,h⟩)|h
  ·rcases hO a with z|⟨o,xs,z⟩ <;> (rw[z]at h; cases h)
  ·exact .inl ⟨o,h⟩
  ·exact .inr h
 refine⟨⟨rfl,λi j b o u e1 m1 e2 m2 _ _=>?_,λi o b e1 e2=>?_⟩,.cons (.ref rfl) .nil⟩
 ·cases i with
  | zero=>simp at e1; subst e1; cases m1
  | succ i=>simp at e1
 ·cases i with
  | zero=>
   simp at e1 e2;subst e1 e2;exact⟨_,fr,rl ns⟩
  | succ i=>simp at e1
theorem De {g:FF}{H:Hp}{a:HN}{ns:HC HY}(h:∃S',g [.ref 0] [.fro (ns.map W.int)]=gV (.bl true,S'))(hO:vN H)(hS:SqL K H a (ns.map V.int)):wF w K 1 g [.ref a] H (λv _=>v=.bl true) λ_ _ _=>Jn:=by
 obtain⟨S',e⟩:=h;obtain⟨so,rl⟩:=uL hO hS;exact⟨[a],_,_,_,S',so,rl,rfl,e,λv H' ⟨A',z1,z2,z3⟩=>by cases z3; rfl⟩
end
noncomputable def Wp {α:Type}(o:HI α)(Q:α->Prop):Prop:=∃a,o=gV a/\Q a
theorem ae {α:Type}{a:α}{Q:α->Prop}:Wp (gV a) Q↔Q a:=⟨λ⟨b,e,h⟩=>(by cases e; exact h),λh=>⟨a,rfl,h⟩⟩
theorem af {α:Type}{Q:α->Prop}:Wp (td:HI α) Q↔Jn:=⟨λ⟨b,e,h⟩=>(by cases e),λh=>h.elim⟩
theorem Wp.mono {α:Type}{o:HI α}{Q Q':α->Prop}(h:Wp o Q)(k:∀a,Q a->Q' a):Wp o Q':=let ⟨a,e,q⟩:=h; ⟨a,e,k a q⟩
theorem GU {α β:Type}{o:HI α}{f:α->β}{Q:β->Prop}:Wp (o.map f) Q↔Wp o λa=>Q (f a):=by cases o <;> simp[ae,af]
section
variable{Φ:Ih->FF}{fuel:HJ}{ρ:Fm}{S:aa}
noncomputable abbrev QW:=W×aa->Prop
theorem Hx {w:W}{Q:QW}:Wp (aK Φ (.c w) ρ S) Q↔Q (w,S):=by(dsimp only[aK]; simp[fC,ae,af])
theorem Hm {i:HJ}{Q:QW}:Wp (aK Φ (.v i) ρ S) Q↔∃w,ρ[i]?=gV (gV w)/\Q (w,S):=by
 (dsimp only[aK]; simp only[fV])
 rcases h:ρ[i]? with _|_|w <;> simp[ae,af]
theorem xo {g:W->W->aa->HI (W×aa)}{a b:FE}{Q:QW}:Wp (zI g a b ρ S) Q↔Wp (a ρ S) λp=>Wp (b ρ p.2) λq=>Wp (g p.1 q.1 q.2) Q:=by
 unfold zI;rcases h:a ρ S with _|⟨x,S1⟩
 ·simp[ae,af]
 ·rcases h2:b ρ S1 with _|⟨y,S2⟩ <;> simp[ae,af,h2]
theorem GV {o:BOp}{a b:E}{Q:QW}:Wp (aK Φ (.op o a b) ρ S) Q↔Wp (aK Φ a ρ S) λp=>Wp (aK Φ b ρ p.2) λq=>Wp (iq o p.1 q.1 q.2) Q:=by dsimp only[aK]; exact xo
theorem BF {o:COp}{a b:E}{Q:QW}:Wp (aK Φ (.cmp o a b) ρ S) Q↔Wp (aK Φ a ρ S) λp=>Wp (aK Φ b ρ p.2) λq=>Wp (cp o p.1 q.1 q.2) Q:=by dsimp only[aK]; exact xo
theorem GX {a b:E}{Q:QW}:Wp (aK Φ (.ix a b) ρ S) Q↔Wp (aK Φ a ρ S) λp=>Wp (aK Φ b ρ p.2) λq=>Wp (j6 p.1 q.1 q.2) Q:=by dsimp only[aK]; exact xo
theorem E3 {a b:E}{Q:QW}:Wp (aK Φ (.and a b) ρ S) Q↔Wp (aK Φ a ρ S) λp=>∃k,p.1=.bl k/\(k=true->Wp (aK Φ b ρ p.2) Q)/\(k=false->Q (.bl false,p.2)):=by
 (dsimp only[aK]; simp only[sI])
 rcases h:aK Φ a ρ S with _|⟨x,S1⟩
 ·simp[ae,af]
 ·cases x <;> simp[ae,af]
  rename_i b; cases b <;> simp[ae,af]
theorem GY {a b:E}{Q:QW}:Wp (aK Φ (.or a b) ρ S) Q↔Wp (aK Φ a ρ S) λp=>∃k,p.1=.bl k/\(k=true->Q (.bl true,p.2))/\(k=false->Wp (aK Φ b ρ p.2) Q):=by
 (dsimp only[aK]; simp only[zN])
 rcases h:aK Φ a ρ S with _|⟨x,S1⟩
 ·simp[ae,af]
 ·cases x <;> simp[ae,af]
  rename_i b; cases b <;> simp[ae,af]
theorem E4 {a:E}{Q:QW}:Wp (aK Φ (.not a) ρ S) Q↔Wp (aK Φ a ρ S) λp=>∃k,p.1=.bl k/\Q (.bl (!k),p.2):=by
 (dsimp only[aK]; simp only[sJ])
 rcases h:aK Φ a ρ S with _|⟨x,S1⟩
 ·simp[ae,af]
 ·cases x <;> simp[ae,af]
  rename_i k; cases k <;> simp
theorem E5 {t a b:E}{Q:QW}:Wp (aK Φ (.ite t a b) ρ S) Q↔Wp (du Φ t ρ S) λp=>(p.1=true->Wp (aK Φ a ρ p.2) Q)/\(p.1=false->Wp (aK Φ b ρ p.2) Q):=by
 (dsimp only[aK]; simp only[zO])
 rcases h:du Φ t ρ S with _|⟨x,S1⟩
 ·simp[ae,af]
 ·cases x <;> simp[ae,af]
theorem BG {f:Ih}{n:HJ}{es:Es}{Q:QW}:Wp (aK Φ (.own f n es) ρ S) Q↔Wp (dy Φ es ρ S) λp=>p.1.length=n/\Wp (Φ f p.1 p.2) Q:=by
 (dsimp only[aK]; simp only[pO])
 rcases h:dy Φ es ρ S with _|⟨x,S1⟩
 ·simp[ae,af]
 ·by_cases hl:x.length=n <;> simp[ae,af,hl]
theorem E6 {b:Bi}{es:Es}{Q:QW}:Wp (aK Φ (.bi b es) ρ S) Q↔Wp (dy Φ es ρ S) λp=>Wp (b.fn p.1 p.2) Q:=by
 (dsimp only[aK]; simp only[jL])
 rcases h:dy Φ es ρ S with _|⟨x,S1⟩ <;> simp[ae,af]
theorem GZ {m:Me}{o:E}{es:Es}{Q:QW}:Wp (aK Φ (.me m o es) ρ S) Q↔Wp (aK Φ o ρ S) λp=>tyOk m.ty p.2 p.1=true/\Wp (dy Φ es ρ p.2) λq=>Wp (m.fn p.1 q.1 q.2) Q:=by
 (dsimp only[aK]; simp only[Bx])
 rcases h:aK Φ o ρ S with _|⟨x,S1⟩
 ·simp[ae,af]
 ·by_cases ht:tyOk m.ty S1 x=true
  ·rcases h2:dy Φ es ρ S1 with _|⟨y,S2⟩ <;> simp[ae,af,ht,h2]
  ·simp[ae,af,ht]
theorem G0 {a:E}{lo hi:Ep}{Q:QW}:Wp (aK Φ (.sl a lo hi) ρ S) Q↔Wp (aK Φ a ρ S) λp=>Wp (sP Φ lo ρ p.2) λq=>Wp (sP Φ hi ρ q.2) λr=>Wp (mE p.1 q.1 r.1 r.2) Q:=by
 (dsimp only[aK]; simp only[EN])
 rcases h:aK Φ a ρ S with _|⟨x,S1⟩
 ·simp[ae,af]
 ·rcases h2:sP Φ lo ρ S1 with _|⟨y,S2⟩
  ·simp[ae,af,h2]
  ·rcases h3:sP Φ hi ρ S2 with _|⟨z,S3⟩ <;> simp[ae,af,h2,h3]
theorem G1 {Q:HI HY×aa->Prop}:Wp (sP Φ .no ρ S) Q↔Q (td,S):=by(dsimp only[sP]; simp[CW,ae,af])
theorem E7 {a:E}{Q:HI HY×aa->Prop}:Wp (sP Φ (.yes a) ρ S) Q↔Wp (aK Φ a ρ S) λp=>∃i,p.1=.int i/\Q (gV i,p.2):=by
 (dsimp only[sP]; simp only[sM])
 rcases h:aK Φ a ρ S with _|⟨x,S1⟩
 ·simp[ae,af]
 ·cases x <;> simp[ae,af]
theorem E8 {es:Es}{Q:QW}:Wp (aK Φ (.tup es) ρ S) Q↔Wp (dy Φ es ρ S) λp=>p.1.length<=sizeLine/\Q (.tup p.1,p.2):=by
 (dsimp only[aK]; simp only[wx,rg])
 rcases h:dy Φ es ρ S with _|⟨x,S1⟩
 ·simp[ae,af]
 ·by_cases hl:x.length<=sizeLine <;> simp[ae,af,hl]
theorem E9 {es:Es}{Q:QW}:Wp (aK Φ (.lst es) ρ S) Q↔Wp (dy Φ es ρ S) λp=>p.1.length<=sizeLine/\Q (.ref p.2.length,p.2++[.lst p.1]):=by
 (dsimp only[aK]; simp only[wy,lG])
 rcases h:dy Φ es ρ S with _|⟨x,S1⟩
 ·simp[ae,af]
 ·by_cases hl:x.length<=sizeLine <;> simp[ae,af,hl]
theorem BH {c:Jp}{a:E}{Q:QW}:Wp (aK Φ (.isi c a) ρ S) Q↔Wp (aK Φ a ρ S) λp=>∃k,uD p.2 p.1 c=gV k/\Q (.bl k,p.2):=by
 (dsimp only[aK]; simp only[wQ])
 rcases h:aK Φ a ρ S with _|⟨x,S1⟩
 ·simp[ae,af]
 ·cases h2:uD S1 x c <;> simp[ae,af,h2]
  rename_i k; cases k <;> simp
theorem Fa {a:E}{Q:QW}:Wp (aK Φ (.neg a) ρ S) Q↔Wp (aK Φ a ρ S) λp=>∃i,p.1=.int i/\Q (.int (-i),p.2):=by
 (dsimp only[aK]; simp only[wp])
 rcases h:aK Φ a ρ S with _|⟨x,S1⟩
 ·simp[ae,af]
 ·cases x <;> simp[ae,af]
theorem Dg {es:Es}{Q:QW}:Wp (aK Φ (.disp es) ρ S) Q↔Wp (dy Φ es ρ (S++[.dic []])) λp=>p.2[S.length]?=gV (.dic [])/\∃kvs,dX [] p.1=gV kvs/\Q (.ref S.length,p.2.set S.length (.dic kvs)):=by
 have e:aK Φ (.disp es) ρ S=pS (dy Φ es) ρ S:=by dsimp only[aK]
 rw[e];unfold pS;cases dy Φ es ρ (S++[.dic []])with
 | none=>simp[af]
 | some p=>
  obtain⟨x,S1⟩:=p;simp only[ae];cases h2:S1[S.length]? with
  | none=>simp[af]
  | some o=>
   cases o with
   | lst _=>simp[af]
   | fro _=>simp[af]
   | frd _=>simp[af]
   | rng _ _=>simp[af]
   | dic kvs=>
    cases kvs with
    | nil=>cases h3:dX [] x <;> simp[ae,af]
    | cons a b=>simp[af]
theorem Fb {Q:HC W×aa->Prop}:Wp (dy Φ .nil ρ S) Q↔Q ([],S):=by(dsimp only[dy]; simp[hW,ae,af])
theorem Dh {e:E}{es:Es}{Q:HC W×aa->Prop}:Wp (dy Φ (.cons e es) ρ S) Q↔Wp (aK Φ e ρ S) λp=>Wp (dy Φ es ρ p.2) λq=>Q (p.1::q.1,q.2):=by
 (dsimp only[dy]; simp only[eC])
 rcases h:aK Φ e ρ S with _|⟨x,S1⟩
 ·simp[ae,af]
 ·rcases h2:dy Φ es ρ S1 with _|⟨y,S2⟩ <;> simp[ae,af,h2]
noncomputable abbrev QB:=Ir×aa->Prop
theorem Fc {f:FE}{Q:QB}:Wp (wt f ρ S) Q↔Wp (f ρ S) λp=>∃k,p.1=.bl k/\Q (k,p.2):=by
 unfold wt;rcases h:f ρ S with _|⟨x,S1⟩
 ·simp[ae,af]
 ·cases x <;> simp[ae,af]
  rename_i k; cases k <;> simp
theorem sY {f:FE}{Q:QB}:Wp (gI f ρ S) Q↔Wp (f ρ S) λp=>∃k,eA p.2 p.1=gV k/\Q (k,p.2):=by
 unfold gI;rcases h:f ρ S with _|⟨x,S1⟩
 ·simp[ae,af]
 ·cases h2:eA S1 x <;> simp[ae,af,h2]
  rename_i k; cases k <;> simp
theorem Fd {o:COp}{a b:E}{Q:QB}:Wp (du Φ (.cmp o a b) ρ S) Q↔Wp (aK Φ (.cmp o a b) ρ S) λp=>∃k,p.1=.bl k/\Q (k,p.2):=by dsimp only[du,aK]; exact Fc
theorem Fe {a b:E}{Q:QB}:Wp (du Φ (.and a b) ρ S) Q↔Wp (du Φ a ρ S) λp=>(p.1=true->Wp (du Φ b ρ p.2) Q)/\(p.1=false->Q (false,p.2)):=by
 (dsimp only[du]; simp only[wu])
 rcases h:du Φ a ρ S with _|⟨x,S1⟩
 ·simp[ae,af]
 ·cases x <;> simp[ae,af]
theorem G2 {a b:E}{Q:QB}:Wp (du Φ (.or a b) ρ S) Q↔Wp (du Φ a ρ S) λp=>(p.1=true->Q (true,p.2))/\(p.1=false->Wp (du Φ b ρ p.2) Q):=by
 (dsimp only[du]; simp only[EK])
 rcases h:du Φ a ρ S with _|⟨x,S1⟩
 ·simp[ae,af]
 ·cases x <;> simp[ae,af]
theorem Ff {a:E}{Q:QB}:Wp (du Φ (.not a) ρ S) Q↔Wp (du Φ a ρ S) λp=>Q (!p.1,p.2):=by
 (dsimp only[du]; simp only[zK])
 rcases h:du Φ a ρ S with _|⟨x,S1⟩ <;> simp[ae,af]
theorem Hy {i:HJ}{Q:QB}:Wp (du Φ (.v i) ρ S) Q↔Wp (aK Φ (.v i) ρ S) λp=>∃k,eA p.2 p.1=gV k/\Q (k,p.2):=by dsimp only[du,aK]; exact sY
theorem Fg {f:Ih}{n:HJ}{es:Es}{Q:QB}:Wp (du Φ (.own f n es) ρ S) Q↔Wp (aK Φ (.own f n es) ρ S) λp=>∃k,eA p.2 p.1=gV k/\Q (k,p.2):=by dsimp only[du,aK]; exact sY
theorem G3 {b:Bi}{es:Es}{Q:QB}:Wp (du Φ (.bi b es) ρ S) Q↔Wp (aK Φ (.bi b es) ρ S) λp=>∃k,eA p.2 p.1=gV k/\Q (k,p.2):=by dsimp only[du,aK]; exact sY
theorem Fh {c:Jp}{a:E}{Q:QB}:Wp (du Φ (.isi c a) ρ S) Q↔Wp (aK Φ (.isi c a) ρ S) λp=>∃k,eA p.2 p.1=gV k/\Q (k,p.2):=by dsimp only[du,aK]; exact sY
noncomputable abbrev QO:=Out×aa->Prop
theorem Fi {Q:QO}:Wp (gc Φ fuel .nil ρ S) Q↔Q (.nx ρ,S):=by(dsimp only[gc]; simp[ae,af])
theorem Di {s:Sm}{ss:Ss}{Q:QO}:Wp (gc Φ fuel (.cons s ss) ρ S) Q↔Wp (gb Φ fuel s ρ S) λp=>(∀ρ',p.1=.nx ρ'->Wp (gc Φ fuel ss ρ' p.2) Q)/\((∀ρ',p.1≠.nx ρ')->Q p):=by
 (dsimp only[gc]; simp only[zU])
 rcases h:gb Φ fuel s ρ S with _|⟨o,S1⟩
 ·simp[ae,af]
 ·cases o <;> simp[ae,af]
theorem xp {f:FE}{g:FG}{Q:QO}:Wp (kL f g ρ S) Q↔Wp (f ρ S) λp=>Wp (g p.1 ρ p.2) λq=>Q (.nx q.1,q.2):=by
 unfold kL;rcases h:f ρ S with _|⟨x,S1⟩
 ·simp[ae,af]
 ·rcases h2:g x ρ S1 with _|⟨y,S2⟩ <;> simp[ae,af,h2]
theorem Dj {i:HJ}{e:E}{Q:QO}:Wp (gb Φ fuel (.set i e) ρ S) Q↔Wp (aK Φ e ρ S) λp=>Q (.nx (ρ.set i (gV p.1)),p.2):=by
 dsimp only[gb]; rw[xp]; simp[Ab,ae,af]
theorem Dk {is:HC HJ}{e:E}{Q:QO}:Wp (gb Φ fuel (.asg is e) ρ S) Q↔Wp (aK Φ e ρ S) λp=>∃ws ρ',p.1=.tup ws/\dz is ws ρ=gV ρ'/\Q (.nx ρ',p.2):=by
 dsimp only[gb]; rw[xp]
 constructor
 ·refine λh=>h.mono λp hp=>?_
  obtain⟨w,S1⟩:=p;obtain⟨q,h1,h2⟩:=hp;cases w with
  | tup ws=>
   simp only[DU,HG]at h1;obtain⟨ρ',h3,rfl⟩:=h1;exact⟨ws,ρ',rfl,h3,h2⟩
  | _=>cases h1
 ·refine λh=>h.mono λp hp=>?_
  obtain⟨w,S1⟩:=p;obtain⟨ws,ρ',h0,h1,h2⟩:=hp;subst h0;exact⟨(ρ',S1),by simp[DU,h1],h2⟩
theorem Dl {i j:HJ}{es:Es}{Q:QO}:Wp (gb Φ fuel (.par i j es) ρ S) Q↔Wp (dy Φ es ρ S) λp=>∃x y,p.1=[x,y]/\Q (.nx ((ρ.set i (gV x)).set j (gV y)),p.2):=by
 (dsimp only[gb]; simp only[Ad])
 rcases h:dy Φ es ρ S with _|⟨x,S1⟩
 ·simp[af]
 ·match x with
  | []=>simp[ae,af]
  | [_]=>simp[ae,af]
  | [a,b]=>
   simp only[ae];exact⟨λh=>⟨a,b,rfl,h⟩,λ⟨x,y,e,h⟩=>by cases e; exact h⟩
  | _::_::_::_=>simp[ae,af]
theorem Dm {o k e:E}{Q:QO}:Wp (gb Φ fuel (.put o k e) ρ S) Q↔Wp (aK Φ e ρ S) λp=>Wp (aK Φ o ρ p.2) λq=>Wp (aK Φ k ρ q.2) λr=>∃S',iA q.1 r.1 p.1 r.2=gV S'/\Q (.nx ρ,S'):=by
 dsimp only[gb]; rw[xp]
 rcases h:aK Φ e ρ S with _|⟨x,S1⟩
 ·simp[ae,af]
 ·simp only[ae];unfold Ac;rcases h2:aK Φ o ρ S1 with _|⟨y,S2⟩
  ·simp[ae,af]
  ·rcases h3:aK Φ k ρ S2 with _|⟨z,S3⟩
   ·simp[ae,af,h3]
   ·cases h4:iA y z x S3 <;> simp[ae,af,h3,h4]
theorem Fj {e:E}{Q:QO}:Wp (gb Φ fuel (.ex e) ρ S) Q↔Wp (aK Φ e ρ S) λp=>Q (.nx ρ,p.2):=by
 (dsimp only[gb]; simp only[zV])
 rcases h:aK Φ e ρ S with _|⟨x,S1⟩ <;> simp[ae,af]
theorem Dn {e:E}{Q:QO}:Wp (gb Φ fuel (.ret e) ρ S) Q↔Wp (aK Φ e ρ S) λp=>Q (.rt p.1,p.2):=by
 (dsimp only[gb]; simp only[zY])
 rcases h:aK Φ e ρ S with _|⟨x,S1⟩ <;> simp[ae,af]
theorem Do {t:E}{a b:Ss}{Q:QO}:Wp (gb Φ fuel (.ite t a b) ρ S) Q↔Wp (du Φ t ρ S) λp=>(p.1=true->Wp (gc Φ fuel a ρ p.2) Q)/\(p.1=false->Wp (gc Φ fuel b ρ p.2) Q):=by
 (dsimp only[gb]; simp only[Aa])
 rcases h:du Φ t ρ S with _|⟨x,S1⟩
 ·simp[ae,af]
 ·cases x <;> simp[ae,af]
end
section
variable{Φ:Ih->FF}{fuel:HJ}{ρ:Fm}{S:aa}
noncomputable def xq (I:Fm->aa->Prop)(Q:QO)(o:Out×aa):Prop:=match o.1 with
 | .nx ρ'=>I ρ' o.2
 | .ct ρ'=>I ρ' o.2
 | .bk ρ'=>Q (.nx ρ',o.2)
 | .rt w=>Q (.rt w,o.2)
theorem jc {mi:MI}{g:FG}{b:FS}{xs:HC W}{Q:QO}(I:HJ->Fm->aa->Prop)(hat:∀i ρ S,I i ρ S->mi.at S i=gV xs[i]?)
  (hstep:∀i w ρ S,xs[i]?=gV w->I i ρ S->Wp (g w ρ S) λq=>Wp (b q.1 q.2) (xq (I (i+1)) Q)) (hend:∀ρ S,I xs.length ρ S->Q (.nx ρ,S)):∀(n i:HJ) (ρ:Fm) (S:aa),i+n=xs.length->I i ρ S->Wp (ga mi g b n i ρ S) Q
 | 0,i,ρ,S,hl,hI=>by
  have e:mi.at S i=gV td:=by rw[hat i ρ S hI,KH (by omega)]
  simp only[ga,e];have hi:i=xs.length:=by omega
  exact ae.mpr (hend ρ S (hi ▸ hI))
 | n+1,i,ρ,S,hl,hI=>by
  have hi:i < xs.length:=by omega
  have e:mi.at S i=gV (gV xs[i]):=by rw[hat i ρ S hI,HX hi]
  obtain⟨⟨ρ1,S1⟩,h1,⟨o,S2⟩,h2,h3⟩:=hstep i xs[i] ρ S (HX hi) hI;simp only[ga,e,h1,h2];cases o with
  | nx ρ2=>exact jc I hat hstep hend n (i+1) ρ2 S2 (by omega) h3
  | ct ρ2=>exact jc I hat hstep hend n (i+1) ρ2 S2 (by omega) h3
  | bk ρ2=>exact ae.mpr h3
  | rt w=>exact ae.mpr h3
theorem Fk {fi:FI}{g:FG}{b:FS}{Q:QO}:Wp (wL fi g b ρ S) Q↔Wp (fi ρ S) λp=>∃n,p.1.len p.2=gV n/\Wp (ga p.1 g b n 0 ρ p.2) Q:=by
 unfold wL;rcases h:fi ρ S with _|⟨mi,S1⟩
 ·simp[af]
 ·cases h2:mi.len S1 <;> simp[ae,af,h2]
theorem d6 {mi:MI}{g:FG}{c:FT}{f:FE}{xs:HC W}{Q:HC W×aa->Prop}(I:HJ->HC W->Fm->aa->Prop)(hat:∀i ys ρ S,I i ys ρ S->mi.at S i=gV xs[i]?)
  (hstep:∀i w ys ρ S,xs[i]?=gV w->I i ys ρ S->Wp (g w ρ S) λq=>Wp (c q.1 q.2) λk=>(k.1=true->Wp (f q.1 k.2) λy=>I (i+1) (ys++[y.1]) q.1 y.2)/\(k.1=false->I (i+1) ys q.1 k.2))
  (hend:∀ys ρ S,I xs.length ys ρ S->Q (ys,S)):∀(n i:HJ) (ys:HC W) (ρ:Fm) (S:aa),i+n=xs.length->I i ys ρ S->Wp (cq mi g c f n i ρ S) λp=>Q (ys++p.1,p.2)
 | 0,i,ys,ρ,S,hl,hI=>by
  have e:mi.at S i=gV td:=by rw[hat i ys ρ S hI,KH (by omega)]
  simp only[cq,e];refine ae.mpr ?_;have:i=xs.length:=by omega
  simpa using hend ys ρ S (this ▸ hI)
 | n+1,i,ys,ρ,S,hl,hI=>by
  have hi:i < xs.length:=by omega
  have e:mi.at S i=gV (gV xs[i]):=by rw[hat i ys ρ S hI,HX hi]
  obtain⟨⟨ρ1,S1⟩,h1,⟨k,S2⟩,h2,h3,h4⟩:=hstep i xs[i] ys ρ S (HX hi) hI;simp only[cq,e,h1,h2];cases k with
  | true=>
   obtain⟨⟨y,S3⟩,h5,h6⟩:=h3 rfl;simp only[h5];obtain⟨⟨zs,S4⟩,h7,h8⟩:=d6 I hat hstep hend n (i+1) (ys++[y]) ρ1 S3 (by omega) h6
   simp only[h7];exact ae.mpr (by simpa using h8)
  | false=>exact d6 I hat hstep hend n (i+1) ys ρ1 S2 (by omega) (h4 rfl)
theorem xr {elt:E}{tg:Tg}{it:Ie}{cs:Es}{cap:HC (HI HJ)}{Q:QW}:Wp (aK Φ (.comp elt tg it cs cap) ρ S) Q↔Wp (kN Φ it ρ S) λp=>∃n,p.1.len p.2=gV n/\Wp (cq p.1 (gK tg) (At Φ cs) (aK Φ elt) n 0 (fS cap ρ) p.2) λq=>q.1.length<=sizeLine/\Q (.ref q.2.length,q.2++[.lst q.1]):=by
 (dsimp only[aK]; simp only[kM,lG])
 rcases h:kN Φ it ρ S with _|⟨mi,S1⟩
 ·simp[af]
 ·rcases h2:mi.len S1 with _|n
  ·simp[ae,af,h2]
  ·rcases h3:cq mi (gK tg) (At Φ cs) (aK Φ elt) n 0 (fS cap ρ) S1 with _|⟨ys,S2⟩
   ·simp[ae,af,h2,h3]
   ·by_cases hl:ys.length<=sizeLine <;> simp[ae,af,h2,h3,hl]
theorem Fn {Q:QB}:Wp (At Φ .nil ρ S) Q↔Q (true,S):=by(dsimp only[At]; simp[Bz,ae])
theorem Fo {e:E}{Q:QB}:Wp (At Φ (.cons e .nil) ρ S) Q↔Wp (du Φ e ρ S) Q:=by dsimp only[At]; exact Iff.rfl
theorem G4 {i:HJ}{w:W}{Q:Fm×aa->Prop}:Wp (gK (.nm i) w ρ S) Q↔Q (ρ.set i (gV w),S):=by(dsimp only[gK]; simp[Ab,ae])
theorem kU {c:FT}{b:FS}{Q:QO}(I:HJ->Fm->aa->Prop)(hstep:∀m ρ S,I m ρ S->Wp (c ρ S) λk=>(k.1=true->∃m',m=m'+1/\Wp (b ρ k.2) (xq (I m') Q))/\(k.1=false->Q (.nx ρ,k.2))) :
  ∀(n m:HJ) (ρ:Fm) (S:aa),m < n->I m ρ S->Wp (nW c b n ρ S) Q
 | 0,m,ρ,S,h,_=>by omega
 | n+1,m,ρ,S,h,hI=>by
  obtain⟨⟨k,S1⟩,h1,h2,h3⟩:=hstep m ρ S hI;simp only[nW,h1];cases k with
  | false=>exact ae.mpr (h3 rfl)
  | true=>
   obtain⟨m',rfl,⟨o,S2⟩,h5,h6⟩:=h2 rfl;simp only[h5];cases o with
   | nx ρ2=>exact kU I hstep n m' ρ2 S2 (by omega) h6
   | ct ρ2=>exact kU I hstep n m' ρ2 S2 (by omega) h6
   | bk ρ2=>exact ae.mpr h6
   | rt w=>exact ae.mpr h6
theorem uM {defs:HC (Ih×Df)}{d:HJ}{f:Ih}{ws:HC W}{df:Df}{Q:QW}(h:defs.lookup f=gV df)(hl:ws.length=df.ps.length)
  (hb:Wp (gc (ar defs fuel d) fuel df.body (fF df.N ws) S) λp=>match p.1 with|.rt w=>Q (w,p.2)|.nx _=>Q (.non,p.2)|_=>Jn):Wp (ar defs fuel (d+1) f ws S) Q:=by
 obtain⟨⟨o,S1⟩,h1,h2⟩:=hb;simp only[ar,h,Iv hl,h1];cases o with
 | rt w=>exact ae.mpr h2
 | nx ρ=>exact ae.mpr h2
 | bk _=>exact h2.elim
 | ct _=>exact h2.elim
end
section
variable{S:aa}{Q:QW}
theorem d3 {a b:HY}:iq .add (.int a) (.int b) S=gV (.int (a+b),S):=rfl
theorem mT {a b:HY}:iq .sub (.int a) (.int b) S=gV (.int (a - b),S):=rfl
theorem og {c:HY->HY->Ir}{f:HY->HY->HY}{i j:HY}(h:c i j=true):yB c f (.int i) (.int j) S=gV (.int (f i j),S):=by
 unfold yB;dsimp only;rw[Iv h]
theorem sZ {a b:HY}(h : -(2 ^ 64) < b)(h2:b < 2 ^ 64):iq .mul (.int a) (.int b) S=gV (.int (a*b),S):=og (c:=ue) (f:=(· * ·)) (by
 unfold ue;simp only[JY,HL,Iy];exact .inr ⟨h,h2⟩)
theorem kW {a b:HY}(h:0 < b):iq .mod (.int a) (.int b) S=gV (.int (a % b),S):=og (c:=λ_ j=>decide (0 < j)) (f:=(· % ·)) (JO h)
theorem oh {a b:HY}(h:0 < b)(h2:b < 1073741824):iq .fdiv (.int a) (.int b) S=gV (.int (a / b),S):=og (c:=λ_ j=>zf j) (f:=(· / ·)) (by
 unfold zf;simp only[HL,Iy];exact⟨h,h2⟩)
theorem Dp:iq .pow (.int 10) (.int 18) S=gV (.int 1000000000000000000,S):=rfl
theorem dB {xs ys:HC W}(h:(xs++ys).length<=sizeLine):iq .add (.tup xs) (.tup ys) S=gV (.tup (xs++ys),S):=by simp only[iq,vS,rg]; rw[Iv h]
theorem ol {i j:HJ}{xs ys:HC W}(h1:S[i]?=gV (.lst xs))(h2:S[j]?=gV (.lst ys))(h:(xs++ys).length<=sizeLine):iq .add (.ref i) (.ref j) S=gV (.ref S.length,S++[.lst (xs++ys)]):=by
 simp only[iq,vS,mC,h1,h2,lG]; rw[Iv h]
theorem gL {a b:HY}:cp .eq (.int a) (.int b) S=gV (.bl (a==b),S):=rfl
theorem Dq {a b:HY}:cp .ne (.int a) (.int b) S=gV (.bl (!(a==b)),S):=rfl
theorem xt {a b:HY}:cp .lt (.int a) (.int b) S=gV (.bl (decide (a < b)),S):=rfl
theorem Dr {a b:HY}:cp .gt (.int a) (.int b) S=gV (.bl (decide (a > b)),S):=rfl
theorem Fp {a b:HY}:cp .ge (.int a) (.int b) S=gV (.bl (decide (a>=b)),S):=rfl
theorem BI {a b:Ih}:cp .eq (.str a) (.str b) S=gV (.bl (a==b),S):=rfl
theorem aM {r:HJ}{xs:HC W}(h:S[r]?=gV (.lst xs)):g8 S r=gV xs:=by simp[g8,h]
theorem Az {r:HJ}{xs:HC W}(h:S[r]?=gV (.fro xs)):g8 S r=gV xs:=by simp[g8,h]
theorem dh {r:HJ}{xs:HC W}(h:S[r]?=gV (.lst xs)):mC S r=gV xs:=by simp[mC,h]
theorem ke {r:HJ}{xs:HC W}(h:S[r]?=gV (.lst xs)):jT S r=td:=by simp[jT,h]
theorem cJ {r:HJ}{kvs:HC (T×W)}(h:S[r]?=gV (.dic kvs)):jT S r=gV kvs:=by simp[jT,h]
theorem om {r:HJ}{kvs:HC (T×W)}(h:S[r]?=gV (.dic kvs)):g8 S r=td:=by simp[g8,h]
theorem AA {r:HJ}{kvs:HC (T×W)}(h:S[r]?=gV (.frd kvs)):jT S r=gV kvs:=by simp[jT,h]
theorem atI_nat {α:Type}{xs:HC α}{j:HJ}{w:α}(h:xs[j]?=gV w):o7 xs (j:HY)=gV w:=by
 have hl:=(Ig.mp h).1;unfold o7 qT;rw[Iv (HR j),Iv (by exact_mod_cast hl)]
 simpa using h
theorem on {α:Type}{xs:HC α}{i:HY}{w:α}(h0:0<=i)(h:xs[i.toNat]?=gV w):o7 xs i=gV w:=by
 have:=atI_nat h
 rwa [M6 h0]at this
theorem xu {r:HJ}{xs:HC W}{i:HY}{w:W}(h:S[r]?=gV (.lst xs))(h0:0<=i)(hw:xs[i.toNat]?=gV w):j6 (.ref r) (.int i) S=gV (w,S):=by
 show sx (.ref r) (.int i) S=_;simp[sx,aM h,on h0 hw]
theorem Fq {xs:HC W}{i:HY}{w:W}(h0:0<=i)(hw:xs[i.toNat]?=gV w):j6 (.tup xs) (.int i) S=gV (w,S):=by
 show sx (.tup xs) (.int i) S=_;simp[sx,on h0 hw]
theorem Fs {x:Ih}{i:HY}{c:HJ}(hz:x.length<=sizeLine)(h0:0<=i)(hw:x.cps.toList[i.toNat]?=gV c):j6 (.str x) (.int i) S=gV (.str ⟨[c].toArray⟩,S):=by
 show sx (.str x) (.int i) S=_;simp[sx,hz,on h0 hw]
theorem BJ {r:HJ}{xs:HC W}{i:HY}{w:W}(h:S[r]?=gV (.lst xs))(h0:0<=i)(hi:i.toNat < xs.length):iA (.ref r) (.int i) w S=gV (S.set r (.lst (xs.set i.toNat w))):=by
 show uf (.ref r) (.int i) w S=_;have:qT xs.length i=gV i.toNat:=by
  unfold qT;rw[Iv h0,Iv (by omega)]
 simp[uf,dh h,this]
theorem BK {r:HJ}{xs:HC W}(h:S[r]?=gV (.lst xs)):rA [.ref r] S=gV (.int xs.length,S):=by
 simp[rA,ke h,rj,aM h]
theorem tf {r:HJ}{xs:HC W}{y:W}(h:S[r]?=gV (.lst xs))(hl:xs.length < sizeLine):iw (.ref r) [y] S=gV (.non,S.set r (.lst (xs++[y]))):=by
 simp[iw,dh h,hl]
theorem Ft {r:HJ}{xs:HC W}(h:S[r]?=gV (.lst xs)):kJ [.ref r] S=gV (.tup xs,S):=by
 simp[kJ,zA,h,kA,aM h]
theorem dZ {r:HJ}{xs:HC W}(h:S[r]?=gV (.lst xs)):tyOk "list" S (.ref r)=true:=by simp[tyOk,aM h]
theorem cw {r:HJ}{o o':O}(h:S[r]?=gV o):(S.set r o')[r]?=gV o':=by
 rw[JP,Iv rfl,Iv (Ig.mp h).1]
theorem cj {r j:HJ}{o':O}(h:r≠j):(S.set r o')[j]?=S[j]?:=by rw[JP,IK h]
theorem ak {o:O}:(S++[o])[S.length]?=gV o:=by simp
theorem au {j:HJ}{o u:O}(h:S[j]?=gV o):(S++[u])[j]?=gV o:=by rw[IF (Ig.mp h).1]; exact h
theorem db {j:HJ}{o:O}(h:S[j]?=gV o):j < S.length:=(Ig.mp h).1
structure Kp (r:HJ)(S S':aa):Prop where
 get:∀j o,j≠r->S[j]?=gV o->S'[j]?=gV o
 len:S.length<=S'.length
theorem Kp.refl {r:HJ}{S:aa}:Kp r S S:=⟨λ_ _ _ h=>h,HW _⟩
theorem Kp.trans {r:HJ}{S S' S'':aa}(a:Kp r S S')(b:Kp r S' S''):Kp r S S'':=⟨λj o n h=>b.get j o n (a.get j o n h),IT a.len b.len⟩
theorem Kp.set {r:HJ}{S:aa}{o:O}:Kp r S (S.set r o):=⟨λj u n h=>by rw[cj (Ne.symm n)]; exact h,by simp⟩
theorem Kp.push {r:HJ}{S:aa}{o:O}:Kp r S (S++[o]):=⟨λj u n h=>au h,by simp⟩
theorem Kp.late {r t:HJ}{S0 S:aa}{o:O}(a:Kp r S0 S)(h:S0.length<=t):Kp r S0 (S.set t o):=
 ⟨λj u n e=>by
  have:=db e;rw[cj (by omega)]; exact a.get j u n e,by simpa using a.len⟩
end
noncomputable def wO {α:Type}(o:HI α)(Q:α->Prop):Prop:=match o with
 | some a=>Q a
 | none=>Jn
theorem cU {α:Type}{o:HI α}{Q:α->Prop}(h:wO o Q):Wp o Q:=by
 cases o with
 | none=>exact h.elim
 | some a=>exact⟨a,rfl,h⟩
theorem Fu {α:Type}{o:HI α}{Q:α->Prop}(h:Wp o Q):wO o Q:=by
 obtain⟨a,rfl,q⟩:=h;exact q
theorem ac {α:Type}{o:HI α}{a:α}{Q:α->Prop}(e:o=gV a)(h:Q a):wO o Q:=by subst e; exact h
noncomputable def wB:W->(Ir->Prop)->Prop
 | .bl k,Q=>Q k
 | _,_=>Jn
noncomputable def wN:W->(HY->Prop)->Prop
 | .int k,Q=>Q k
 | _,_=>Jn
noncomputable def wU:W->(HC W->Prop)->Prop
 | .tup k,Q=>Q k
 | _,_=>Jn
theorem tj {w:W}{Q:Ir->Prop}(h:wB w Q):∃k,w=.bl k/\Q k:=by cases w <;> first|exact h.elim|exact⟨_,rfl,h⟩
theorem BL {w:W}{Q:HY->Prop}(h:wN w Q):∃k,w=.int k/\Q k:=by cases w <;> first|exact h.elim|exact⟨_,rfl,h⟩
theorem Fv {w:W}{Q:HC W->Prop}(h:wU w Q):∃k,w=.tup k/\Q k:=by cases w <;> first|exact h.elim|exact⟨_,rfl,h⟩
noncomputable def w2:HC W->(W->W->Prop)->Prop
 | [x,y],Q=>Q x y
 | _,_=>Jn
theorem Fw {xs:HC W}{Q:W->W->Prop}(h:w2 xs Q):∃x y,xs=[x,y]/\Q x y:=by
 match xs,h with
 | [x,y],h=>exact⟨x,y,rfl,h⟩
noncomputable def wG:HI W->(W->Prop)->Prop
 | some w,Q=>Q w
 | none,_=>Jn
noncomputable def wV:Fm->HJ->(W->Prop)->Prop
 | [],_,_=>Jn
 | o::_,0,Q=>wG o Q
 | _::ρ,n+1,Q=>wV ρ n Q
theorem xv {Q:W->Prop}:∀ {ρ:Fm} {i:HJ},wV ρ i Q->∃w,ρ[i]?=gV (gV w)/\Q w
 | [],i,h=>h.elim
 | some w::ρ,0,h=>⟨w,rfl,h⟩
 | none::ρ,0,h=>h.elim
 | x::ρ,n+1,h=>by
  obtain⟨w,e2,q⟩:=xv (ρ:=ρ) (i:=n) h;exact⟨w,e2,q⟩
noncomputable def be (Φ:Ih->FF)(f:Ih)(n:HJ)(ws:HC W)(S:aa):HI (W×aa):=if ws.length=n then Φ f ws S else td
section
variable (Φ:Ih->FF) (fuel:HJ)
mutual
noncomputable def wE:E->Fm->aa->QW->Prop
 | .c w,_,S,Q=>Q (w,S)
 | .v i,ρ,S,Q=>wV ρ i λw=>Q (w,S)
 | .op o a b,ρ,S,Q=>wE a ρ S λp=>wE b ρ p.2 λq=>wO (iq o p.1 q.1 q.2) Q
 | .cmp o a b,ρ,S,Q=>wE a ρ S λp=>wE b ρ p.2 λq=>wO (cp o p.1 q.1 q.2) Q
 | .and a b,ρ,S,Q=>wE a ρ S λp=>wB p.1 λk=>(k=true->wE b ρ p.2 Q)/\(k=false->Q (.bl false,p.2))
 | .or a b,ρ,S,Q=>wE a ρ S λp=>wB p.1 λk=>(k=true->Q (.bl true,p.2))/\(k=false->wE b ρ p.2 Q)
 | .not a,ρ,S,Q=>wE a ρ S λp=>wB p.1 λk=>Q (.bl (!k),p.2)
 | .own f n es,ρ,S,Q=>wA es ρ S λp=>wO (be Φ f n p.1 p.2) Q
 | .bi b es,ρ,S,Q=>wA es ρ S λp=>wO (b.fn p.1 p.2) Q
 | .me m o es,ρ,S,Q=>wE o ρ S λp=>tyOk m.ty p.2 p.1=true/\wA es ρ p.2 λq=>wO (m.fn p.1 q.1 q.2) Q
 | .ix a b,ρ,S,Q=>wE a ρ S λp=>wE b ρ p.2 λq=>wO (j6 p.1 q.1 q.2) Q
 | .sl a lo hi,ρ,S,Q=>wE a ρ S λp=>wP lo ρ p.2 λq=>wP hi ρ q.2 λr=>wO (mE p.1 q.1 r.1 r.2) Q
 | .tup es,ρ,S,Q=>wA es ρ S λp=>Q (.tup p.1,p.2)
 | .lst es,ρ,S,Q=>wA es ρ S λp=>Q (.ref p.2.length,p.2++[.lst p.1])
 | .isi c a,ρ,S,Q=>wE a ρ S λp=>wO (uD p.2 p.1 c) λk=>Q (.bl k,p.2)
 | .neg a,ρ,S,Q=>wE a ρ S λp=>wN p.1 λi=>Q (.int (-i),p.2)
 | .dnew,_,S,Q=>Q (.ref S.length,S++[.dic []])
 | .disp es,ρ,S,Q=>wA es ρ (S++[.dic []]) λp=>p.2[S.length]?=gV (.dic [])/\wO (dX [] p.1) λkvs=>Q (.ref S.length,p.2.set S.length (.dic kvs))
 | .ite t a b,ρ,S,Q=>wT t ρ S λp=>(p.1=true->wE a ρ p.2 Q)/\(p.1=false->wE b ρ p.2 Q)
 | .comp elt tg it cs cap,ρ,S,Q=>Wp (aK Φ (.comp elt tg it cs cap) ρ S) Q
noncomputable def wT:E->Fm->aa->QB->Prop
 | .cmp o a b,ρ,S,Q=>wE a ρ S λp=>wE b ρ p.2 λq=>wO (cp o p.1 q.1 q.2) λr=>wB r.1 λk=>Q (k,r.2)
 | .and a b,ρ,S,Q=>wT a ρ S λp=>(p.1=true->wT b ρ p.2 Q)/\(p.1=false->Q (false,p.2))
 | .or a b,ρ,S,Q=>wT a ρ S λp=>(p.1=true->Q (true,p.2))/\(p.1=false->wT b ρ p.2 Q)
 | .not a,ρ,S,Q=>wT a ρ S λp=>Q (!p.1,p.2)
 | .isi c a,ρ,S,Q=>wE a ρ S λp=>wO (uD p.2 p.1 c) λk=>Q (k,p.2)
 | .c w,ρ,S,Q=>Wp (du Φ (.c w) ρ S) Q
 | .v i,ρ,S,Q=>wV ρ i λw=>wO (eA S w) λk=>Q (k,S)
 | .op o a b,ρ,S,Q=>Wp (du Φ (.op o a b) ρ S) Q
 | .own f n es,ρ,S,Q=>wA es ρ S λp=>wO (be Φ f n p.1 p.2) λq=>wO (eA q.2 q.1) λk=>Q (k,q.2)
 | .bi b es,ρ,S,Q=>wA es ρ S λp=>wO (b.fn p.1 p.2) λq=>wO (eA q.2 q.1) λk=>Q (k,q.2)
 | .me m o es,ρ,S,Q=>Wp (du Φ (.me m o es) ρ S) Q
 | .ix a b,ρ,S,Q=>Wp (du Φ (.ix a b) ρ S) Q
 | .sl a lo hi,ρ,S,Q=>Wp (du Φ (.sl a lo hi) ρ S) Q
 | .tup es,ρ,S,Q=>Wp (du Φ (.tup es) ρ S) Q
 | .lst es,ρ,S,Q=>Wp (du Φ (.lst es) ρ S) Q
 | .neg a,ρ,S,Q=>Wp (du Φ (.neg a) ρ S) Q
 | .dnew,ρ,S,Q=>Wp (du Φ .dnew ρ S) Q
 | .disp es,ρ,S,Q=>Wp (du Φ (.disp es) ρ S) Q
 | .ite t a b,ρ,S,Q=>Wp (du Φ (.ite t a b) ρ S) Q
 | .comp elt tg it cs cap,ρ,S,Q=>Wp (du Φ (.comp elt tg it cs cap) ρ S) Q
noncomputable def wA:Es->Fm->aa->(HC W×aa->Prop)->Prop
 | .nil,_,S,Q=>Q ([],S)
 | .cons e es,ρ,S,Q=>wE e ρ S λp=>wA es ρ p.2 λq=>Q (p.1::q.1,q.2)
noncomputable def wP:Ep->Fm->aa->(HI HY×aa->Prop)->Prop
 | .no,_,S,Q=>Q (td,S)
 | .yes a,ρ,S,Q=>wE a ρ S λp=>wN p.1 λi=>Q (gV i,p.2)
end
noncomputable def qU (K:Fm->aa->Prop)(Q:QO)(p:Out×aa):Prop:=match p.1 with
 | .nx ρ=>K ρ p.2
 | o=>Q (o,p.2)
mutual
noncomputable def wS:Sm->Fm->aa->(Fm->aa->Prop)->QO->Prop
 | .set i e,ρ,S,K,_=>wE Φ e ρ S λp=>K (ρ.set i (gV p.1)) p.2
 | .asg is e,ρ,S,K,_=>wE Φ e ρ S λp=>wU p.1 λws=>wO (dz is ws ρ) λρ'=>K ρ' p.2
 | .par i j es,ρ,S,K,_=>wA Φ es ρ S λp=>w2 p.1 λx y=>K ((ρ.set i (gV x)).set j (gV y)) p.2
 | .put o k e,ρ,S,K,_=>wE Φ e ρ S λp=>wE Φ o ρ p.2 λq=>wE Φ k ρ q.2 λr=>wO (iA q.1 r.1 p.1 r.2) λS'=>K ρ S'
 | .ex e,ρ,S,K,_=>wE Φ e ρ S λp=>K ρ p.2
 | .ret e,ρ,S,_,Q=>wE Φ e ρ S λp=>Q (.rt p.1,p.2)
 | .retN,_,S,_,Q=>Q (.rt .non,S)
 | .pass,ρ,S,K,_=>K ρ S
 | .brk,ρ,S,_,Q=>Q (.bk ρ,S)
 | .cont,ρ,S,_,Q=>Q (.ct ρ,S)
 | .bad,_,_,_,_=>Jn
 | .ite t a b,ρ,S,K,Q=>wT Φ t ρ S λp=>∀Q':QO,(∀ρ' S',K ρ' S'->Q' (.nx ρ',S'))->(∀o S',(∀ρ',o≠.nx ρ')->Q (o,S')->Q' (o,S'))->(p.1=true->AB a ρ p.2 Q')/\(p.1=false->AB b ρ p.2 Q')
 | .whl t b,ρ,S,K,Q=>Wp (gb Φ fuel (.whl t b) ρ S) (qU K Q)
 | .loop tg it b,ρ,S,K,Q=>Wp (gb Φ fuel (.loop tg it b) ρ S) (qU K Q)
noncomputable def AB:Ss->Fm->aa->QO->Prop
 | .nil,ρ,S,Q=>Q (.nx ρ,S)
 | .cons s ss,ρ,S,Q=>wS s ρ S (λρ' S'=>AB ss ρ' S' Q) Q
end
end
noncomputable def F3:Es->HJ
 | .nil=>0
 | .cons _ es=>F3 es+1
mutual
noncomputable def eN:E->Ir
 | .c _|.v _|.comp _ _ _ _ _|.dnew=>true
 | .op _ a b|.cmp _ a b|.and a b|.or a b|.ix a b=>eN a&&eN b
 | .ite a b c=>eN a&&eN b&&eN c
 | .neg a|.not a|.isi _ a=>eN a
 | .own _ n es=>F3 es==n&&p7 es
 | .bi _ es|.disp es=>p7 es
 | .me _ o es=>eN o&&p7 es
 | .sl a lo hi=>eN a&&G5 lo&&G5 hi
 | .tup es|.lst es=>decide (F3 es<=1000)&&p7 es
noncomputable def p7:Es->Ir
 | .nil=>true
 | .cons e es=>eN e&&p7 es
noncomputable def G5:Ep->Ir
 | .no=>true
 | .yes e=>eN e
end
mutual
noncomputable def Hn:Sm->Ir
 | .set _ e|.asg _ e|.ex e|.ret e=>eN e
 | .put o k e=>eN o&&eN k&&eN e
 | .par _ _ es=>p7 es
 | .ite t a b=>eN t&&gM a&&gM b
 | _=>true
noncomputable def gM:Ss->Ir
 | .nil=>true
 | .cons s ss=>Hn s&&gM ss
end
section
variable{Φ:Ih->FF}{fuel:HJ}
theorem iD:∀ {es:Es} {ρ:Fm} {S S':aa} {ws:HC W},dy Φ es ρ S=gV (ws,S')->ws.length=F3 es
 | .nil,ρ,S,S',ws,h=>by dsimp only[dy]at h; cases h; rfl
 | .cons e es,ρ,S,S',ws,h=>by
  dsimp only[dy]at h;unfold eC at h;split at h
  ·split at h
   ·rename_i h2; cases h; rw[IQ,iD h2]; rfl
   ·cases h
  ·cases h
theorem xw {n:HJ}(h:decide (n<=1000)=true):n<=sizeLine:=IT (Jm h) (by rw[Ja]; decide)
theorem dv {a b:Ir}(h:(a&&b)=true):a=true:=by cases a <;> first|rfl|cases h
theorem eF {a b:Ir}(h:(a&&b)=true):b=true:=by cases a <;> first|exact h|cases h
mutual
theorem bI:∀(e:E) {ρ:Fm} {S:aa} {Q:QW},eN e=true->wE Φ e ρ S Q->Wp (aK Φ e ρ S) Q
 | .c w,ρ,S,Q,k,h=>Hx.mpr h
 | .v i,ρ,S,Q,k,h=>Hm.mpr (xv h)
 | .op o a b,ρ,S,Q,k,h=>GV.mpr ((bI a (dv k) h).mono λp hp=>(bI b (eF k) hp).mono λq hq=>cU hq)
 | .cmp o a b,ρ,S,Q,k,h=>BF.mpr ((bI a (dv k) h).mono λp hp=>(bI b (eF k) hp).mono λq hq=>cU hq)
 | .and a b,ρ,S,Q,k,h=>E3.mpr ((bI a (dv k) h).mono λp hp=>let ⟨c,e,h1,h2⟩:=tj hp; ⟨c,e,λz=>bI b (eF k) (h1 z),h2⟩)
 | .or a b,ρ,S,Q,k,h=>GY.mpr ((bI a (dv k) h).mono λp hp=>let ⟨c,e,h1,h2⟩:=tj hp; ⟨c,e,h1,λz=>bI b (eF k) (h2 z)⟩)
 | .not a,ρ,S,Q,k,h=>E4.mpr ((bI a k h).mono λp hp=>tj hp)
 | .own f n es,ρ,S,Q,k,h=>BG.mpr (by
   obtain⟨⟨ws,S1⟩,e,hq⟩:=gY es (eF k) h;have hl:ws.length=n:=(iD e).trans (eq_of_beq (dv k));simp only[be,Iv hl]at hq;exact⟨_,e,hl,cU hq⟩)
 | .bi b es,ρ,S,Q,k,h=>E6.mpr ((gY es k h).mono λp hp=>cU hp)
 | .me m o es,ρ,S,Q,k,h=>GZ.mpr ((bI o (dv k) h).mono λp hp=>⟨hp.1,(gY es (eF k) hp.2).mono λq hq=>cU hq⟩)
 | .ix a b,ρ,S,Q,k,h=>GX.mpr ((bI a (dv k) h).mono λp hp=>(bI b (eF k) hp).mono λq hq=>cU hq)
 | .sl a lo hi,ρ,S,Q,k,h=>G0.mpr ((bI a (dv (dv k)) h).mono λp hp=>(BM lo (eF (dv k)) hp).mono λq hq=>(BM hi (eF k) hq).mono λr hr=>cU hr)
 | .tup es,ρ,S,Q,k,h=>E8.mpr (by
   obtain⟨⟨ws,S1⟩,e,hq⟩:=gY es (eF k) h;exact⟨_,e,by rw[iD e]; exact xw (dv k),hq⟩)
 | .lst es,ρ,S,Q,k,h=>E9.mpr (by
   obtain⟨⟨ws,S1⟩,e,hq⟩:=gY es (eF k) h;exact⟨_,e,by rw[iD e]; exact xw (dv k),hq⟩)
 | .isi c a,ρ,S,Q,k,h=>BH.mpr ((bI a k h).mono λp hp=>cU hp)
 | .neg a,ρ,S,Q,k,h=>Fa.mpr ((bI a k h).mono λp hp=>BL hp)
 | .dnew,ρ,S,Q,k,h=>⟨_,rfl,h⟩
 | .disp es,ρ,S,Q,k,h=>Dg.mpr ((gY es k h).mono λp hp=>⟨hp.1,let ⟨kvs,e,q⟩:=cU hp.2; ⟨kvs,e,q⟩⟩)
 | .ite t a b,ρ,S,Q,k,h=>E5.mpr ((iE t (dv (dv k)) h).mono λp hp=>⟨λz=>bI a (eF (dv k)) (hp.1 z),λz=>bI b (eF k) (hp.2 z)⟩)
 | .comp elt tg it cs cap,ρ,S,Q,k,h=>h
theorem gY:∀(es:Es) {ρ:Fm} {S:aa} {Q:HC W×aa->Prop},p7 es=true->wA Φ es ρ S Q->Wp (dy Φ es ρ S) Q
 | .nil,ρ,S,Q,k,h=>Fb.mpr h
 | .cons e es,ρ,S,Q,k,h=>Dh.mpr ((bI e (dv k) h).mono λp hp=>gY es (eF k) hp)
theorem BM:∀(e:Ep) {ρ:Fm} {S:aa} {Q:HI HY×aa->Prop},G5 e=true->wP Φ e ρ S Q->Wp (sP Φ e ρ S) Q
 | .no,ρ,S,Q,k,h=>G1.mpr h
 | .yes a,ρ,S,Q,k,h=>E7.mpr ((bI a k h).mono λp hp=>BL hp)
theorem iE:∀(e:E) {ρ:Fm} {S:aa} {Q:QB},eN e=true->wT Φ e ρ S Q->Wp (du Φ e ρ S) Q
 | .cmp o a b,ρ,S,Q,k,h=>Fd.mpr (BF.mpr ((bI a (dv k) h).mono λp hp=>(bI b (eF k) hp).mono λq hq=>(cU hq).mono λr hr=>tj hr))
 | .and a b,ρ,S,Q,k,h=>Fe.mpr ((iE a (dv k) h).mono λp hp=>⟨λz=>iE b (eF k) (hp.1 z),hp.2⟩)
 | .or a b,ρ,S,Q,k,h=>G2.mpr ((iE a (dv k) h).mono λp hp=>⟨hp.1,λz=>iE b (eF k) (hp.2 z)⟩)
 | .not a,ρ,S,Q,k,h=>Ff.mpr (iE a k h)
 | .isi c a,ρ,S,Q,k,h=>Fh.mpr (BH.mpr ((bI a k h).mono λp hp=>let ⟨b,e,q⟩:=cU hp; ⟨b,e,b,rfl,q⟩))
 | .v i,ρ,S,Q,k,h=>Hy.mpr (Hm.mpr (let ⟨w,e,q⟩:=xv h; ⟨w,e,cU q⟩))
 | .own f n es,ρ,S,Q,k,h=>Fg.mpr (BG.mpr (by
   obtain⟨⟨ws,S1⟩,e,hq⟩:=gY es (eF k) h;have hl:ws.length=n:=(iD e).trans (eq_of_beq (dv k));simp only[be,Iv hl]at hq;exact⟨_,e,hl,(cU hq).mono λq hq=>cU hq⟩))
 | .c w,ρ,S,Q,k,h=>h
 | .op o a b,ρ,S,Q,k,h=>h
 | .bi b es,ρ,S,Q,k,h=>G3.mpr (E6.mpr ((gY es k h).mono λp hp=>(cU hp).mono λq hq=>cU hq))
 | .me m o es,ρ,S,Q,k,h=>h
 | .ix a b,ρ,S,Q,k,h=>h
 | .sl a lo hi,ρ,S,Q,k,h=>h
 | .tup es,ρ,S,Q,k,h=>h
 | .lst es,ρ,S,Q,k,h=>h
 | .neg a,ρ,S,Q,k,h=>h
 | .dnew,ρ,S,Q,k,h=>h
 | .disp es,ρ,S,Q,k,h=>h
 | .ite t a b,ρ,S,Q,k,h=>h
 | .comp elt tg it cs cap,ρ,S,Q,k,h=>h
end
mutual
theorem Fx:∀(s:Sm) {ρ:Fm} {S:aa} {K:Fm->aa->Prop} {Q:QO},Hn s=true->wS Φ fuel s ρ S K Q->Wp (gb Φ fuel s ρ S) (qU K Q)
 | .set i e,ρ,S,K,Q,k,h=>Dj.mpr (bI e k h)
 | .asg is e,ρ,S,K,Q,k,h=>Dk.mpr ((bI e k h).mono λp hp=>let ⟨ws,e1,h1⟩:=Fv hp; let ⟨ρ',e2,h2⟩:=cU h1; ⟨ws,ρ',e1,e2,h2⟩)
 | .par i j es,ρ,S,K,Q,k,h=>Dl.mpr ((gY es k h).mono λp hp=>Fw hp)
 | .put o i e,ρ,S,K,Q,k,h=>Dm.mpr ((bI e (eF k) h).mono λp hp=>(bI o (dv (dv k)) hp).mono λq hq=>(bI i (eF (dv k)) hq).mono λr hr=>cU hr)
 | .ex e,ρ,S,K,Q,k,h=>Fj.mpr (bI e k h)
 | .ret e,ρ,S,K,Q,k,h=>Dn.mpr (bI e k h)
 | .retN,ρ,S,K,Q,k,h=>⟨_,rfl,h⟩
 | .pass,ρ,S,K,Q,k,h=>⟨_,rfl,h⟩
 | .brk,ρ,S,K,Q,k,h=>⟨_,rfl,h⟩
 | .cont,ρ,S,K,Q,k,h=>⟨_,rfl,h⟩
 | .bad,ρ,S,K,Q,k,h=>h.elim
 | .ite t a b,ρ,S,K,Q,k,h=>Do.mpr ((iE t (dv (dv k)) h).mono λp hp=>by
   obtain⟨h1,h2⟩:=hp (qU K Q) (λρ' S' z=>z) (λo S' hn z=>by cases o <;> first|exact z|exact absurd rfl (hn _))
   exact⟨λz=>jd a (eF (dv k)) (h1 z),λz=>jd b (eF k) (h2 z)⟩)
 | .whl t b,ρ,S,K,Q,k,h=>h
 | .loop tg it b,ρ,S,K,Q,k,h=>h
theorem jd:∀(ss:Ss) {ρ:Fm} {S:aa} {Q:QO},gM ss=true->AB Φ fuel ss ρ S Q->Wp (gc Φ fuel ss ρ S) Q
 | .nil,ρ,S,Q,k,h=>Fi.mpr h
 | .cons s ss,ρ,S,Q,k,h=>Di.mpr ((Fx s (dv k) h).mono λp hp=>by
   obtain⟨o,S1⟩:=p;cases o with
   | nx ρ'=>exact⟨λρ2 e=>by cases e; exact jd ss (eF k) hp,λz=>absurd rfl (z ρ')⟩
   | _=>exact⟨λρ2 e=>(by cases e),λ_=>hp⟩)
end
structure wZ (Φ:Ih->FF)(fuel:HJ)(ss:Ss)(ρ:Fm)(S:aa)(Q:QO):Prop where
 out:AB Φ fuel ss ρ S Q
theorem Fy {ss:Ss}{ρ:Fm}{S:aa}{Q:QO}:AB Φ fuel ss ρ S Q=wZ Φ fuel ss ρ S Q:=propext ⟨λh=>⟨h⟩,λh=>h.out⟩
theorem Ds {defs:HC (Ih×Df)}{d:HJ}{f:Ih}{n:HJ}{ws:HC W}{df:Df}{S:aa}{Q:QW}(h:defs.lookup f=gV df)(hn:ws.length=n)(hl:ws.length=df.ps.length)(ok:gM df.body=true)
  (hb:∀Q':QO,(∀w S',Q (w,S')->Q' (.rt w,S'))->wZ (ar defs fuel d) fuel df.body (fF df.N ws) S Q'):wO (be (ar defs fuel (d+1)) f n ws S) Q:=by
 unfold be;rw[Iv hn];exact Fu (uM h hl ((jd _ ok (hb (λp=>match p.1 with|.rt w=>Q (w,p.2)|_=>Jn) λw S' q=>q).out).mono λp hp=>by
  obtain⟨o,S1⟩:=p;cases o <;> first|exact hp|exact hp.elim))
end
section
variable{Φ:Ih->FF}{fuel:HJ}{ρ:Fm}{S:aa}{K:Fm->aa->Prop}{Q:QO}
noncomputable def vh (Φ:Ih->FF)(fuel:HJ)(b:Ss)(ρ:Fm)(S:aa)(I:Fm->aa->Prop)(Q:QO):Prop:=∀Q':QO,(∀ρ' S',I ρ' S'->Q' (.nx ρ',S'))->(∀w S',Q (.rt w,S')->Q' (.rt w,S'))->wZ Φ fuel b ρ S Q'
theorem ic {tg:Tg}{it:Ie}{b:Ss}{mi:MI}{S1:aa}{xs:HC W}(I:HJ->Fm->aa->Prop)(ok:gM b=true)(hi:kN Φ it ρ S=gV (mi,S1))(hat:∀i ρ S,I i ρ S->mi.at S i=gV xs[i]?)(hl:mi.len S1=gV xs.length)(h0:I 0 ρ S1)
  (hstep:∀(i:HJ) (w:W) (ρ:Fm) (S:aa),xs[i]?=gV w->I i ρ S->wO (gK tg w ρ S) λq=>vh Φ fuel b q.1 q.2 (I (i+1)) Q) (hend:∀ρ S,I xs.length ρ S->K ρ S):Wp (gb Φ fuel (.loop tg it b) ρ S) (qU K Q):=by
 rw[gb,Fk];refine⟨_,hi,xs.length,hl,?_⟩;refine jc (Q:=qU K Q) I hat (λi w ρ S h1 h2=>?_) (λρ S h=>hend ρ S h) _ 0 ρ S1 (by omega) h0
 exact(cU (hstep i w ρ S h1 h2)).mono λq hq=>jd b ok (wZ.out (hq _ (λ_ _ h=>h) λ_ _ h=>h))
theorem cQ {e:E}{Q:QW}(ok:eN e=true)(h:wE Φ e ρ S Q):∃w S',aK Φ e ρ S=gV (w,S')/\Q (w,S'):=let ⟨⟨w,S'⟩,a,b⟩:=bI e ok h; ⟨w,S',a,b⟩
theorem di {i0:HJ}{e:E}{b:Ss}(j:HY)(I:HJ->Fm->aa->Prop)(oe:eN e=true)(ok:gM b=true)(hj : -(2 ^ 62)<=j/\j < 2 ^ 62)(he:wE Φ e ρ S λp=>p.1=.int j/\I 0 ρ p.2)
  (hstep:∀(i:HJ) (ρ:Fm) (S:aa),(i:HY) < j->I i ρ S->vh Φ fuel b (ρ.set i0 (gV (.int i))) S (I (i+1)) Q) (hend:∀ρ S,I j.toNat ρ S->K ρ S):Wp (gb Φ fuel (.loop (.nm i0) (.rng (.cons e .nil)) b) ρ S) (qU K Q):=by
 obtain⟨w,S1,e1,rfl,h0⟩:=cQ oe he;have hl:(dt 0 j.toNat).length=j.toNat:=by simp[dt]
 refine ic (mi:=.its (dt 0 j.toNat)) (S1:=S1) (xs:=dt 0 j.toNat) I ok ?_ (λ_ _ _ _=>rfl) rfl h0 (λi w ρ S hw hI=>?_) λρ S hI=>hend ρ S (hl ▸ hI)
 ·simp only[kN,dy,eC,hW,rD,e1];rw[Iv hj]
 ·rw[eD]at hw;split at hw
  ·rename_i hk;cases hw;rw[LM];exact hstep i ρ S (by omega) hI
  ·cases hw
theorem for_tup {tg:Tg}{e:E}{b:Ss}(xs:HC W)(I:HJ->Fm->aa->Prop)(oe:eN e=true)(ok:gM b=true)(he:wE Φ e ρ S λp=>p.1=.tup xs/\I 0 ρ p.2)
  (hstep:∀(i:HJ) (w:W) (ρ:Fm) (S:aa),xs[i]?=gV w->I i ρ S->wO (gK tg w ρ S) λq=>vh Φ fuel b q.1 q.2 (I (i+1)) Q) (hend:∀ρ S,I xs.length ρ S->K ρ S):Wp (gb Φ fuel (.loop tg (.seq e) b) ρ S) (qU K Q):=by
 obtain⟨w,S1,e1,rfl,h0⟩:=cQ oe he;exact ic (mi:=.its xs) (S1:=S1) I ok (by simp only[kN,fQ,e1]) (λ_ _ _ _=>rfl) rfl h0 hstep hend
theorem tm {tg:Tg}{e:E}{b:Ss}(t:HJ)(xs:HC W)(I:HJ->Fm->aa->Prop)(oe:eN e=true)(ok:gM b=true)(he:wE Φ e ρ S λp=>p.1=.ref t/\I 0 ρ p.2)(hat:∀i ρ S,I i ρ S->S[t]?=gV (.lst xs))
  (hstep:∀(i:HJ) (w:W) (ρ:Fm) (S:aa),xs[i]?=gV w->I i ρ S->wO (gK tg w ρ S) λq=>vh Φ fuel b q.1 q.2 (I (i+1)) Q) (hend:∀ρ S,I xs.length ρ S->K ρ S):Wp (gb Φ fuel (.loop tg (.seq e) b) ρ S) (qU K Q):=by
 obtain⟨w,S1,e1,rfl,h0⟩:=cQ oe he;exact ic (mi:=.live t) (S1:=S1) I ok (by simp only[kN,fQ,e1,aM (hat _ _ _ h0)]) (λi ρ S h=>by simp only[MI.at,aM (hat _ _ _ h)]) (by simp only[MI.len,aM (hat _ _ _ h0),IH]) h0 hstep hend
theorem Fz {t:E}{b:Ss}(I:HJ->Fm->aa->Prop)(m:HJ)(ot:eN t=true)(ok:gM b=true)(hm:m < fuel)(h0:I m ρ S)
  (hstep:∀m ρ S,I m ρ S->wT Φ t ρ S λk=>(k.1=true->∃m',m=m'+1/\vh Φ fuel b ρ k.2 (I m') Q)/\(k.1=false->K ρ k.2)):Wp (gb Φ fuel (.whl t b) ρ S) (qU K Q):=by
 rw[gb];refine kU (Q:=qU K Q) I (λm ρ S hI=>(iE t ot (hstep m ρ S hI)).mono λk hk=>⟨λz=>?_,λz=>hk.2 z⟩) fuel m ρ S hm h0
 obtain⟨m',e,h⟩:=hk.1 z;exact⟨m',e,jd b ok (wZ.out (h _ (λ_ _ h=>h) λ_ _ h=>h))⟩
noncomputable def wC (Φ:Ih->FF):Es->Fm->aa->QB->Prop
 | .nil,_,S,Q=>Q (true,S)
 | .cons e .nil,ρ,S,Q=>wT Φ e ρ S Q
 | .cons _ (.cons _ _),_,_,_=>Jn
theorem BN {cs:Es}{Q:QB}(ok:p7 cs=true)(h:wC Φ cs ρ S Q):Wp (At Φ cs ρ S) Q:=by
 match cs,h,ok with
 | .nil,h,_=>exact Fn.mpr h
 | .cons e .nil,h,ok=>exact Fo.mpr (iE e (dv ok) h)
noncomputable def je (Φ:Ih->FF)(elt:E)(cs:Es)(ρ:Fm)(S:aa)(G:W->Fm->aa->Prop)(N:Fm->aa->Prop):Prop:=wC Φ cs ρ S λk=>(k.1=true->wE Φ elt ρ k.2 λy=>G y.1 ρ y.2)/\(k.1=false->N ρ k.2)
theorem kX {elt:E}{tg:Tg}{it:Ie}{cs:Es}{cap:HC (HI HJ)}{mi:MI}{S1:aa}{xs:HC W}{Q:QW}(I:HJ->HC W->Fm->aa->Prop)(oe:eN elt=true)(oc:p7 cs=true)(hi:kN Φ it ρ S=gV (mi,S1))(hat:∀i ys ρ S,I i ys ρ S->mi.at S i=gV xs[i]?)(hl:mi.len S1=gV xs.length)(h0:I 0 [] (fS cap ρ) S1)
  (hstep:∀(i:HJ) (w:W) (ys:HC W) (ρ:Fm) (S:aa),xs[i]?=gV w->I i ys ρ S->wO (gK tg w ρ S) λq=>je Φ elt cs q.1 q.2 (λy=>I (i+1) (ys++[y])) (I (i+1) ys))
  (hend:∀ys ρ S,I xs.length ys ρ S->ys.length<=sizeLine/\Q (.ref S.length,S++[.lst ys])):Wp (aK Φ (.comp elt tg it cs cap) ρ S) Q:=by
 rw[xr];refine⟨_,hi,xs.length,hl,?_⟩;refine(d6 (xs:=xs) (Q:=λq=>q.1.length<=sizeLine/\Q (.ref q.2.length,q.2++[.lst q.1])) I hat (λi w ys ρ S h1 h2=>?_) hend xs.length 0 [] _ S1 (by omega) h0).mono λq hq=>by simpa using hq
 exact(cU (hstep i w ys ρ S h1 h2)).mono λq hq=>(BN oc hq).mono λk hk=>⟨λz=>bI elt oe (hk.1 z),hk.2⟩
theorem dG {elt e:E}{i0:HJ}{cs:Es}{cap:HC (HI HJ)}{Q:QW}(j:HY)(I:HJ->HC W->Fm->aa->Prop)(oi:eN e=true)(oe:eN elt=true)(oc:p7 cs=true)(hj : -(2 ^ 62)<=j/\j < 2 ^ 62)(he:wE Φ e ρ S λp=>p.1=.int j/\I 0 [] (fS cap ρ) p.2)
  (hstep:∀(i:HJ) (ys:HC W) (ρ:Fm) (S:aa),(i:HY) < j->I i ys ρ S->je Φ elt cs (ρ.set i0 (gV (.int i))) S (λy=>I (i+1) (ys++[y])) (I (i+1) ys))
  (hend:∀ys ρ S,I j.toNat ys ρ S->ys.length<=sizeLine/\Q (.ref S.length,S++[.lst ys])):Wp (aK Φ (.comp elt (.nm i0) (.rng (.cons e .nil)) cs cap) ρ S) Q:=by
 obtain⟨w,S1,e1,rfl,h0⟩:=cQ oi he;have hl:(dt 0 j.toNat).length=j.toNat:=by simp[dt]
 refine kX (mi:=.its (dt 0 j.toNat)) (S1:=S1) (xs:=dt 0 j.toNat) I oe oc ?_ (λ_ _ _ _ _=>rfl) rfl h0 (λi w ys ρ S hw hI=>?_) λys ρ S hI=>hend ys ρ S (hl ▸ hI)
 ·simp only[kN,dy,eC,hW,rD,e1];rw[Iv hj]
 ·rw[eD]at hw;split at hw
  ·rename_i hk;cases hw;rw[LM];exact hstep i ys ρ S (by omega) hI
  ·cases hw
theorem tq {elt e:E}{tg:Tg}{cs:Es}{cap:HC (HI HJ)}{Q:QW}(xs:HC W)(I:HJ->HC W->Fm->aa->Prop)(oi:eN e=true)(oe:eN elt=true)(oc:p7 cs=true)(he:wE Φ e ρ S λp=>p.1=.tup xs/\I 0 [] (fS cap ρ) p.2)
  (hstep:∀(i:HJ) (w:W) (ys:HC W) (ρ:Fm) (S:aa),xs[i]?=gV w->I i ys ρ S->wO (gK tg w ρ S) λq=>je Φ elt cs q.1 q.2 (λy=>I (i+1) (ys++[y])) (I (i+1) ys))
  (hend:∀ys ρ S,I xs.length ys ρ S->ys.length<=sizeLine/\Q (.ref S.length,S++[.lst ys])):Wp (aK Φ (.comp elt tg (.seq e) cs cap) ρ S) Q:=by
 obtain⟨w,S1,e1,rfl,h0⟩:=cQ oi he;exact kX (mi:=.its xs) (S1:=S1) I oe oc (by simp only[kN,fQ,e1]) (λ_ _ _ _ _=>rfl) rfl h0 hstep hend
theorem tt {elt e:E}{tg:Tg}{cs:Es}{cap:HC (HI HJ)}{Q:QW}(t:HJ)(xs:HC W)(I:HJ->HC W->Fm->aa->Prop)(oi:eN e=true)(oe:eN elt=true)(oc:p7 cs=true)(he:wE Φ e ρ S λp=>p.1=.ref t/\I 0 [] (fS cap ρ) p.2)(hat:∀i ys ρ S,I i ys ρ S->S[t]?=gV (.lst xs))
  (hstep:∀(i:HJ) (w:W) (ys:HC W) (ρ:Fm) (S:aa),xs[i]?=gV w->I i ys ρ S->wO (gK tg w ρ S) λq=>je Φ elt cs q.1 q.2 (λy=>I (i+1) (ys++[y])) (I (i+1) ys))
  (hend:∀ys ρ S,I xs.length ys ρ S->ys.length<=sizeLine/\Q (.ref S.length,S++[.lst ys])):Wp (aK Φ (.comp elt tg (.seq e) cs cap) ρ S) Q:=by
 obtain⟨w,S1,e1,rfl,h0⟩:=cQ oi he;exact kX (mi:=.live t) (S1:=S1) I oe oc (by simp only[kN,fQ,e1,aM (hat _ _ _ _ h0)]) (λi ys ρ S h=>by simp only[MI.at,aM (hat _ _ _ _ h)]) (by simp only[MI.len,aM (hat _ _ _ _ h0),IH]) h0 hstep hend
theorem AC {elt a:E}{tg:Tg}{cs:Es}{cap:HC (HI HJ)}{Q:QW}(xs:HC W)(I:HJ->HC W->Fm->aa->Prop)(oa:eN a=true)(oe:eN elt=true)(oc:p7 cs=true)(he:wE Φ a ρ S λp=>GP p.1=gV xs/\I 0 [] (fS cap ρ) p.2)
  (hstep:∀(i:HJ) (x:W) (ys:HC W) (ρ:Fm) (S:aa),xs[i]?=gV x->I i ys ρ S->wO (gK tg (.tup [.int i,x]) ρ S) λq=>je Φ elt cs q.1 q.2 (λy=>I (i+1) (ys++[y])) (I (i+1) ys))
  (hend:∀ys ρ S,I xs.length ys ρ S->ys.length<=sizeLine/\Q (.ref S.length,S++[.lst ys])):Wp (aK Φ (.comp elt tg (.enu (.cons a .nil)) cs cap) ρ S) Q:=by
 obtain⟨x,S1,e1,h1,h0⟩:=cQ oa he;have hl:(nY xs).length=xs.length:=by simp[nY]
 refine kX (mi:=.its (nY xs)) (S1:=S1) (xs:=nY xs) I oe oc (by simp only[kN,dy,eC,hW,Ar,e1,h1]) (λ_ _ _ _ _=>rfl) rfl h0 (λi w ys ρ S hw hI=>?_) λys ρ S hI=>hend ys ρ S (hl ▸ hI)
 obtain⟨y,hy,rfl⟩:=pV hw;exact hstep i y ys ρ S hy hI
theorem st {s:Sm}{ss:Ss}(h:wS Φ fuel s ρ S (λρ' S'=>wZ Φ fuel ss ρ' S' Q) Q):wZ Φ fuel (.cons s ss) ρ S Q:=⟨by
 dsimp only[AB];simp only[Fy];exact h⟩
theorem b7 (h:Q (.nx ρ,S)):wZ Φ fuel .nil ρ S Q:=⟨h⟩
theorem aq {t:Ir}{a b:Ss}{Q Q0:QO}{K:Fm->aa->Prop}(ha:t=true->∀Q':QO,(∀ρ' S',K ρ' S'->Q' (.nx ρ',S'))->(∀w S',Q (.rt w,S')->Q' (.rt w,S'))->wZ Φ fuel a ρ S Q')(hb:t=false->∀Q':QO,(∀ρ' S',K ρ' S'->Q' (.nx ρ',S'))->(∀w S',Q (.rt w,S')->Q' (.rt w,S'))->wZ Φ fuel b ρ S Q') :
  ∀Q':QO,(∀ρ' S',K ρ' S'->Q' (.nx ρ',S'))->(∀o S',(∀ρ',o≠.nx ρ')->Q (o,S')->Q' (o,S'))->(t=true->AB Φ fuel a ρ S Q')/\(t=false->AB Φ fuel b ρ S Q'):=
 λQ' h1 h2=>⟨λe=>(ha e Q' h1 λw S'=>h2 (.rt w) S' (λ_ z=>nomatch z)).out,λe=>(hb e Q' h1 λw S'=>h2 (.rt w) S' (λ_ z=>nomatch z)).out⟩
end
noncomputable def eG:Ss:=
 (.cons (.ret (.lst (.cons (.bi .list (.cons (.v 0) .nil)) (.cons (.c (.int 0)) (.cons (.c (.int 0)) (.cons (.c (.int 1)) (.cons (.c (.int 0)) .nil)))))))
 .nil)
noncomputable def c7:Ss:=
 (.cons (.ite (.and (.cmp .eq (.ix (.v 0) (.c (.int 2))) (.c (.int 0))) (.cmp .lt (.ix (.v 0) (.c (.int 1))) (.bi .len (.cons (.ix (.v 0) (.c (.int 0))) .nil)))) (.cons (.set 2 (.ix (.ix (.v 0) (.c (.int 0))) (.ix (.v 0) (.c (.int 1)))))
 (.cons (.put (.v 0) (.c (.int 1)) (.op .add (.ix (.v 0) (.c (.int 1))) (.c (.int 1))))
 (.cons (.ite (.cmp .ge (.v 2) (.op .pow (.c (.int 10)) (.c (.int 18)))) (.cons (.put (.v 0) (.c (.int 2)) (.v 2))
 .nil) (.cons (.put (.v 0) (.c (.int 3)) (.op .mod (.op .add (.op .add (.op .mul (.ix (.v 0) (.c (.int 3))) (.c (.int 40013))) (.op .mod (.v 2) (.c (.int 1000003)))) (.c (.int 1))) (.c (.int 2147483647))))
 .nil))
 .nil))) .nil)
 (.cons (.ite (.cmp .gt (.ix (.v 0) (.c (.int 2))) (.c (.int 0))) (.cons (.set 3 (.op .mod (.ix (.v 0) (.c (.int 2))) (.v 1)))
 (.cons (.put (.v 0) (.c (.int 2)) (.op .fdiv (.ix (.v 0) (.c (.int 2))) (.v 1)))
 (.cons (.ret (.v 3))
 .nil))) .nil)
 (.cons (.put (.v 0) (.c (.int 4)) (.op .add (.ix (.v 0) (.c (.int 4))) (.c (.int 1))))
 (.cons (.put (.v 0) (.c (.int 3)) (.op .mod (.op .add (.op .add (.op .mul (.ix (.v 0) (.c (.int 3))) (.c (.int 48271))) (.c (.int 12820163))) (.ix (.v 0) (.c (.int 4)))) (.c (.int 2147483647))))
 (.cons (.ret (.op .mod (.op .fdiv (.op .mod (.op .mul (.op .add (.op .mod (.ix (.v 0) (.c (.int 3))) (.c (.int 65521))) (.c (.int 1))) (.op .add (.op .fdiv (.ix (.v 0) (.c (.int 3))) (.c (.int 65521))) (.c (.int 7919)))) (.c (.int 1000003))) (.c (.int 7))) (.v 1)))
 .nil)))))
noncomputable def dH:Ss:=
 (.cons (.ite (.cmp .lt (.v 3) (.v 2)) (.cons (.ret (.ix (.ix (.ix (.v 1) (.v 2)) (.c (.int 1))) (.v 3)))
 .nil) .nil)
 (.cons (.ret (.ix (.ix (.ix (.v 0) (.c (.int 1))) (.ix (.ix (.ix (.v 1) (.v 3)) (.c (.int 1))) (.v 2))) (.c (.int 1))))
 .nil))
noncomputable def fG:Ss:=
 (.cons (.set 3 (.lst .nil))
 (.cons (.loop (.nm 4) (.rng (.cons (.bi .len (.cons (.v 2) .nil)) .nil)) (.cons (.set 5 (.ix (.v 2) (.v 4)))
 (.cons (.ex (.me .append (.v 3) (.cons (.tup (.cons (.ix (.ix (.v 1) (.v 5)) (.c (.int 0))) (.cons (.bi .tuple (.cons (.comp (.own "_law_between" 4 (.cons (.v 3) (.cons (.v 4) (.cons (.v 2) (.cons (.v 1) .nil))))) (.nm 1) (.seq (.sl (.v 2) .no (.yes (.v 4)))) .nil [td,td,gV 5,gV 0,gV 1]) .nil)) .nil))) .nil)))
 .nil)))
 (.cons (.ret (.bi .tuple (.cons (.v 3) .nil)))
 .nil)))
noncomputable def gf:Ss:=
 (.cons (.ret (.lst (.cons (.tup (.cons (.c (.int 0)) (.cons (.c (.int 1)) (.cons (.c (.int 2)) .nil)))) (.cons (.tup (.cons (.c (.int 0)) (.cons (.c (.int 2)) (.cons (.c (.int 1)) .nil)))) (.cons (.tup (.cons (.c (.int 1)) (.cons (.c (.int 0)) (.cons (.c (.int 2)) .nil)))) (.cons (.tup (.cons (.c (.int 1)) (.cons (.c (.int 2)) (.cons (.c (.int 0)) .nil)))) (.cons (.tup (.cons (.c (.int 2)) (.cons (.c (.int 0)) (.cons (.c (.int 1)) .nil)))) (.cons (.tup (.cons (.c (.int 2)) (.cons (.c (.int 1)) (.cons (.c (.int 0)) .nil)))) .nil))))))))
 .nil)
noncomputable def d7:Ss:=
 (.cons (.ret (.bi .min (.cons (.comp (.own "_law_part" 3 (.cons (.v 2) (.cons (.v 3) (.cons (.v 1) .nil)))) (.nm 1) (.seq (.own "_law_turns" 0 .nil)) .nil [td,td,gV 0,gV 1]) .nil)))
 .nil)
noncomputable def eS:Ss:=
 (.cons (.set 2 (.ix (.lst (.cons (.lst (.cons (.tup (.cons (.c (.int 0)) .nil)) .nil)) (.cons (.lst (.cons (.tup (.cons (.c (.int 0)) (.cons (.c (.int 1)) .nil))) (.cons (.tup (.cons (.c (.int 1)) (.cons (.c (.int 0)) .nil))) .nil))) (.cons (.lst (.cons (.tup (.cons (.c (.int 0)) (.cons (.c (.int 1)) (.cons (.c (.int 2)) .nil)))) (.cons (.tup (.cons (.c (.int 1)) (.cons (.c (.int 0)) (.cons (.c (.int 2)) .nil)))) (.cons (.tup (.cons (.c (.int 0)) (.cons (.c (.int 2)) (.cons (.c (.int 1)) .nil)))) .nil)))) .nil)))) (.op .sub (.v 1) (.c (.int 1)))))
 (.cons (.ret (.ix (.v 2) (.own "_law_pick" 2 (.cons (.v 0) (.cons (.bi .len (.cons (.v 2) .nil)) .nil)))))
 .nil))
noncomputable def dI:Ss:=
 (.cons (.set 4 (.own "_law_names" 2 (.cons (.v 0) (.cons (.op .add (.v 1) (.bi .len (.cons (.v 2) .nil))) .nil))))
 (.cons (.set 5 (.bi .tuple (.cons (.comp (.tup (.cons (.ix (.v 4) (.op .add (.v 3) (.v 1))) (.cons (.ix (.v 2) (.v 1)) .nil))) (.nm 1) (.rng (.cons (.bi .len (.cons (.v 2) .nil)) .nil)) .nil [td,td,gV 2,gV 1,gV 4]) .nil)))
 (.cons (.ret (.tup (.cons (.sl (.v 4) .no (.yes (.v 1))) (.cons (.v 5) (.cons (.bi .tuple (.cons (.bi .sorted (.cons (.v 3) .nil)) .nil)) .nil)))))
 .nil)))
noncomputable def cK:Ss:=
 (.cons (.set 3 (.lst .nil))
 (.cons (.loop (.nm 4) (.rng (.cons (.c (.int 3)) .nil)) (.cons (.ex (.me .append (.v 3) (.cons (.tup (.cons (.own "_law_pick" 2 (.cons (.v 0) (.cons (.v 1) .nil))) (.cons (.bi .tuple (.cons (.comp (.own "_law_pick" 2 (.cons (.v 2) (.cons (.v 3) .nil))) (.nm 1) (.rng (.cons (.v 4) .nil)) .nil [td,td,gV 0,gV 2]) .nil)) .nil))) .nil)))
 .nil))
 (.cons (.ret (.bi .tuple (.cons (.v 3) .nil)))
 .nil)))
noncomputable def eT:Ss:=
 (.cons (.set 1 (.lst (.cons (.tup (.cons (.c (.int 1)) (.cons (.c (.int 1)) .nil))) (.cons (.tup (.cons (.c (.int 2)) (.cons (.c (.int 1)) .nil))) (.cons (.tup (.cons (.c (.int 3)) (.cons (.c (.int 1)) .nil))) (.cons (.tup (.cons (.c (.int 1)) (.cons (.c (.int 2)) .nil))) (.cons (.tup (.cons (.c (.int 1)) (.cons (.c (.int 2)) .nil))) (.cons (.tup (.cons (.c (.int 2)) (.cons (.c (.int 2)) .nil))) (.cons (.tup (.cons (.c (.int 2)) (.cons (.c (.int 2)) .nil))) (.cons (.tup (.cons (.c (.int 3)) (.cons (.c (.int 2)) .nil))) (.cons (.tup (.cons (.c (.int 1)) (.cons (.c (.int 3)) .nil))) (.cons (.tup (.cons (.c (.int 1)) (.cons (.c (.int 3)) .nil))) (.cons (.tup (.cons (.c (.int 2)) (.cons (.c (.int 3)) .nil))) .nil)))))))))))))
 (.cons (.ret (.ix (.v 1) (.own "_law_pick" 2 (.cons (.v 0) (.cons (.c (.int 11)) .nil)))))
 .nil))
noncomputable def dj:Ss:=
 (.cons (.asg [1,2] (.own "_law_sizes" 1 (.cons (.v 0) .nil)))
 (.cons (.set 3 (.own "_law_rule_of" 4 (.cons (.v 0) (.cons (.v 1) (.cons (.own "_law_backs" 2 (.cons (.v 0) (.cons (.v 2) .nil))) (.cons (.tup .nil) .nil))))))
 (.cons (.set 4 .dnew)
 (.cons (.loop (.nm 5) (.rng (.cons (.own "_law_pick" 2 (.cons (.v 0) (.cons (.c (.int 9)) .nil))) .nil)) (.cons (.put (.v 4) (.own "_law_figure" 2 (.cons (.v 3) (.cons (.own "_law_free_three" 3 (.cons (.v 0) (.cons (.v 1) (.cons (.v 2) .nil)))) .nil))) (.c (.bl true)))
 .nil))
 (.cons (.ret (.tup (.cons (.ix (.v 3) (.c (.int 0))) (.cons (.ix (.v 3) (.c (.int 1))) (.cons (.bi .tuple (.cons (.bi .sorted (.cons (.v 4) .nil)) .nil)) .nil)))))
 .nil)))))
noncomputable def cF:Ss:=
 (.cons (.set 1 (.lst (.cons (.tup (.cons (.tup (.cons (.c (.int 1)) (.cons (.c (.int 0)) .nil))) (.cons (.disp (.cons (.tup (.cons (.c (.int 0)) (.cons (.c (.int 0)) .nil))) (.cons (.lst (.cons (.c (.int 0)) .nil)) .nil))) (.cons (.c (.int 3)) .nil)))) (.cons (.tup (.cons (.tup (.cons (.c (.int 0)) (.cons (.c (.int 2)) (.cons (.c (.int 1)) .nil)))) (.cons (.disp (.cons (.tup (.cons (.c (.int 1)) (.cons (.c (.int 1)) .nil))) (.cons (.lst (.cons (.c (.int 1)) .nil)) .nil))) (.cons (.c (.int 2)) .nil)))) (.cons (.tup (.cons (.tup (.cons (.c (.int 0)) (.cons (.c (.int 1)) .nil))) (.cons (.disp (.cons (.tup (.cons (.c (.int 1)) (.cons (.c (.int 1)) .nil))) (.cons (.lst (.cons (.c (.int 1)) .nil)) .nil))) (.cons (.c (.int 3)) .nil)))) .nil)))))
 (.cons (.ex (.me .append (.v 1) (.cons (.tup (.cons (.tup (.cons (.c (.int 0)) (.cons (.c (.int 1)) .nil))) (.cons (.disp (.cons (.tup (.cons (.c (.int 1)) (.cons (.c (.int 1)) .nil))) (.cons (.lst (.cons (.c (.int 1)) .nil)) (.cons (.tup (.cons (.c (.int 0)) (.cons (.c (.int 0)) .nil))) (.cons (.lst (.cons (.c (.int 1)) .nil)) .nil))))) (.cons (.c (.int 3)) .nil)))) .nil)))
 (.cons (.ex (.me .append (.v 1) (.cons (.tup (.cons (.tup (.cons (.c (.int 0)) (.cons (.c (.int 1)) .nil))) (.cons (.disp (.cons (.tup (.cons (.c (.int 1)) (.cons (.c (.int 1)) .nil))) (.cons (.lst .nil) .nil))) (.cons (.c (.int 1)) .nil)))) .nil)))
 (.cons (.ex (.me .append (.v 1) (.cons (.tup (.cons (.tup (.cons (.c (.int 0)) (.cons (.c (.int 2)) (.cons (.c (.int 1)) .nil)))) (.cons (.disp (.cons (.tup (.cons (.c (.int 0)) (.cons (.c (.int 0)) .nil))) (.cons (.lst (.cons (.c (.int 0)) .nil)) (.cons (.tup (.cons (.c (.int 0)) (.cons (.c (.int 1)) .nil))) (.cons (.lst (.cons (.c (.int 1)) .nil)) (.cons (.tup (.cons (.c (.int 1)) (.cons (.c (.int 0)) .nil))) (.cons (.lst (.cons (.c (.int 1)) .nil)) (.cons (.tup (.cons (.c (.int 1)) (.cons (.c (.int 1)) .nil))) (.cons (.lst (.cons (.c (.int 1)) .nil)) .nil))))))))) (.cons (.c (.int 2)) .nil)))) .nil)))
 (.cons (.ex (.me .append (.v 1) (.cons (.tup (.cons (.tup (.cons (.c (.int 1)) (.cons (.c (.int 0)) .nil))) (.cons .dnew (.cons (.c (.int 3)) .nil)))) .nil)))
 (.cons (.ex (.me .append (.v 1) (.cons (.tup (.cons (.tup (.cons (.c (.int 0)) (.cons (.c (.int 1)) (.cons (.c (.int 2)) .nil)))) (.cons (.disp (.cons (.tup (.cons (.c (.int 2)) (.cons (.c (.int 2)) .nil))) (.cons (.lst (.cons (.c (.int 2)) .nil)) (.cons (.tup (.cons (.c (.int 1)) (.cons (.c (.int 2)) .nil))) (.cons (.lst (.cons (.c (.int 1)) .nil)) (.cons (.tup (.cons (.c (.int 2)) (.cons (.c (.int 1)) .nil))) (.cons (.lst (.cons (.c (.int 1)) .nil)) (.cons (.tup (.cons (.c (.int 1)) (.cons (.c (.int 1)) .nil))) (.cons (.lst (.cons (.c (.int 1)) (.cons (.c (.int 2)) .nil))) .nil))))))))) (.cons (.c (.int 2)) .nil)))) .nil)))
 (.cons (.ex (.me .append (.v 1) (.cons (.tup (.cons (.tup (.cons (.c (.int 0)) (.cons (.c (.int 1)) (.cons (.c (.int 2)) .nil)))) (.cons (.disp (.cons (.tup (.cons (.c (.int 0)) (.cons (.c (.int 0)) .nil))) (.cons (.lst (.cons (.c (.int 0)) (.cons (.c (.int 1)) .nil))) .nil))) (.cons (.c (.int 2)) .nil)))) .nil)))
 (.cons (.ret (.ix (.v 1) (.own "_law_pick" 2 (.cons (.v 0) (.cons (.c (.int 9)) .nil)))))
 .nil))))))))
noncomputable def d8:Ss:=
 (.cons (.set 5 (.disp (.cons (.tup (.cons (.c (.int 1)) (.cons (.c (.int 0)) .nil))) (.cons (.v 2) (.cons (.tup (.cons (.c (.int 2)) (.cons (.c (.int 0)) .nil))) (.cons (.v 3) (.cons (.tup (.cons (.c (.int 2)) (.cons (.c (.int 1)) .nil))) (.cons (.v 4) .nil))))))))
 (.cons (.loop (.nm 6) (.seq (.bi .list (.cons (.v 5) .nil))) (.cons (.put (.v 5) (.tup (.cons (.ix (.v 6) (.c (.int 1))) (.cons (.ix (.v 6) (.c (.int 0))) .nil))) (.ix (.v 0) (.ix (.v 5) (.v 6))))
 .nil))
 (.cons (.loop (.tp [7,8,9]) (.seq (.own "_law_turns" 0 .nil)) (.cons (.ite (.cmp .notin (.ix (.v 5) (.tup (.cons (.v 7) (.cons (.v 9) .nil)))) (.me .get (.v 1) (.cons (.tup (.cons (.ix (.v 5) (.tup (.cons (.v 7) (.cons (.v 8) .nil)))) (.cons (.ix (.v 5) (.tup (.cons (.v 8) (.cons (.v 9) .nil)))) .nil))) (.cons (.lst (.cons (.ix (.v 5) (.tup (.cons (.v 7) (.cons (.v 9) .nil)))) .nil)) .nil)))) (.cons (.ret (.c (.bl true)))
 .nil) .nil)
 .nil))
 (.cons (.ret (.c (.bl false)))
 .nil))))
noncomputable def bV:Ss:=
 (.cons (.set 3 (.bi .len (.cons (.v 1) .nil)))
 (.cons (.set 4 (.lst (.cons (.lst (.cons (.tup (.cons (.c (.int 0)) .nil)) .nil)) (.cons (.lst (.cons (.tup (.cons (.c (.int 0)) (.cons (.c (.int 1)) .nil))) (.cons (.tup (.cons (.c (.int 1)) (.cons (.c (.int 0)) .nil))) .nil))) .nil))))
 (.cons (.ex (.me .append (.v 4) (.cons (.lst (.cons (.tup (.cons (.c (.int 0)) (.cons (.c (.int 1)) (.cons (.c (.int 2)) .nil)))) (.cons (.tup (.cons (.c (.int 0)) (.cons (.c (.int 2)) (.cons (.c (.int 1)) .nil)))) (.cons (.tup (.cons (.c (.int 2)) (.cons (.c (.int 0)) (.cons (.c (.int 1)) .nil)))) (.cons (.tup (.cons (.c (.int 2)) (.cons (.c (.int 1)) (.cons (.c (.int 0)) .nil)))) .nil))))) .nil)))
 (.cons (.set 5 (.ix (.v 4) (.op .sub (.v 3) (.c (.int 1)))))
 (.cons (.ite (.cmp .eq (.v 1) (.tup (.cons (.c (.int 0)) (.cons (.c (.int 1)) (.cons (.c (.int 2)) .nil))))) (.cons (.set 5 (.own "_law_turns" 0 .nil))
 .nil) .nil)
 (.cons (.set 6 (.ix (.v 5) (.own "_law_pick" 2 (.cons (.v 0) (.cons (.bi .len (.cons (.v 5) .nil)) .nil)))))
 (.cons (.set 7 (.op .mul (.lst (.cons (.c (.int 0)) .nil)) (.v 3)))
 (.cons (.loop (.nm 8) (.rng (.cons (.v 3) .nil)) (.cons (.put (.v 7) (.ix (.v 6) (.v 8)) (.ix (.v 6) (.ix (.v 1) (.v 8))))
 .nil))
 (.cons (.set 9 .dnew)
 (.cons (.loop (.tp [10,11]) (.seq (.v 2)) (.cons (.put (.v 9) (.tup (.cons (.ix (.v 6) (.v 10)) (.cons (.ix (.v 6) (.v 11)) .nil))) (.comp (.ix (.v 2) (.v 1)) (.nm 1) (.seq (.ix (.v 2) (.tup (.cons (.v 10) (.cons (.v 11) .nil))))) .nil [td,td,gV 6]))
 .nil))
 (.cons (.ret (.tup (.cons (.bi .tuple (.cons (.v 7) .nil)) (.cons (.v 9) .nil))))
 .nil)))))))))))
noncomputable def cG:Ss:=
 (.cons (.set 1 (.own "_law_pick" 2 (.cons (.v 0) (.cons (.c (.int 7)) .nil))))
 (.cons (.ite (.cmp .eq (.v 1) (.c (.int 0))) (.cons (.ret (.own "_law_free_rule" 1 (.cons (.v 0) .nil)))
 .nil) .nil)
 (.cons (.ite (.cmp .eq (.v 1) (.c (.int 1))) (.cons (.ret (.own "_law_one_way_rule" 1 (.cons (.v 0) .nil)))
 .nil) .nil)
 (.cons (.asg [2,3,4] (.own "_law_laying_kind" 1 (.cons (.v 0) .nil)))
 (.cons (.set 5 (.op .add (.c (.int 1)) (.own "_law_pick" 2 (.cons (.v 0) (.cons (.v 4) .nil)))))
 (.cons (.asg [2,3] (.own "_law_numbered" 3 (.cons (.v 0) (.cons (.v 2) (.cons (.v 3) .nil)))))
 (.cons (.set 6 (.own "_law_rule_of" 4 (.cons (.v 0) (.cons (.v 5) (.cons (.v 2) (.cons (.tup .nil) .nil))))))
 (.cons (.set 7 .dnew)
 (.cons (.set 8 (.bi .len (.cons (.v 2) .nil)))
 (.cons (.loop (.nm 9) (.rng (.cons (.op .mul (.op .mul (.v 8) (.v 8)) (.v 8)) .nil)) (.cons (.par 10 11 (.cons (.op .mod (.v 9) (.v 8)) (.cons (.op .mod (.op .fdiv (.v 9) (.v 8)) (.v 8)) .nil)))
 (.cons (.set 12 (.op .fdiv (.op .fdiv (.v 9) (.v 8)) (.v 8)))
 (.cons (.ite (.own "_law_breaks" 5 (.cons (.v 2) (.cons (.v 3) (.cons (.v 10) (.cons (.v 11) (.cons (.v 12) .nil)))))) (.cons (.loop (.nm 13) (.seq (.own "_law_rising" 1 (.cons (.v 5) .nil))) (.cons (.set 14 (.tup (.cons (.tup (.cons (.ix (.v 13) (.c (.int 0))) (.cons (.tup .nil) .nil))) (.cons (.tup (.cons (.ix (.v 13) (.c (.int 1))) (.cons (.tup (.cons (.v 10) .nil)) .nil))) .nil))))
 (.cons (.put (.v 7) (.own "_law_figure" 2 (.cons (.v 6) (.cons (.op .add (.v 14) (.tup (.cons (.tup (.cons (.ix (.v 13) (.c (.int 2))) (.cons (.tup (.cons (.v 11) (.cons (.v 12) .nil))) .nil))) .nil))) .nil))) (.c (.bl true)))
 .nil)))
 .nil) .nil)
 .nil))))
 (.cons (.ret (.tup (.cons (.ix (.v 6) (.c (.int 0))) (.cons (.ix (.v 6) (.c (.int 1))) (.cons (.bi .tuple (.cons (.bi .sorted (.cons (.v 7) .nil)) .nil)) .nil)))))
 .nil)))))))))))
noncomputable def ec:Ss:=
 (.cons (.set 1 (.lst .nil))
 (.cons (.loop (.nm 2) (.rng (.cons (.v 0) .nil)) (.cons (.loop (.nm 3) (.rng2 (.cons (.v 2) (.cons (.v 0) .nil))) (.cons (.set 1 (.op .add (.v 1) (.comp (.tup (.cons (.v 2) (.cons (.v 3) (.cons (.v 1) .nil)))) (.nm 1) (.rng2 (.cons (.v 3) (.cons (.v 0) .nil))) .nil [td,td,gV 2,gV 3])))
 .nil))
 .nil))
 (.cons (.ret (.v 1))
 .nil)))
noncomputable def cW:Ss:=
 (.cons (.asg [1,2] (.own "_law_sizes" 1 (.cons (.v 0) .nil)))
 (.cons (.set 3 (.own "_law_rule_of" 4 (.cons (.v 0) (.cons (.v 1) (.cons (.own "_law_backs" 2 (.cons (.v 0) (.cons (.v 2) .nil))) (.cons (.tup .nil) .nil))))))
 (.cons (.set 5 (.comp (.v 1) (.nm 1) (.rng (.cons (.v 2) .nil)) (.cons (.cmp .eq (.ix (.ix (.ix (.v 2) (.c (.int 1))) (.v 1)) (.c (.int 1))) (.v 1)) .nil) [td,td,gV 3]))
 (.cons (.ite (.or (.cmp .eq (.v 5) (.lst .nil)) (.cmp .eq (.v 2) (.c (.int 1)))) (.cons (.ret (.v 3))
 .nil) .nil)
 (.cons (.set 6 (.ix (.v 5) (.own "_law_pick" 2 (.cons (.v 0) (.cons (.bi .len (.cons (.v 5) .nil)) .nil)))))
 (.cons (.set 7 .dnew)
 (.cons (.loop (.nm 4) (.rng (.cons (.own "_law_pick" 2 (.cons (.v 0) (.cons (.c (.int 9)) .nil))) .nil)) (.cons (.set 8 (.own "_law_free_three" 3 (.cons (.v 0) (.cons (.v 1) (.cons (.v 2) .nil)))))
 (.cons (.ite (.and (.cmp .ne (.ix (.ix (.ix (.v 8) (.c (.int 1))) (.c (.int 1))) (.c (.int 0))) (.v 6)) (.cmp .notin (.v 6) (.ix (.ix (.v 8) (.c (.int 2))) (.c (.int 1))))) (.cons (.put (.v 7) (.own "_law_figure" 2 (.cons (.v 3) (.cons (.v 8) .nil))) (.c (.bl true)))
 .nil) .nil)
 .nil)))
 (.cons (.ret (.tup (.cons (.ix (.v 3) (.c (.int 0))) (.cons (.ix (.v 3) (.c (.int 1))) (.cons (.bi .tuple (.cons (.bi .sorted (.cons (.v 7) .nil)) .nil)) .nil)))))
 .nil))))))))
noncomputable def cx:Ss:=
 (.cons (.set 1 (.op .add (.c (.int 1)) (.own "_law_pick" 2 (.cons (.v 0) (.cons (.c (.int 3)) .nil)))))
 (.cons (.set 2 (.comp (.tup (.cons (.tup (.cons (.v 1) (.cons (.tup .nil) .nil))) (.cons (.tup (.cons (.v 1) (.cons (.tup (.cons (.c (.int 0)) .nil)) .nil))) (.cons (.tup (.cons (.v 1) (.cons (.tup (.cons (.c (.int 0)) (.cons (.c (.int 0)) .nil))) .nil))) .nil)))) (.nm 1) (.rng (.cons (.v 1) .nil)) (.cons (.cmp .eq (.own "_law_pick" 2 (.cons (.v 2) (.cons (.c (.int 2)) .nil))) (.c (.int 0))) .nil) [td,td,gV 0]))
 (.cons (.ret (.own "_law_rule_of" 4 (.cons (.v 0) (.cons (.v 1) (.cons (.tup (.cons (.c (.int 0)) .nil)) (.cons (.v 2) .nil))))))
 .nil)))
noncomputable def bG:Ss:=
 (.cons (.set 1 (.own "_law_pick" 2 (.cons (.v 0) (.cons (.c (.int 3)) .nil))))
 (.cons (.ite (.cmp .eq (.v 1) (.c (.int 0))) (.cons (.ret (.own "_law_rule_of" 4 (.cons (.v 0) (.cons (.c (.int 1)) (.cons (.tup (.cons (.c (.int 0)) (.cons (.c (.int 1)) .nil))) (.cons (.comp (.tup (.cons (.tup (.cons (.c (.int 0)) (.cons (.tup .nil) .nil))) (.cons (.tup (.cons (.c (.int 0)) (.cons (.tup (.cons (.v 1) .nil)) .nil))) (.cons (.tup (.cons (.c (.int 0)) (.cons (.tup (.cons (.v 1) (.cons (.v 1) .nil))) .nil))) .nil)))) (.nm 1) (.rng (.cons (.c (.int 2)) .nil)) .nil [td,td]) .nil))))))
 .nil) .nil)
 (.cons (.ite (.cmp .eq (.v 1) (.c (.int 1))) (.cons (.set 2 (.own "_law_rule_of" 4 (.cons (.v 0) (.cons (.c (.int 2)) (.cons (.tup (.cons (.c (.int 0)) (.cons (.c (.int 1)) .nil))) (.cons (.tup .nil) .nil))))))
 (.cons (.set 3 .dnew)
 (.cons (.loop (.nm 4) (.seq (.own "_law_rising" 1 (.cons (.c (.int 2)) .nil))) (.cons (.loop (.tp [5,6,7]) (.seq (.lst (.cons (.tup (.cons (.c (.int 1)) (.cons (.c (.int 1)) (.cons (.c (.int 0)) .nil)))) (.cons (.tup (.cons (.c (.int 1)) (.cons (.c (.int 1)) (.cons (.c (.int 1)) .nil)))) (.cons (.tup (.cons (.c (.int 1)) (.cons (.c (.int 0)) (.cons (.c (.int 1)) .nil)))) (.cons (.tup (.cons (.c (.int 0)) (.cons (.c (.int 1)) (.cons (.c (.int 1)) .nil)))) .nil)))))) (.cons (.set 8 (.tup (.cons (.tup (.cons (.ix (.v 4) (.c (.int 0))) (.cons (.tup .nil) .nil))) (.cons (.tup (.cons (.ix (.v 4) (.c (.int 1))) (.cons (.tup (.cons (.v 5) .nil)) .nil))) .nil))))
 (.cons (.put (.v 3) (.own "_law_figure" 2 (.cons (.v 2) (.cons (.op .add (.v 8) (.tup (.cons (.tup (.cons (.ix (.v 4) (.c (.int 2))) (.cons (.tup (.cons (.v 6) (.cons (.v 7) .nil))) .nil))) .nil))) .nil))) (.c (.bl true)))
 .nil)))
 .nil))
 (.cons (.ret (.tup (.cons (.ix (.v 2) (.c (.int 0))) (.cons (.ix (.v 2) (.c (.int 1))) (.cons (.bi .tuple (.cons (.bi .sorted (.cons (.v 3) .nil)) .nil)) .nil)))))
 .nil)))) .nil)
 (.cons (.set 9 (.op .add (.c (.int 2)) (.own "_law_pick" 2 (.cons (.v 0) (.cons (.c (.int 2)) .nil)))))
 (.cons (.set 3 (.comp (.tup (.cons (.tup (.cons (.c (.int 0)) (.cons (.tup .nil) .nil))) (.cons (.tup (.cons (.v 1) (.cons (.tup (.cons (.c (.int 0)) .nil)) .nil))) (.cons (.tup (.cons (.op .sub (.v 2) (.c (.int 1))) (.cons (.tup (.cons (.c (.int 0)) (.cons (.c (.int 0)) .nil))) .nil))) .nil)))) (.nm 1) (.rng (.cons (.v 9) .nil)) .nil [td,td,gV 9]))
 (.cons (.ret (.own "_law_rule_of" 4 (.cons (.v 0) (.cons (.v 9) (.cons (.tup (.cons (.c (.int 0)) .nil)) (.cons (.sl (.v 3) .no (.yes (.op .add (.c (.int 1)) (.own "_law_pick" 2 (.cons (.v 0) (.cons (.v 9) .nil)))))) .nil))))))
 .nil))))))
noncomputable def bJ:Ss:=
 (.cons (.ite (.cmp .is (.v 1) (.c .non)) (.cons (.ret (.cmp .is (.v 0) (.c .non)))
 .nil) .nil)
 (.cons (.ite (.or (.isi "bool" (.v 1)) (.isi "bool" (.v 0))) (.cons (.ret (.and (.isi "bool" (.v 1)) (.and (.isi "bool" (.v 0)) (.cmp .eq (.v 0) (.v 1)))))
 .nil) .nil)
 (.cons (.ite (.isi "int" (.v 1)) (.cons (.ret (.and (.isi "int" (.v 0)) (.cmp .eq (.v 0) (.v 1))))
 .nil) .nil)
 (.cons (.ite (.isi "str" (.v 1)) (.cons (.ret (.and (.isi "str" (.v 0)) (.cmp .eq (.v 0) (.v 1))))
 .nil) .nil)
 (.cons (.ite (.or (.cmp .ne (.isi "tuple" (.v 1)) (.isi "tuple" (.v 0))) (.cmp .ne (.isi "list" (.v 1)) (.isi "list" (.v 0)))) (.cons (.ret (.c (.bl false)))
 .nil) .nil)
 (.cons (.ret (.and (.cmp .eq (.bi .len (.cons (.v 0) .nil)) (.bi .len (.cons (.v 1) .nil))) (.bi .all (.cons (.comp (.own "_law_alike" 2 (.cons (.ix (.v 3) (.v 1)) (.cons (.ix (.v 2) (.v 1)) .nil))) (.nm 1) (.rng (.cons (.bi .len (.cons (.v 1) .nil)) .nil)) .nil [td,td,gV 1,gV 0]) .nil))))
 .nil))))))
noncomputable def Is (defs:HC (Ih×Df))(f:Ih)(np nn:HJ)(b:Ss):Prop:=∃df:Df,defs.lookup f=gV df/\df.ps.length=np/\df.N.length=nn/\df.body=b
theorem az {defs:HC (Ih×Df)}{fuel d:HJ}{f:Ih}{np nn:HJ}{b:Ss}{ws:HC W}{S:aa}{Q:QW}(h:Is defs f np nn b)(hl:ws.length=np)(ok:gM b=true)
  (hb:∀Q':QO,(∀w S',Q (w,S')->Q' (.rt w,S'))->wZ (ar defs fuel d) fuel b (ws.map gV++Ix (nn - np) td) S Q'):wO (be (ar defs fuel (d+1)) f np ws S) Q:=by
 obtain⟨df,h1,h2,h3,h4⟩:=h;subst h4;refine Ds h1 hl (hl.trans h2.symm) ok λQ' hR=>?_
 have:=hb Q' hR;unfold fF;rw[h3,hl];exact this
noncomputable def eU:Ss:=
 (.cons (.ret (.bi .tuple (.cons (.comp (.ix (.c (.str "abcdef")) (.v 1)) (.nm 1) (.rng (.cons (.v 1) .nil)) .nil [td,td]) .nil)))
 .nil)
structure Gen (defs:HC (Ih×Df)):Prop where
 pick:Is defs ("_law_pick" : Ih) 2 4 c7
 names:Is defs ("_law_names" : Ih) 2 2 eU
 between:Is defs ("_law_between" : Ih) 4 4 dH
 part:Is defs ("_law_part" : Ih) 3 6 fG
 turns:Is defs ("_law_turns" : Ih) 0 0 gf
 figure:Is defs ("_law_figure" : Ih) 2 2 d7
 backs:Is defs ("_law_backs" : Ih) 2 3 eS
 rule_of:Is defs ("_law_rule_of" : Ih) 4 6 dI
 free_three:Is defs ("_law_free_three" : Ih) 3 5 cK
 sizes:Is defs ("_law_sizes" : Ih) 1 2 eT
 any_rule:Is defs ("_law_any_rule" : Ih) 1 6 dj
 laying_kind:Is defs ("_law_laying_kind" : Ih) 1 2 cF
 breaks:Is defs ("_law_breaks" : Ih) 5 10 d8
 numbered:Is defs ("_law_numbered" : Ih) 3 12 bV
 laying_rule:Is defs ("_law_laying_rule" : Ih) 1 15 cG
 rising:Is defs ("_law_rising" : Ih) 1 4 ec
 free_rule:Is defs ("_law_free_rule" : Ih) 1 9 cW
 one_way_rule:Is defs ("_law_one_way_rule" : Ih) 1 3 cx
structure FlA (S:aa)(r q:HJ)(ns:HC HY)(i c x n:HY):Prop where
 at_r:S[r]?=gV (.lst [.ref q,.int i,.int c,.int x,.int n])
 at_q:S[q]?=gV (.lst (ns.map W.int))
 lt:q < r
 i0:0<=i
 c0:0<=c
 x0:0<=x
 x1:x < 2147483647
theorem FlA.ne {S:aa}{r q:HJ}{ns:HC HY}{i c x n:HY}(h:FlA S r q ns i c x n):q≠r:=IA h.lt
noncomputable def Fl (S:aa)(r:HJ):Prop:=∃(q:HJ) (ns:HC HY) (i c x n:HY),FlA S r q ns i c x n
theorem FlA.put {S:aa}{r q:HJ}{ns:HC HY}{i c x n i' c' x' n':HY}(h:FlA S r q ns i c x n)(h1:0<=i')(h2:0<=c')(h3:0<=x')(h4:x' < 2147483647):FlA (S.set r (.lst [.ref q,.int i',.int c',.int x',.int n'])) r q ns i' c' x' n':=
 ⟨cw h.at_r,by rw[cj (Ne.symm h.ne)]; exact h.at_q,h.lt,h1,h2,h3,h4⟩
theorem Fl.keep {S S':aa}{r:HJ}(h:Fl S r)(h1:S'[r]?=S[r]?)(k:Kp r S S'):Fl S' r:=
 let ⟨q,ns,i,c,x,n,f⟩:=h; ⟨q,ns,i,c,x,n,by rw[h1]; exact f.at_r,k.get _ _ f.ne f.at_q,f.lt,f.i0,f.c0,f.x0,f.x1⟩
theorem Fl.lt {S:aa}{r:HJ}(h:Fl S r):r < S.length:=let ⟨_,_,_,_,_,_,f⟩:=h; db f.at_r
structure Ka (S S':aa):Prop where
 get:∀(j:HJ) (o:O),S[j]?=gV o->S'[j]?=gV o
 len:S.length<=S'.length
theorem Ka.refl {S:aa}:Ka S S:=⟨λ_ _ h=>h,HW _⟩
theorem Ka.trans {S S' S'':aa}(a:Ka S S')(b:Ka S' S''):Ka S S'':=⟨λj o h=>b.get j o (a.get j o h),IT a.len b.len⟩
theorem Ka.push {S:aa}{o:O}:Ka S (S++[o]):=⟨λj u h=>au h,by simp⟩
theorem Ka.late {t:HJ}{S0 S:aa}{o:O}(a:Ka S0 S)(h:S0.length<=t):Ka S0 (S.set t o):=
 ⟨λj u e=>by have:=db e; rw[cj (by omega)]; exact a.get j u e,by simpa using a.len⟩
theorem Ka.kp {S S':aa}(a:Ka S S')(r:HJ):Kp r S S':=⟨λj o _ h=>a.get j o h,a.len⟩
theorem Fl.ka {S S':aa}{r:HJ}(h:Fl S r)(k:Ka S S'):Fl S' r:=h.keep (by obtain⟨q,ns,i,c,x,n,f⟩:=h; rw[k.get _ _ f.at_r,f.at_r]) (k.kp r)
theorem Fl.own {S:aa}{r t:HJ}{o:O}(h:Fl S r)(ht:r < t):Fl (S.set t o) r:=by
 obtain⟨q,ns,i,c,x,n,f⟩:=h;have:=f.lt;exact⟨q,ns,i,c,x,n,by rw[cj (by omega)]; exact f.at_r,by rw[cj (by omega)]; exact f.at_q,f.lt,f.i0,f.c0,f.x0,f.x1⟩
theorem eH {S:aa}{r:HJ}{xs:HC W}{i:HJ}{w:W}{Q:QW}(h:S[r]?=gV (.lst xs))(hw:xs[i]?=gV w)(q:Q (w,S)):wO (j6 (.ref r) (.int (i:HY)) S) Q:=ac (xu h (HR i) (by rw[HU]; exact hw)) q
theorem mU {S:aa}{r:HJ}{xs:HC W}{i:HJ}{w:W}{Q:aa->Prop}(h:S[r]?=gV (.lst xs))(hi:Qb (i+1) xs.length=true)(q:Q (S.set r (.lst (xs.set i w)))):wO (iA (.ref r) (.int (i:HY)) w S) Q:=ac (BJ h (HR i) (by rw[HU]; exact Ln hi)) (by rw[HU]; exact q)
section
variable{defs:HC (Ih×Df)}{fuel d:HJ}{S:aa}{r:HJ}{Q:QW}
theorem bo (hd:Is defs ("_law_pick" : Ih) 2 4 c7){m:HY}(hf:Fl S r)(h0:0 < m)(h1:m < 1073741824)(k:∀v S',0<=v->v < m->Fl S' r->Kp r S S'->Q (.int v,S')) :
  wO (be (ar defs fuel (d+1)) "_law_pick" 2 [.ref r,.int m] S) Q:=by
 obtain⟨q,ns,i,c,x,n,f⟩:=hf;refine az hd rfl rfl λQ' hR=>?_
 replace k:∀v S',0<=v->v < m->Fl S' r->Kp r S S'->Q' (.rt (.int v),S'):=λv S' a b c e=>hR _ _ (k v S' a b c e)
 clear hR;show wZ _ _ c7 [gV (.ref r),gV (.int m),td,td] S Q';have dq:∀(S1:aa) (w2:HI W) (i1 c1 x1 n1:HY),FlA S1 r q ns i1 c1 x1 n1->Kp r S S1->wZ (ar defs fuel d) fuel (match c7 with|.cons _ ss=>ss|.nil=>.nil) [gV (.ref r),gV (.int m),w2,td] S1 Q':=by
  intro S1 w2 i1 c1 x1 n1 f1 k1;dsimp only[c7];refine st ?_;dsimp only[wS,wT,wE,wV,wG];refine eH (i:=2) f1.at_r rfl ?_;dsimp only[Dr,wO,wB];refine aq (Q0:=Q') (λhg Q2 hn hr=>?_) (λhg Q2 hn hr=>?_)
  ·clear hn;refine st ?_;dsimp only[wS,wE,wV,wG];refine eH (i:=2) f1.at_r rfl (ac (kW h0) ?_);refine st ?_;dsimp only[wS,wE,wV,wG,HV];refine eH (i:=2) f1.at_r rfl (ac (oh h0 h1) (mU (i:=2) f1.at_r rfl ?_));refine st ?_;dsimp only[wS,wE,wV,wG,HV];exact hr _ _ (k _ _ (Kl _ (by omega)) (JS _ h0) ⟨q,ns,i1,c1 / m,x1,n1,f1.put f1.i0 (Oq f1.c0 (by omega)) f1.x0 f1.x1⟩ (k1.trans .set))
  ·refine b7 (hn _ _ ?_);clear hn hr;have f2:FlA (S1.set r (.lst [.ref q,.int i1,.int c1,.int x1,.int (n1+1)])) r q ns i1 c1 x1 (n1+1):=f1.put f1.i0 f1.c0 f1.x0 f1.x1;refine st ?_;dsimp only[wS,wE,wV,wG];refine eH (i:=4) f1.at_r rfl ?_;dsimp only[d3,wO];refine mU (i:=4) f1.at_r rfl ?_;refine st ?_;dsimp only[wS,wE,wV,wG,HV];refine eH (i:=3) f2.at_r rfl (ac (sZ (by decide) (by decide)) ?_)
   dsimp only[d3,wO];refine eH (i:=4) f2.at_r rfl ?_;dsimp only[d3,wO];refine(mU (i:=3) f2.at_r rfl ?_);have f3:FlA ((S1.set r (.lst [.ref q,.int i1,.int c1,.int x1,.int (n1+1)])).set r (.lst [.ref q,.int i1,.int c1,.int ((x1*48271+12820163+(n1+1)) % 2147483647),.int (n1+1)])) r q ns i1 c1 ((x1*48271+12820163+(n1+1)) % 2147483647) (n1+1):=f2.put f1.i0 f1.c0 (Kl _ (by decide)) (JS _ (by decide))
   dsimp only[HV];generalize(x1*48271+12820163+(n1+1)) % 2147483647=y at f3 ⊢;have b1:y / 65521+7919 < 2 ^ 64:=by
    have:=f3.x1;have:=Int.ediv_le_self 65521 f3.x0;omega
   have b2 : -(2 ^ 64) < y / 65521+7919:=by
    have:=Oq f3.x0 (show(0:HY)<=65521 by decide)
    omega
   refine st ?_;dsimp only[wS,wE,wV,wG,HV];refine eH (i:=3) f3.at_r rfl (ac (kW (by decide)) ?_)
   dsimp only[d3,wO];refine eH (i:=3) f3.at_r rfl ?_;dsimp only[d3,wO];refine ac (sZ b2 b1) ?_;refine ac (kW h0) ?_;exact k _ _ (Kl _ (by omega)) (JS _ h0) ⟨q,ns,_,_,_,_,f3⟩ (k1.trans (Kp.set.trans .set))
 dsimp only[c7]at dq ⊢;refine st ?_;dsimp only[wS,wT,wE,wV,wG,wA];refine eH (i:=2) f.at_r rfl ?_;dsimp only[gL,wO,wB];have skip:∀Q2:QO,(∀ρ' S',wZ (ar defs fuel d) fuel _ ρ' S' Q'->Q2 (.nx ρ',S'))->Q2 (.nx [gV (.ref r),gV (.int m),td,td],S):=λQ2 hn=>hn _ _ (dq S td i c x n f .refl)
 refine⟨λ_=>?_,λ_ Q2 hn hr=>⟨λz=>(by cases z),λ_=>(b7 (skip Q2 hn)).out⟩⟩
 refine eH (i:=1) f.at_r rfl (eH (i:=0) f.at_r rfl (ac (BK f.at_q) ?_));dsimp only[xt,wO,wB];refine aq (Q0:=Q') (λhl Q2 hn _=>?_) (λhg Q2 hn hr=>b7 (skip Q2 hn))
 clear skip;have hl':i.toNat < ns.length:=by
  have:=Jm hl;rw[HF]at this;have:=f.i0;omega
 have hcell:(ns.map W.int)[i.toNat]?=gV (.int ns[i.toNat]):=by simp[hl']
 generalize ns[i.toNat]=cell at hcell;have f1:FlA (S.set r (.lst [.ref q,.int (i+1),.int c,.int x,.int n])) r q ns (i+1) c x n:=f.put (by have:=f.i0; omega) f.c0 f.x0 f.x1
 refine st ?_;dsimp only[wS,wE,wV,wG];refine eH (i:=0) f.at_r rfl (eH (i:=1) f.at_r rfl (ac (xu f.at_q f.i0 hcell) ?_));refine st ?_;dsimp only[wS,wE,wV,wG,HV];refine eH (i:=1) f.at_r rfl ?_;dsimp only[d3,wO];refine mU (i:=1) f.at_r rfl ?_;refine st ?_;dsimp only[wS,wT,wE,wV,wG,Dp,Fp,wO,wB];refine aq (Q0:=Q') (λhg Q3 hn3 _=>?_) (λhg Q3 hn3 _=>?_)
 ·refine st ?_;dsimp only[wS,wE,wV,wG];refine mU (i:=2) f1.at_r rfl (b7 (hn3 _ _ (b7 (hn _ _ ?_))));exact dq _ _ (i+1) cell x n (f1.put f1.i0 (by have:=Jm hg; omega) f.x0 f.x1) (Kp.set.trans .set)
 ·refine st ?_;dsimp only[wS,wE,wV,wG];refine eH (i:=3) f1.at_r rfl (ac (sZ (by decide) (by decide)) (ac (kW (by decide)) ?_))
  dsimp only[d3,wO];refine mU (i:=3) f1.at_r rfl (b7 (hn3 _ _ (b7 (hn _ _ ?_))));exact dq _ _ (i+1) c _ n (f1.put f1.i0 f.c0 (Kl _ (by decide)) (JS _ (by decide))) (Kp.set.trans .set)
end
noncomputable def dr:HJ->Ss->Ss
 | 0,ss=>ss
 | n+1,.cons _ ss=>dr n ss
 | _,.nil=>.nil
theorem aN {α:Type}{a:α}{Q:α->Prop}:wO (gV a) Q=Q a:=rfl
theorem aR {Φ:Ih->FF}{fuel:HJ}{ρ:Fm}{S:aa}{Q:QO}{s:Sm}{ss:Ss}(h:∀K:Fm->aa->Prop,(∀ρ' S',wZ Φ fuel ss ρ' S' Q->K ρ' S')->wS Φ fuel s ρ S K Q):wZ Φ fuel (.cons s ss) ρ S Q:=st (h _ λ_ _ h=>h)
theorem FB {Φ:Ih->FF}{fuel:HJ}{ρ:Fm}{S:aa}{i:HJ}{e:E}{K:Fm->aa->Prop}{Q:QO}(h:wE Φ e ρ S λp=>K (ρ.set i (gV p.1)) p.2):wS Φ fuel (.set i e) ρ S K Q:=h
theorem gh {n:HJ}(h:Qb n 1000=true):n<=sizeLine:=IT (Ln h) (by rw[Ja]; decide)
theorem kY {n:HJ}(h:n<=1000):n<=sizeLine:=IT h (by rw[Ja]; decide)
theorem iF {S:aa}{r:HJ}{xs:HC W}{i:HY}{w:W}{Q:QW}(h:S[r]?=gV (.lst xs))(h0:0<=i)(hw:xs[i.toNat]?=gV w)(q:Q (w,S)):wO (j6 (.ref r) (.int i) S) Q:=ac (xu h h0 hw) q
theorem aj {S:aa}{xs:HC W}{i:HY}{w:W}{Q:QW}(h0:0<=i)(hw:xs[i.toNat]?=gV w)(q:Q (w,S)):wO (j6 (.tup xs) (.int i) S) Q:=ac (Fq h0 hw) q
theorem mV {S:aa}{r:HJ}{xs:HC W}{y:W}{Q:QW}(h:S[r]?=gV (.lst xs))(hl:xs.length < 1000)(q:Q (.non,S.set r (.lst (xs++[y])))):wO (Me.append.fn (.ref r) [y] S) Q:=ac (tf h (IB hl (gh rfl))) q
theorem kZ {S:aa}{r:HJ}{xs:HC W}{Q:QW}(h:S[r]?=gV (.lst xs))(q:Q (.int xs.length,S)):wO (Bi.len.fn [.ref r] S) Q:=ac (BK h) q
theorem bC {S:aa}{xs:HC W}{Q:QW}(q:Q (.int xs.length,S)):wO (Bi.len.fn [.tup xs] S) Q:=q
theorem fR {S:aa}{r:HJ}{xs:HC W}{Q:QW}(h:S[r]?=gV (.lst xs))(q:Q (.tup xs,S)):wO (Bi.tuple.fn [.ref r] S) Q:=ac (Ft h) q
section
variable{Φ:Ih->FF}{fuel:HJ}{ρ:Fm}{S S1:aa}{K:Fm->aa->Prop}
theorem cH {t:E}{a:Ss}{Q:QO}(ht:∀Q:QB,Q (false,S1)->wT Φ t ρ S Q)(h:K ρ S1):wS Φ fuel (.ite t a .nil) ρ S K Q:=by
 dsimp only[wS];exact ht _ λQ' h1 h2=>⟨λz=>(by cases z),λ_=>(b7 (h1 _ _ h)).out⟩
theorem la {t:E}{a b:Ss}{Q:QO}(ht:∀Q:QB,Q (true,S1)->wT Φ t ρ S Q)(h:∀Q':QO,(∀ρ' S',K ρ' S'->Q' (.nx ρ',S'))->(∀w S',Q (.rt w,S')->Q' (.rt w,S'))->wZ Φ fuel a ρ S1 Q'):wS Φ fuel (.ite t a b) ρ S K Q:=by
 dsimp only[wS];exact ht _ λQ' h1 h2=>⟨λ_=>(h Q' h1 λw S' q=>h2 (.rt w) S' (λ_ z=>nomatch z) q).out,λz=>(by cases z)⟩
end
noncomputable def FC (y:Ih):Prop:=∀c∈y.cps.toList,97<=c/\c<=122
noncomputable def Name (y:Ih):Prop:=1<=y.cps.toList.length/\y.cps.toList.length<=8/\FC y
theorem oo {α:Type}{f:α->W}{xs:HC α}{i:HJ}(h:i < xs.length):∃x∈xs,(xs.map f)[i]?=gV (f x):=⟨xs[i],Jc _,by rw[HP,HX h]; rfl⟩
theorem oq {α:Type}[KM α]:∀(l m:HC α),l.Nodup->(∀x∈l,x∈m)->l.length<=m.length
 | [],_,_,_=>J6 _
 | x::l,m,hn,hs=>by
  rw[Kj]at hn;have hx:x∈m:=hs x (.head _);have h1:=oq l (m.erase x) hn.2 λy hy=>(List.mem_erase_of_ne (λ(e:y=x)=>hn.1 (by rw[<- e]; exact hy))).mpr (hs y (.tail _ hy))
  rw[List.length_erase_of_mem hx]at h1;have:=List.length_pos_of_mem hx;rw[IQ]; omega
noncomputable def AD (k:HJ):Ih:=⟨[97+k].toArray⟩
theorem uN {k:HJ}(h:k < 26):Name (AD k):=⟨HW 1,(by decide:1<=8),λc hc=>by
 cases Im.mp (show c∈[97+k]from hc)
 omega⟩
noncomputable def rM:HC Ih:=["marks","ways","bar","some","each","not","and","or","is"]
theorem gk {xs:HC W}{k:HJ}:jS xs td (gV (k:HY))=xs.take k:=by
 unfold jS;rw[HT.km,HT.sg,ON,Pf]
 by_cases h:k<=xs.length
 ·rw[Os h]
 ·rw[Oe (by omega),Ll (HW _),Ll (by omega)]
theorem xx {xs:HC W}{k:HJ}:jS xs (gV (k:HY)) td=xs.drop k:=by
 unfold jS;rw[HT.km,HT.sg]
 by_cases h:k<=xs.length
 ·rw[Os h,Ll (by rw[KA]; exact HW _)]
 ·rw[Oe (by omega),Mw (HW _),Mw (by omega)]; exact List.take_nil
section
variable{defs:HC (Ih×Df)}{fuel d:HJ}{S:aa}{r:HJ}{Q:QW}
theorem xy:∀m,m<=6->(rM++(Ic m).map AD).Nodup:=λm hm=>by
 rcases(show m=0\/m=1\/m=2\/m=3\/m=4\/m=5\/m=6 by omega)with rfl|rfl|rfl|rfl|rfl|rfl|rfl <;> decide
theorem AE:∀k:Fin 6,("abcdef" : Ih).cps.toList[k.val]?=gV (97+k.val):=by decide
theorem AF (hfu:20 < fuel)(G:Gen defs){m:HJ}(hf:Fl S r)(h1:m<=6)(k:∀(ys:HC Ih) S',ys.length=m->(∀y∈ys,Name y)->(rM++ys).Nodup->Fl S' r->Kp r S S'->Q (.tup (ys.map W.str),S')) :
  wO (be (ar defs fuel (d+4)) "_law_names" 2 [.ref r,.int m] S) Q:=by
 refine az G.names rfl rfl λQ' hR=>?_
 show wZ _ _ eU [gV (.ref r),gV (.int m)] S Q';dsimp only[eU];refine st ?_;dsimp only[wS,wE,wA];refine dG (m:HY) (λi ys ρ2 S2=>(∃a1,ρ2=[td,a1])/\ys=((Ic i).map AD).map W.str/\S2=S) rfl rfl rfl (by omega) ⟨rfl,⟨td,rfl⟩,rfl,rfl⟩ ?_ ?_
 ·rintro i ys ρ2 S2 hi ⟨⟨a1,rfl⟩,rfl,rfl⟩;dsimp only[je,wC,wE,wV,wG,HV];refine⟨λ_=>ac (Fs (c:=97+i) (by decide) (HR i) ?_) ⟨⟨_,rfl⟩,?_,rfl⟩,λz=>by cases z⟩
  ·rw[HU]; exact AE ⟨i,by omega⟩
  ·rw[Km,Iw,Iw]; rfl
 ·rintro ys ρ2 S2 ⟨_,rfl,rfl⟩;rw[HU];refine⟨kY (by rw[HF,HF,IU]; omega),fR ak (hR _ _ (k ((Ic m).map AD) _ (by rw[HF,IU]) (λy hy=>?_) (xy m h1) (hf.ka .push) .push))⟩
  obtain⟨i,hi,rfl⟩:=Iq.mp hy;exact uN (by have:=IN.mp hi; omega)
end
noncomputable abbrev Pt:=HY×HC HY
noncomputable abbrev Wd:=HC Pt
noncomputable def bD (p:Pt):W:=.tup [.int p.1,.tup (p.2.map W.int)]
noncomputable def aI (u:Wd):W:=.tup (u.map bD)
noncomputable def p8 (p:Pt):T:=.tup [.int p.1,.tup (p.2.map T.int)]
noncomputable def dc (u:Wd):T:=.tup (u.map p8)
theorem tu:∀xs:HC HY,T.ws (xs.map T.int)=xs.map W.int
 | []=>rfl
 | x::xs=>by simp[T.ws,T.w,tu xs]
theorem FD (p:Pt):(p8 p).w=bD p:=by simp[p8,bD,T.w,T.ws,tu]
theorem xz:∀u:Wd,T.ws (u.map p8)=u.map bD
 | []=>rfl
 | p::u=>by simp[T.ws,FD,xz u]
theorem xA (u:Wd):(dc u).w=aI u:=by simp[dc,aI,T.w,xz]
theorem FH (u:Wd):W.t (aI u)=gV (dc u):=by rw[<- xA]; exact T.w_t _
theorem xB:∀us:HC Wd,T.ws (us.map dc)=us.map aI
 | []=>rfl
 | u::us=>by simp[T.ws,xA,xB us]
theorem BO (us:HC Wd):W.ts (us.map aI)=gV (us.map dc):=by rw[<- xB]; exact T.ws_ts _
theorem lc:∀xs:HC HY,T.depths (xs.map T.int)=0
 | []=>rfl
 | x::xs=>by simp[T.depths,T.depth,lc xs]
theorem xC (p:Pt):(p8 p).depth=2:=by simp[p8,T.depth,T.depths,lc]
theorem mW:∀u:Wd,T.depths (u.map p8)<=2
 | []=>by simp[T.depths]
 | p::u=>by
  have:=mW u;simp only[JF,T.depths,xC]; omega
theorem p9 (u:Wd):(dc u).depth<=3:=by
 have:=mW u;simp only[dc,T.depth]; omega
theorem jf:∀us:HC Wd,T.depths (us.map dc)<=3
 | []=>by simp[T.depths]
 | u::us=>by
  have:=jf us;have:=p9 u;simp only[JF,T.depths]; omega
theorem ou (u:Wd):gH (aI u)=gV (dc u):=by
 unfold gH;rw[FH];show(if (dc u).isTup=true/\(dc u).depth<=bU then _ else _)=_
 rw[Iv ⟨rfl,by have:=p9 u; unfold bU; omega⟩]
mutual
noncomputable def qa:T->T->Ir
 | .int _,.int _=>true
 | .str _,.str _=>true
 | .tup xs,.tup ys=>iG xs ys
 | _,_=>false
noncomputable def iG:HC T->HC T->Ir
 | [],_=>true
 | _,[]=>true
 | x::xs,y::ys=>qa x y&&iG xs ys
end
mutual
theorem xD:∀x y:T,qa x y=true->(zC x y).isSome=true
 | .int _,.int _,_=>rfl
 | .str _,.str _,_=>rfl
 | .tup xs,.tup ys,h=>by
  dsimp only[qa]at h;dsimp only[zC];exact tw xs ys h
 | .int _,.str _,h|.int _,.tup _,h|.str _,.int _,h|.str _,.tup _,h|.tup _,.int _,h|.tup _,.str _,h=>by cases h
theorem tw:∀xs ys:HC T,iG xs ys=true->(pH xs ys).isSome=true
 | [],[],_=>rfl
 | [],_::_,_=>rfl
 | _::_,[],_=>rfl
 | x::xs,y::ys,h=>by
  dsimp only[iG]at h; simp only[HL]at h
  dsimp only[pH];split
  ·exact tw xs ys h.2
  ·exact xD x y h.1
end
theorem qb:∀xs ys:HC HY,iG (xs.map T.int) (ys.map T.int)=true
 | [],_=>rfl
 | _::_,[]=>rfl
 | x::xs,y::ys=>by dsimp only[P6,iG,qa]; simp[qb xs ys]
theorem Dt (p q:Pt):qa (p8 p) (p8 q)=true:=by dsimp only[p8,qa,iG]; simp[qb]
theorem tz:∀u v:Wd,iG (u.map p8) (v.map p8)=true
 | [],_=>rfl
 | _::_,[]=>rfl
 | p::u,q::v=>by dsimp only[P6,iG]; simp[Dt,tz u v]
theorem Du (u v:Wd):qa (dc u) (dc v)=true:=by dsimp only[dc,qa]; exact tz _ _
theorem mX (us:HC Wd):kH (us.map dc)=true:=by
 unfold kH;rw[IC];intro x hx;obtain⟨u,_,rfl⟩:=Iq.mp hx;rw[IC];intro y hy;obtain⟨v,_,rfl⟩:=Iq.mp hy;exact xD _ _ (Du u v)
theorem Dv (us:HC Wd)(h:∀u∈us,u≠[]):(zD (us.map dc)).isSome=true:=by
 unfold zD;split
 ·rfl
 ·split
  ·rfl
  ·split
   ·rfl
   ·split
    ·rfl
    ·split
     ·rfl
     ·rename_i h5;exfalso;apply h5;rw[IC];intro x hx;obtain⟨u,hu,rfl⟩:=Iq.mp hx;cases u with
      | nil=>exact absurd rfl (h [] hu)
      | cons p u=>rfl
noncomputable def dw (bs:HC HY)(u:Wd)(i j:HJ):HY:=if j < i then((u.getD i (0,[])).2).getD j 0 else bs.getD (((u.getD j (0,[])).2).getD i 0).toNat 0
noncomputable def aL (bs:HC HY)(u:Wd)(ps:HC HJ):Wd:=(Ic ps.length).map λk=>((u.getD (ps.getD k 0) (0,[])).1,(ps.take k).map λj=>dw bs u (ps.getD k 0) j)
noncomputable def ay:HC (HC HJ):=[[0,1,2],[0,2,1],[1,0,2],[1,2,0],[2,0,1],[2,1,0]]
noncomputable def lf (bs:HC HY)(u:Wd):Wd:=(ay.map (aL bs u)).getD (nS ((ay.map (aL bs u)).map dc)) []
noncomputable def bn (n:Ih)(b:HY):W:=.tup [.str n,.int b]
structure GoodW (a n:HJ)(u:Wd):Prop where
 mark:∀(k:HJ) (p:Pt),u[k]?=gV p->0<=p.1/\p.1 < a
 len:∀(k:HJ) (p:Pt),u[k]?=gV p->p.2.length=k
 way:∀(k:HJ) (p:Pt),u[k]?=gV p->∀w∈p.2,0<=w/\w < n
noncomputable def GoodB (bs:HC HY):Prop:=bs=[0]\/bs=[0,1]\/bs=[1,0]\/bs=[0,1,2]\/bs=[1,0,2]\/bs=[0,2,1]
theorem GoodB.rng {bs:HC HY}(h:GoodB bs):∀k:HJ,k < bs.length->∃b:HY,bs[k]?=gV b/\0<=b/\b < bs.length:=by
 rcases h with rfl|rfl|rfl|rfl|rfl|rfl <;> intro k hk
 ·match k,hk with
  | 0,_=>exact⟨0,rfl,by decide,by decide⟩
 ·match k,hk with
  | 0,_=>exact⟨0,rfl,by decide,by decide⟩
  | 1,_=>exact⟨1,rfl,by decide,by decide⟩
 ·match k,hk with
  | 0,_=>exact⟨1,rfl,by decide,by decide⟩
  | 1,_=>exact⟨0,rfl,by decide,by decide⟩
 ·match k,hk with
  | 0,_=>exact⟨0,rfl,by decide,by decide⟩
  | 1,_=>exact⟨1,rfl,by decide,by decide⟩
  | 2,_=>exact⟨2,rfl,by decide,by decide⟩
 ·match k,hk with
  | 0,_=>exact⟨1,rfl,by decide,by decide⟩
  | 1,_=>exact⟨0,rfl,by decide,by decide⟩
  | 2,_=>exact⟨2,rfl,by decide,by decide⟩
 ·match k,hk with
  | 0,_=>exact⟨0,rfl,by decide,by decide⟩
  | 1,_=>exact⟨2,rfl,by decide,by decide⟩
  | 2,_=>exact⟨1,rfl,by decide,by decide⟩
theorem getD_some {α:Type}{xs:HC α}{i:HJ}{x d:α}(h:xs[i]?=gV x):xs.getD i d=x:=by simp[h]
theorem aw {α:Type}{xs:HC α}{i:HJ}{d:α}(h:i < xs.length):xs[i]?=gV (xs.getD i d):=by simp[h]
theorem ie {ns:HC Ih}{bs:HC HY}{k:HJ}{n:Ih}{b:HY}(h1:ns[k]?=gV n)(h2:bs[k]?=gV b):(Ii bn ns bs)[k]?=gV (bn n b):=by
 rw[List.getElem?_zipWith,h1,h2]
noncomputable def aH (ps:HC HJ):HC W:=ps.map λ(p:HJ)=>W.int (p:HY)
theorem tB {ps:HC HJ}{k p:HJ}(h:ps[k]?=gV p):(aH ps)[k]?=gV (.int p):=by simp[aH,h]
theorem cL (bs:HC HY)(u:Wd)(ps:HC HJ):(aL bs u ps).length=ps.length:=by unfold aL; rw[HF,IU]
theorem dL {u:Wd}{i:HJ}(hi:i < u.length):(u.map bD)[((i:HJ):HY).toNat]?=gV (bD (u.getD i (0,[]))):=by
 rw[HU,HP,aw hi]; rfl
section
variable{defs:HC (Ih×Df)}{fuel d:HJ}{S:aa}{r:HJ}{Q:QW}
theorem xE {Φ:Ih->FF}{m0 b0:W}{ns:HC Ih}{bs:HC HY}{a:HJ}{u:Wd}{i j:HJ}{Q:QO}(hb:GoodB bs)(hl:ns.length=bs.length)(hu:GoodW a bs.length u)(hi:i < u.length)(hj:j < u.length)(hij:i≠j)(k:Q (.rt (.int (dw bs u i j)),S)) :
  wZ Φ fuel dH [gV (.tup [m0,.tup (Ii bn ns bs),b0]),gV (aI u),gV (.int i),gV (.int j)] S Q:=by
 have hpi:=aw (d:=(0,[])) hi;have hpj:=aw (d:=(0,[])) hj;unfold dw at k;dsimp only[dH];refine aR λK hK=>?_
 dsimp only[wS,wT,wE,wV,wG,xt,wO,wB,aI];refine aq (Q0:=Q) (λh Q2 _ hr=>?_) (λh Q2 hn _=>?_)
 ·have hji:j < i:=by have:=Jm h; omega
  rw[Iv hji]at k;have hw:j < (u.getD i (0,[])).2.length:=by rw[hu.len i _ hpi]; exact hji
  refine st ?_;dsimp only[wS,wE,wV,wG];refine aj (HR i) (dL hi) (aj (by decide) rfl (aj (HR j) ?_ (hr _ _ k)))
  rw[HU,HP,aw (d:=0) hw]; rfl
 ·have hji:¬ j < i:=by have:=Lb h; omega
  rw[IK hji]at k;refine b7 (hn _ _ (hK _ _ ?_));clear hn hK;have hw:i < (u.getD j (0,[])).2.length:=by rw[hu.len j _ hpj]; omega
  have hg:=aw (d:=0) hw;obtain⟨g1,g2⟩:=hu.way j _ hpj _ (Ij hg);obtain⟨b,hb1,hb2,hb3⟩:=hb.rng ((u.getD j (0,[])).2.getD i 0).toNat (by omega)
  have hn:((u.getD j (0,[])).2.getD i 0).toNat < ns.length:=by omega
  rw[getD_some hb1]at k;refine st ?_;dsimp only[wS,wE,wV,wG];refine aj (by decide) rfl (aj (HR j) (dL hj) (aj (by decide) rfl (aj (HR i) ?_ (aj g1 (ie (HX hn) hb1) (aj (by decide) rfl k)))))
  rw[HU,HP,hg]; rfl
theorem uO (G:Gen defs){m0 b0:W}{ns:HC Ih}{bs:HC HY}{a:HJ}{u:Wd}{i j:HJ}(hb:GoodB bs)(hl:ns.length=bs.length)(hu:GoodW a bs.length u)(hi:i < u.length)(hj:j < u.length)(hij:i≠j)(k:Q (.int (dw bs u i j),S)) :
  wO (be (ar defs fuel (d+1)) "_law_between" 4 [.tup [m0,.tup (Ii bn ns bs),b0],aI u,.int i,.int j] S) Q:=
 az G.between rfl rfl λQ' hR=>xE hb hl hu hi hj hij (hR _ _ k)
theorem xF (G:Gen defs){m0 b0:W}{ns:HC Ih}{bs:HC HY}{a:HJ}{u:Wd}{ps:HC HJ}(hb:GoodB bs)(hl:ns.length=bs.length)(hu:GoodW a bs.length u)(hps:∀p∈ps,p < u.length)(hnd:ps.Nodup)(hsz:ps.length < 1000)(k:∀S',Ka S S'->Q (aI (aL bs u ps),S')) :
  wO (be (ar defs fuel (d+2)) "_law_part" 3 [.tup [m0,.tup (Ii bn ns bs),b0],aI u,.tup (aH ps)] S) Q:=by
 refine az G.part rfl rfl λQ' hR=>?_
 replace k:∀S',Ka S S'->Q' (.rt (aI (aL bs u ps)),S'):=λS' a=>hR _ _ (k S' a)
 clear hR;show wZ _ _ fG [gV (.tup [m0,.tup (Ii bn ns bs),b0]),gV (aI u),gV (.tup (aH ps)),td,td,td] S Q';generalize hR0:W.tup [m0,.tup (Ii bn ns bs),b0]=R;dsimp only[fG];refine st ?_;dsimp only[wS,wE,wA,HV];refine aR λK hK=>?_
 have nl:(aH ps).length=ps.length:=HF ..;refine di (ps.length:HY) (λk ρ S'=>∃a4 a5,ρ=[gV R,gV (aI u),gV (.tup (aH ps)),gV (.ref S.length),a4,a5]/\S'[S.length]?=gV (.lst (((aL bs u ps).take k).map bD))/\Ka S S') rfl rfl (by omega) ?_ ?_ ?_
 ·dsimp only[wE,wA,wV,wG];refine bC ?_;rw[nl];exact⟨rfl,td,td,rfl,ak,.push⟩
 ·rintro i ρ S1 hi ⟨a4,a5,rfl,e1,k1⟩ Q2 hn _;clear hK;have hi':i < ps.length:=by omega
  have hp:ps[i]?=gV ps[i]:=HX hi';have hpu:ps[i] < u.length:=hps _ (Jc hi');refine st ?_;dsimp only[wS,wE,wV,wG,HV];refine aj (HR i) (by rw[HU]; exact tB hp) ?_
  refine st ?_;dsimp only[wS,wE,wA,wV,wG,HV];refine⟨dZ e1,aj (HR _) (dL hpu) (aj (by decide) rfl ?_)⟩
  refine tq (aH (ps.take i)) (λj ys ρ2 S2=>(∃a1,ρ2=[td,a1,gV (.int ps[i]),gV R,gV (aI u)])/\ys=((ps.take i).take j).map (λq=>W.int (dw bs u ps[i] q))/\Ka S1 S2) rfl rfl rfl ?_ ?_ ?_
  ·dsimp only[wE,wP,wV,wG,wN];refine ac (a:=(.tup (aH (ps.take i)),S1)) ?_ ⟨rfl,⟨td,rfl⟩,rfl,.refl⟩;simp only[mE,gk];unfold aH;rw[Ly]
  ·rintro j w ys ρ2 S2 hw ⟨⟨a1,rfl⟩,rfl,k2⟩;have hjl:j < (ps.take i).length:=by
    have:=(Ig.mp hw).1;unfold aH at this
    rwa [HF]at this
   have hq:(ps.take i)[j]?=gV (ps.take i)[j]:=HX hjl;cases(tB hq).symm.trans hw;have hj:j < i:=by rw[IL]at hjl; omega
   have eq:(ps.take i)[j]=ps[j]'(by omega):=Lm
   generalize(ps.take i)[j]=q at hq eq ⊢;refine ac (show gK (.nm 1) (.int (q:HY)) [td,a1,gV (.int ps[i]),gV R,gV (aI u)] S2=gV ([td,gV (.int (q:HY)),gV (.int ps[i]),gV R,gV (aI u)],S2)from rfl) ?_
   dsimp only[je,wC,wE,wA,wV,wG];subst hR0;refine⟨λ_=>uO (d:=d) G hb hl hu hpu (by rw[eq]; exact hps _ (Jc _)) ?_ ⟨⟨_,rfl⟩,?_,k2⟩,λz=>by cases z⟩
   ·rw[eq];intro h;have:=(Kz hnd).mp h;omega
   ·rw[Jd,hq];simp
  ·rintro ys ρ2 S2 ⟨_,rfl,k2⟩;rw[show(aH (ps.take i)).length=(ps.take i).length from HF ..,Jl]
   refine⟨kY (by rw[HF,IL]; omega),fR ak ?_⟩
   have e2:=au (u:=O.lst ((ps.take i).map λq=>W.int (dw bs u ps[i] q))) (k2.get _ _ e1)
   refine mV e2 (by rw[HF,IL]; omega) (b7 (hn _ _ ⟨_,_,rfl,?_,((k1.trans k2).trans .push).late (HW _)⟩))
   rw[cw e2];have ep:(aL bs u ps)[i]?=gV ((u.getD ps[i] (0,[])).1,(ps.take i).map λq=>dw bs u ps[i] q):=by
    unfold aL;rw[HP,J0 hi',IH,getD_some hp]
   rw[Jd,ep];simp[bD,NT]
 ·rintro ρ S1 ⟨a4,a5,rfl,e1,k1⟩;rw[HU,<- cL bs u ps,Jl]at e1;refine hK _ _ (st ?_);dsimp only[wS,wE,wA,wV,wG];exact fR e1 (k _ k1)
theorem kg (G:Gen defs)(k:Q (.ref S.length,S++[.lst (ay.map λt=>W.tup (aH t))])):wO (be (ar defs fuel (d+1)) "_law_turns" 0 [] S) Q:=by
 refine az G.turns rfl rfl λQ' hR=>?_
 dsimp only[gf];refine st ?_;dsimp only[wS,wE,wA];exact hR _ _ k
theorem fH (bt:HJ->HJ->Ir):∀n:HJ,argBest bt n<=n
 | 0=>HW _
 | n+1=>by have:=fH bt n; simp only[argBest]; split <;> omega
theorem iH (G:Gen defs){m0 b0:W}{ns:HC Ih}{bs:HC HY}{a:HJ}{u:Wd}(hb:GoodB bs)(hl:ns.length=bs.length)(hu:GoodW a bs.length u)(h3:u.length=3)(k:∀S',Ka S S'->Q (aI (lf bs u),S')) :
  wO (be (ar defs fuel (d+3)) "_law_figure" 2 [.tup [m0,.tup (Ii bn ns bs),b0],aI u] S) Q:=by
 refine az G.figure rfl rfl λQ' hR=>?_
 replace k:∀S',Ka S S'->Q' (.rt (aI (lf bs u)),S'):=λS' a=>hR _ _ (k S' a)
 clear hR;show wZ _ _ d7 [gV (.tup [m0,.tup (Ii bn ns bs),b0]),gV (aI u)] S Q';generalize hR0:W.tup [m0,.tup (Ii bn ns bs),b0]=R;dsimp only[d7];refine st ?_;dsimp only[wS,wE,wA];refine tt S.length (ay.map λt=>W.tup (aH t)) (λi ys ρ2 S2=>(∃a1,ρ2=[td,a1,gV R,gV (aI u)])/\ys=((ay.take i).map λt=>aI (aL bs u t))/\Ka (S++[.lst (ay.map λt=>W.tup (aH t))]) S2) rfl rfl rfl ?_ ?_ ?_ ?_
 ·dsimp only[wE,wA];exact kg (d:=d+1) G ⟨rfl,⟨td,rfl⟩,rfl,.refl⟩
 ·rintro i ys ρ2 S2 ⟨_,_,k2⟩;exact k2.get _ _ ak
 ·rintro i w ys ρ2 S2 hw ⟨⟨a1,rfl⟩,rfl,k2⟩;rw[HP,HG]at hw;obtain⟨t,ht,rfl⟩:=hw;have ht3:(∀p∈t,p < 3)/\t.Nodup/\t.length < 1000:=by
   have:∀t∈ay,(∀p∈t,p < 3)/\t.Nodup/\t.length < 1000:=by decide
   exact this t (Ij ht)
  refine ac (show gK (.nm 1) (.tup (aH t)) [td,a1,gV R,gV (aI u)] S2=gV ([td,gV (.tup (aH t)),gV R,gV (aI u)],S2)from rfl) ?_
  dsimp only[je,wC,wE,wA,wV,wG];subst hR0;refine⟨λ_=>xF (d:=d) G hb hl hu (λp hp=>by rw[h3]; exact ht3.1 p hp) ht3.2.1 ht3.2.2 λS3 k3=>⟨⟨_,rfl⟩,?_,k2.trans k3⟩,λz=>by cases z⟩
  rw[Jd,ht];simp
 ·rintro ys ρ2 S2 ⟨_,rfl,k2⟩;have e:((ay.take (ay.map λt=>W.tup (aH t)).length).map λt=>aI (aL bs u t))=(ay.map (aL bs u)).map aI:=by
   rw[HF,Jl,J5]; rfl
  rw[e];refine⟨gh rfl,ac (a:=(aI (lf bs u),S2++[.lst ((ay.map (aL bs u)).map aI)])) ?_ (k _ ((Ka.push.trans k2).trans .push))⟩;simp only[Bi.fn,zG,aM ak,BO];rw[Iv ⟨by have:=jf (ay.map (aL bs u)); unfold eR; omega,mX _⟩]
  unfold lf;have hlt:nS ((ay.map (aL bs u)).map dc) < (ay.map (aL bs u)).length:=Nx (fH _ _) (by decide:5 < 6)
  rw[HP,aw (d:=[]) hlt];rfl
end
noncomputable def ab (xs:HC HY):HC W:=xs.map W.int
noncomputable def iI (us:HC Wd):HC Wd:=eP (yE (us.map dc)) [] us
theorem xG {α β:Type}{lt:HJ->HJ->Ir}{d:α}{d':β}{f:α->β}{us:HC α}:eP lt d' (us.map f)=(eP lt d us).map f:=by
 unfold eP;rw[HF];split
 ·rfl
 ·rw[J5];refine J1 λi hi=>?_
  have hl:i < us.length:=nT (by omega) i hi
  simp[hl]
theorem rN {S:aa}{x:W}{us:HC Wd}(h:dW S x=gV (us.map aI))(h64:us.length < 64)(hne:∀u∈us,u≠[]):fE [x] S=gV (.ref S.length,S++[.lst ((iI us).map aI)]):=by
 have ok:i6 (us.map dc)=true:=by
  unfold i6;simp only[HL,JY,Iy,HF];exact⟨⟨h64,by have:=jf us; unfold eR; omega⟩,.inr ⟨Dv us hne,mX us⟩⟩
 simp only[fE,h,BO];rw[Iv ok,xG (d:=[])];rfl
noncomputable def cM (ms ns:HC Ih)(bs:HC HY)(us:HC Wd):W:=.tup [.tup (ms.map W.str),.tup (Ii bn ns bs),.tup (us.map aI)]
structure GoodN (ms ns:HC Ih):Prop where
 name:∀y∈ms++ns,Name y
 nd:(rM++(ms++ns)).Nodup
theorem GoodW.nil {a n:HJ}:GoodW a n []:=⟨λk p h=>(by simp at h),λk p h=>(by simp at h),λk p h=>(by simp at h)⟩
theorem GoodW.snoc {a n:HJ}{u:Wd}{m:HY}{ws:HC HY}(h:GoodW a n u)(h1:0<=m/\m < a)(h2:ws.length=u.length)(h3:∀w∈ws,0<=w/\w < (n:HY)):GoodW a n (u++[(m,ws)]):=by
 have key:∀(k:HJ) (p:Pt),(u++[(m,ws)])[k]?=gV p->u[k]?=gV p\/(k=u.length/\p=(m,ws)):=λk p e=>by
  rcases Nat.lt_or_ge k u.length with hk|hk
  ·rw[IF hk]at e; exact .inl e
  ·rw[Jb hk]at e;have:k - u.length=0:=by
    have:=(Ig.mp e).1;simp at this; omega
   rw[this]at e;cases e;exact .inr ⟨by omega,rfl⟩
 refine⟨λk p e=>?_,λk p e=>?_,λk p e=>?_⟩ <;> rcases key k p e with e|⟨rfl,rfl⟩
 ·exact h.mark k p e
 ·exact h1
 ·exact h.len k p e
 ·exact h2
 ·exact h.way k p e
 ·exact h3
theorem GoodB.inv {bs:HC HY}(h:GoodB bs):∀k:HJ,k < bs.length->bs.getD (bs.getD k 0).toNat 0=k:=by
 rcases h with rfl|rfl|rfl|rfl|rfl|rfl <;> decide
theorem GoodB.at {bs:HC HY}(h:GoodB bs){x:HY}(h0:0<=x)(h1:x < bs.length):bs[x.toNat]?=gV (bs.getD x.toNat 0)/\0<=bs.getD x.toNat 0/\bs.getD x.toNat 0 < bs.length:=by
 obtain⟨b,h2,h3⟩:=h.rng x.toNat (by omega)
 rw[getD_some h2];exact⟨h2,h3⟩
theorem xH {S:aa}{x:W}{us:HC Wd}{Q:QW}(h:dW S x=gV (us.map aI))(h64:us.length < 64)(hne:∀u∈us,u≠[])(q:Q (.ref S.length,S++[.lst ((iI us).map aI)])):wO (Bi.sorted.fn [x] S) Q:=by
 refine ac ?_ q;exact rN h h64 hne
noncomputable def xI:HC (HJ×HJ):=[(1,1),(2,1),(3,1),(1,2),(1,2),(2,2),(2,2),(3,2),(1,3),(1,3),(2,3)]
theorem xJ:∀p∈xI,1<=p.1/\p.1<=3/\1<=p.2/\p.2<=3/\p.1*p.2<=6:=by decide
noncomputable def lg:HJ->HC (HC HY)
 | 1=>[[0]]
 | 2=>[[0,1],[1,0]]
 | _=>[[0,1,2],[1,0,2],[0,2,1]]
theorem xK:∀n:HJ,1<=n->n<=3->(∀b∈lg n,GoodB b/\b.length=n)/\0 < (lg n).length/\(lg n).length<=3
 | 1,_,_=>⟨λb h=>by cases Im.mp h; exact⟨.inl rfl,rfl⟩,by decide,by decide⟩
 | 2,_,_=>⟨λb h=>by
   rcases IG.mp h with rfl|h
   ·exact⟨.inr (.inl rfl),rfl⟩
   ·cases Im.mp h; exact⟨.inr (.inr (.inl rfl)),rfl⟩,by decide,by decide⟩
 | 3,_,_=>⟨λb h=>by
   rcases IG.mp h with rfl|h
   ·exact⟨.inr (.inr (.inr (.inl rfl))),rfl⟩
   ·rcases IG.mp h with rfl|h
    ·exact⟨.inr (.inr (.inr (.inr (.inl rfl)))),rfl⟩
    ·cases Im.mp h; exact⟨.inr (.inr (.inr (.inr (.inr rfl)))),rfl⟩,by decide,by decide⟩
 | 0,h,_=>absurd h (by decide)
 | n+4,_,h=>absurd h (by omega)
section
variable{defs:HC (Ih×Df)}{fuel d:HJ}{S:aa}{r:HJ}{Q:QW}
theorem tD (G:Gen defs)(hf:Fl S r)(k:∀(a n:HJ) S',1<=a->a<=3->1<=n->n<=3->a*n<=6->Fl S' r->Kp r S S'->Q (.tup [.int a,.int n],S')) :
  wO (be (ar defs fuel (d+2)) "_law_sizes" 1 [.ref r] S) Q:=by
 refine az G.sizes rfl rfl λQ' hR=>?_
 show wZ _ _ eT [gV (.ref r),td] S Q';dsimp only[eT];refine st ?_;dsimp only[wS,wE,wA,HV];refine st ?_;dsimp only[wS,wE,wA,wV,wG];refine bo (d:=d) G.pick (hf.ka .push) (by decide) (by decide) λv S1 v0 v1 f1 k1=>?_
 have e:=k1.get _ _ (KC hf.lt) ak;obtain⟨p,hp,ep⟩:=oo (f:=λp:HJ×HJ=>W.tup [.int p.1,.int p.2]) (xs:=xI) (i:=v.toNat) (by show v.toNat < 11; omega)
 obtain⟨a1,a3,n1,n3,an⟩:=xJ p hp;exact iF e v0 ep (hR _ _ (k _ _ _ a1 a3 n1 n3 an f1 (Kp.push.trans k1)))
theorem tF (G:Gen defs){n:HJ}(hf:Fl S r)(h1:1<=n)(h3:n<=3)(k:∀(bs:HC HY) S',GoodB bs->bs.length=n->Fl S' r->Kp r S S'->Q (.tup (ab bs),S')) :
  wO (be (ar defs fuel (d+2)) "_law_backs" 2 [.ref r,.int n] S) Q:=by
 refine az G.backs rfl rfl λQ' hR=>?_
 replace k:∀(bs:HC HY) S',GoodB bs->bs.length=n->Fl S' r->Kp r S S'->Q' (.rt (.tup (ab bs)),S'):=λz S' a b c e=>hR _ _ (k z S' a b c e)
 clear hR;show wZ _ _ eS [gV (.ref r),gV (.int n),td] S Q';dsimp only[eS];refine aR λK hK=>?_
 dsimp only[wS,wE,wA,wV,wG,HV];dsimp only[mT,aN];obtain⟨hg,g0,g3⟩:=xK n h1 h3;have fin:∀(t:HJ) (S1:aa),S.length<=t->S1[t]?=gV (.lst ((lg n).map λb=>.tup (ab b)))->Ka S S1->K [gV (.ref r),gV (.int n),gV (.ref t)] S1:=by
  intro t S1 ht et ka;refine hK _ _ (st ?_);dsimp only[wS,wE,wA,wV,wG];refine kZ et ?_;rw[HF];refine bo (d:=d) G.pick (hf.ka ka) (by omega) (by omega) λv S2 v0 v1 f2 k2=>?_
  have e2:=k2.get _ _ (by have:=hf.lt; omega) et
  obtain⟨b,hb,eb⟩:=oo (f:=λb:HC HY=>W.tup (ab b)) (xs:=lg n) (i:=v.toNat) (by omega)
  exact iF e2 v0 eb (k b S2 (hg b hb).1 (hg b hb).2 f2 ((ka.kp r).trans k2))
 clear hK g0 g3 hg;rcases(show n=1\/n=2\/n=3 by omega)with rfl|rfl|rfl
 ·exact eH (i:=0) ak rfl (fin _ _ (HW _) (au (au (au ak))) (Ka.push.trans (Ka.push.trans (Ka.push.trans .push))))
 ·exact eH (i:=1) ak rfl (fin _ _ (by simp) (au (au ak)) (Ka.push.trans (Ka.push.trans (Ka.push.trans .push))))
 ·exact eH (i:=2) ak rfl (fin _ _ (by simp only[HM]; omega) (au ak) (Ka.push.trans (Ka.push.trans (Ka.push.trans .push))))
theorem gE (hfu:20 < fuel)(G:Gen defs){a:HJ}{bs:HC HY}{x:W}{us:HC Wd}(hf:Fl S r)(ha:a<=3)(hb:bs.length<=3)(hx:∀S',Kp r S S'->dW S' x=gV (us.map aI))(h64:us.length < 64)(hne:∀u∈us,u≠[])
  (k:∀(ms ns:HC Ih) S',ms.length=a->ns.length=bs.length->GoodN ms ns->Fl S' r->Kp r S S'->Q (cM ms ns bs (iI us),S')) :
  wO (be (ar defs fuel (d+5)) "_law_rule_of" 4 [.ref r,.int a,.tup (ab bs),x] S) Q:=by
 refine az G.rule_of rfl rfl λQ' hR=>?_
 replace k:∀(ms ns:HC Ih) S',ms.length=a->ns.length=bs.length->GoodN ms ns->Fl S' r->Kp r S S'->Q' (.rt (cM ms ns bs (iI us)),S'):=λz y S' a b c e f=>hR _ _ (k z y S' a b c e f)
 clear hR;show wZ _ _ dI [gV (.ref r),gV (.int a),gV (.tup (ab bs)),gV x,td,td] S Q';have hbl:(ab bs).length=bs.length:=HF ..;dsimp only[dI];refine aR λK hK=>?_
 dsimp only[wS,wE,wA,wV,wG,HV];refine bC ?_;rw[hbl];dsimp only[d3,aN];refine AF (d:=d) (m:=a+bs.length) hfu G hf (by omega) λys S1 q2 q3 q4 f1 k1=>hK _ _ ?_
 clear hK K;have hzl:(Ii bn (ys.drop a) bs).length=bs.length:=by
  rw[Ky,KA]; omega
 refine aR λK hK=>?_
 dsimp only[wS,wE,wA,HV];refine dG (bs.length:HY) (λk zs ρ2 S2=>(∃a1,ρ2=[td,a1,gV (.tup (ab bs)),gV (.int a),gV (.tup (ys.map W.str))])/\zs=((Ii bn (ys.drop a) bs).take k)/\S2=S1) rfl rfl rfl (by omega) ?_ ?_ ?_
 ·dsimp only[wE,wA,wV,wG];refine bC ?_;rw[hbl];exact⟨rfl,⟨td,rfl⟩,rfl,rfl⟩
 ·rintro i zs ρ2 S2 hi ⟨⟨a1,rfl⟩,rfl,rfl⟩;clear hK;have hi':i < bs.length:=by omega
  have h1:a+i < ys.length:=by omega
  dsimp only[je,wC,wE,wA,wV,wG,HV,d3,aN];refine⟨λ_=>aj (by omega) (w:=.str ys[a+i]) ?_ (aj (by omega) (w:=.int bs[i]) ?_ ⟨⟨_,rfl⟩,?_,rfl⟩),λz=>by cases z⟩
  ·rw[show((a:HY)+(i:HY)).toNat=a+i by omega,HP,HX h1]; rfl
  ·unfold ab;rw[HU,HP,HX hi']; rfl
  ·have ez:(Ii bn (ys.drop a) bs)[i]?=gV (bn ys[a+i] bs[i]):=ie (by rw[List.getElem?_drop]; exact HX h1) (HX hi')
   rw[Jd,ez];rfl
 ·rintro zs ρ2 S2 ⟨_,rfl,rfl⟩;rw[HU,<- hzl,Jl];refine⟨kY (by omega),fR ak (hK _ _ ?_)⟩
  clear hK K;refine st ?_;dsimp only[wS,wE,wA,wP,wV,wG,wN];have hs:mE (.tup (ys.map W.str)) td (gV (a:HY)) (S2++[O.lst (Ii bn (ys.drop a) bs)])=gV (.tup ((ys.take a).map W.str),S2++[O.lst (Ii bn (ys.drop a) bs)]):=by
   simp only[mE,gk];rw[Ly]
  refine ac hs (xH (hx _ (k1.trans .push)) h64 hne (fR ak ?_));refine k (ys.take a) (ys.drop a) _ ?_ ?_ ⟨?_,?_⟩ ((f1.ka .push).ka .push) (k1.trans (Kp.push.trans .push))
  ·rw[IL]; omega
  ·rw[KA]; omega
  ·rw[Lo]; exact q3
  ·rw[Lo]; exact q4
theorem fI (hfu:20 < fuel)(G:Gen defs){a:HJ}{bs:HC HY}(hf:Fl S r)(ha:a<=3)(hb:bs.length<=3)
  (k:∀(ms ns:HC Ih) S',ms.length=a->ns.length=bs.length->GoodN ms ns->Fl S' r->Kp r S S'->Q (cM ms ns bs [],S')) :
  wO (be (ar defs fuel (d+5)) "_law_rule_of" 4 [.ref r,.int a,.tup (ab bs),.tup []] S) Q:=
 gE hfu G hf ha hb (us:=[]) (λ_ _=>rfl) (by decide) (λ_ h=>nomatch h) k
theorem draws {Φ:Ih->FF}{ρ:Fm}{elt e:E}{cap:HC (HI HJ)}{n i:HJ}{R:Fm}(oe:eN elt=true)(oi:eN e=true)(h1:i<=1000)(hc:fS cap ρ=td::td::R)(hf:Fl S r)(he:∀Q:QW,Q (.int i,S)->wE Φ e ρ S Q)
  (hp:∀(a:HI W) (S1:aa) (Q:QW),Fl S1 r->(∀v S',0<=v->v < (n:HY)->Fl S' r->Kp r S1 S'->Q (.int v,S'))->wE Φ elt (td::a::R) S1 Q)
  (k:∀(vs:HC HY) S',vs.length=i->(∀w∈vs,0<=w/\w < (n:HY))->Fl S' r->Kp r S S'->Q (.ref S'.length,S'++[.lst (ab vs)])) :
  Wp (aK Φ (.comp elt (.nm 1) (.rng (.cons e .nil)) .nil cap) ρ S) Q:=by
 refine dG (i:HY) (λj ys ρ2 S3=>(∃a1,ρ2=td::a1::R)/\(∃vs:HC HY,ys=ab vs/\vs.length=j/\∀w∈vs,0<=w/\w < (n:HY))/\Fl S3 r/\Kp r S S3) oi oe rfl (by omega) (he _ ⟨rfl,⟨td,hc⟩,⟨[],rfl,rfl,λ_ h=>nomatch h⟩,hf,.refl⟩) ?_ ?_
 ·rintro j ys ρ2 S3 hj ⟨⟨a1,rfl⟩,⟨vs,rfl,hvl,hv⟩,f3,k3⟩;refine⟨λ_=>hp _ _ _ f3 λv S4 v0 v1 f4 k4=>⟨⟨_,rfl⟩,⟨vs++[v],(Iw (l₁:=vs) (l₂:=[v])).symm,by rw[HM,hvl]; rfl,λw hw=>?_⟩,f4,k3.trans k4⟩,λz=>by cases z⟩
  rcases IP.mp hw with h|h
  ·exact hv w h
  ·rw[Im.mp h]; exact⟨v0,v1⟩
 ·rintro ys ρ2 S3 ⟨_,⟨vs,rfl,hvl,hv⟩,f3,k3⟩;rw[HU]at hvl;exact⟨kY (by rw[show(ab vs).length=vs.length from HF ..]; omega),k vs S3 hvl hv f3 k3⟩
theorem iJ (G:Gen defs){a n:HJ}(hf:Fl S r)(ha:0 < a)(ha3:a<=3)(hn:0 < n)(hn3:n<=3)(k:∀(u:Wd) S',u.length=3->GoodW a n u->Fl S' r->Kp r S S'->Q (aI u,S')) :
  wO (be (ar defs fuel (d+2)) "_law_free_three" 3 [.ref r,.int a,.int n] S) Q:=by
 refine az G.free_three rfl rfl λQ' hR=>?_
 replace k:∀(u:Wd) S',u.length=3->GoodW a n u->Fl S' r->Kp r S S'->Q' (.rt (aI u),S'):=λz S' a b c e=>hR _ _ (k z S' a b c e)
 clear hR;show wZ _ _ cK [gV (.ref r),gV (.int a),gV (.int n),td,td] S Q';dsimp only[cK];have hrt:=hf.lt;refine st ?_;dsimp only[wS,wE,wA,HV];refine aR λK hK=>?_
 refine di 3 (λk ρ S'=>∃a4 u,ρ=[gV (.ref r),gV (.int a),gV (.int n),gV (.ref S.length),a4]/\S'[S.length]?=gV (.lst (u.map bD))/\u.length=k/\GoodW a n u/\Fl S' r/\Kp r S S') rfl rfl (by decide) ⟨rfl,td,[],rfl,ak,rfl,.nil,hf.ka .push,.push⟩ ?_ ?_
 ·rintro i ρ S1 hi ⟨a4,u,rfl,e1,hul,hu,f1,k1⟩ Q2 hn' _;clear hK;refine st ?_;dsimp only[wS,wE,wA,wV,wG,HV];refine⟨dZ e1,bo (d:=d) G.pick f1 (by omega) (by omega) λv S2 v0 v1 f2 k2=>?_⟩
  have e2:=k2.get _ _ (by omega) e1
  refine draws (n:=n) (i:=i) (R:=[gV (.ref r),gV (.int n)]) rfl rfl (by omega) rfl f2 (λQ q=>q) (λa S1 Q f q=>bo (d:=d) G.pick f (by omega) (by omega) q) λvs S3 hvl hv f3 k3=>?_
  have e3:=au (u:=O.lst (ab vs)) (k3.get _ _ (by omega) e2)
  refine fR ak (mV e3 (by rw[HF]; omega) (b7 (hn' _ _ ⟨_,u++[(v,vs)],rfl,?_,by rw[HM,hul]; rfl,hu.snoc ⟨v0,v1⟩ (hvl.trans hul.symm) hv,(f3.ka .push).own hrt,(k1.trans (k2.trans (k3.trans .push))).late (HW _)⟩)))
  rw[cw e3,Iw]; rfl
 ·rintro ρ S1 ⟨a4,u,rfl,e1,hul,hu,f1,k1⟩;refine hK _ _ (st ?_);dsimp only[wS,wE,wA,wV,wG];exact fR e1 (k u _ hul hu f1 k1)
end
noncomputable def eQ (n:HJ):HC HY:=(Ic n).map λ(k:HJ)=>(k:HY)
noncomputable def qc (a n:HJ):HC Wd:=(eQ a).flatMap λm0=>(eQ a).flatMap λm1=>(eQ a).flatMap λm2=>(eQ n).flatMap λw1=>(eQ n).flatMap λw2=>(eQ n).map λw3=>[(m0,[]),(m1,[w1]),(m2,[w2,w3])]
noncomputable def bc (a:HJ)(bs:HC HY):HC Wd:=((qc a bs.length).map (lf bs)).eraseDups
theorem dk {n:HJ}{x:HY}(h0:0<=x)(h1:x < n):x∈eQ n:=Iq.mpr ⟨x.toNat,IN.mpr (by omega),by omega⟩
theorem uP {a n:HJ}{u:Wd}(h:GoodW a n u)(h3:u.length=3):u∈qc a n:=by
 match u,h3 with
 | [(m0,w0),(m1,w1),(m2,w2)],_=>
  have l0:=h.len 0 _ rfl;have l1:=h.len 1 _ rfl;have l2:=h.len 2 _ rfl;simp only at l0 l1 l2
  match w0,l0 with
  | [],_=>
   match w1,l1 with
   | [x],_=>
    match w2,l2 with
    | [y,z],_=>
     have a0:=h.mark 0 _ rfl;have a1:=h.mark 1 _ rfl;have a2:=h.mark 2 _ rfl;have b1:=h.way 1 _ rfl x (by simp)
     have b2:=h.way 2 _ rfl y (by simp)
     have b3:=h.way 2 _ rfl z (by simp)
     unfold qc;simp only[J7,Iq];exact⟨m0,dk a0.1 a0.2,m1,dk a1.1 a1.2,m2,dk a2.1 a2.2,x,dk b1.1 b1.2,y,dk b2.1 b2.2,z,dk b3.1 b3.2,rfl⟩
theorem AG {a:HJ}{bs:HC HY}{u:Wd}(h:GoodW a bs.length u)(h3:u.length=3):lf bs u∈bc a bs:=by
 unfold bc;rw[LW];exact Iq.mpr ⟨u,uP h h3,rfl⟩
structure SizeOk (a:HJ)(bs:HC HY):Prop where
 pos:0 < a
 good:GoodB bs
 most:a*bs.length<=6
 a3:a<=3
theorem G6:(bc 1 [0]).length < 64/\(bc 2 [0]).length < 64/\(bc 3 [0]).length < 64:=by decide +kernel
theorem F4:(bc 1 [0,1]).length < 64/\(bc 2 [0,1]).length < 64/\(bc 1 [1,0]).length < 64/\(bc 2 [1,0]).length < 64:=by decide +kernel
theorem G7:(bc 1 [0,1,2]).length < 64/\(bc 1 [1,0,2]).length < 64/\(bc 1 [0,2,1]).length < 64:=by decide +kernel
theorem G8:(bc 3 [0,1]).length < 64:=by decide +kernel
theorem G9:(bc 3 [1,0]).length < 64:=by decide +kernel
theorem Ha:(bc 2 [0,1,2]).length < 64:=by decide +kernel
theorem Hb:(bc 2 [1,0,2]).length < 64:=by decide +kernel
theorem Hc:(bc 2 [0,2,1]).length < 64:=by decide +kernel
theorem ow {a:HJ}{bs:HC HY}(h:SizeOk a bs):(bc a bs).length < 64:=by
 obtain⟨h0,hb,hm,h3⟩:=h;have ha:a=1\/a=2\/a=3:=by omega
 rcases hb with rfl|rfl|rfl|rfl|rfl|rfl <;> rcases ha with rfl|rfl|rfl
 ·exact G6.1
 ·exact G6.2.1
 ·exact G6.2.2
 ·exact F4.1
 ·exact F4.2.1
 ·exact G8
 ·exact F4.2.2.1
 ·exact F4.2.2.2
 ·exact G9
 ·exact G7.1
 ·exact Ha
 ·simp at hm
 ·exact G7.2.1
 ·exact Hb
 ·simp at hm
 ·exact G7.2.2
 ·exact Hc
 ·simp at hm
theorem xL (bs:HC HY)(u:Wd):∃t∈ay,lf bs u=aL bs u t:=by
 have h7:(ay.map (aL bs u)).length=6:=by rw[HF]; rfl
 have h8:((ay.map (aL bs u)).map dc).length=6:=by rw[HF,h7]
 have hlt:nS ((ay.map (aL bs u)).map dc) < (ay.map (aL bs u)).length:=by
  unfold nS;have h6:=fH (yE ((ay.map (aL bs u)).map dc)) (((ay.map (aL bs u)).map dc).length - 1);rw[h7]; omega
 unfold lf;rw[getD_some (HX hlt)];obtain⟨t,ht,e⟩:=Iq.mp (Jc hlt);exact⟨t,ht,e.symm⟩
theorem AH (bs:HC HY)(u:Wd):lf bs u≠[]:=by
 obtain⟨t,ht,e⟩:=xL bs u;rw[e];have:∀t∈ay,t≠[]:=by decide
 have h:=this t ht;intro z;have hl:(aL bs u t).length=t.length:=by simp[aL]
 rw[z]at hl;exact h (Ld.mp hl.symm)
theorem qd:∀ {xs ys:HC HY},xs.map T.int=ys.map T.int->xs=ys
 | [],[],_=>rfl
 | [],_::_,h=>by cases h
 | _::_,[],h=>by cases h
 | x::xs,y::ys,h=>by
  rw[JF,JF]at h;injection h with h1 h2
  injection h1 with h1
  rw[h1,qd h2]
theorem AI {p q:Pt}(h:p8 p=p8 q):p=q:=by
 unfold p8 at h;injection h with h
 injection h with h1 h2
 injection h1 with h1
 injection h2 with h2 _
 injection h2 with h2
 exact Pl h1 (qd h2)
theorem tH {u v:Wd}(h:dc u=dc v):u=v:=by
 unfold dc at h;injection h with h
 have inj:∀ {u v:Wd},u.map p8=v.map p8->u=v:=by
  intro u
  induction u with
  | nil=>intro v h; cases v with
   | nil=>rfl
   | cons _ _=>cases h
  | cons p u ih=>intro v h; cases v with
   | nil=>cases h
   | cons q v=>
    rw[JF,JF]at h;injection h with h1 h2
    rw[AI h1,ih h2]
 exact inj h
theorem jg {kvs:HC (T×W)}{k:T}{v:W}:(eO kvs k v).map (·.1)=if k∈kvs.map (·.1)then kvs.map (·.1)else kvs.map (·.1)++[k]:=by
 have hany:(kvs.any λp=>decide (p.1=k))=decide (k∈kvs.map (·.1)):=by
  induction kvs with
  | nil=>rfl
  | cons p kvs ih=>
   rw[Ku,ih,JF]
   by_cases e:p.1=k
   ·subst e; simp
   ·rw[ID e,Nh];have:(k∈p.1::kvs.map (·.1))=(k∈kvs.map (·.1)):=by simp[Ne.symm e]
    simp only[this]
 unfold eO;rw[hany]
 by_cases h:k∈kvs.map (·.1)
 ·rw[Iv h,Iv (JO h),J5];refine J1 λp _=>?_
  show(if p.1=k then(p.1,v)else p).1=p.1
  split <;> rfl
 ·rw[IK h,IK (by simpa using h),Iw]
  rfl
structure FigD (L:HC Wd)(kvs:HC (T×W))(fs:HC Wd):Prop where
 keys:kvs.map (·.1)=fs.map dc
 nd:fs.Nodup
 mem:∀f∈fs,f∈L
theorem FigD.nil {L:HC Wd}:FigD L [] []:=⟨rfl,MW,λ_ h=>nomatch h⟩
theorem FigD.len {L:HC Wd}{kvs:HC (T×W)}{fs:HC Wd}(h:FigD L kvs fs):kvs.length=fs.length/\fs.length<=L.length:=by
 have:=congrArg Pk h.keys;rw[HF,HF]at this;exact⟨this,oq fs L h.nd h.mem⟩
theorem FigD.put {L:HC Wd}{kvs:HC (T×W)}{fs:HC Wd}{f:Wd}{v:W}(h:FigD L kvs fs)(hf:f∈L):∃fs',FigD L (eO kvs (dc f) v) fs':=by
 by_cases hm:f∈fs
 ·refine⟨fs,?_,h.nd,h.mem⟩;rw[jg,Iv (by rw[h.keys]; exact Iq.mpr ⟨f,hm,rfl⟩),h.keys]
 ·refine⟨fs++[f],?_,?_,λg hg=>?_⟩
  ·rw[jg,IK,h.keys,Iw]
   ·rfl
   ·rw[h.keys];intro z;obtain⟨g,hg,e⟩:=Iq.mp z;exact hm (tH e ▸ hg)
  ·rw[List.nodup_append];refine⟨h.nd,by simp,λa ha b hb e=>?_⟩
   rw[Im.mp hb]at e;exact hm (e ▸ ha)
  ·rcases IP.mp hg with h'|h'
   ·exact h.mem g h'
   ·rw[Im.mp h']; exact hf
theorem FigD.items {S:aa}{t:HJ}{L:HC Wd}{kvs:HC (T×W)}{fs:HC Wd}(h:FigD L kvs fs)(e:S[t]?=gV (.dic kvs)):dW S (.ref t)=gV (fs.map aI):=by
 simp only[dW,om e,cJ e,IH];congr 1;have:(kvs.map (·.1)).map T.w=(fs.map dc).map T.w:=by rw[h.keys]
 rw[J5,J5]at this
 calc kvs.map (λp=>p.1.w)=kvs.map (T.w∘λx=>x.1):=rfl
  _=fs.map (T.w∘dc):=this
  _=fs.map aI:=by
   refine J1 λf _=>?_
   exact xA f
theorem qe {a:HJ}{bs:HC HY}{f:Wd}(h:f∈bc a bs):f≠[]:=by
 unfold bc at h;rw[LW]at h;obtain⟨u,_,rfl⟩:=Iq.mp h;exact AH bs u
theorem xM {S:aa}{t:HJ}{kvs:HC (T×W)}{u:Wd}{v:W}(h:S[t]?=gV (.dic kvs))(hl:kvs.length < sizeLine):iA (.ref t) (aI u) v S=gV (S.set t (.dic (eO kvs (dc u) v))):=by
 have hk:=ou u;unfold aI at hk ⊢;simp only[iA,nM,h,hk];rw[Iv hl]
structure RuleAt (a:HJ)(bs:HC HY)(ms ns:HC Ih)(gs:HC Wd):Prop where
 size:SizeOk a bs
 ml:ms.length=a
 nl:ns.length=bs.length
 nm:GoodN ms ns
 nd:gs.Nodup
 mem:∀g∈gs,g∈bc a bs
noncomputable def dC (w:W):Prop:=∃a bs ms ns gs,w=cM ms ns bs (iI gs)/\RuleAt a bs ms ns gs
section
variable{Φ:Ih->FF}{fuel:HJ}{ρ:Fm}{S:aa}{K:Fm->aa->Prop}{Q:QO}
theorem lh {i0:HJ}{e:E}{b:Ss}(oe:eN e=true)(ok:gM b=true)(he:wE Φ e ρ S λp=>∃(j:HY) (I:HJ->Fm->aa->Prop),p.1=.int j/\(-(2 ^ 62)<=j/\j < 2 ^ 62)/\I 0 ρ p.2/\
  (∀(i:HJ) (ρ:Fm) (S:aa),(i:HY) < j->I i ρ S->vh Φ fuel b (ρ.set i0 (gV (.int i))) S (I (i+1)) Q)/\∀ρ S,I j.toNat ρ S->K ρ S):Wp (gb Φ fuel (.loop (.nm i0) (.rng (.cons e .nil)) b) ρ S) (qU K Q):=by
 obtain⟨w,S1,e1,j,I,rfl,hj,h0,hs,hend⟩:=cQ oe he;have hl:(dt 0 j.toNat).length=j.toNat:=by simp[dt]
 refine ic (mi:=.its (dt 0 j.toNat)) (S1:=S1) (xs:=dt 0 j.toNat) I ok ?_ (λ_ _ _ _=>rfl) rfl h0 (λi w ρ S hw hI=>?_) λρ S hI=>hend ρ S (hl ▸ hI)
 ·simp only[kN,dy,eC,hW,rD,e1];rw[Iv hj]
 ·rw[eD]at hw;split at hw
  ·rename_i hk;cases hw;rw[LM];exact hs i ρ S (by omega) hI
  ·cases hw
theorem fu {tg:Tg}{e:E}{b:Ss}(oe:eN e=true)(ok:gM b=true)(he:wE Φ e ρ S λp=>∃(t:HJ) (xs:HC W) (I:HJ->Fm->aa->Prop),p.1=.ref t/\I 0 ρ p.2/\(∀i ρ S,I i ρ S->S[t]?=gV (.lst xs))/\
  (∀(i:HJ) (w:W) (ρ:Fm) (S:aa),xs[i]?=gV w->I i ρ S->wO (gK tg w ρ S) λq=>vh Φ fuel b q.1 q.2 (I (i+1)) Q)/\∀ρ S,I xs.length ρ S->K ρ S):Wp (gb Φ fuel (.loop tg (.seq e) b) ρ S) (qU K Q):=by
 obtain⟨w,S1,e1,t,xs,I,rfl,h0,hat,hs,hend⟩:=cQ oe he;exact ic (mi:=.live t) (S1:=S1) I ok (by simp only[kN,fQ,e1,aM (hat _ _ _ h0)]) (λi ρ S h=>by simp only[MI.at,aM (hat _ _ _ h)]) (by simp only[MI.len,aM (hat _ _ _ h0),IH]) h0 hs hend
end
section
variable{defs:HC (Ih×Df)}{fuel d:HJ}{S:aa}{r:HJ}{Q:QW}
theorem tJ {q:HJ}{a:HJ}{bs:HC HY}{ms ns:HC Ih}{fs0:HC Wd}{kvs:HC (T×W)}{fs:HC Wd}(h3:S[q]?=gV (.dic kvs))(h4:FigD (bc a bs) kvs fs)(hs:SizeOk a bs)(hml:ms.length=a)(hnl:ns.length=bs.length)(hnm:GoodN ms ns)(k:∀w S',dC w->Ka S S'->Q (w,S')) :
  wO (j6 (cM ms ns bs fs0) (.int 0) S) λp=>wO (j6 (cM ms ns bs fs0) (.int 1) p.2) λq'=>wO (Bi.sorted.fn [.ref q] q'.2) λs=>wO (Bi.tuple.fn [s.1] s.2) λz=>Q (.tup [p.1,q'.1,z.1],z.2):=by
 refine aj (by decide) rfl (aj (by decide) rfl ?_)
 have hl:=h4.len;exact xH (h4.items h3) (by have:=ow hs; omega) (λf hf=>qe (h4.mem f hf)) (fR ak (k _ _ ⟨a,bs,ms,ns,fs,rfl,hs,hml,hnl,hnm,h4.nd,h4.mem⟩ .push))
theorem tK {q:HJ}{a:HJ}{bs:HC HY}{u:Wd}{kvs:HC (T×W)}{fs:HC Wd}{Q:aa->Prop}(h3:S[q]?=gV (.dic kvs))(h4:FigD (bc a bs) kvs fs)(hs:SizeOk a bs)(hu:GoodW a bs.length u)(hu3:u.length=3)
  (k:∀o,(∃kvs fs,(S.set q o)[q]?=gV (.dic kvs)/\FigD (bc a bs) kvs fs)->Q (S.set q o)):wO (iA (.ref q) (aI (lf bs u)) (.bl true) S) Q:=by
 have hl:=h4.len;have:=ow hs;obtain⟨fs',h5⟩:=h4.put (v:=.bl true) (AG hu hu3);exact ac (xM h3 (by rw[Ja]; omega)) (k _ ⟨_,fs',cw h3,h5⟩)
theorem rO (hfu:20 < fuel)(G:Gen defs)(hf:Fl S r)(k:∀w S',dC w->Fl S' r->Kp r S S'->Q (w,S')):wO (be (ar defs fuel (d+6)) "_law_any_rule" 1 [.ref r] S) Q:=by
 refine az G.any_rule rfl rfl λQ' hR=>?_
 replace k:∀w S',dC w->Fl S' r->Kp r S S'->Q' (.rt w,S'):=λz S' a b c=>hR _ _ (k z S' a b c)
 clear hR;show wZ _ _ dj [gV (.ref r),td,td,td,td,td] S Q';dsimp only[dj];refine aR λK hK=>?_
 dsimp only[wS,wE,wA,wV,wG];refine tD (d:=d+3) G hf λa n S1 a1 a3 n1 n3 an f1 k1=>?_
 dsimp only[wU];refine ac (show dz [1,2] [.int a,.int n] [gV (.ref r),td,td,td,td,td]=gV [gV (.ref r),gV (.int a),gV (.int n),td,td,td]from rfl) (hK _ _ ?_)
 clear hK K;refine aR λK hK=>?_
 dsimp only[wS,wE,wA,wV,wG,HV];refine tF (d:=d+3) G f1 n1 n3 λbs S2 hb hbl f2 k2=>?_
 have hsz:SizeOk a bs:=⟨by omega,hb,by rw[hbl]; exact an,a3⟩
 refine fI (d:=d) hfu G f2 a3 (by omega) λms ns S3 hml hnl hnm f3 k3=>hK _ _ ?_
 clear hK K;have hrt:=f3.lt;replace k3:Kp r S S3:=k1.trans (k2.trans k3);clear k1 k2 f1 f2;refine st ?_;dsimp only[wS,wE,HV];refine aR λK hK=>?_
 refine lh rfl rfl ?_;dsimp only[wE,wA,wV,wG];refine bo (d:=d+4) G.pick (f3.ka .push) (by decide) (by decide) λv S4 v0 v9 f4 k4=>?_
 refine⟨v,λk ρ S'=>(∃a5,ρ=[gV (.ref r),gV (.int a),gV (.int n),gV (cM ms ns bs []),gV (.ref S3.length),a5])/\(∃kvs fs,S'[S3.length]?=gV (.dic kvs)/\FigD (bc a bs) kvs fs)/\Fl S' r/\Kp r S S',rfl,by omega,⟨⟨td,rfl⟩,⟨[],[],k4.get _ _ (by omega) ak,.nil⟩,f4,(k3.trans .push).trans k4⟩,?_,?_⟩
 ·rintro i ρ S5 hi ⟨⟨a5,rfl⟩,⟨kvs,fs,e5,hd⟩,f5,k5⟩ Q2 hn _;clear hK;refine st ?_;dsimp only[wS,wE,wA,wV,wG,HV];refine iJ (d:=d+3) G f5 (by omega) a3 (by omega) n3 λu S6 hu3 hu f6 k6=>?_
  have hu:GoodW a bs.length u:=hbl.symm ▸ hu;refine iH (d:=d+2) G hb hnl hu hu3 λS7 k7=>?_
  have e7:=k7.get _ _ (k6.get _ _ (by omega) e5)
  exact tK e7 hd hsz hu hu3 λo ho=>b7 (hn _ _ ⟨⟨_,rfl⟩,ho,(f6.ka k7).own hrt,((k5.trans k6).trans (k7.kp r)).late k3.len⟩)
 ·rintro ρ S5 ⟨⟨a5,rfl⟩,⟨kvs,fs,e5,hd⟩,f5,k5⟩;refine hK _ _ (st ?_);dsimp only[wS,wE,wA,wV,wG];exact tJ (Q:=λp=>Q' (.rt p.1,p.2)) e5 hd hsz hml hnl hnm λw S6 hw k6=>k w S6 hw (f5.ka k6) (k5.trans (k6.kp r))
end
noncomputable def fw (t:HY×HY×HY):W:=.tup [.int t.1,.int t.2.1,.int t.2.2]
noncomputable def qf (a:HJ)(t:HY×HY×HY):Prop:=(0<=t.1/\t.1 < a)/\(0<=t.2.1/\t.2.1 < a)/\(0<=t.2.2/\t.2.2 < a)
noncomputable def xN (k:HY):Wd:=[(k,[]),(k,[0]),(k,[0,0])]
theorem Hd:∀k∈eQ 1,xN k∈bc 1 [0]:=by decide +kernel
theorem He:∀k∈eQ 2,xN k∈bc 2 [0]:=by decide +kernel
theorem Hf:∀k∈eQ 3,xN k∈bc 3 [0]:=by decide +kernel
theorem AJ {a:HJ}{k:HY}(h0:1<=a)(h3:a<=3)(hk:0<=k)(hk2:k < a):xN k∈bc a [0]:=by
 have ha:a=1\/a=2\/a=3:=by omega
 rcases ha with rfl|rfl|rfl
 ·exact Hd k (dk hk hk2)
 ·exact He k (dk hk hk2)
 ·exact Hf k (dk hk hk2)
theorem AK {a b:HY}(h:xN a=xN b):a=b:=by
 unfold xN at h;injection h with h1 h2
 injection h1
theorem iK:GoodB [0]:=.inl rfl
theorem BP {S:aa}{i j:HJ}{xs:HC W}(h1:S[i]?=gV (.lst xs))(h2:S[j]?=gV (.lst [])):cp .eq (.ref i) (.ref j) S=gV (.bl xs.isEmpty,S):=by
 show(jG S (19+1) (.ref i) (.ref j)).map _=_;simp only[jG,dh h1,dh h2];cases xs with
 | nil=>rfl
 | cons x xs=>rfl
theorem AL {S:aa}{f:HY}{ws:HC HY}:∃b,cp .notin (.int f) (.tup (ab ws)) S=gV (.bl b,S):=by
 have hf:(cz (.int f)&&(ab ws).all cz)=true:=by
  simp only[cz,K6,IC];intro x hx;obtain⟨z,_,rfl⟩:=Iq.mp hx;rfl
 refine⟨!(ab ws).any λz=>yC z (.int f),?_⟩
 show ir .notin (.int f) (.tup (ab ws)) S=_;simp only[ir,DT,Bv,fO,hf,KJ,IH]
section
variable{Φ:Ih->FF}{fuel:HJ}{ρ:Fm}{S:aa}{K:Fm->aa->Prop}{Q:QO}
theorem iL {i0:HJ}{a b:E}{bd:Ss}(i j:HY)(I:HJ->Fm->aa->Prop)(oa:eN a=true)(ob:eN b=true)(ok:gM bd=true)(hj : -(2 ^ 62)<=i/\i < 2 ^ 62/\-(2 ^ 62)<=j/\j < 2 ^ 62)(he:wE Φ a ρ S λp=>p.1=.int i/\wE Φ b ρ p.2 λq=>q.1=.int j/\I 0 ρ q.2)
  (hstep:∀(k:HJ) (ρ:Fm) (S:aa),(k:HY) < j - i->I k ρ S->vh Φ fuel bd (ρ.set i0 (gV (.int (i+k)))) S (I (k+1)) Q) (hend:∀ρ S,I (j - i).toNat ρ S->K ρ S):Wp (gb Φ fuel (.loop (.nm i0) (.rng2 (.cons a (.cons b .nil))) bd) ρ S) (qU K Q):=by
 obtain⟨w,S1,e1,rfl,h1⟩:=cQ oa he;obtain⟨w,S2,e2,rfl,h0⟩:=cQ ob h1;have hl:(dt i (j - i).toNat).length=(j - i).toNat:=by simp[dt]
 refine ic (mi:=.its (dt i (j - i).toNat)) (S1:=S2) (xs:=dt i (j - i).toNat) I ok ?_ (λ_ _ _ _=>rfl) rfl h0 (λk w ρ S hw hI=>?_) λρ S hI=>hend ρ S (hl ▸ hI)
 ·simp only[kN,dy,eC,hW,iRng2,e1,e2];rw[Iv hj]
 ·rw[eD]at hw;split at hw
  ·rename_i hk;cases hw;exact hstep k ρ S (by omega) hI
  ·cases hw
theorem xO {elt a b:E}{i0:HJ}{cs:Es}{cap:HC (HI HJ)}{Q:QW}(i j:HY)(I:HJ->HC W->Fm->aa->Prop)(oa:eN a=true)(ob:eN b=true)(oe:eN elt=true)(oc:p7 cs=true)(hj : -(2 ^ 62)<=i/\i < 2 ^ 62/\-(2 ^ 62)<=j/\j < 2 ^ 62)(he:wE Φ a ρ S λp=>p.1=.int i/\wE Φ b ρ p.2 λq=>q.1=.int j/\I 0 [] (fS cap ρ) q.2)
  (hstep:∀(k:HJ) (ys:HC W) (ρ:Fm) (S:aa),(k:HY) < j - i->I k ys ρ S->je Φ elt cs (ρ.set i0 (gV (.int (i+k)))) S (λy=>I (k+1) (ys++[y])) (I (k+1) ys))
  (hend:∀ys ρ S,I (j - i).toNat ys ρ S->ys.length<=sizeLine/\Q (.ref S.length,S++[.lst ys])):Wp (aK Φ (.comp elt (.nm i0) (.rng2 (.cons a (.cons b .nil))) cs cap) ρ S) Q:=by
 obtain⟨w,S1,e1,rfl,h1⟩:=cQ oa he;obtain⟨w,S2,e2,rfl,h0⟩:=cQ ob h1;have hl:(dt i (j - i).toNat).length=(j - i).toNat:=by simp[dt]
 refine kX (mi:=.its (dt i (j - i).toNat)) (S1:=S2) (xs:=dt i (j - i).toNat) I oe oc ?_ (λ_ _ _ _ _=>rfl) rfl h0 (λk w ys ρ S hw hI=>?_) λys ρ S hI=>hend ys ρ S (hl ▸ hI)
 ·simp only[kN,dy,eC,hW,iRng2,e1,e2];rw[Iv hj]
 ·rw[eD]at hw;split at hw
  ·rename_i hk;cases hw;exact hstep k ys ρ S (by omega) hI
  ·cases hw
end
section
variable{defs:HC (Ih×Df)}{fuel d:HJ}{S:aa}{r:HJ}{Q:QW}
theorem qg (G:Gen defs){a:HJ}(ha:a<=3)(k:∀(q:HJ) (ts:HC (HY×HY×HY)) (S':aa),S'[q]?=gV (.lst (ts.map fw))->(∀t∈ts,qf a t)->S.length<=q->Ka S S'->Q (.ref q,S')) :
  wO (be (ar defs fuel (d+1)) "_law_rising" 1 [.int a] S) Q:=by
 refine az G.rising rfl rfl λQ' hR=>?_
 replace k:∀(q:HJ) (ts:HC (HY×HY×HY)) (S':aa),S'[q]?=gV (.lst (ts.map fw))->(∀t∈ts,qf a t)->S.length<=q->Ka S S'->Q' (.rt (.ref q),S'):=λq ts S' a b c e=>hR _ _ (k q ts S' a b c e)
 clear hR;show wZ _ _ ec [gV (.int a),td,td,td] S Q';dsimp only[ec];refine st ?_;dsimp only[wS,wE,wA,HV];refine aR λK hK=>?_
 refine di (a:HY) (λi ρ S'=>∃(q:HJ) (ts:HC (HY×HY×HY)) (a2 a3:HI W),ρ=[gV (.int a),gV (.ref q),a2,a3]/\S'[q]?=gV (.lst (ts.map fw))/\(∀t∈ts,qf a t)/\S.length<=q/\ts.length<=9*i/\Ka S S') rfl rfl (by omega) ⟨rfl,_,[],_,_,rfl,ak,λ_ h=>(nomatch h),HW _,J6 _,.push⟩ ?_ ?_
 ·rintro i ρ S1 hi ⟨q,ts,a2,a3,rfl,e1,ht,hq,hl,k1⟩ Q2 hn _;clear hK k;refine aR λK hK=>?_
  refine iL (i:HY) (a:HY) (λj ρ S'=>∃(q:HJ) (ts:HC (HY×HY×HY)) (a3:HI W),ρ=[gV (.int a),gV (.ref q),gV (.int i),a3]/\S'[q]?=gV (.lst (ts.map fw))/\(∀t∈ts,qf a t)/\S.length<=q/\ts.length<=9*i+3*j/\Ka S S') rfl rfl rfl (by omega) ⟨rfl,rfl,q,ts,a3,rfl,e1,ht,hq,by omega,k1⟩ ?_ ?_
  ·rintro j ρ S2 hj ⟨q,ts,a3,rfl,e2,ht,hq,hl,k2⟩ Q3 hn3 _;clear hK hn;refine st ?_;dsimp only[wS,wE,wV,wG,HV];refine xO ((i:HY)+j) (a:HY) (λm ys ρ2 S3=>(∃a1,ρ2=[td,a1,gV (.int i),gV (.int ((i:HY)+j))])/\(∃us:HC (HY×HY×HY),ys=us.map fw/\us.length=m/\∀t∈us,qf a t)/\S3=S2) rfl rfl rfl rfl (by omega) ⟨rfl,rfl,⟨td,rfl⟩,⟨[],rfl,rfl,λ_ h=>nomatch h⟩,rfl⟩ ?_ ?_
   ·rintro m ys ρ2 S3 hm ⟨⟨a1,rfl⟩,⟨us,rfl,hul,hu⟩,rfl⟩;refine⟨λ_=>⟨⟨_,rfl⟩,⟨us++[((i:HY),(i:HY)+j,(i:HY)+j+m)],by rw[Iw]; rfl,by rw[HM,hul]; rfl,λt h=>?_⟩,rfl⟩,λz=>by cases z⟩
    rcases IP.mp h with h|h
    ·exact hu t h
    ·rw[Im.mp h];exact⟨⟨by omega,by omega⟩,⟨by dsimp only; omega,by dsimp only; omega⟩,⟨by dsimp only; omega,by dsimp only; omega⟩⟩
   ·rintro ys ρ2 S3 ⟨_,⟨us,rfl,hul,hu⟩,rfl⟩;refine⟨kY (by rw[HF]; omega),ac (ol (au e2) ak ?_) (b7 (hn3 _ _ ⟨_,ts++us,_,rfl,?_,λt h=>(IP.mp h).elim (ht t) (hu t),?_,?_,k2.trans (Ka.push.trans .push)⟩))⟩
    ·refine kY ?_;rw[HM,HF,HF];omega
    ·rw[Iw]; exact ak
    ·have:=k2.len;simp only[HM]; omega
    ·rw[HM]; omega
  ·rintro ρ S2 ⟨q,ts,a3,rfl,e2,ht,hq,hl,k2⟩;exact hK _ _ (b7 (hn _ _ ⟨q,ts,_,_,rfl,e2,ht,hq,by omega,k2⟩))
 ·rintro ρ S1 ⟨q,ts,a2,a3,rfl,e1,ht,hq,hl,k1⟩;refine hK _ _ (st ?_);exact k q ts S1 e1 ht hq k1
theorem uQ (hfu:20 < fuel)(G:Gen defs)(hf:Fl S r)(k:∀w S',dC w->Fl S' r->Kp r S S'->Q (w,S')):wO (be (ar defs fuel (d+6)) "_law_one_way_rule" 1 [.ref r] S) Q:=by
 refine az G.one_way_rule rfl rfl λQ' hR=>?_
 replace k:∀w S',dC w->Fl S' r->Kp r S S'->Q' (.rt w,S'):=λz S' a b c=>hR _ _ (k z S' a b c)
 clear hR;show wZ _ _ cx [gV (.ref r),td,td] S Q';dsimp only[cx];refine aR λK hK=>?_
 dsimp only[wS,wE,wA,wV,wG,HV];refine bo (d:=d+4) G.pick hf (by decide) (by decide) λv S1 v0 v3 f1 k1=>?_
 dsimp only[d3,aN];obtain⟨a,ea⟩ : ∃a:HJ,1+v=a:=⟨(1+v).toNat,by omega⟩
 rw[ea];refine hK _ _ ?_;clear hK K;refine aR λK hK=>?_
 dsimp only[wS,wE,HV];refine dG (a:HY) (λk zs ρ2 S2=>(∃a1,ρ2=[td,a1,gV (.ref r)])/\(∃ks:HC HY,zs=(ks.map xN).map aI/\ks.Pairwise (·≠·)/\ks.length<=k/\∀x∈ks,0<=x/\x < k)/\Fl S2 r/\Kp r S1 S2) rfl rfl rfl (by omega) ⟨rfl,⟨td,rfl⟩,⟨[],rfl,.nil,HW _,λ_ h=>(nomatch h)⟩,f1,.refl⟩ ?_ ?_
 ·rintro i zs ρ2 S2 hi ⟨⟨a1,rfl⟩,⟨ks,rfl,hkp,hkl,hks⟩,f2,k2⟩;clear hK k;dsimp only[je,wC,wT,wE,wA,wV,wG,HV];refine bo (d:=d+4) G.pick f2 (by decide) (by decide) λv S3 _ _ f3 k3=>?_
  dsimp only[gL,aN,wB];refine⟨λ_=>⟨⟨_,rfl⟩,⟨ks++[(i:HY)],by simp[xN,aI,bD],?_,by rw[HM]; exact Ls hkl,λx hx=>?_⟩,f3,k2.trans k3⟩,λ_=>⟨⟨_,rfl⟩,⟨ks,rfl,hkp,by omega,λx hx=>⟨(hks x hx).1,by have:=(hks x hx).2; omega⟩⟩,f3,k2.trans k3⟩⟩
  ·rw[List.pairwise_append];refine⟨hkp,by simp,λx hx y hy e=>?_⟩
   have:=(hks x hx).2;rw[Im.mp hy]at e;omega
  ·rcases IP.mp hx with h|h
   ·exact⟨(hks x h).1,by have:=(hks x h).2; omega⟩
   ·rw[Im.mp h]; omega
 ·rintro zs ρ2 S2 ⟨_,⟨ks,rfl,hkp,hkl,hks⟩,f2,k2⟩;rw[HU]at hkl hks;refine⟨kY (by rw[HF,HF]; omega),hK _ _ (st ?_)⟩
  clear hK K;dsimp only[wS,wE,wA,wV,wG,HV];have hlt:=f2.lt;refine gE (d:=d) (a:=a) (bs:=[0]) (us:=ks.map xN) hfu G (f2.ka .push) (by omega) (by decide) (λS' kk=>?_) (by rw[HF]; omega) (λu hu=>by obtain⟨x,_,rfl⟩:=Iq.mp hu; exact List.cons_ne_nil _ _) λms ns S3 hml hnl hnm f3 k3=>?_
  ·simp only[dW,aM (kk.get _ _ (by omega) ak)]
  refine k _ _ ⟨a,[0],ms,ns,ks.map xN,rfl,⟨⟨by omega,iK,by simp; omega,by omega⟩,hml,hnl,hnm,?_,λg hg=>?_⟩⟩ f3 (k1.trans (k2.trans (Kp.push.trans k3)))
  ·unfold PP;rw[L8];exact hkp.imp λh e=>h (AK e)
  ·obtain⟨x,hx,rfl⟩:=Iq.mp hg;exact AJ (by omega) (by omega) (hks x hx).1 (hks x hx).2
theorem qh (hfu:20 < fuel)(G:Gen defs)(hf:Fl S r)(k:∀w S',dC w->Fl S' r->Kp r S S'->Q (w,S')):wO (be (ar defs fuel (d+6)) "_law_free_rule" 1 [.ref r] S) Q:=by
 refine az G.free_rule rfl rfl λQ' hR=>?_
 replace k:∀w S',dC w->Fl S' r->Kp r S S'->Q' (.rt w,S'):=λz S' a b c=>hR _ _ (k z S' a b c)
 clear hR;show wZ _ _ cW [gV (.ref r),td,td,td,td,td,td,td,td] S Q';dsimp only[cW];refine aR λK hK=>?_
 dsimp only[wS,wE,wA,wV,wG];refine tD (d:=d+3) G hf λa n S1 a1 a3 n1 n3 an f1 k1=>?_
 dsimp only[wU];refine ac (show dz [1,2] [.int a,.int n] [gV (.ref r),td,td,td,td,td,td,td,td]=gV [gV (.ref r),gV (.int a),gV (.int n),td,td,td,td,td,td]from rfl) (hK _ _ ?_)
 clear hK K;refine aR λK hK=>?_
 dsimp only[wS,wE,wA,wV,wG,HV];refine tF (d:=d+3) G f1 n1 n3 λbs S2 hb hbl f2 k2=>?_
 have hsz:SizeOk a bs:=⟨by omega,hb,by rw[hbl]; exact an,a3⟩
 refine fI (d:=d) hfu G f2 a3 (by omega) λms ns S3 hml hnl hnm f3 k3=>hK _ _ ?_
 clear hK K;have hrt:=f3.lt;replace k3:Kp r S S3:=k1.trans (k2.trans k3);clear k1 k2 f1 f2;refine aR λK hK=>?_
 dsimp only[wS,wE,HV];refine dG (n:HY) (λi zs ρ2 S2=>(∃a1,ρ2=[td,a1,gV (cM ms ns bs [])])/\(∃ks:HC HY,zs=ab ks/\ks.length<=i)/\S2=S3) rfl rfl rfl (by omega) ⟨rfl,⟨td,rfl⟩,⟨[],rfl,HW _⟩,rfl⟩ ?_ ?_
 ·rintro i zs ρ2 S2 hi ⟨⟨a1,rfl⟩,⟨ks,rfl,hkl⟩,rfl⟩;clear hK k;have hi':i < bs.length:=by omega
  dsimp only[je,wC,wT,wE,wA,wV,wG,HV];refine aj (by decide) rfl (aj (HR i) (by rw[HU]; exact ie (HX (by omega)) (HX hi')) (aj (by decide) rfl ?_))
  dsimp only[gL,aN,wB];exact⟨λ_=>⟨⟨_,rfl⟩,⟨ks++[(i:HY)],by unfold ab; rw[Iw]; rfl,by rw[HM]; exact Ls hkl⟩,rfl⟩,λ_=>⟨⟨_,rfl⟩,⟨ks,rfl,by omega⟩,rfl⟩⟩
 ·rintro zs ρ2 S2 ⟨_,⟨ks,rfl,hkl⟩,rfl⟩;rw[HU]at hkl;have il:(ab ks).length=ks.length:=HF ..;refine⟨kY (by omega),hK _ _ ?_⟩
  clear hK K;refine aR λK hK=>?_
  dsimp only[wS,wT,wE,wA,wV,wG,HV];refine ac (BP (au ak) ak) ?_;dsimp only[wB];have f4:=(f3.ka (Ka.push (o:=O.lst (ab ks)))).ka (Ka.push (o:=O.lst []));have k4:=k3.trans ((Kp.push (o:=O.lst (ab ks))).trans (Kp.push (o:=O.lst [])));have e4:=au (u:=O.lst []) (ak (S:=S2) (o:=O.lst (ab ks)));have hl4:S2.length < (S2++[O.lst (ab ks)]++[O.lst []]).length:=by simp
  generalize hS4:S2++[O.lst (ab ks)]++[O.lst []]=S4 at f4 k4 e4 hl4;clear hS4;have ret:∀Q2:QO,(∀w S',Q' (.rt w,S')->Q2 (.rt w,S'))->wZ (ar defs fuel (d+5)) fuel (.cons (.ret (.v 3)) .nil) [gV (.ref r),gV (.int a),gV (.int n),gV (cM ms ns bs []),td,gV (.ref S2.length),td,td,td] S4 Q2:=λQ2 hr=>st (hr _ _ (k _ _ ⟨a,bs,ms,ns,[],rfl,hsz,hml,hnl,hnm,.nil,λ_ h=>(nomatch h)⟩ f4 k4))
  refine⟨λ_=>aq (Q0:=Q') (λ_ Q2 _ hr=>ret Q2 hr) (λz=>by cases z),λhne=>?_⟩
  dsimp only[gL,aN,wB];refine aq (Q0:=Q') (λ_ Q2 _ hr=>ret Q2 hr) (λ_ Q2 hn _=>b7 (hn _ _ (hK _ _ ?_)))
  clear hK ret hn;have hk0:0 < ks.length:=by
   cases ks with
   | nil=>cases hne
   | cons x ks=>exact Nat.succ_pos _
  refine aR λK hK=>?_
  dsimp only[wS,wE,wA,wV,wG,HV];refine kZ e4 ?_;rw[il];refine bo (d:=d+4) G.pick f4 (by omega) (by omega) λv S5 v0 v1 f5 k5=>?_
  have e5:=k5.get _ _ (by omega) e4
  obtain⟨x,_,ex⟩:=oo (f:=W.int) (xs:=ks) (i:=v.toNat) (by omega)
  refine iF e5 v0 ex (hK _ _ ?_);clear hK K;replace k5:Kp r S S5:=k4.trans k5;have hrt5:=f5.lt;refine st ?_;dsimp only[wS,wE,HV];refine aR λK hK=>?_
  refine lh rfl rfl ?_;dsimp only[wE,wA,wV,wG];refine bo (d:=d+4) G.pick (f5.ka .push) (by decide) (by decide) λv S6 v0 v9 f6 k6=>?_
  refine⟨v,λ_ ρ S'=>(∃a4 a8,ρ=[gV (.ref r),gV (.int a),gV (.int n),gV (cM ms ns bs []),a4,gV (.ref S2.length),gV (.int x),gV (.ref S5.length),a8])/\(∃kvs fs,S'[S5.length]?=gV (.dic kvs)/\FigD (bc a bs) kvs fs)/\Fl S' r/\Kp r S S',rfl,by omega,⟨⟨td,td,rfl⟩,⟨[],[],k6.get _ _ (by omega) ak,.nil⟩,f6,(k5.trans .push).trans k6⟩,?_,?_⟩
  ·rintro i ρ S7 hi ⟨⟨a4,a8,rfl⟩,⟨kvs,fs,e7,hd⟩,f7,k7⟩ Q2 hn _;clear hK k;refine st ?_;dsimp only[wS,wE,wA,wV,wG,HV];refine iJ (d:=d+3) G f7 (by omega) a3 (by omega) n3 λu S8 hu3 hu f8 k8=>?_
   have hu:GoodW a bs.length u:=hbl.symm ▸ hu;have e8:=k8.get _ _ (by omega) e7
   obtain⟨p0,p1,p2,rfl⟩ : ∃p0 p1 p2,u=[p0,p1,p2]:=by
    match u,hu3 with
    | [p0,p1,p2],_=>exact⟨p0,p1,p2,rfl⟩
   have l1:=hu.len 1 p1 rfl;obtain⟨m1,ws1⟩:=p1;obtain⟨w1,rfl⟩ : ∃w1,ws1=[w1]:=by
    match ws1,l1 with
    | [w1],_=>exact⟨w1,rfl⟩
   obtain⟨b,hb2⟩:=AL (S:=S8) (f:=x) (ws:=p2.2);have kk:=k7.trans k8;refine aR λK hK=>?_
   dsimp only[wS,wT,wE,wA,wV,wG];refine aj (by decide) rfl (aj (by decide) rfl (aj (by decide) rfl ?_))
   dsimp only[Dq,aN,wB];have skip:K [gV (.ref r),gV (.int a),gV (.int n),gV (cM ms ns bs []),gV (.int i),gV (.ref S2.length),gV (.int x),gV (.ref S5.length),gV (aI [p0,(m1,[w1]),p2])] S8:=hK _ _ (b7 (hn _ _ ⟨⟨_,_,rfl⟩,⟨kvs,fs,e8,hd⟩,f8,kk⟩));refine⟨λ_=>?_,λ_=>aq (Q0:=Q2) (λz=>by cases z) λ_ Q3 hn3 _=>b7 (hn3 _ _ skip)⟩
   refine aj (by decide) rfl (aj (by decide) rfl (ac hb2 ?_))
   dsimp only[wB];refine aq (Q0:=Q2) (λ_ Q3 hn3 _=>?_) λ_ Q3 hn3 _=>b7 (hn3 _ _ skip)
   clear skip;refine st ?_;dsimp only[wS,wE,wA,wV,wG];refine iH (d:=d+2) G hb hnl hu hu3 λS9 k9=>?_
   exact tK (k9.get _ _ e8) hd hsz hu hu3 λo ho=>b7 (hn3 _ _ (hK _ _ (b7 (hn _ _ ⟨⟨_,_,rfl⟩,ho,(f8.ka k9).own hrt5,(kk.trans (k9.kp r)).late k5.len⟩))))
  ·rintro ρ S7 ⟨⟨a4,a8,rfl⟩,⟨kvs,fs,e7,hd⟩,f7,k7⟩;refine hK _ _ (st ?_);dsimp only[wS,wE,wA,wV,wG];exact tJ (Q:=λp=>Q' (.rt p.1,p.2)) e7 hd hsz hml hnl hnm λw S8 hw k8=>k w S8 hw (f7.ka k8) (k7.trans (k8.kp r))
end
noncomputable def cu (u v:HY):T:=.tup [.int u,.int v]
noncomputable def dM (u v:HY):W:=.tup [.int u,.int v]
theorem iM {u v:HY}:gH (dM u v)=gV (cu u v):=rfl
theorem xP {kvs:HC (T×W)}{k:T}{v:W}{p:T×W}(h:p∈eO kvs k v):p∈kvs\/p=(k,v):=by
 unfold eO at h;split at h
 ·obtain⟨q,hq,rfl⟩:=Iq.mp h;split
  ·rename_i e; exact .inr (by rw[e])
  ·exact .inl hq
 ·rcases IP.mp h with h|h
  ·exact .inl h
  ·exact .inr (Im.mp h)
theorem ll {kvs:HC (T×W)}{k:T}{v:W}(h:cm kvs k=gV v):(k,v)∈kvs:=by
 unfold cm at h;rw[HG]at h;obtain⟨p,h1,rfl⟩:=h;have:=MG h1;rw[<- Jm this];exact List.mem_of_find?_eq_some h1
theorem tL {kvs:HC (T×W)}{p:T×W}(h:p∈kvs):∃v,cm kvs p.1=gV v:=by
 unfold cm;cases e:kvs.find? λq=>decide (q.1=p.1)with
 | some q=>exact⟨q.2,rfl⟩
 | none=>exact absurd (KF.mp e p h) (by simp)
noncomputable def MustE (S:aa)(n b:HJ)(kvs:HC (T×W)):Prop:=∀p∈kvs,∃(u v:HY) (l:HJ) (ws:HC HY),p=(cu u v,W.ref l)/\(0<=u/\u < n)/\(0<=v/\v < n)/\b<=l/\S[l]?=gV (.lst (ab ws))/\ws.length<=3/\∀w∈ws,0<=w/\w < (n:HY)
theorem MustE.mono {S S':aa}{n b:HJ}{kvs:HC (T×W)}(h:MustE S n b kvs)(k:∀(l:HJ) (ws:HC HY),b<=l->S[l]?=gV (.lst (ab ws))->S'[l]?=gV (.lst (ab ws))):MustE S' n b kvs:=λp hp=>
 let ⟨u,v,l,ws,h1,h2,h3,h4,h5,h6⟩:=h p hp
 ⟨u,v,l,ws,h1,h2,h3,h4,k l ws h4 h5,h6⟩
theorem MustE.ka {S S':aa}{n b:HJ}{kvs:HC (T×W)}(h:MustE S n b kvs)(k:Ka S S'):MustE S' n b kvs:=h.mono λl ws _ e=>k.get _ _ e
theorem MustE.kp {S S':aa}{n b r:HJ}{kvs:HC (T×W)}(h:MustE S n b kvs)(hr:r < b)(k:Kp r S S'):MustE S' n b kvs:=h.mono λl ws hl e=>k.get _ _ (by omega) e
theorem MustE.set {S:aa}{n b t:HJ}{kvs k:HC (T×W)}{o:O}(h:MustE S n b kvs)(ht:S[t]?=gV (.dic k)):MustE (S.set t o) n b kvs:=h.mono λl ws hl e=>by
 rw[cj (by rintro rfl; rw[ht]at e; cases e)]; exact e
theorem MustE.put {S:aa}{n b:HJ}{kvs:HC (T×W)}{u v:HY}{l:HJ}{ws:HC HY}(h:MustE S n b kvs)(h2:0<=u/\u < n)(h3:0<=v/\v < n)(h4:b<=l)(h5:S[l]?=gV (.lst (ab ws)))(h6:ws.length<=3)(h7:∀w∈ws,0<=w/\w < (n:HY)):MustE S n b (eO kvs (cu u v) (.ref l)):=λp hp=>by
 rcases xP hp with hp|rfl
 ·exact h p hp
 ·exact⟨u,v,l,ws,rfl,h2,h3,h4,h5,h6,h7⟩
noncomputable abbrev AM:=HY×HY×HC HY
noncomputable def qi (ws:HC HY):Es:=ws.foldr (λw es=>.cons (.c (.int w)) es) .nil
noncomputable def tM:HC AM->Es
 | []=>.nil
 | e::L=>.cons (.tup (.cons (.c (.int e.1)) (.cons (.c (.int e.2.1)) .nil))) (.cons (.lst (qi e.2.2)) (tM L))
noncomputable def uR:HC AM->HJ->HC W
 | [],_=>[]
 | e::L,s=>dM e.1 e.2.1::.ref s::uR L (s+1)
noncomputable def uS (L:HC AM):aa:=L.map λe=>O.lst (ab e.2.2)
noncomputable def tN (n:HJ)(e:AM):Ir:=decide ((0<=e.1/\e.1 < n)/\(0<=e.2.1/\e.2.1 < n)/\e.2.2.length<=3)&&e.2.2.all λw=>decide (0<=w/\w < (n:HY))
section
variable{Φ:Ih->FF}{ρ:Fm}
theorem rP {S:aa}:∀ {ws:HC HY} {Q:HC W×aa->Prop},Q (ab ws,S)->wA Φ (qi ws) ρ S Q
 | [],Q,q=>by show wA Φ .nil ρ S Q; exact q
 | w::ws,Q,q=>by show wA Φ (.cons (.c (.int w)) (qi ws)) ρ S Q; dsimp only[wA,wE]; exact rP q
theorem xQ:∀ {L:HC AM} {S:aa} {Q:HC W×aa->Prop},Q (uR L S.length,S++uS L)->wA Φ (tM L) ρ S Q
 | [],S,Q,q=>by
  show wA Φ .nil ρ S Q;dsimp only[wA]
  rwa [show S++uS []=S from Jy S]at q
 | e::L,S,Q,q=>by
  show wA Φ (.cons (.tup (.cons (.c (.int e.1)) (.cons (.c (.int e.2.1)) .nil))) (.cons (.lst (qi e.2.2)) (tM L))) ρ S Q;dsimp only[wA,wE];refine rP (xQ ?_);rw[HM,KL];exact q
end
theorem mY {S:aa}{n b:HJ}:∀(L:HC AM) (s:HJ) (kvs:HC (T×W)),MustE S n b kvs->b<=s->(∀e∈L,tN n e=true)->(∀i e,L[i]?=gV e->S[s+i]?=gV (.lst (ab e.2.2)))->∃kvs',dX kvs (uR L s)=gV kvs'/\MustE S n b kvs'/\kvs'.length<=kvs.length+L.length
 | [],s,kvs,hm,hb,hL,hS=>⟨kvs,by simp[uR,dX],hm,by simp⟩
 | e::L,s,kvs,hm,hb,hL,hS=>by
  have h1:=hL e (by simp)
  unfold tN at h1;rw[HL,IC]at h1;obtain⟨h2,h3,h4⟩:=Jm h1.1;obtain⟨kvs',k1,k2,k3⟩:=mY L (s+1) (eO kvs (cu e.1 e.2.1) (.ref s)) (hm.put h2 h3 hb (by have:=hS 0 e rfl; simpa using this) h4 (λw hw=>Jm (h1.2 w hw))) (by omega) (λx hx=>hL x (by simp[hx])) (λi x hx=>by have:=hS (i+1) x (by simpa using hx); rw[show s+1+i=s+(i+1) by omega]; exact this)
  refine⟨kvs',?_,k2,?_⟩
  ·simp only[uR,dX,iM]; exact k1
  ·have:=c8 kvs (cu e.1 e.2.1) (.ref s);rw[IQ]; omega
noncomputable def KB:HC (HC HY):=[[1,0],[0,2,1],[0,1],[0,1,2]]
noncomputable def KindOk (S:aa)(b:HJ)(w:W):Prop:=∃(bs:HC HY) (q:HJ) (kvs:HC (T×W)) (most:HY),w=.tup [.tup (ab bs),.ref q,.int most]/\bs∈KB/\1<=most/\most<=3/\most*bs.length<=6/\S[q]?=gV (.dic kvs)/\b<=q/\kvs.length<=4/\MustE S bs.length b kvs
theorem KindOk.mono {S S':aa}{b:HJ}{w:W}(h:KindOk S b w)(k1:∀(l:HJ) (ws:HC HY),b<=l->S[l]?=gV (.lst (ab ws))->S'[l]?=gV (.lst (ab ws)))(k2:∀(l:HJ) (kvs:HC (T×W)),b<=l->S[l]?=gV (.dic kvs)->S'[l]?=gV (.dic kvs)):KindOk S' b w:=
 let ⟨bs,q,kvs,most,h1,h2,h3,h4,h5,h6,h7,h8,h9⟩:=h
 ⟨bs,q,kvs,most,h1,h2,h3,h4,h5,k2 _ _ h7 h6,h7,h8,h9.mono k1⟩
theorem KindOk.ka {S S':aa}{b:HJ}{w:W}(h:KindOk S b w)(k:Ka S S'):KindOk S' b w:=h.mono (λl ws _ e=>k.get _ _ e) (λl ws _ e=>k.get _ _ e)
noncomputable def xR (bs:HC HY)(L:HC AM)(most:HY):E:=.tup (.cons (.tup (qi bs)) (.cons (.disp (tM L)) (.cons (.c (.int most)) .nil)))
section
variable{Φ:Ih->FF}{ρ:Fm}{S:aa}
theorem ox (bs:HC HY)(L:HC AM)(most:HY){b:HJ}{Q:QW}(hb:b<=S.length)(h1:bs∈KB)(h2:1<=most/\most<=3/\most*bs.length<=6)(hL:∀e∈L,tN bs.length e=true)(h4:L.length<=4)(k:∀w S',KindOk S' b w->Ka S S'->Q (w,S')) :
  wE Φ (xR bs L most) ρ S Q:=by
 unfold xR;dsimp only[wE,wA];refine rP (xQ ?_);obtain⟨kvs,k1,k2,k3⟩:=mY (S:=S++[O.dic []]++uS L) (n:=bs.length) (b:=b) L (S.length+1) [] (λ_ h=>nomatch h) (by omega) hL (λi e he=>by
  rw[Jb (by simp),show S.length+1+i - (S++[O.dic []]).length=i by simp]
  simp[uS,he])
 have hat:(S++[O.dic []]++uS L)[S.length]?=gV (.dic []):=by
  rw[IF (by simp)]; exact ak
 refine⟨hat,ac (show dX [] (uR L (S++[O.dic []]).length)=gV kvs by rw[HM]; exact k1) (k _ _ ⟨bs,S.length,kvs,most,rfl,h1,h2.1,h2.2.1,h2.2.2,cw hat,hb,?_,k2.set hat⟩ ⟨λj o h=>?_,by simp⟩)⟩
 ·simp only[Jz]at k3; omega
 ·have:j < S.length:=db h;show((S++[O.dic []]++uS L).set S.length (O.dic kvs))[j]?=gV o;rw[cj (by omega),IF (by simp; omega)]
  exact au h
structure Menu (S0 S:aa)(r t m:HJ):Prop where
 at_t:∃xs:HC W,S[t]?=gV (.lst xs)/\xs.length=m/\∀x∈xs,KindOk S S0.length x
 pos:0 < m
 kY:m<=9
 fl:Fl S r
 kp:Kp r S0 S
 lt:S0.length<=t
 rlt:r < S0.length
theorem qj {S0 S S':aa}{r t m:HJ}{w:W}(h:Menu S0 S r t m)(hw:KindOk S' S0.length w)(k:Ka S S')(hm:m < 9):∃xs,S'[t]?=gV (.lst xs)/\xs.length < sizeLine/\Menu S0 (S'.set t (.lst (xs++[w]))) r t (m+1):=by
 obtain⟨⟨xs,h1,h2,h3⟩,hp,hf,fl,kp,lt,rlt⟩:=h;have e:S'[t]?=gV (.lst xs):=k.get _ _ h1;have stay:∀x,KindOk S' S0.length x->KindOk (S'.set t (.lst (xs++[w]))) S0.length x:=λx hx=>hx.mono (λl ws hl el=>by
  by_cases hlt:t=l
  ·exfalso;subst hlt;rw[e]at el;injection el with el
   injection el with el
   match xs,h2,h3 with
   | [],h2,_=>simp at h2; omega
   | x::xs,_,h3=>
    obtain⟨bs,q,kvs,most,hx,_⟩:=h3 x (by simp)
    subst hx
    match ws with
    | []=>simp[ab]at el
    | w::ws=>simp[ab]at el
  ·rw[cj hlt]; exact el) (λl kvs hl el=>by
  rw[cj (by rintro rfl; rw[e]at el; cases el)]; exact el)
 refine⟨xs,e,(by rw[Ja]; omega),⟨xs++[w],cw e,by simp; omega,λx hx=>?_⟩,by omega,by omega,(fl.ka k).own (by omega),(kp.trans (k.kp r)).late lt,lt,rlt⟩
 rcases IP.mp hx with hx|hx
 ·exact stay x ((h3 x hx).ka k)
 ·rw[Im.mp hx]; exact stay w hw
theorem qk (bs:HC HY)(L:HC AM)(most:HY){fuel:HJ}{S0:aa}{r t m:HJ}{x0:HI W}{K:Fm->aa->Prop}{Q:QO}(h:Menu S0 S r t m)(hm:m < 9)(h1:bs∈KB)(h2:1<=most/\most<=3/\most*bs.length<=6)(hL:∀e∈L,tN bs.length e=true)(h4:L.length<=4)(k:∀S',Menu S0 S' r t (m+1)->K [x0,gV (.ref t)] S') :
  wS Φ fuel (.ex (.me .append (.v 1) (.cons (xR bs L most) .nil))) [x0,gV (.ref t)] S K Q:=by
 dsimp only[wS,wE,wA,wV,wG];obtain⟨xs,e1,e2,e3⟩:=h.at_t;refine⟨dZ e1,ox bs L most (IT h.lt (Le (db e1))) h1 h2 hL h4 λw S' k1 k2=>?_⟩
 obtain⟨xs',f1,f2,f3⟩:=qj h k1 k2 hm;exact ac (tf f1 f2) (k _ f3)
theorem lJ {defs:HC (Ih×Df)}{fuel d:HJ}{r:HJ}{Q:QW}(G:Gen defs)(hf:Fl S r)(k:∀w S',KindOk S' S.length w->Fl S' r->Kp r S S'->Q (w,S')):wO (be (ar defs fuel (d+2)) "_law_laying_kind" 1 [.ref r] S) Q:=by
 refine az G.laying_kind rfl rfl λQ' hR=>?_
 replace k:∀w S',KindOk S' S.length w->Fl S' r->Kp r S S'->Q' (.rt w,S'):=λz S' a b c=>hR _ _ (k z S' a b c)
 clear hR;show wZ _ _ cF [gV (.ref r),td] S Q';have hrt:=hf.lt;unfold cF;refine aR λK hK=>?_
 refine FB ?_;change wA _ _ _ _ _; change wE _ _ _ _ _
 refine ox [1,0] [(0,0,[0])] 3 (b:=S.length) (HW _) (by decide) (by decide) (by decide) (by decide) λw1 S1 k1 a1=>?_
 change wE _ _ _ _ _;refine ox [0,2,1] [(1,1,[1])] 2 (b:=S.length) a1.len (by decide) (by decide) (by decide) (by decide) λw2 S2 k2 a2=>?_
 have a12:=a1.trans a2;change wE _ _ _ _ _;refine ox [0,1] [(1,1,[1])] 3 (b:=S.length) a12.len (by decide) (by decide) (by decide) (by decide) λw3 S3 k3 a3=>?_
 have a13:=a12.trans a3;dsimp only[wA];refine hK _ _ ?_;clear hK K;have m3:Menu S (S3++[O.lst [w1,w2,w3]]) r S3.length 3:=by
  refine⟨⟨[w1,w2,w3],ak,rfl,λx hx=>?_⟩,by decide,by decide,(hf.ka a13).ka .push,(a13.trans .push).kp r,a13.len,hrt⟩
  rcases IG.mp hx with rfl|hx
  ·exact(k1.ka (a2.trans a3)).ka .push
  ·rcases IG.mp hx with rfl|hx
   ·exact(k2.ka a3).ka .push
   ·rw[Im.mp hx];exact k3.ka .push
 dsimp only[HV];clear k1 k2 k3 a1 a2 a3 a12 a13;generalize S3.length=t at m3;generalize S3++[O.lst [w1,w2,w3]]=S3' at m3;refine aR λK hK=>qk [0,1] [(1,1,[1]),(0,0,[1])] 3 m3 (by decide) (by decide) (by decide) (by decide) (by decide) λS4 m4=>hK _ _ ?_
 refine aR λK hK=>qk [0,1] [(1,1,[])] 1 m4 (by decide) (by decide) (by decide) (by decide) (by decide) λS5 m5=>hK _ _ ?_
 refine aR λK hK=>qk [0,2,1] [(0,0,[0]),(0,1,[1]),(1,0,[1]),(1,1,[1])] 2 m5 (by decide) (by decide) (by decide) (by decide) (by decide) λS6 m6=>hK _ _ ?_
 refine aR λK hK=>?_
 dsimp only[wS,wE,wA,wV,wG];obtain⟨xs,e1,e2,e3⟩:=m6.at_t;obtain⟨xs',f1,f2,m7⟩:=qj (S':=S6++[O.dic []]) (w:=.tup [.tup (ab [1,0]),.ref S6.length,.int 3]) m6 ⟨[1,0],S6.length,[],3,rfl,by decide,by decide,by decide,by decide,ak,m6.kp.len,by decide,λ_ h=>(nomatch h)⟩ .push (by decide)
 refine⟨dZ e1,ac (tf f1 f2) (hK _ _ ?_)⟩;refine aR λK hK=>qk [0,1,2] [(2,2,[2]),(1,2,[1]),(2,1,[1]),(1,1,[1,2])] 2 m7 (by decide) (by decide) (by decide) (by decide) (by decide) λS8 m8=>hK _ _ ?_
 refine aR λK hK=>qk [0,1,2] [(0,0,[0,1])] 2 m8 (by decide) (by decide) (by decide) (by decide) (by decide) λS9 m9=>hK _ _ ?_
 refine st ?_;dsimp only[wS,wE,wA,wV,wG];refine bo (d:=d) G.pick m9.fl (by decide) (by decide) λv S10 v0 v9 f10 k10=>?_
 obtain⟨xs,g1,g2,g3⟩:=m9.at_t;have hlt:=m9.lt;have hv:v.toNat < xs.length:=by omega
 exact iF (k10.get _ _ (by omega) g1) v0 (HX hv) (k _ _ ((g3 _ (Jc hv)).mono (λl ws hl e=>k10.get _ _ (by omega) e) (λl ws hl e=>k10.get _ _ (by omega) e)) f10 (m9.kp.trans k10))
end
noncomputable def ql (bs:HC HY):HC (HC HY):=if bs=[0,1,2]then[[0,1,2],[0,2,1],[1,0,2],[1,2,0],[2,0,1],[2,1,0]]else if bs.length=2 then[[0,1],[1,0]]else[[0,1,2],[0,2,1],[2,0,1],[2,1,0]]
noncomputable def gZ (bs nm:HC HY):HJ->HC HY
 | 0=>Ix bs.length 0
 | k+1=>(gZ bs nm k).set (nm.getD k 0).toNat (nm.getD (bs.getD k 0).toNat 0)
theorem jh (bs nm:HC HY):∀k,(gZ bs nm k).length=bs.length
 | 0=>by simp[gZ]
 | k+1=>by simp[gZ,jh bs nm k]
theorem AN:∀bs∈KB,∀nm∈ql bs,nm.length=bs.length/\(∀x∈nm,0<=x/\x < (bs.length:HY))/\(∀x∈bs,0<=x/\x < (bs.length:HY))/\GoodB (gZ bs nm bs.length):=by
 unfold GoodB;decide +kernel
theorem xS:∀bs∈KB,(bs.length=2\/bs.length=3)/\0 < (ql bs).length/\(ql bs).length < 10:=by decide
section
variable{Φ:Ih->FF}{fuel:HJ}{ρ:Fm}{S:aa}{K:Fm->aa->Prop}{Q:QO}
theorem AO {tg:Tg}{e:E}{b:Ss}(r:HJ)(kvs:HC (T×W))(I:HJ->Fm->aa->Prop)(oe:eN e=true)(ok:gM b=true)(he:wE Φ e ρ S λp=>p.1=.ref r/\p.2[r]?=gV (.dic kvs)/\I 0 ρ (p.2.set r (.frd kvs)))
  (hstep:∀(i:HJ) (p:T×W) (ρ:Fm) (S:aa),kvs[i]?=gV p->I i ρ S->wO (gK tg p.1.w ρ S) λq=>vh Φ fuel b q.1 q.2 (I (i+1)) Q) (hend:∀ρ S,I kvs.length ρ S->K ρ S):Wp (gb Φ fuel (.loop tg (.seq e) b) ρ S) (qU K Q):=by
 obtain⟨w,S1,e1,rfl,e2,h0⟩:=cQ oe he;refine ic (mi:=.its (kvs.map λp=>p.1.w)) (S1:=S1.set r (.frd kvs)) (xs:=kvs.map λp=>p.1.w) I ok (by simp only[kN,fQ,e1,om e2,cJ e2]) (λ_ _ _ _=>rfl) rfl h0 (λi w ρ S hw hI=>?_) λρ S hI=>hend ρ S (by rwa [HF]at hI)
 rw[HP,HG]at hw;obtain⟨p,hp,rfl⟩:=hw;exact hstep i p ρ S hp hI
end
section
variable{defs:HC (Ih×Df)}{fuel d:HJ}{S:aa}{r:HJ}{Q:QW}
theorem xT {i n:HJ}{x:W}(h:S[i]?=gV (.lst [x]))(hn:n<=1000)(q:Q (.ref S.length,S++[.lst (Ix n x)])):wO (iq .mul (.ref i) (.int (n:HY)) S) Q:=by
 refine ac ?_ q;have:n<=sizeLine:=kY hn;simp only[iq,zh,dh h];rw[Iv ⟨by omega,by omega,by simpa using this⟩]
 unfold lG;simp[this]
theorem mZ {q:HJ}{kvs:HC (T×W)}{u v:HY}{w:W}(h:jT S q=gV kvs)(hg:cm kvs (cu u v)=gV w):j6 (.ref q) (.tup [.int u,.int v]) S=gV (w,S):=by
 have hk:gH (.tup [.int u,.int v])=gV (cu u v):=iM;simp only[j6,h,hk,hg,IH]
theorem xU {q:HJ}{kvs:HC (T×W)}{u v:HY}{w:W}(h:S[q]?=gV (.dic kvs))(hl:kvs.length < sizeLine):iA (.ref q) (.tup [.int u,.int v]) w S=gV (S.set q (.dic (eO kvs (cu u v) w))):=by
 have hk:gH (.tup [.int u,.int v])=gV (cu u v):=iM;simp only[iA,nM,h,hk];rw[Iv hl]
theorem ji {xs:HC HY}{x:HY}(h0:0<=x)(h1:x.toNat < xs.length):(ab xs)[x.toNat]?=gV (.int (xs.getD x.toNat 0)):=by
 unfold ab;rw[HP,aw (d:=0) h1]; rfl
theorem gm {xs:HC HY}{i:HJ}(h:i < xs.length):xs.getD i 0∈xs:=Ij (aw (d:=0) h)
theorem lK (G:Gen defs){Q:QO}{bs:HC HY}{x0 x2:HI W}(hb:bs∈KB)
  (hk:∀(m s:HJ) (S':aa),Ka S S'->S'[s]?=gV (.lst ((ql bs).map λnm=>W.tup (ab nm)))->S.length<=s->wZ (ar defs fuel (d+1)) fuel (dr 5 bV) [x0,gV (.tup (ab bs)),x2,gV (.int bs.length),gV (.ref m),gV (.ref s),td,td,td,td,td,td] S' Q) :
  wZ (ar defs fuel (d+1)) fuel bV [x0,gV (.tup (ab bs)),x2,td,td,td,td,td,td,td,td,td] S Q:=by
 generalize hd5:dr 5 bV=dq at hk;unfold bV at hd5 ⊢;dsimp only[dr]at hd5;rw[hd5];clear hd5;refine aR λK hK=>?_
 dsimp only[wS,wE,wA,wV,wG,HV];refine bC ?_;rw[show(ab bs).length=bs.length from HF ..]
 refine hK _ _ ?_;clear hK K;refine aR λK hK=>?_
 dsimp only[wS,wE,wA,wV,wG,HV];have hm:(((S++[O.lst [.tup [.int 0]]])++[O.lst [.tup [.int 0,.int 1],.tup [.int 1,.int 0]]])++[O.lst [.ref S.length,.ref (S++[O.lst [.tup [.int 0]]]).length]])[((S++[O.lst [.tup [.int 0]]])++[O.lst [.tup [.int 0,.int 1],.tup [.int 1,.int 0]]]).length]?=gV (.lst [.ref S.length,.ref (S++[O.lst [.tup [.int 0]]]).length]):=ak;refine hK _ _ ?_;clear hK K;generalize hS1:S++[O.lst [.tup [.int 0]]]=S1 at hm ⊢;generalize hS2:S1++[O.lst [.tup [.int 0,.int 1],.tup [.int 1,.int 0]]]=S2 at hm ⊢;generalize hS3:S2++[O.lst [.ref S.length,.ref S1.length]]=S3 at hm ⊢;have l1:S1.length=S.length+1:=by rw[<- hS1]; simp
 have l2:S2.length=S1.length+1:=by rw[<- hS2]; simp
 have l3:S3.length=S2.length+1:=by rw[<- hS3]; simp
 have kS2:Ka S S2:=by rw[<- hS2,<- hS1]; exact Ka.push.trans .push
 refine aR λK hK=>?_
 dsimp only[wS,wE,wA,wV,wG,HV];refine⟨dZ hm,mV (au hm) (by decide:2 < 1000) (hK _ _ ?_)⟩
 clear hK K;generalize hS5:(S3++[O.lst [.tup [.int 0,.int 1,.int 2],.tup [.int 0,.int 2,.int 1],.tup [.int 2,.int 0,.int 1],.tup [.int 2,.int 1,.int 0]]]).set S2.length (.lst ([.ref S.length,.ref S1.length]++[.ref S3.length]))=S5;have k5:Ka S S5:=by
  rw[<- hS5,<- hS3];exact Ka.late (kS2.trans (Ka.push.trans .push)) (by omega)
 have m5:S5[S2.length]?=gV (.lst [.ref S.length,.ref S1.length,.ref S3.length]):=by
  rw[<- hS5]; exact cw (au hm)
 have p5:S5[S1.length]?=gV (.lst [.tup [.int 0,.int 1],.tup [.int 1,.int 0]]):=by
  rw[<- hS5,cj (by omega),<- hS3,<- hS2]
  exact au (au ak)
 have t5:S5[S3.length]?=gV (.lst [.tup [.int 0,.int 1,.int 2],.tup [.int 0,.int 2,.int 1],.tup [.int 2,.int 0,.int 1],.tup [.int 2,.int 1,.int 0]]):=by
  rw[<- hS5,cj (by omega)]
  exact ak
 have h1:S.length<=S1.length:=by omega
 have h3:S.length<=S3.length:=by omega
 clear hS1 hS2 hS3 hS5 hm l1 l2 l3 kS2;refine aR λK hK=>?_
 dsimp only[wS,wE,wA,wV,wG,HV,mT,aN];have hb':bs=[1,0]\/bs=[0,2,1]\/bs=[0,1]\/bs=[0,1,2]:=by simpa [KB]using hb
 rcases hb' with rfl|rfl|rfl|rfl
 ·refine eH (i:=1) m5 rfl (hK _ _ (aR λK hK=>cH (λQ q=>q) (hK _ _ (hk _ _ _ k5 p5 h1))))
 ·refine eH (i:=2) m5 rfl (hK _ _ (aR λK hK=>cH (λQ q=>q) (hK _ _ (hk _ _ _ k5 t5 h3))))
 ·refine eH (i:=1) m5 rfl (hK _ _ (aR λK hK=>cH (λQ q=>q) (hK _ _ (hk _ _ _ k5 p5 h1))))
 ·refine eH (i:=2) m5 rfl (hK _ _ (aR λK hK=>la (λQ q=>q) λQ2 hn _=>?_))
  refine st ?_;dsimp only[wS,wE,wA,wV,wG,HV];exact kg (d:=d) G (b7 (hn _ _ (hK _ _ (hk _ _ _ (k5.trans .push) ak k5.len))))
theorem rQ (G:Gen defs){S0:aa}{bs:HC HY}{q:HJ}{kvs:HC (T×W)}(hb:bs∈KB)(hf:Fl S r)(hr:r < S0.length)(kp:Kp r S0 S)(hq:S[q]?=gV (.dic kvs))(hq0:S0.length<=q)(h4:kvs.length<=4)(hm:MustE S bs.length S0.length kvs)
  (k:∀(bs':HC HY) (q':HJ) (kvs':HC (T×W)) S',GoodB bs'->bs'.length=bs.length->S'[q']?=gV (.dic kvs')->S0.length<=q'->MustE S' bs.length S0.length kvs'->Fl S' r->Kp r S0 S'->Q (.tup [.tup (ab bs'),.ref q'],S')) :
  wO (be (ar defs fuel (d+2)) "_law_numbered" 3 [.ref r,.tup (ab bs),.ref q] S) Q:=by
 refine az G.numbered rfl rfl λQ' hR=>?_
 replace k:∀(bs':HC HY) (q':HJ) (kvs':HC (T×W)) S',GoodB bs'->bs'.length=bs.length->S'[q']?=gV (.dic kvs')->S0.length<=q'->MustE S' bs.length S0.length kvs'->Fl S' r->Kp r S0 S'->Q' (.rt (.tup [.tup (ab bs'),.ref q']),S'):=λa b c e f g h i j l m=>hR _ _ (k a b c e f g h i j l m)
 clear hR;refine lK (d:=d) G hb ?_;intro m s S1 k1 e1 hs;dsimp only[dr,bV];have hrt:=hf.lt;obtain⟨hb1,hb2,hb3⟩:=xS bs hb;refine aR λK hK=>?_
 dsimp only[wS,wE,wA,wV,wG,HV];refine kZ e1 ?_;rw[HF];refine bo (d:=d) G.pick (hf.ka k1) (by omega) (by omega) λv S2 v0 v1 f2 k2=>?_
 obtain⟨nm,hnmm,enm⟩:=oo (f:=λnm=>W.tup (ab nm)) (xs:=ql bs) (i:=v.toNat) (by omega)
 obtain⟨n1,n2,n3,n4⟩:=AN bs hb nm hnmm;refine iF (k2.get _ _ (by omega) e1) v0 enm (hK _ _ ?_)
 clear hK K;refine aR λK hK=>?_
 dsimp only[wS,wE,wA,wV,wG,HV];refine xT ak (by omega) (hK _ _ ?_)
 clear hK K;generalize hS4:S2++[O.lst [.int 0]]=S4;have k24:Ka S2 S4:=hS4 ▸ .push;have f4:Fl S4 r:=f2.ka k24;have kp4:Kp r S0 S4:=(kp.trans (k1.kp r)).trans (k2.trans (k24.kp r));have q4:S4[q]?=gV (.dic kvs):=k24.get _ _ (k2.get _ _ (by omega) (k1.get _ _ hq))
 have m4:MustE S4 bs.length S0.length kvs:=((hm.ka k1).kp hr k2).ka k24;clear hS4 k24 hm hq f2 k2 k1 e1 enm hf;refine aR λK hK=>?_
 refine di (bs.length:HY) (λk ρ S'=>(∃x8,ρ=[gV (.ref r),gV (.tup (ab bs)),gV (.ref q),gV (.int bs.length),gV (.ref m),gV (.ref s),gV (.tup (ab nm)),gV (.ref S4.length),x8,td,td,td])/\S'[S4.length]?=gV (.lst (ab (gZ bs nm k)))/\Ka S4 S') rfl rfl (by omega) ⟨rfl,⟨_,rfl⟩,?_,.push⟩ ?_ ?_
 ·rw[ak]; simp[gZ,ab]
 ·rintro i ρ S5 hi ⟨⟨x8,rfl⟩,e5,k5⟩ Q2 hn _;clear hK k;have hi':i < bs.length:=by omega
  have hi1:i < nm.length:=by omega
  have c:=n3 _ (gm hi');have c2:=n2 _ (gm hi1);refine st ?_;dsimp only[wS,wE,wA,wV,wG,HV];refine aj (HR i) (ji (HR i) hi') (aj c.1 (ji c.1 (by rw[HU]; omega)) (aj (HR i) (ji (HR i) hi1) ?_))
  rw[HU];refine ac (BJ e5 c2.1 (by rw[show(ab (gZ bs nm i)).length=_ from HF ..,jh]; omega)) (b7 (hn _ _ ⟨⟨_,rfl⟩,?_,k5.late (HW _)⟩))
  rw[cw e5];unfold ab;rw[gZ,Pg]
 ·rintro ρ S5 ⟨⟨x8,rfl⟩,e5,k5⟩;rw[HU]at e5;refine hK _ _ (st ?_);clear hK K;dsimp only[wS,wE,HV];have f5:Fl S5 r:=f4.ka k5;have q5:S5[q]?=gV (.dic kvs):=k5.get _ _ q4;have m5:MustE S5 bs.length S0.length kvs:=m4.ka k5;have kp5:Kp r S0 S5:=kp4.trans (k5.kp r);have hq5:=db q5;have ht5:=db e5;have hqt:q≠S4.length:=by rintro rfl; rw[e5]at q5; cases q5
  have hn9:(bs.length:HY)<=3:=by omega
  have hr5:=f5.lt;clear k5 m4 q4 f4;refine aR λK hK=>?_
  refine AO q kvs (λk ρ S'=>(∃x10 x11,ρ=[gV (.ref r),gV (.tup (ab bs)),gV (.ref q),gV (.int bs.length),gV (.ref m),gV (.ref s),gV (.tup (ab nm)),gV (.ref S4.length),x8,gV (.ref S5.length),x10,x11])/\S'[q]?=gV (.frd kvs)/\MustE S' bs.length S0.length kvs/\S'[S4.length]?=gV (.lst (ab (gZ bs nm bs.length)))/\(∃kvs',S'[S5.length]?=gV (.dic kvs')/\kvs'.length<=k/\MustE S' bs.length S0.length kvs')/\Fl S' r/\Kp r S0 S') rfl rfl ⟨rfl,au q5,⟨td,td,rfl⟩,cw (au q5),(m5.ka .push).set (au q5),?_,⟨[],?_,HW _,λ_ h=>(nomatch h)⟩,(f5.ka .push).own (by omega),(kp5.trans .push).late hq0⟩ ?_ ?_
  ·rw[cj hqt]; exact au e5
  ·rw[cj (by omega)]; exact ak
  ·rintro i p ρ S6 hp ⟨⟨x10,x11,rfl⟩,q6,m6,t6,⟨kvs',o6,l6,mm6⟩,f6,kp6⟩;clear hK k;have hpm:=Ij hp;have hil:=(Ig.mp hp).1;obtain⟨u,v',l,ws,rfl,hu,hv',hl,hws,hl3,hw3⟩:=m6 p hpm;obtain⟨g,hg⟩:=tL hpm;obtain⟨u2,v2,l2,ws2,he2,_,_,hl2,hws2,hl32,hw32⟩:=m6 _ (ll hg);injection he2 with _ he2
   subst he2;have hul:u.toNat < nm.length:=by omega
   have hvl:v'.toNat < nm.length:=by omega
   refine ac (show gK (.tp [10,11]) (cu u v',W.ref l).1.w [gV (.ref r),gV (.tup (ab bs)),gV (.ref q),gV (.int bs.length),gV (.ref m),gV (.ref s),gV (.tup (ab nm)),gV (.ref S4.length),x8,gV (.ref S5.length),x10,x11] S6=gV ([gV (.ref r),gV (.tup (ab bs)),gV (.ref q),gV (.int bs.length),gV (.ref m),gV (.ref s),gV (.tup (ab nm)),gV (.ref S4.length),x8,gV (.ref S5.length),gV (.int u),gV (.int v')],S6)from rfl) λQ2 hn _=>?_
   refine st ?_;dsimp only[wS,wE,wA,wV,wG,HV];refine tt l2 (ab ws2) (λi zs ρ2 S7=>(∃a1,ρ2=[td,a1,gV (.tup (ab nm))])/\zs=ab ((ws2.take i).map λw=>nm.getD w.toNat 0)/\S7=S6) rfl rfl rfl ?_ ?_ ?_ ?_
   ·dsimp only[wE,wA,wV,wG];exact ac (mZ (AA q6) hg) ⟨rfl,⟨_,rfl⟩,rfl,rfl⟩
   ·rintro i zs ρ2 S7 ⟨_,_,rfl⟩;exact hws2
   ·rintro i w zs ρ2 S7 hw ⟨⟨a1,rfl⟩,rfl,rfl⟩;unfold ab at hw;rw[HP,HG]at hw;obtain⟨x,hx,rfl⟩:=hw;obtain⟨x0,x1⟩:=hw32 x (Ij hx);have hxl:x.toNat < nm.length:=by omega
    refine ac (show gK (.nm 1) (.int x) [td,a1,gV (.tup (ab nm))] S7=gV ([td,gV (.int x),gV (.tup (ab nm))],S7)from rfl) ?_
    dsimp only[je,wC,wE,wA,wV,wG];refine⟨λ_=>aj x0 (ji x0 hxl) ⟨⟨_,rfl⟩,?_,rfl⟩,λz=>by cases z⟩
    rw[Jd,hx];simp[ab]
   ·rintro zs ρ2 S7 ⟨_,rfl,rfl⟩;rw[show(ab ws2).length=ws2.length from HF ..,Jl]
    refine⟨kY (by simp[ab]; omega),aj hu.1 (ji hu.1 hul) (aj hv'.1 (ji hv'.1 hvl) ?_)⟩
    refine ac (xU (au o6) (by rw[Ja]; omega)) (b7 (hn _ _ ⟨⟨_,_,rfl⟩,?_,(m6.ka .push).set (au o6),?_,⟨_,cw (au o6),?_,?_⟩,(f6.ka .push).own (by omega),(kp6.trans .push).late kp5.len⟩))
    ·rw[cj (by omega)]; exact au q6
    ·rw[cj (by omega)]; exact au t6
    ·exact IT (c8 ..) (Ls l6)
    ·refine((mm6.ka .push).put (n2 _ (gm hul)) (n2 _ (gm hvl)) kp6.len ak (by simp; omega) ?_).set (au o6)
     intro w hw;obtain⟨x,hx,rfl⟩:=Iq.mp hw;obtain⟨x0,x1⟩:=hw32 x hx;exact n2 _ (gm (by omega))
  ·rintro ρ S6 ⟨⟨x10,x11,rfl⟩,q6,m6,t6,⟨kvs',o6,l6,mm6⟩,f6,kp6⟩;refine hK _ _ (st ?_);dsimp only[wS,wE,wA,wV,wG];exact fR t6 (k _ _ kvs' _ n4 (jh _ _ _) o6 kp5.len mm6 f6 kp6)
end
noncomputable def uT (x y z:HY):HC (T×W):=[(cu 1 0,.int x),(cu 2 0,.int y),(cu 2 1,.int z)]
noncomputable def AQ (x y z a b c:HY):HJ->HC (T×W)
 | 0=>uT x y z
 | 1=>uT x y z++[(cu 0 1,.int a)]
 | 2=>uT x y z++[(cu 0 1,.int a),(cu 0 2,.int b)]
 | _=>uT x y z++[(cu 0 1,.int a),(cu 0 2,.int b),(cu 1 2,.int c)]
theorem Dw {n x y z a b c:HY}(hx:0<=x/\x < n)(hy:0<=y/\y < n)(hz:0<=z/\z < n)(ha:0<=a/\a < n)(hb:0<=b/\b < n)(hc:0<=c/\c < n):∀i j:HJ,i < 3->j < 3->i≠j->∃p:HY,cm (AQ x y z a b c 3) (cu i j)=gV (.int p)/\0<=p/\p < n:=by
 intro i j hi hj hij
 match i,j,hi,hj,hij with
 | 0,0,_,_,h=>exact absurd rfl h
 | 0,1,_,_,_=>exact⟨a,by rfl,ha⟩
 | 0,2,_,_,_=>exact⟨b,by rfl,hb⟩
 | 1,0,_,_,_=>exact⟨x,by rfl,hx⟩
 | 1,1,_,_,h=>exact absurd rfl h
 | 1,2,_,_,_=>exact⟨c,by rfl,hc⟩
 | 2,0,_,_,_=>exact⟨y,by rfl,hy⟩
 | 2,1,_,_,_=>exact⟨z,by rfl,hz⟩
 | 2,2,_,_,h=>exact absurd rfl h
theorem qm:∀t∈ay,t.length=3/\t.getD 0 0 < 3/\t.getD 1 0 < 3/\t.getD 2 0 < 3/\t.getD 0 0≠t.getD 1 0/\t.getD 1 0≠t.getD 2 0/\t.getD 0 0≠t.getD 2 0:=by decide
theorem xV {t:HC HJ}(h:t∈ay):∃i j k:HJ,t=[i,j,k]/\i < 3/\j < 3/\k < 3/\i≠j/\j≠k/\i≠k:=by
 obtain⟨h1,h2⟩:=qm t h
 match t,h1,h2 with
 | [i,j,k],_,h2=>exact⟨i,j,k,rfl,h2⟩
section
variable{defs:HC (Ih×Df)}{fuel d:HJ}{S:aa}{r:HJ}{Q:QW}
theorem xW {l:HJ}{f:HY}{ws:HC HY}(h:S[l]?=gV (.lst (ab ws))):∃b,cp .notin (.int f) (.ref l) S=gV (.bl b,S):=by
 have hf:(cz (.int f)&&(ab ws).all cz)=true:=by
  simp only[cz,K6,IC];intro x hx;obtain⟨z,_,rfl⟩:=Iq.mp hx;rfl
 refine⟨!(ab ws).any λz=>yC z (.int f),?_⟩
 simp only[cp,ke h,ir,DT,Bv,fO,aM h,hf,KJ,IH]
theorem Dx {q:HJ}{kvs:HC (T×W)}(h:S[q]?=gV (.dic kvs)):tyOk "dict" S (.ref q)=true:=by simp[tyOk,cJ h]
theorem AR {q:HJ}{kvs:HC (T×W)}(h:S[q]?=gV (.dic kvs))(k:Q (.ref S.length,S++[.lst (kvs.map λp=>p.1.w)])):wO (Bi.list.fn [.ref q] S) Q:=by
 refine ac ?_ k;have h1:zA S q=td:=by simp[zA,h]
 have h2:mF [.ref q] S=td:=by simp[mF,h1,iu,fO,om h]
 simp only[Bi.fn,EX,h2,mJ,cJ h]
theorem xX (G:Gen defs){bs:HC HY}{q b0:HJ}{kvs:HC (T×W)}{x y z:HY}(hb:GoodB bs)(hx:0<=x/\x < bs.length)(hy:0<=y/\y < bs.length)(hz:0<=z/\z < bs.length)(hq:S[q]?=gV (.dic kvs))(hm:MustE S bs.length b0 kvs)
  (k:∀b S',Ka S S'->Q (.bl b,S')):wO (be (ar defs fuel (d+2)) "_law_breaks" 5 [.tup (ab bs),.ref q,.int x,.int y,.int z] S) Q:=by
 refine az G.breaks rfl rfl λQ' hR=>?_
 replace k:∀b S',Ka S S'->Q' (.rt (.bl b),S'):=λa b c=>hR _ _ (k a b c)
 clear hR;show wZ _ _ d8 [gV (.tup (ab bs)),gV (.ref q),gV (.int x),gV (.int y),gV (.int z),td,td,td,td,td] S Q';obtain⟨a,ha1,ha⟩:=hb.rng x.toNat (by omega)
 obtain⟨b,hb1,hb2⟩:=hb.rng y.toNat (by omega)
 obtain⟨c,hc1,hc⟩:=hb.rng z.toNat (by omega)
 have hqt:=db hq;unfold d8;refine aR λK hK=>?_
 dsimp only[wS,wE,wA,wV,wG,HV];refine⟨ak,ac (show dX [] [.tup [.int 1,.int 0],.int x,.tup [.int 2,.int 0],.int y,.tup [.int 2,.int 1],.int z]=gV (uT x y z)from rfl) (hK _ _ ?_)⟩
 clear hK K;have e1:((S++[O.dic []]).set S.length (.dic (uT x y z)))[S.length]?=gV (.dic (uT x y z)):=cw ak;have k1:Ka S ((S++[O.dic []]).set S.length (.dic (uT x y z))):=Ka.push.late (HW _);have l1:((S++[O.dic []]).set S.length (.dic (uT x y z))).length=S.length+1:=by simp
 generalize(S++[O.dic []]).set S.length (.dic (uT x y z))=S1 at e1 k1 l1 ⊢;refine aR λK hK=>?_
 refine fu rfl rfl ?_;dsimp only[wE,wA,wV,wG];refine AR e1 ⟨S1.length,[dM 1 0,dM 2 0,dM 2 1],(λk ρ S'=>(∃x6,ρ=[gV (.tup (ab bs)),gV (.ref q),gV (.int x),gV (.int y),gV (.int z),gV (.ref S.length),x6,td,td,td])/\S'[S.length]?=gV (.dic (AQ x y z a b c k))/\S'[S1.length]?=gV (.lst [dM 1 0,dM 2 0,dM 2 1])/\Ka S S'),rfl,⟨⟨_,rfl⟩,au e1,ak,k1.trans .push⟩,λi ρ S' h=>h.2.2.1,?_,?_⟩
 ·have step:∀(u v f g:HY) (kv kv':HC (T×W)) (S':aa) (i:HJ),cm kv (cu u v)=gV (.int f)->0<=f->bs[f.toNat]?=gV g->kv.length < 10->eO kv (cu v u) (.int g)=kv'->AQ x y z a b c (i+1)=kv'->∀x6:HI W,S'[S.length]?=gV (.dic kv)->S'[S1.length]?=gV (.lst [dM 1 0,dM 2 0,dM 2 1])->Ka S S'->
    wO (gK (.nm 6) (dM u v) [gV (.tup (ab bs)),gV (.ref q),gV (.int x),gV (.int y),gV (.int z),gV (.ref S.length),x6,td,td,td] S') λp=>vh (ar defs fuel (d+1)) fuel (.cons (.put (.v 5) (.tup (.cons (.ix (.v 6) (.c (.int 1))) (.cons (.ix (.v 6) (.c (.int 0))) .nil))) (.ix (.v 0) (.ix (.v 5) (.v 6)))) .nil) p.1 p.2 (λρ S'=>(∃x6,ρ=[gV (.tup (ab bs)),gV (.ref q),gV (.int x),gV (.int y),gV (.int z),gV (.ref S.length),x6,td,td,td])/\S'[S.length]?=gV (.dic (AQ x y z a b c (i+1)))/\S'[S1.length]?=gV (.lst [dM 1 0,dM 2 0,dM 2 1])/\Ka S S') Q':=by
   clear hK k;intro u v f g kv kv' S' i h1 h2 h3 h4 h5 h6 x6 e e' k;refine ac (show gK (.nm 6) (dM u v) [gV (.tup (ab bs)),gV (.ref q),gV (.int x),gV (.int y),gV (.int z),gV (.ref S.length),x6,td,td,td] S'=gV ([gV (.tup (ab bs)),gV (.ref q),gV (.int x),gV (.int y),gV (.int z),gV (.ref S.length),gV (dM u v),td,td,td],S')from rfl) λQ2 hn _=>?_
   refine st ?_;dsimp only[wS,wE,wA,wV,wG];refine ac (mZ (cJ e) h1) (aj h2 (w:=.int g) (by unfold ab; rw[HP,h3]; rfl) (aj (by decide) rfl (aj (by decide) rfl ?_)))
   refine ac (xU e (by rw[Ja]; omega)) (b7 (hn _ _ ⟨⟨_,rfl⟩,?_,?_,k.late (HW _)⟩))
   ·rw[cw e,h5,h6]
   ·rw[cj (by omega)]; exact e'
  rintro i w ρ S2 hw ⟨⟨x6,rfl⟩,e2,l2,k2⟩
  match i,hw,e2 with
  | 0,hw,e2=>cases hw; exact step 1 0 x a _ _ S2 0 (by rfl) hx.1 ha1 (by simp[AQ,uT]) (by rfl) (by rfl) x6 e2 l2 k2
  | 1,hw,e2=>cases hw; exact step 2 0 y b _ _ S2 1 (by rfl) hy.1 hb1 (by simp[AQ,uT]) (by rfl) (by rfl) x6 e2 l2 k2
  | 2,hw,e2=>cases hw; exact step 2 1 z c _ _ S2 2 (by rfl) hz.1 hc1 (by simp[AQ,uT]) (by rfl) (by rfl) x6 e2 l2 k2
  | n+3,hw,_=>simp at hw
 ·rintro ρ S2 ⟨⟨x6,rfl⟩,e2,l2,k2⟩;have hv:=Dw hx hy hz ha hb2 hc;have e2:S2[S.length]?=gV (.dic (AQ x y z a b c 3)):=e2;refine hK _ _ ?_;clear hK K;have hlt2:=db e2;refine aR λK hK=>?_
  refine fu rfl rfl ?_;dsimp only[wE,wA,wV,wG];refine kg (d:=d) G ⟨S2.length,ay.map (λt=>W.tup (aH t)),(λk ρ S'=>(∃x7 x8 x9,ρ=[gV (.tup (ab bs)),gV (.ref q),gV (.int x),gV (.int y),gV (.int z),gV (.ref S.length),x6,x7,x8,x9])/\S'[S.length]?=gV (.dic (AQ x y z a b c 3))/\S'[S2.length]?=gV (.lst (ay.map (λt=>W.tup (aH t))))/\Ka S S'),rfl,⟨⟨_,_,_,rfl⟩,au e2,ak,k2.trans .push⟩,λi ρ S' h=>h.2.2.1,?_,?_⟩
  ·rintro i w ρ S3 hw ⟨⟨x7,x8,x9,rfl⟩,e3,l3,k3⟩;clear hK;rw[HP,HG]at hw;obtain⟨t,ht,rfl⟩:=hw;obtain⟨i1,j1,h1,rfl,hi1,hj1,hh1,n1,n2,n3⟩:=xV (Ij ht);obtain⟨p1,g1,r1⟩:=hv i1 j1 hi1 hj1 n1;obtain⟨p2,g2,r2⟩:=hv j1 h1 hj1 hh1 n2;obtain⟨p3,g3,r3⟩:=hv i1 h1 hi1 hh1 n3;have q3:=k3.get _ _ hq;refine ac (show gK (.tp [7,8,9]) (W.tup (aH [i1,j1,h1])) [gV (.tup (ab bs)),gV (.ref q),gV (.int x),gV (.int y),gV (.int z),gV (.ref S.length),x6,x7,x8,x9] S3=gV ([gV (.tup (ab bs)),gV (.ref q),gV (.int x),gV (.int y),gV (.int z),gV (.ref S.length),x6,gV (.int i1),gV (.int j1),gV (.int h1)],S3)from rfl) λQ2 hn hr=>?_
   refine aR λK hK=>?_
   dsimp only[wS,wT,wE,wA,wV,wG];refine ac (mZ (cJ e3) g3) ⟨Dx q3,ac (mZ (cJ e3) g1) (ac (mZ (cJ e3) g2) (ac (mZ (cJ e3) g3) ?_))⟩;have hget:Me.get.fn (.ref q) [.tup [.int p1,.int p2],.ref S3.length] (S3++[O.lst [.int p3]])=gV ((cm kvs (cu p1 p2)).getD (.ref S3.length),S3++[O.lst [.int p3]]):=by
    have hk:gH (.tup [.int p1,.int p2])=gV (cu p1 p2):=iM;simp only[Me.fn,sD,cJ (au q3),hk]
   refine ac hget ?_;have hres:∃(l:HJ) (ws:HC HY),(cm kvs (cu p1 p2)).getD (.ref S3.length)=.ref l/\(S3++[O.lst [.int p3]])[l]?=gV (.lst (ab ws)):=by
    cases hg:cm kvs (cu p1 p2)with
    | none=>exact⟨S3.length,[p3],rfl,ak⟩
    | some g=>
     obtain⟨u,v,l,ws,he,_,_,_,hl,_⟩:=(hm.ka k3) _ (ll hg);injection he with _ he
     subst he;exact⟨l,ws,rfl,au hl⟩
   obtain⟨l,ws,hl1,hl2⟩:=hres;dsimp only;rw[hl1];obtain⟨kb,hkb⟩:=xW (f:=p3) hl2;refine ac hkb ?_;dsimp only[wB];refine aq (Q0:=Q2) (λ_ Q3 _ hr3=>st (hr3 _ _ (hr _ _ (k _ _ (k3.trans .push))))) λ_ Q3 hn3 _=>b7 (hn3 _ _ (hK _ _ (b7 (hn _ _ ⟨⟨_,_,_,rfl⟩,au e3,au l3,k3.trans .push⟩))))
  ·rintro ρ S3 ⟨⟨x7,x8,x9,rfl⟩,e3,l3,k3⟩;exact hK _ _ (st (k _ _ k3))
end
noncomputable def DW (k:HY):Wd:=[(0,[]),(0,[k]),(0,[k,k])]
theorem AS:∀g∈[DW 0,DW 1],g∈bc 1 [0,1]:=by decide +kernel
noncomputable def xY (a k:HY):Wd:=[(0,[]),(k,[0]),(a - 1,[0,0])]
theorem xZ:∀k∈eQ 2,xY 2 k∈bc 2 [0]:=by decide +kernel
theorem ya:∀k∈eQ 3,xY 3 k∈bc 3 [0]:=by decide +kernel
theorem AT {a x y:HY}(h:xY a x=xY a y):x=y:=by
 unfold xY at h;injection h with _ h
 injection h with h _
 injection h
theorem BQ {a n:HJ}{m0 m1 m2 x y z:HY}(h0:0<=m0/\m0 < a)(h1:0<=m1/\m1 < a)(h2:0<=m2/\m2 < a)(hx:0<=x/\x < n)(hy:0<=y/\y < n)(hz:0<=z/\z < n):GoodW a n [(m0,[]),(m1,[x]),(m2,[y,z])]:=by
 refine⟨λk p h=>?_,λk p h=>?_,λk p h=>?_⟩ <;> match k,h with
 | 0,h=>cases h; first|exact h0|rfl|(intro w hw; cases hw)
 | 1,h=>cases h; first|exact h1|rfl|(intro w hw; rw[Im.mp hw]; exact hx)
 | 2,h=>cases h; first|exact h2|rfl|(intro w hw; rcases IG.mp hw with e|hw <;> first|exact e ▸ hy|(rw[Im.mp hw]; exact hz))
 | n+3,h=>simp at h
theorem Dy {Φ:Ih->FF}{ρ:Fm}{S:aa}{i n:HJ}{Q:QW}(hv:∀Q:W->Prop,Q (.int n)->wV ρ i Q)(hn:n<=3)(k:∀j:HY,0<=j->j<=27->j=(n:HY)*n*n->Q (.int j,S)):wE Φ (.op .mul (.op .mul (.v i) (.v i)) (.v i)) ρ S Q:=by
 have b1 : -(2 ^ 64) < (n:HY):=by omega
 have b2:(n:HY) < 2 ^ 64:=by omega
 have hc:(n:HY)*n*n<=27/\0<=(n:HY)*n*n:=by rcases(show n=0\/n=1\/n=2\/n=3 by omega)with h|h|h|h <;> rw[h] <;> decide
 dsimp only[wE];have em:∀m:HY,iq .mul (.int m) (.int n) S=gV (.int (m*n),S):=λm=>sZ b1 b2
 generalize iq .mul=B at em ⊢;refine hv _ ?_;refine hv _ ?_;refine ac (em _) ?_;refine hv _ ?_;refine ac (em _) ?_;have:=k _ hc.2 hc.1 rfl;exact this
theorem yb {Φ:Ih->FF}{fuel:HJ}{ρ:Fm}{S:aa}{K:Fm->aa->Prop}{Q:QO}{i0 i n:HJ}{b:Ss}(hv:∀Q:W->Prop,Q (.int n)->wV ρ i Q)(hn:n<=3)(ok:gM b=true)
  (h:∀j:HY,0<=j->j<=27->j=(n:HY)*n*n->∃I:HJ->Fm->aa->Prop,I 0 ρ S/\(∀(i:HJ) (ρ:Fm) (S:aa),(i:HY) < j->I i ρ S->vh Φ fuel b (ρ.set i0 (gV (.int i))) S (I (i+1)) Q)/\∀ρ S,I j.toNat ρ S->K ρ S) :
  Wp (gb Φ fuel (.loop (.nm i0) (.rng (.cons (.op .mul (.op .mul (.v i) (.v i)) (.v i)) .nil)) b) ρ S) (qU K Q):=
 have hw:=Dy (Φ:=Φ) (S:=S) (Q:=λp=>∃(j:HY) (I:HJ->Fm->aa->Prop),p.1=.int j/\(-(2 ^ 62)<=j/\j < 2 ^ 62)/\I 0 ρ p.2/\(∀(i:HJ) (ρ:Fm) (S:aa),(i:HY) < j->I i ρ S->vh Φ fuel b (ρ.set i0 (gV (.int i))) S (I (i+1)) Q)/\∀ρ S,I j.toNat ρ S->K ρ S) hv hn λj j0 j27 e=>let ⟨I,h0,h1,h2⟩:=h j j0 j27 e; ⟨j,I,rfl,by omega,h0,h1,h2⟩
 lh rfl ok hw
section
variable{defs:HC (Ih×Df)}{fuel d:HJ}{S:aa}{r:HJ}{Q:QW}
theorem yc (hfu:20 < fuel)(G:Gen defs)(hf:Fl S r)(k:∀w S',dC w->Fl S' r->Kp r S S'->Q (w,S')):wO (be (ar defs fuel (d+7)) "_law_laying_rule" 1 [.ref r] S) Q:=by
 refine az G.laying_rule rfl rfl λQ' hR=>?_
 replace k:∀w S',dC w->Fl S' r->Kp r S S'->Q' (.rt w,S'):=λz S' a b c=>hR _ _ (k z S' a b c)
 clear hR;show wZ _ _ cG [gV (.ref r),td,td,td,td,td,td,td,td,td,td,td,td,td,td] S Q';unfold cG;refine aR λK hK=>?_
 dsimp only[wS,wE,wA,wV,wG,HV];refine bo (d:=d+5) G.pick hf (by decide) (by decide) λv S1 v0 v7 f1 k1=>hK _ _ ?_
 clear hK K;refine aR λK hK=>?_
 dsimp only[wS,wT,wE,wV,wG,gL,aN,wB];refine aq (Q0:=Q') (λ_ Q2 _ hr=>?_) (λ_ Q2 hn _=>b7 (hn _ _ (hK _ _ ?_)))
 ·refine st ?_;dsimp only[wS,wE,wA,wV,wG];exact qh (d:=d) hfu G f1 λw S2 a b c=>hr _ _ (k w S2 a b (k1.trans c))
 clear hK K hn;refine aR λK hK=>?_
 dsimp only[wS,wT,wE,wV,wG,gL,aN,wB];refine aq (Q0:=Q') (λ_ Q2 _ hr=>?_) (λ_ Q2 hn _=>b7 (hn _ _ (hK _ _ ?_)))
 ·refine st ?_;dsimp only[wS,wE,wA,wV,wG];exact uQ (d:=d) hfu G f1 λw S2 a b c=>hr _ _ (k w S2 a b (k1.trans c))
 clear hK K hn;have hr1:=f1.lt;refine aR λK hK=>?_
 dsimp only[wS,wE,wA,wV,wG];refine lJ (d:=d+4) G f1 λw2 S2 hw2 f2 k2=>?_
 obtain⟨bs0,q0,kvs0,most,rfl,hbs0,m1,m3,m6,hq0,hq0l,h40,hm0⟩:=hw2;dsimp only[wU];refine ac (show dz [2,3,4] [.tup (ab bs0),.ref q0,.int most] [gV (.ref r),gV (.int v),td,td,td,td,td,td,td,td,td,td,td,td,td]=gV [gV (.ref r),gV (.int v),gV (.tup (ab bs0)),gV (.ref q0),gV (.int most),td,td,td,td,td,td,td,td,td,td]from rfl) (hK _ _ ?_)
 clear hK K;refine aR λK hK=>?_
 dsimp only[wS,wE,wA,wV,wG,HV];refine bo (d:=d+5) G.pick f2 (by omega) (by omega) λv3 S3 v30 v3m f3 k3=>?_
 dsimp only[d3,aN];obtain⟨a,ea⟩ : ∃a:HJ,1+v3=a:=⟨(1+v3).toNat,by omega⟩
 rw[ea];refine hK _ _ ?_;clear hK K;refine aR λK hK=>?_
 dsimp only[wS,wE,wA,wV,wG];refine rQ (d:=d+4) G (S0:=S1) hbs0 f3 hr1 (k2.trans k3) (k3.get _ _ (by omega) hq0) hq0l h40 (hm0.kp hr1 k3) λbs q kvs S4 hb hbl hq hql hm f4 k4=>?_
 dsimp only[wU];refine ac (show dz [2,3] [.tup (ab bs),.ref q] [gV (.ref r),gV (.int v),gV (.tup (ab bs0)),gV (.ref q0),gV (.int most),gV (.int a),td,td,td,td,td,td,td,td,td]=gV [gV (.ref r),gV (.int v),gV (.tup (ab bs)),gV (.ref q),gV (.int most),gV (.int a),td,td,td,td,td,td,td,td,td]from rfl) (hK _ _ ?_)
 clear hK K;rw[<- hbl]at hm m6;have hn:bs.length=2\/bs.length=3:=by rw[hbl]; exact(xS bs0 hbs0).1
 have hsz:SizeOk a bs:=⟨by omega,hb,by
  have h1:(a:HY)*bs.length<=most*bs.length:=Int.mul_le_mul_of_nonneg_right (by omega) (by omega)
  exact_mod_cast Int.le_trans h1 m6,by omega⟩
 clear m6 hm0 hq0 hq0l h40 hbl hbs0 k2 k3 f2 f3;refine aR λK hK=>?_
 dsimp only[wS,wE,wA,wV,wG,HV];refine fI (d:=d+1) hfu G f4 (by omega) (by omega) λms ns S5 hml hnl hnm f5 k5=>hK _ _ ?_
 clear hK K;have kk:Kp r S S5:=k1.trans (k4.trans k5);have hrt:=f5.lt;have hq5:S5[q]?=gV (.dic kvs):=k5.get _ _ (by omega) hq
 have hm5:MustE S5 bs.length S1.length kvs:=hm.kp hr1 k5;have hqn:q < S5.length:=db hq5;clear k1 k4 k5 f4 hm hq hql f1;refine st ?_;dsimp only[wS,wE,HV];refine aR λK hK=>?_
 dsimp only[wS,wE,wA,wV,wG,HV];refine bC ?_;rw[show(ab bs).length=bs.length from HF ..]
 refine hK _ _ ?_;clear hK K;refine aR λK hK=>?_
 refine yb (n:=bs.length) (λQ q=>q) (by omega) rfl λj j0 j27 hj=>?_
 refine⟨(λ_ ρ S'=>(∃x9 x10 x11 x12 x13 x14,ρ=[gV (.ref r),gV (.int v),gV (.tup (ab bs)),gV (.ref q),gV (.int most),gV (.int a),gV (cM ms ns bs []),gV (.ref S5.length),gV (.int bs.length),x9,x10,x11,x12,x13,x14])/\(∃kvs fs,S'[S5.length]?=gV (.dic kvs)/\FigD (bc a bs) kvs fs)/\S'[q]?=gV (.dic kvs)/\MustE S' bs.length S1.length kvs/\Fl S' r/\Kp r S S'),⟨⟨_,_,_,_,_,_,rfl⟩,⟨[],[],ak,.nil⟩,au hq5,hm5.ka .push,f5.ka .push,kk.trans .push⟩,?_,?_⟩
 ·rintro i ρ S6 hi ⟨⟨x9,x10,x11,x12,x13,x14,rfl⟩,⟨kvd,fs,e6,hd⟩,hq6,hm6,f6,k6⟩ Q2 hn2 _;clear hK k;have hnp:(0:HY) < bs.length:=by omega
  have hnb:(bs.length:HY) < 1073741824:=by omega
  have y1:0<=(i:HY) % bs.length/\(i:HY) % bs.length < bs.length:=⟨Kl _ (by omega),JS _ hnp⟩
  have y2:0<=(i:HY) / bs.length % bs.length/\(i:HY) / bs.length % bs.length < bs.length:=⟨Kl _ (by omega),JS _ hnp⟩
  have y3:0<=(i:HY) / bs.length / bs.length/\(i:HY) / bs.length / bs.length < bs.length:=by
   rcases hn with h|h <;> rw[h]at hj ⊢ <;> omega
  refine aR λK hK=>?_
  dsimp only[wS,wE,wA,wV,wG,HV];refine ac (kW hnp) (ac (oh hnp hnb) (ac (kW hnp) ?_));dsimp only[w2];refine hK _ _ ?_;clear hK K;refine aR λK hK=>?_
  dsimp only[wS,wE,wA,wV,wG,HV];refine ac (oh hnp hnb) (ac (oh hnp hnb) (hK _ _ ?_));clear hK K;dsimp only;generalize(i:HY) % bs.length=z1 at y1 ⊢;generalize(i:HY) / bs.length % bs.length=z2 at y2 ⊢;generalize(i:HY) / bs.length / bs.length=z3 at y3 ⊢;refine aR λK hK=>?_
  dsimp only[wS,wT,wA,wE,wV,wG];refine xX (d:=d+4) G hb y1 y2 y3 hq6 hm6 λb S7 k7=>?_
  dsimp only[eA,aN];refine aq (Q0:=Q2) (λ_ Q3 hn3 _=>?_) (λ_ Q3 hn3 _=>b7 (hn3 _ _ (hK _ _ (b7 (hn2 _ _ ⟨⟨_,_,_,_,_,_,rfl⟩,⟨kvd,fs,k7.get _ _ e6,hd⟩,k7.get _ _ hq6,hm6.ka k7,f6.ka k7,k6.trans (k7.kp r)⟩)))))
  refine aR λK3 hK3=>?_
  refine fu rfl rfl ?_;dsimp only[wE,wA,wV,wG];have h56:S5.length < S6.length:=db e6;have h67:=k7.len;refine qg (d:=d+5) G (a:=a) (by omega) λt ts S8 e8 ht ht7 k8=>?_
  refine⟨t,ts.map fw,(λ_ ρ S'=>(∃x9 x13 x14,ρ=[gV (.ref r),gV (.int v),gV (.tup (ab bs)),gV (.ref q),gV (.int most),gV (.int a),gV (cM ms ns bs []),gV (.ref S5.length),gV (.int bs.length),x9,gV (.int z1),gV (.int z2),gV (.int z3),x13,x14])/\(∃kvs fs,S'[S5.length]?=gV (.dic kvs)/\FigD (bc a bs) kvs fs)/\S'[q]?=gV (.dic kvs)/\MustE S' bs.length S1.length kvs/\S'[t]?=gV (.lst (ts.map fw))/\Fl S' r/\Kp r S S'),rfl,⟨⟨_,_,_,rfl⟩,⟨kvd,fs,k8.get _ _ (k7.get _ _ e6),hd⟩,k8.get _ _ (k7.get _ _ hq6),(hm6.ka k7).ka k8,e8,(f6.ka k7).ka k8,k6.trans ((k7.trans k8).kp r)⟩,λi ρ S' h=>h.2.2.2.2.1,?_,?_⟩
  ·rintro j w ρ S9 hw ⟨⟨x9,x13,x14,rfl⟩,⟨kvd,fs,e9,hd⟩,hq9,hm9,ht9,f9,k9⟩;clear hK3 hn3 hK hn2;rw[HP,HG]at hw;obtain⟨⟨tr1,tr2,tr3⟩,htr,rfl⟩:=hw;obtain⟨t1,t2,t3⟩:=ht _ (Ij htr);refine ac (show gK (.nm 13) (fw (tr1,tr2,tr3)) [gV (.ref r),gV (.int v),gV (.tup (ab bs)),gV (.ref q),gV (.int most),gV (.int a),gV (cM ms ns bs []),gV (.ref S5.length),gV (.int bs.length),x9,gV (.int z1),gV (.int z2),gV (.int z3),x13,x14] S9=gV ([gV (.ref r),gV (.int v),gV (.tup (ab bs)),gV (.ref q),gV (.int most),gV (.int a),gV (cM ms ns bs []),gV (.ref S5.length),gV (.int bs.length),x9,gV (.int z1),gV (.int z2),gV (.int z3),gV (fw (tr1,tr2,tr3)),x14],S9)from rfl) λQ4 hn4 _=>?_
   have hu:GoodW a bs.length [(tr1,[]),(tr2,[z1]),(tr3,[z2,z3])]:=BQ t1 t2 t3 y1 y2 y3;refine aR λK hK=>?_
   dsimp only[wS,wE,wA,wV,wG,HV];refine aj (by decide) rfl (aj (by decide) rfl (hK _ _ ?_))
   clear hK K;refine st ?_;dsimp only[wS,wE,wA,wV,wG];refine aj (by decide) rfl (ac (dB (gh rfl)) ?_)
   refine iH (d:=d+3) (m0:=.tup (ms.map W.str)) (b0:=.tup []) (u:=[(tr1,[]),(tr2,[z1]),(tr3,[z2,z3])]) G hb hnl hu rfl λS10 k10=>?_
   have e10:=k10.get _ _ e9;exact tK e10 hd hsz hu rfl λo ho=>b7 (hn4 _ _ ⟨⟨_,_,_,rfl⟩,ho,by rw[cj (by omega)]; exact k10.get _ _ hq9,(hm9.ka k10).set e10,by rw[cj (by omega)]; exact k10.get _ _ ht9,(f9.ka k10).own hrt,(k9.trans (k10.kp r)).late kk.len⟩)
  ·rintro ρ S9 ⟨⟨x9,x13,x14,rfl⟩,hdd,hq9,hm9,ht9,f9,k9⟩;exact hK3 _ _ (b7 (hn3 _ _ (hK _ _ (b7 (hn2 _ _ ⟨⟨_,_,_,_,_,_,rfl⟩,hdd,hq9,hm9,f9,k9⟩)))))
 ·rintro ρ S6 ⟨⟨x9,x10,x11,x12,x13,x14,rfl⟩,⟨kvd,fs,e6,hd⟩,hq6,hm6,f6,k6⟩;refine hK _ _ (st ?_);dsimp only[wS,wE,wA,wV,wG];exact tJ (Q:=λp=>Q' (.rt p.1,p.2)) e6 hd hsz hml hnl hnm λw S8 hw k8=>k w S8 hw (f6.ka k8) (k6.trans (k8.kp r))
end
section
variable{defs:HC (Ih×Df)}{fuel d:HJ}{S:aa}{r:HJ}{Q:QW}
theorem rR (hfu:20 < fuel)(G:Gen defs)(hun:Is defs ("_law_unlaying_rule" : Ih) 1 10 bG)(hf:Fl S r)(k:∀w S',dC w->Fl S' r->Kp r S S'->Q (w,S')):wO (be (ar defs fuel (d+6)) "_law_unlaying_rule" 1 [.ref r] S) Q:=by
 refine az hun rfl rfl λQ' hR=>?_
 replace k:∀w S',dC w->Fl S' r->Kp r S S'->Q' (.rt w,S'):=λz S' a b c=>hR _ _ (k z S' a b c)
 clear hR;show wZ _ _ bG [gV (.ref r),td,td,td,td,td,td,td,td,td] S Q';unfold bG;refine aR λK hK=>?_
 dsimp only[wS,wE,wA,wV,wG,HV];refine bo (d:=d+4) G.pick hf (by decide) (by decide) λv S1 v0 v7 f1 k1=>hK _ _ ?_
 clear hK K;have hlt:=f1.lt;refine aR λK hK=>?_
 dsimp only[wS,wT,wE,wV,wG,gL,aN,wB];refine aq (Q0:=Q') (λ_ Q2 _ hr=>?_) (λ_ Q2 hn _=>b7 (hn _ _ (hK _ _ ?_)))
 ·
  refine st ?_;dsimp only[wS,wE,wA,wV,wG];refine dG 2 (λi zs ρ2 S2=>(∃a1,ρ2=[td,a1])/\zs=([DW 0,DW 1].take i).map aI/\S2=S1) rfl rfl rfl (by decide) ⟨rfl,⟨td,rfl⟩,rfl,rfl⟩ ?_ ?_
  ·rintro i zs ρ2 S2 hi ⟨⟨a1,rfl⟩,rfl,rfl⟩;clear k hr hK;dsimp only[je,wC,wE,wA,wV,wG,HV];refine⟨λ_=>⟨⟨_,rfl⟩,?_,rfl⟩,λz=>by cases z⟩
   rcases(show i=0\/i=1 by omega)with h|h
   ·subst h; rfl
   ·subst h; rfl
  ·rintro zs ρ2 S2 ⟨_,rfl,rfl⟩;refine⟨gh rfl,?_⟩;refine gE (d:=d) (a:=1) (bs:=[0,1]) (us:=[DW 0,DW 1]) hfu G (f1.ka .push) (by decide) (by decide) (λS' kk=>?_) (by decide) (by decide) λms ns S3 hml hnl hnm f3 k3=>?_
   ·simp only[dW,aM (kk.get _ _ (by omega) ak)]; rfl
   exact hr _ _ (k _ _ ⟨1,[0,1],ms,ns,_,rfl,⟨⟨by decide,.inr (.inl rfl),by decide,by decide⟩,hml,hnl,hnm,by decide,AS⟩⟩ f3 (k1.trans (Kp.push.trans k3)))
 clear hK K hn;refine aR λK hK=>?_
 dsimp only[wS,wT,wE,wV,wG,gL,aN,wB];refine aq (Q0:=Q') (λ_ Q2 _ hr=>?_) (λ_ Q2 hn _=>b7 (hn _ _ (hK _ _ ?_)))
 ·
  clear hK;refine aR λK hK=>?_
  dsimp only[wS,wE,wA,wV,wG,HV];refine fI (d:=d) (a:=2) (bs:=[0,1]) hfu G f1 (by decide) (by decide) λms ns S3 hml hnl hnm f3 k3=>hK _ _ ?_
  clear hK K;have hsz:SizeOk 2 [0,1]:=⟨by decide,.inr (.inl rfl),by decide,by decide⟩
  have hrt:=f3.lt;have kk:Kp r S S3:=k1.trans k3;refine st ?_;dsimp only[wS,wE,HV];refine aR λK hK=>?_
  refine fu rfl rfl ?_;dsimp only[wE,wA,wV,wG];refine qg (d:=d+4) G (a:=2) (by decide) λq ts S4 e4 ht hq k4=>?_
  have hq':S3.length < q:=by simp only[HM,IQ,Jz]at hq; omega
  refine⟨q,ts.map fw,(λ_ ρ S'=>(∃x4 x5 x6 x7 x8 x9,ρ=[gV (.ref r),gV (.int v),gV (cM ms ns [0,1] []),gV (.ref S3.length),x4,x5,x6,x7,x8,x9])/\(∃kvs fs,S'[S3.length]?=gV (.dic kvs)/\FigD (bc 2 [0,1]) kvs fs)/\S'[q]?=gV (.lst (ts.map fw))/\Fl S' r/\Kp r S S'),rfl,⟨⟨_,_,_,_,_,_,rfl⟩,⟨[],[],k4.get _ _ ak,.nil⟩,e4,(f3.ka .push).ka k4,(kk.trans .push).trans (k4.kp r)⟩,λi ρ S' h=>h.2.2.1,?_,?_⟩
  ·rintro i w ρ S5 hw ⟨⟨x4,x5,x6,x7,x8,x9,rfl⟩,⟨kvs,fs,e5,hd⟩,hq5,f5,k5⟩;clear hK;rw[HP,HG]at hw;obtain⟨⟨tr1,tr2,tr3⟩,htt,rfl⟩:=hw;obtain⟨t1,t2,t3⟩:=ht _ (Ij htt);have h53:S3.length < S5.length:=db e5;have hq5l:q < S5.length:=db hq5;refine ac (show gK (.nm 4) (fw (tr1,tr2,tr3)) [gV (.ref r),gV (.int v),gV (cM ms ns [0,1] []),gV (.ref S3.length),x4,x5,x6,x7,x8,x9] S5=gV ([gV (.ref r),gV (.int v),gV (cM ms ns [0,1] []),gV (.ref S3.length),gV (fw (tr1,tr2,tr3)),x5,x6,x7,x8,x9],S5)from rfl) λQ3 hn3 _=>?_
   refine aR λK hK=>?_
   refine fu rfl rfl ?_;dsimp only[wE,wA,wV,wG];refine⟨S5.length,[(1,1,0),(1,1,1),(1,0,1),(0,1,1)].map fw,(λ_ ρ S'=>(∃x5 x6 x7 x8 x9,ρ=[gV (.ref r),gV (.int v),gV (cM ms ns [0,1] []),gV (.ref S3.length),gV (fw (tr1,tr2,tr3)),x5,x6,x7,x8,x9])/\(∃kvs fs,S'[S3.length]?=gV (.dic kvs)/\FigD (bc 2 [0,1]) kvs fs)/\S'[q]?=gV (.lst (ts.map fw))/\S'[S5.length]?=gV (.lst ([(1,1,0),(1,1,1),(1,0,1),(0,1,1)].map fw))/\Fl S' r/\Kp r S S'),rfl,⟨⟨_,_,_,_,_,rfl⟩,⟨kvs,fs,au e5,hd⟩,au hq5,ak,f5.ka .push,k5.trans .push⟩,λi ρ S' h=>h.2.2.2.1,?_,?_⟩
   ·rintro i w ρ S6 hw ⟨⟨x5,x6,x7,x8,x9,rfl⟩,⟨kvs,fs,e6,hd⟩,hq6,hl6,f6,k6⟩;clear hK hn3;rw[HP,HG]at hw;obtain⟨⟨y1,y2,y3⟩,hy,rfl⟩:=hw;have hy':(0<=y1/\y1 < 2)/\(0<=y2/\y2 < 2)/\(0<=y3/\y3 < 2):=by
     have:∀p∈([(1,1,0),(1,1,1),(1,0,1),(0,1,1)]:HC (HY×HY×HY)),(0<=p.1/\p.1 < 2)/\(0<=p.2.1/\p.2.1 < 2)/\(0<=p.2.2/\p.2.2 < 2):=by decide
     exact this _ (Ij hy)
    refine ac (show gK (.tp [5,6,7]) (fw (y1,y2,y3)) [gV (.ref r),gV (.int v),gV (cM ms ns [0,1] []),gV (.ref S3.length),gV (fw (tr1,tr2,tr3)),x5,x6,x7,x8,x9] S6=gV ([gV (.ref r),gV (.int v),gV (cM ms ns [0,1] []),gV (.ref S3.length),gV (fw (tr1,tr2,tr3)),gV (.int y1),gV (.int y2),gV (.int y3),x8,x9],S6)from rfl) λQ4 hn4 _=>?_
    refine aR λK hK=>?_
    dsimp only[wS,wE,wA,wV,wG,HV];refine aj (by decide) rfl (aj (by decide) rfl (hK _ _ ?_))
    clear hK K;have hu:GoodW 2 2 [(tr1,[]),(tr2,[y1]),(tr3,[y2,y3])]:=BQ t1 t2 t3 hy'.1 hy'.2.1 hy'.2.2;refine st ?_;dsimp only[wS,wE,wA,wV,wG];refine aj (by decide) rfl (ac (dB (gh rfl)) ?_)
    refine iH (d:=d+2) (m0:=.tup (ms.map W.str)) (b0:=.tup []) (bs:=[0,1]) (u:=[(tr1,[]),(tr2,[y1]),(tr3,[y2,y3])]) G (.inr (.inl rfl)) hnl hu rfl λS7 k7=>?_
    have e7:=k7.get _ _ e6;exact tK e7 hd hsz hu rfl λo ho=>b7 (hn4 _ _ ⟨⟨_,_,_,_,_,rfl⟩,ho,by rw[cj (by omega)]; exact k7.get _ _ hq6,by rw[cj (by omega)]; exact k7.get _ _ hl6,(f6.ka k7).own hrt,(k6.trans (k7.kp r)).late kk.len⟩)
   ·rintro ρ S6 ⟨⟨x5,x6,x7,x8,x9,rfl⟩,hdd,hq6,hl6,f6,k6⟩;exact hK _ _ (b7 (hn3 _ _ ⟨⟨_,_,_,_,_,_,rfl⟩,hdd,hq6,f6,k6⟩))
  ·rintro ρ S5 ⟨⟨x4,x5,x6,x7,x8,x9,rfl⟩,⟨kvs,fs,e5,hd⟩,hq5,f5,k5⟩;refine hK _ _ (st ?_);dsimp only[wS,wE,wA,wV,wG];exact tJ (Q:=λp=>Q2 (.rt p.1,p.2)) e5 hd hsz hml hnl hnm λw S8 hw k8=>hr _ _ (k w S8 hw (f5.ka k8) (k5.trans (k8.kp r)))
 clear hK K hn;refine aR λK hK=>?_
 dsimp only[wS,wE,wA,wV,wG,HV];refine bo (d:=d+4) G.pick f1 (by decide) (by decide) λv2 S2 v20 v22 f2 k2=>?_
 dsimp only[d3,aN];obtain⟨a,ea⟩ : ∃a:HJ,2+v2=a:=⟨(2+v2).toNat,by omega⟩
 rw[ea];have ha:a=2\/a=3:=by omega
 refine hK _ _ ?_;clear hK K;refine aR λK hK=>?_
 dsimp only[wS,wE,HV];refine dG (a:HY) (λi zs ρ2 S3=>(∃a1,ρ2=[td,a1,gV (.int a)])/\zs=((eQ i).map (xY a)).map aI/\S3=S2) rfl rfl rfl (by omega) ⟨rfl,⟨td,rfl⟩,rfl,rfl⟩ ?_ ?_
 ·rintro i zs ρ2 S3 hi ⟨⟨a1,rfl⟩,rfl,rfl⟩;dsimp only[je,wC,wE,wA,wV,wG,HV,mT,aN];refine⟨λ_=>⟨⟨_,rfl⟩,?_,rfl⟩,λz=>by cases z⟩
  simp[eQ,Km,xY,aI,bD]
 ·rintro zs ρ2 S3 ⟨_,rfl,rfl⟩;rw[HU];have hul:(eQ a).length=a:=by simp[eQ]
  refine⟨kY (by rw[HF,HF,hul]; omega),hK _ _ (st ?_)⟩
  clear hK K;dsimp only[wS,wE,wA,wP,wV,wG];refine bo (d:=d+4) G.pick (f2.ka .push) (by omega) (by omega) λv4 S4 v40 v4a f4 k4=>?_
  dsimp only[d3,aN,wN];obtain⟨mm,em⟩ : ∃mm:HJ,1+v4=mm:=⟨(1+v4).toNat,by omega⟩
  rw[em];have hlt2:=f2.lt;have e4:S4[S3.length]?=gV (.lst (((eQ a).map (xY a)).map aI)):=k4.get _ _ (by omega) ak
  have hsl:mE (.ref S3.length) td (gV (mm:HY)) S4=gV (.ref S4.length,S4++[.lst ((((eQ a).map (xY a)).take mm).map aI)]):=by
   simp only[mE,aM e4,gk,Ly]
  refine ac hsl ?_;have hlt4:=f4.lt;have hmem:∀g∈((eQ a).map (xY a)).take mm,g∈bc a [0]:=λg hg=>by
   obtain⟨x,hx,rfl⟩:=Iq.mp (LA hg);rcases ha with rfl|rfl
   ·exact xZ x hx
   ·exact ya x hx
  refine gE (d:=d) (a:=a) (bs:=[0]) (us:=((eQ a).map (xY a)).take mm) hfu G (f4.ka .push) (by omega) (by decide) (λS' kk=>?_) (by rw[IL,HF,hul]; omega) (λu hu=>qe (hmem u hu)) λms ns S5 hml hnl hnm f5 k5=>?_
  ·simp only[dW,aM (kk.get _ _ (by omega) ak)]
  refine k _ _ ⟨a,[0],ms,ns,_,rfl,⟨⟨by omega,iK,by simp; omega,by omega⟩,hml,hnl,hnm,?_,hmem⟩⟩ f5 (k1.trans (k2.trans (Kp.push.trans (k4.trans (Kp.push.trans k5)))))
  refine PQ (NG _ _) ?_;unfold PP eQ;rw[L8,L8];exact(List.nodup_range (n:=a)).imp λh e=>h (by have:=AT e; omega)
end
noncomputable def Tr:HJ->W->Prop
 | _,.int _=>Nz
 | _,.str _=>Nz
 | _,.non=>Nz
 | n+1,.tup xs=>xs.length<=1000/\∀x∈xs,Tr n x
 | _,_=>Jn
theorem jj:∀n:HJ,hJ (Ix n (.bl true))=gV (Ix n true)
 | 0=>rfl
 | n+1=>by rw[JB,hJ,jj n]; rfl
theorem tP (n:HJ):(Ix n true).all id=true:=by
 rw[IC];intro x hx;rw[(List.mem_replicate.mp hx).2]; rfl
section
variable{defs:HC (Ih×Df)}{fuel:HJ}
theorem AU (hg:Is defs ("_law_alike" : Ih) 2 2 bJ):∀(n d:HJ) (w:W) (S:aa) (Q:QW),Tr n w->(∀S',Ka S S'->Q (.bl true,S'))->wO (be (ar defs fuel (d+n+1)) "_law_alike" 2 [w,w] S) Q:=by
 intro n
 induction n with
 | zero=>
  intro d w S Q hw k;refine az hg rfl rfl λQ' hR=>?_
  replace k:=hR _ _ (k S .refl);clear hR;show wZ _ _ bJ [gV w,gV w] S Q';dsimp only[bJ];cases w with
  | int x=>
   refine aR λK hK=>cH (λQ q=>q) (hK _ _ ?_)
   refine aR λK hK=>cH (λQ q=>⟨λz=>(by cases z),λ_=>q⟩) (hK _ _ ?_)
   refine aR λK hK=>la (λQ q=>q) λQ2 _ hr=>st ?_
   dsimp only[wS,wE,wV,wG];refine ac (show uD S (.int x) "int" = gV true from rfl) ⟨λ_=>?_,λz=>by cases z⟩
   dsimp only[gL,aN];rw[IR];exact hr _ _ k
  | str x=>
   refine aR λK hK=>cH (λQ q=>q) (hK _ _ ?_)
   refine aR λK hK=>cH (λQ q=>⟨λz=>(by cases z),λ_=>q⟩) (hK _ _ ?_)
   refine aR λK hK=>cH (λQ q=>q) (hK _ _ ?_)
   refine aR λK hK=>la (λQ q=>q) λQ2 _ hr=>st ?_
   dsimp only[wS,wE,wV,wG];refine ac (show uD S (.str x) "str" = gV true from rfl) ⟨λ_=>?_,λz=>by cases z⟩
   dsimp only[BI,aN];rw[IR];exact hr _ _ k
  | non=>
   refine aR λK hK=>la (λQ q=>q) λQ2 _ hr=>st ?_
   dsimp only[wS,wE,wV,wG];exact ac (show cp .is .non .non S=gV (.bl true,S)from rfl) (hr _ _ k)
  | _=>exact hw.elim
 | succ n ih=>
  intro d w S Q hw k;refine az hg rfl rfl λQ' hR=>?_
  replace k:∀S',Ka S S'->Q' (.rt (.bl true),S'):=λS' a=>hR _ _ (k S' a)
  clear hR;show wZ _ _ bJ [gV w,gV w] S Q';dsimp only[bJ];cases w with
  | int x=>
   refine aR λK hK=>cH (λQ q=>q) (hK _ _ ?_)
   refine aR λK hK=>cH (λQ q=>⟨λz=>(by cases z),λ_=>q⟩) (hK _ _ ?_)
   refine aR λK hK=>la (λQ q=>q) λQ2 _ hr=>st ?_
   dsimp only[wS,wE,wV,wG];refine ac (show uD S (.int x) "int" = gV true from rfl) ⟨λ_=>?_,λz=>by cases z⟩
   dsimp only[gL,aN];rw[IR];exact hr _ _ (k _ .refl)
  | str x=>
   refine aR λK hK=>cH (λQ q=>q) (hK _ _ ?_)
   refine aR λK hK=>cH (λQ q=>⟨λz=>(by cases z),λ_=>q⟩) (hK _ _ ?_)
   refine aR λK hK=>cH (λQ q=>q) (hK _ _ ?_)
   refine aR λK hK=>la (λQ q=>q) λQ2 _ hr=>st ?_
   dsimp only[wS,wE,wV,wG];refine ac (show uD S (.str x) "str" = gV true from rfl) ⟨λ_=>?_,λz=>by cases z⟩
   dsimp only[BI,aN];rw[IR];exact hr _ _ (k _ .refl)
  | tup xs=>
   obtain⟨hl,hx⟩:=hw;refine aR λK hK=>cH (λQ q=>q) (hK _ _ ?_)
   refine aR λK hK=>cH (λQ q=>⟨λz=>(by cases z),λ_=>q⟩) (hK _ _ ?_)
   refine aR λK hK=>cH (λQ q=>q) (hK _ _ ?_)
   refine aR λK hK=>cH (λQ q=>q) (hK _ _ ?_)
   refine aR λK hK=>cH (λQ q=>⟨λz=>(by cases z),λ_=>q⟩) (hK _ _ ?_)
   refine st ?_;dsimp only[wS,wE,wA,wV,wG];refine bC (bC ?_);dsimp only[gL,aN,wB];rw[IR];refine⟨λ_=>?_,λz=>by cases z⟩
   refine dG (xs.length:HY) (λi ys ρ2 S2=>(∃a1,ρ2=[td,a1,gV (.tup xs),gV (.tup xs)])/\ys=Ix i (.bl true)/\Ka S S2) rfl rfl rfl (by omega) ?_ ?_ ?_
   ·dsimp only[wE,wA,wV,wG];exact bC ⟨rfl,⟨td,rfl⟩,rfl,.refl⟩
   ·rintro i ys ρ2 S2 hi ⟨⟨a1,rfl⟩,rfl,k2⟩;have hi':i < xs.length:=by omega
    dsimp only[je,wC,wE,wA,wV,wG,HV];refine⟨λ_=>aj (HR i) (by rw[HU]; exact HX hi') (aj (HR i) (by rw[HU]; exact HX hi') (ih d _ _ _ (hx _ (Jc hi')) λS3 k3=>⟨⟨_,rfl⟩,?_,k2.trans k3⟩)),λz=>by cases z⟩
    rw[MX]
   ·rintro ys ρ2 S2 ⟨_,rfl,k2⟩;rw[HU];refine⟨kY (by rw[Ke]; exact hl),ac (a:=(.bl true,S2++[.lst (Ix xs.length (.bl true))])) ?_ (k _ (k2.trans .push))⟩
    simp only[Bi.fn,zH,aM ak,jj,IH,tP]
  | non=>
   refine aR λK hK=>la (λQ q=>q) λQ2 _ hr=>st ?_
   dsimp only[wS,wE,wV,wG];exact ac (show cp .is .non .non S=gV (.bl true,S)from rfl) (hr _ _ (k _ .refl))
  | _=>exact hw.elim
end
noncomputable def tQ:Ss:=
 (.cons (.ite (.cmp .gt (.v 2) (.v 3)) (.cons (.ret (.ix (.ix (.ix (.v 1) (.v 2)) (.c (.int 1))) (.v 3)))
 .nil) .nil)
 (.cons (.ret (.ix (.ix (.ix (.v 0) (.c (.int 1))) (.ix (.ix (.ix (.v 1) (.v 3)) (.c (.int 1))) (.v 2))) (.c (.int 1))))
 .nil))
noncomputable def jk:Ss:=
 (.cons (.ret (.bi .tuple (.cons (.comp (.own "point_over" 4 (.cons (.v 4) (.cons (.v 5) (.cons (.sl (.v 3) .no (.yes (.v 1))) (.cons (.v 2) .nil))))) (.tp [1,2]) (.enu (.cons (.v 2) .nil)) .nil [td,td,td,gV 2,gV 0,gV 1]) .nil)))
 .nil)
noncomputable def ee:Ss:=
 (.cons (.ret (.tup (.cons (.ix (.ix (.v 1) (.v 3)) (.c (.int 0))) (.cons (.bi .tuple (.cons (.comp (.own "way" 4 (.cons (.v 3) (.cons (.v 4) (.cons (.v 2) (.cons (.v 1) .nil))))) (.nm 1) (.seq (.v 2)) .nil [td,td,gV 3,gV 0,gV 1]) .nil)) .nil))))
 .nil)
section
variable{defs:HC (Ih×Df)}{fuel d:HJ}{S:aa}{r:HJ}{Q:QW}
theorem yd {Φ:Ih->FF}{m0 b0:W}{ns:HC Ih}{bs:HC HY}{a:HJ}{u:Wd}{i j:HJ}{Q:QO}(hb:GoodB bs)(hl:ns.length=bs.length)(hu:GoodW a bs.length u)(hi:i < u.length)(hj:j < u.length)(hij:i≠j)(k:Q (.rt (.int (dw bs u i j)),S)) :
  wZ Φ fuel tQ [gV (.tup [m0,.tup (Ii bn ns bs),b0]),gV (aI u),gV (.int i),gV (.int j)] S Q:=by
 have hpi:=aw (d:=(0,[])) hi;have hpj:=aw (d:=(0,[])) hj;unfold dw at k;dsimp only[tQ];refine aR λK hK=>?_
 dsimp only[wS,wT,wE,wV,wG,Dr,wO,wB,aI];refine aq (Q0:=Q) (λh Q2 _ hr=>?_) (λh Q2 hn _=>?_)
 ·have hji:j < i:=by have:=Jm h; omega
  rw[Iv hji]at k;have hw:j < (u.getD i (0,[])).2.length:=by rw[hu.len i _ hpi]; exact hji
  refine st ?_;dsimp only[wS,wE,wV,wG];refine aj (HR i) (dL hi) (aj (by decide) rfl (aj (HR j) ?_ (hr _ _ k)))
  rw[HU,HP,aw (d:=0) hw]; rfl
 ·have hji:¬ j < i:=by have:=Lb h; omega
  rw[IK hji]at k;refine b7 (hn _ _ (hK _ _ ?_));clear hn hK;have hw:i < (u.getD j (0,[])).2.length:=by rw[hu.len j _ hpj]; omega
  have hg:=aw (d:=0) hw;obtain⟨g1,g2⟩:=hu.way j _ hpj _ (Ij hg);obtain⟨b,hb1,hb2,hb3⟩:=hb.rng ((u.getD j (0,[])).2.getD i 0).toNat (by omega)
  have hn:((u.getD j (0,[])).2.getD i 0).toNat < ns.length:=by omega
  rw[getD_some hb1]at k;refine st ?_;dsimp only[wS,wE,wV,wG];refine aj (by decide) rfl (aj (HR j) (dL hj) (aj (by decide) rfl (aj (HR i) ?_ (aj g1 (ie (HX hn) hb1) (aj (by decide) rfl k)))))
  rw[HU,HP,hg]; rfl
structure Parts (defs:HC (Ih×Df)):Prop where
 way:Is defs ("way" : Ih) 4 4 tQ
 over:Is defs ("point_over" : Ih) 4 4 ee
theorem FJ (P:Parts defs){m0 b0:W}{ns:HC Ih}{bs:HC HY}{a:HJ}{u:Wd}{i j:HJ}(hb:GoodB bs)(hl:ns.length=bs.length)(hu:GoodW a bs.length u)(hi:i < u.length)(hj:j < u.length)(hij:i≠j)(k:Q (.int (dw bs u i j),S)) :
  wO (be (ar defs fuel (d+1)) "way" 4 [.tup [m0,.tup (Ii bn ns bs),b0],aI u,.int i,.int j] S) Q:=
 az P.way rfl rfl λQ' hR=>yd hb hl hu hi hj hij (hR _ _ k)
theorem Dz (P:Parts defs){m0 b0:W}{ns:HC Ih}{bs:HC HY}{a:HJ}{u:Wd}{ps:HC HJ}{i:HJ}(hb:GoodB bs)(hl:ns.length=bs.length)(hu:GoodW a bs.length u)(hps:∀p∈ps,p < u.length/\i≠p)(hi:i < u.length)(hsz:ps.length<=1000)(k:∀S',Ka S S'->Q (bD ((u.getD i (0,[])).1,ps.map λq=>dw bs u i q),S')) :
  wO (be (ar defs fuel (d+2)) "point_over" 4 [.tup [m0,.tup (Ii bn ns bs),b0],aI u,.tup (aH ps),.int i] S) Q:=by
 refine az P.over rfl rfl λQ' hR=>?_
 replace k:∀S',Ka S S'->Q' (.rt (bD ((u.getD i (0,[])).1,ps.map λq=>dw bs u i q)),S'):=λS' a=>hR _ _ (k S' a)
 clear hR;show wZ _ _ ee [gV (.tup [m0,.tup (Ii bn ns bs),b0]),gV (aI u),gV (.tup (aH ps)),gV (.int i)] S Q';generalize hR0:W.tup [m0,.tup (Ii bn ns bs),b0]=R;dsimp only[ee];refine st ?_;dsimp only[wS,wE,wA,wV,wG];refine aj (HR i) (dL hi) (aj (by decide) rfl ?_)
 refine tq (aH ps) (λj ys ρ2 S2=>(∃a1,ρ2=[td,a1,gV (.int i),gV R,gV (aI u)])/\ys=(ps.take j).map (λq=>W.int (dw bs u i q))/\Ka S S2) rfl rfl rfl ⟨rfl,⟨td,rfl⟩,rfl,.refl⟩ ?_ ?_
 ·rintro j w ys ρ2 S2 hw ⟨⟨a1,rfl⟩,rfl,k2⟩;unfold aH at hw;rw[HP,HG]at hw;obtain⟨q,hq,rfl⟩:=hw;obtain⟨hqu,hqi⟩:=hps q (Ij hq);refine ac (show gK (.nm 1) (.int (q:HY)) [td,a1,gV (.int i),gV R,gV (aI u)] S2=gV ([td,gV (.int (q:HY)),gV (.int i),gV R,gV (aI u)],S2)from rfl) ?_
  dsimp only[je,wC,wE,wA,wV,wG];subst hR0;refine⟨λ_=>FJ (d:=d) P hb hl hu hi hqu hqi ⟨⟨_,rfl⟩,?_,k2⟩,λz=>by cases z⟩
  rw[Jd,hq];simp
 ·rintro ys ρ2 S2 ⟨_,rfl,k2⟩;rw[show(aH ps).length=ps.length from HF ..,Jl]
  refine⟨kY (by rw[HF]; exact hsz),fR ak ?_⟩
  have:=k _ (k2.trans (Ka.push (o:=O.lst (ps.map λq=>W.int (dw bs u i q)))))
  unfold bD at this;rw[J5]at this;exact this
theorem FK (P:Parts defs)(hp:Is defs ("part" : Ih) 3 3 jk){m0 b0:W}{ns:HC Ih}{bs:HC HY}{a:HJ}{u:Wd}{ps:HC HJ}(hb:GoodB bs)(hl:ns.length=bs.length)(hu:GoodW a bs.length u)(hps:∀p∈ps,p < u.length)(hnd:ps.Nodup)(hsz:ps.length<=1000)(k:∀S',Ka S S'->Q (aI (aL bs u ps),S')) :
  wO (be (ar defs fuel (d+3)) "part" 3 [.tup [m0,.tup (Ii bn ns bs),b0],aI u,.tup (aH ps)] S) Q:=by
 refine az hp rfl rfl λQ' hR=>?_
 replace k:∀S',Ka S S'->Q' (.rt (aI (aL bs u ps)),S'):=λS' a=>hR _ _ (k S' a)
 clear hR;show wZ _ _ jk [gV (.tup [m0,.tup (Ii bn ns bs),b0]),gV (aI u),gV (.tup (aH ps))] S Q';generalize hR0:W.tup [m0,.tup (Ii bn ns bs),b0]=R;dsimp only[jk];refine st ?_;dsimp only[wS,wE,wA];refine AC (aH ps) (λj ys ρ2 S2=>(∃a1 a2,ρ2=[td,a1,a2,gV (.tup (aH ps)),gV R,gV (aI u)])/\ys=((aL bs u ps).take j).map bD/\Ka S S2) rfl rfl rfl ⟨rfl,⟨td,td,rfl⟩,rfl,.refl⟩ ?_ ?_
 ·rintro j w ys ρ2 S2 hw ⟨⟨a1,a2,rfl⟩,rfl,k2⟩;unfold aH at hw;rw[HP,HG]at hw;obtain⟨q,hq,rfl⟩:=hw;have hj:j < ps.length:=(Ig.mp hq).1;have eq:q=ps[j]:=(Ig.mp hq).2.symm;refine ac (show gK (.tp [1,2]) (.tup [.int (j:HY),.int (q:HY)]) [td,a1,a2,gV (.tup (aH ps)),gV R,gV (aI u)] S2=gV ([td,gV (.int (j:HY)),gV (.int (q:HY)),gV (.tup (aH ps)),gV R,gV (aI u)],S2)from rfl) ?_
  dsimp only[je,wC,wE,wA,wP,wV,wG,wN];refine⟨λ_=>ac (a:=(.tup (aH (ps.take j)),S2)) ?_ ?_,λz=>by cases z⟩
  ·simp only[mE,gk];unfold aH;rw[Ly]
  ·subst hR0;refine Dz (d:=d) P hb hl hu (λp hp=>⟨hps p (LA hp),?_⟩) (hps q (Ij hq)) (by rw[IL]; omega) λS3 k3=>⟨⟨_,_,rfl⟩,?_,k2.trans k3⟩
   ·obtain⟨m,hm,e⟩:=LB.mp hp;rw[IL]at hm;rw[Lm]at e;rw[eq,<- e];intro z;have:=(Kz hnd).mp z;omega
   ·have ep:(aL bs u ps)[j]?=gV ((u.getD q (0,[])).1,(ps.take j).map λq'=>dw bs u q q'):=by
     unfold aL;rw[HP,J0 hj,IH,getD_some hq]
    rw[Jd,ep];simp
 ·rintro ys ρ2 S2 ⟨_,rfl,k2⟩;rw[show(aH ps).length=ps.length from HF ..,<- cL bs u ps,Jl]
  exact⟨kY (by rw[HF,cL]; exact hsz),fR ak (k _ (k2.trans .push))⟩
end
noncomputable def gn (n:HJ)(os:HC (HC HJ)):HC (HC HJ):=os.flatMap λo=>((Ic n).filter λp=>decide (p∉o)).map λp=>o++[p]
theorem qo {n:HJ}:∀os:HC (HC HJ),(gn n os).length<=os.length*n
 | []=>by simp[gn]
 | o::os=>by
  have ih:=qo (n:=n) os;unfold gn at ih ⊢;rw[NV,HM,HF,IQ,Pd];have:=Kg (λp=>decide (p∉o)) (Ic n)
  rw[IU]at this;omega
theorem uU {n:HJ}{os:HC (HC HJ)}{i:HJ}:(gn n (os.take i)).length<=os.length*n:=by
 refine IT (qo _) (Nat.mul_le_mul_right _ ?_);rw[IL]; omega
theorem jl {S:aa}{d:HJ}:∀xs ys:HC HY,jR (jG S d) (xs.map W.int) (ys.map W.int)=gV (decide (xs=ys))
 | [],[]=>rfl
 | [],_::_=>rfl
 | _::_,[]=>rfl
 | x::xs,y::ys=>by
  have e:jG S d (.int x) (.int y)=gV (x==y):=by cases d <;> rfl
  simp only[JF,jR,e,jl xs ys]
  by_cases h:x=y
  ·subst h; by_cases h2:xs=ys <;> simp[h2]
  ·have h':(x==y)=false:=by simpa using h
   simp[h,h']
theorem DA {S:aa}{d:HJ}(p q:Pt):jG S (d+2) (bD p) (bD q)=gV (decide (p=q)):=by
 obtain⟨m,ws⟩:=p;obtain⟨m',ws'⟩:=q;show jR (jG S (d+1)) [.int m,.tup (ws.map W.int)] [.int m',.tup (ws'.map W.int)]=_;have e:jG S (d+1) (.int m) (.int m')=gV (m==m'):=rfl;have e2:jG S (d+1) (.tup (ws.map W.int)) (.tup (ws'.map W.int))=gV (decide (ws=ws')):=jl ws ws';simp only[jR,e,e2]
 by_cases h:m=m'
 ·subst h; by_cases h2:ws=ws' <;> simp[h2]
 ·have h':(m==m')=false:=by simpa using h
  simp[h,h']
theorem FL {S:aa}{p q:Pt}:cp .eq (bD p) (bD q) S=gV (.bl (decide (p=q)),S):=by
 show(jG S (18+2) (bD p) (bD q)).map _=_;rw[DA]; rfl
theorem qp {p:HJ}:∀ps:HC HJ,((aH ps).any λz=>yC z (.int p))=decide (p∈ps)
 | []=>rfl
 | q::ps=>by
  show((q:HY)==(p:HY)||(aH ps).any _)=_
  rw[qp ps]
  by_cases h:q=p
  ·subst h; simp
  ·have h1:((q:HY)==(p:HY))=false:=by simp; omega
   have h2:¬ p=q:=λe=>h e.symm
   rw[h1]; simp[h2]
theorem uV (ps:HC HJ):(aH ps).all cz=true:=by
 rw[IC];intro x hx;obtain⟨p,_,rfl⟩:=Iq.mp hx;rfl
theorem ye {S:aa}{p:HJ}{ps:HC HJ}:cp .notin (.int p) (.tup (aH ps)) S=gV (.bl (decide (p∉ps)),S):=by
 show ir .notin (.int p) (.tup (aH ps)) S=_;have hf:(cz (.int p)&&(aH ps).all cz)=true:=by rw[uV]; rfl
 simp only[ir,DT,Bv,fO,hf,KJ,IH,qp];congr 3
 by_cases h:p∈ps <;> simp[h]
theorem qr {xs:HC W}:jS xs td (gV (-1))=xs.dropLast:=by
 unfold jS;rw[HT.km,ON,Pf,List.dropLast_eq_take];congr 1;show(if (-1:HY) < 0 then((-1:HY)+(xs.length:HY)).toNat else min (-1:HY).toNat xs.length)=_
 rw[Iv (by decide)]; omega
noncomputable def bZ:Ss:=
 (.cons (.set 2 (.lst .nil))
 (.cons (.loop (.nm 3) (.seq (.v 0)) (.cons (.ex (.me .extend (.v 2) (.cons (.comp (.op .add (.v 2) (.tup (.cons (.v 1) .nil))) (.nm 1) (.rng (.cons (.v 1) .nil)) (.cons (.cmp .notin (.v 1) (.v 2)) .nil) [td,td,gV 3]) .nil)))
 .nil))
 (.cons (.ret (.v 2))
 .nil)))
noncomputable def cN (os:HC (HC HJ)):HC W:=os.map λo=>.tup (aH o)
section
variable{defs:HC (Ih×Df)}{fuel d:HJ}{S:aa}{Q:QW}
theorem DB {t l:HJ}{xs ys:HC W}(h:S[t]?=gV (.lst xs))(h2:S[l]?=gV (.lst ys))(hl:xs.length+ys.length<=1000000)(q:Q (.non,S.set t (.lst (xs++ys)))):wO (Me.extend.fn (.ref t) [.ref l] S) Q:=by
 refine ac ?_ q;simp only[Me.fn,j5,dh h,dh h2];rw[Iv (by rw[Ja]; omega)]
theorem gp {n:HJ}(h:n<=1000000):n<=sizeLine:=by rw[Ja]; omega
theorem yf (hg:Is defs ("longer_orders" : Ih) 2 4 bZ){n l:HJ}{os:HC (HC HJ)}(e:S[l]?=gV (.lst (cN os)))(hn:n<=100)(hol:∀o∈os,o.length<=100)(hos:os.length*n<=100000)
  (k:∀(q:HJ) (S':aa),S'[q]?=gV (.lst (cN (gn n os)))->S.length<=q->Ka S S'->Q (.ref q,S')) :
  wO (be (ar defs fuel (d+1)) "longer_orders" 2 [.ref l,.int n] S) Q:=by
 refine az hg rfl rfl λQ' hR=>?_
 replace k:∀(q:HJ) (S':aa),S'[q]?=gV (.lst (cN (gn n os)))->S.length<=q->Ka S S'->Q' (.rt (.ref q),S'):=λa b c e f=>hR _ _ (k a b c e f)
 clear hR;show wZ _ _ bZ [gV (.ref l),gV (.int n),td,td] S Q';have hlS:=db e;dsimp only[bZ];refine st ?_;dsimp only[wS,wE,wA,HV];refine aR λK hK=>?_
 refine tm l (cN os) (λi ρ S'=>(∃a3,ρ=[gV (.ref l),gV (.int n),gV (.ref S.length),a3])/\S'[l]?=gV (.lst (cN os))/\S'[S.length]?=gV (.lst (cN (gn n (os.take i))))/\Ka S S') rfl rfl ⟨rfl,⟨td,rfl⟩,au e,ak,.push⟩ (λi ρ S' h=>h.2.1) ?_ ?_
 ·rintro i w ρ S1 hw ⟨⟨a3,rfl⟩,e0,e1,k1⟩;clear hK k;unfold cN at hw;rw[HP,HG]at hw;obtain⟨o,ho,rfl⟩:=hw;have hol:=hol o (Ij ho);refine ac (show gK (.nm 3) (.tup (aH o)) [gV (.ref l),gV (.int n),gV (.ref S.length),a3] S1=gV ([gV (.ref l),gV (.int n),gV (.ref S.length),gV (.tup (aH o))],S1)from rfl) ?_
  intro Q2 hn _;refine st ?_;dsimp only[wS,wE,wA,wV,wG];refine⟨dZ e1,?_⟩;refine dG (n:HY) (λj ys ρ2 S2=>(∃a1,ρ2=[td,a1,gV (.tup (aH o))])/\ys=cN (((Ic j).filter λp=>decide (p∉o)).map λp=>o++[p])/\S2=S1) rfl rfl rfl (by omega) ⟨rfl,⟨td,rfl⟩,rfl,rfl⟩ ?_ ?_
  ·rintro j ys ρ2 S2 hj ⟨⟨a1,rfl⟩,rfl,rfl⟩;dsimp only[je,wC,wE,wA,wV,wG,HV];refine ac ye ?_;dsimp only[wB];have er:(Ic (j+1)).filter (λp=>decide (p∉o))=(Ic j).filter (λp=>decide (p∉o))++(if j∉o then[j]else[]):=by
    rw[Km,Kd];congr 1
    by_cases h:j∈o <;> simp[h]
   refine⟨λh=>?_,λh=>⟨⟨_,rfl⟩,?_,rfl⟩⟩
   ·have h:j∉o:=Jm h;refine ac (dB (gp (by rw[HM,show(aH o).length=o.length from HF ..]; show _+1<=_; omega))) ⟨⟨_,rfl⟩,?_,rfl⟩
    rw[er,Iv h,Iw];unfold cN;rw[Iw];simp[aH]
   ·have h:¬ j∉o:=Lb h;rw[er,IK h,Jy]
  ·rintro ys ρ2 S2 ⟨_,rfl,rfl⟩;rw[HU];have hlen:(cN (((Ic n).filter λp=>decide (p∉o)).map λp=>o++[p])).length<=n:=by
    unfold cN;rw[HF,HF];exact IT (Kg _ _) (by rw[IU]; exact HW _)
   have e1':=au (u:=O.lst (cN (((Ic n).filter λp=>decide (p∉o)).map λp=>o++[p]))) e1
   have hlt:=uU (n:=n) (os:=os) (i:=i);have hlw:(cN (gn n (os.take i))).length=(gn n (os.take i)).length:=HF ..;refine⟨gp (by omega),DB e1' ak (by omega) (b7 (hn _ _ ⟨⟨_,rfl⟩,?_,?_,(k1.trans .push).late (HW _)⟩))⟩
   ·rw[cj (by omega)]; exact au e0
   ·rw[cw e1'];unfold gn cN;rw[Jd,ho];simp
 ·rintro ρ S1 ⟨⟨a3,rfl⟩,e0,e1,k1⟩;rw[show(cN os).length=os.length from HF ..,Jl]at e1
  exact hK _ _ (st (k _ _ e1 (HW _) k1))
end
section
variable{defs:HC (Ih×Df)}{fuel d:HJ}{S:aa}{Q:QW}
theorem DC {t:HJ}{xs:HC W}{y:W}(h:S[t]?=gV (.lst xs))(hl:xs.length < 1000000)(q:Q (.non,S.set t (.lst (xs++[y])))):wO (Me.append.fn (.ref t) [y] S) Q:=ac (tf h (by rw[Ja]; omega)) q
end
section
variable{defs:HC (Ih×Df)}{fuel d:HJ}{S:aa}{Q:QW}
theorem eV {i:HJ}{xs:HC W}{c:Jp}(h:S[i]?=gV (.lst xs))(hc:pR.contains c=true):uD S (.ref i) c=gV ("list" == c||("list" == "bool" && c == "int")):=by
 have:F2 S (.ref i)=gV "list":=by simp[F2,aM h]
 unfold uD;rw[this];exact Iv hc
theorem uW (hg:Is defs ("_law_alike" : Ih) 2 2 bJ){n i j:HJ}{xs:HC W}(hi:S[i]?=gV (.lst xs))(hj:S[j]?=gV (.lst xs))(hl:xs.length<=100000)(hx:∀x∈xs,Tr n x)(k:∀S',Ka S S'->Q (.bl true,S')) :
  wO (be (ar defs fuel (d+n+2)) "_law_alike" 2 [.ref i,.ref j] S) Q:=by
 refine az hg rfl rfl λQ' hR=>?_
 replace k:∀S',Ka S S'->Q' (.rt (.bl true),S'):=λS' a=>hR _ _ (k S' a)
 clear hR;show wZ _ _ bJ [gV (.ref i),gV (.ref j)] S Q';dsimp only[bJ];refine aR λK hK=>cH (S1:=S) (λQ q=>q) (hK _ _ ?_)
 clear hK K;refine aR λK hK=>cH (S1:=S) (λQ q=>?_) (hK _ _ ?_)
 ·dsimp only[wT,wE,wV,wG];refine ac (eV hj (by decide)) ⟨λz=>?_,λ_=>ac (eV hi (by decide)) q⟩
  exact absurd z (by decide)
 clear hK K;refine aR λK hK=>cH (S1:=S) (λQ q=>?_) (hK _ _ ?_)
 ·dsimp only[wT,wE,wV,wG];exact ac (eV hj (by decide)) q
 clear hK K;refine aR λK hK=>cH (S1:=S) (λQ q=>?_) (hK _ _ ?_)
 ·dsimp only[wT,wE,wV,wG];exact ac (eV hj (by decide)) q
 clear hK K;refine aR λK hK=>cH (S1:=S) (λQ q=>?_) (hK _ _ ?_)
 ·dsimp only[wT,wE,wV,wG];refine ac (eV hj (by decide)) (ac (eV hi (by decide)) ?_)
  refine ac (show cp .ne (.bl false) (.bl false) S=gV (.bl false,S)from rfl) ⟨λz=>(by cases z),λ_=>?_⟩
  dsimp only;refine ac (eV hj (by decide)) (ac (eV hi (by decide)) ?_)
  exact ac (show cp .ne (.bl true) (.bl true) S=gV (.bl false,S)from rfl) q
 clear hK K;refine st ?_;dsimp only[wS,wE,wA,wV,wG];refine kZ hi (kZ hj ?_);dsimp only[gL,aN,wB];rw[IR];refine⟨λ_=>?_,λz=>by cases z⟩
 refine dG (xs.length:HY) (λm ys ρ2 S2=>(∃a1,ρ2=[td,a1,gV (.ref j),gV (.ref i)])/\ys=Ix m (.bl true)/\Ka S S2) rfl rfl rfl (by omega) ?_ ?_ ?_
 ·dsimp only[wE,wA,wV,wG];exact kZ hj ⟨rfl,⟨td,rfl⟩,rfl,.refl⟩
 ·rintro m ys ρ2 S2 hm ⟨⟨a1,rfl⟩,rfl,k2⟩;have hm':m < xs.length:=by omega
  dsimp only[je,wC,wE,wA,wV,wG,HV];refine⟨λ_=>iF (k2.get _ _ hi) (HR m) (by rw[HU]; exact HX hm') (iF (k2.get _ _ hj) (HR m) (by rw[HU]; exact HX hm') (AU hg n d _ _ _ (hx _ (Jc hm')) λS3 k3=>⟨⟨_,rfl⟩,?_,k2.trans k3⟩)),λz=>by cases z⟩
  rw[MX]
 ·rintro ys ρ2 S2 ⟨_,rfl,k2⟩;rw[HU];refine⟨gp (by rw[Ke]; omega),ac (a:=(.bl true,S2++[.lst (Ix xs.length (.bl true))])) ?_ (k _ (k2.trans .push))⟩
  simp only[Bi.fn,zH,aM ak,jj,IH,tP]
end
theorem DD {S:aa}{i j:HJ}{xs ys:HC HY}(h1:S[i]?=gV (.lst (xs.map W.int)))(h2:S[j]?=gV (.lst (ys.map W.int))):cp .eq (.ref i) (.ref j) S=gV (.bl (decide (xs=ys)),S):=by
 show(jG S (19+1) (.ref i) (.ref j)).map _=_;simp only[jG,dh h1,dh h2,jl];split
 ·rfl
 ·rename_i h;have:xs≠ys:=λe=>h (by rw[e])
  simp[this]
noncomputable def dD:Ss:=
 (.cons (.set 4 (.tup (.cons (.ix (.ix (.v 0) (.v 1)) (.c (.int 0))) (.cons (.tup .nil) .nil))))
 (.cons (.set 5 (.tup (.cons (.ix (.ix (.v 0) (.v 2)) (.c (.int 0))) (.cons (.tup (.cons (.ix (.ix (.ix (.v 0) (.v 2)) (.c (.int 1))) (.v 1)) .nil)) .nil))))
 (.cons (.ret (.tup (.cons (.v 4) (.cons (.v 5) (.cons (.tup (.cons (.ix (.ix (.v 0) (.v 3)) (.c (.int 0))) (.cons (.tup (.cons (.ix (.ix (.ix (.v 0) (.v 3)) (.c (.int 1))) (.v 1)) (.cons (.ix (.ix (.ix (.v 0) (.v 3)) (.c (.int 1))) (.v 2)) .nil))) .nil))) .nil)))))
 .nil)))
noncomputable def eI (u:Wd)(i j k:HJ):Wd:=[((u.getD i (0,[])).1,[]),((u.getD j (0,[])).1,[(u.getD j (0,[])).2.getD i 0]),((u.getD k (0,[])).1,[(u.getD k (0,[])).2.getD i 0,(u.getD k (0,[])).2.getD j 0])]
section
variable{defs:HC (Ih×Df)}{fuel d:HJ}{S:aa}{Q:QW}
theorem AV (hg:Is defs ("three_at" : Ih) 4 6 dD){a n:HJ}{u:Wd}{i j k:HJ}(hu:GoodW a n u)(h1:i < j)(h2:j < k)(h3:k < u.length)(q:Q (aI (eI u i j k),S)) :
  wO (be (ar defs fuel (d+1)) "three_at" 4 [aI u,.int i,.int j,.int k] S) Q:=by
 refine az hg rfl rfl λQ' hR=>?_
 replace q:=hR _ _ q;clear hR;show wZ _ _ dD [gV (aI u),gV (.int i),gV (.int j),gV (.int k),td,td] S Q';have hi:i < u.length:=by omega
 have hj:j < u.length:=by omega
 have lj:i < (u.getD j (0,[])).2.length:=by rw[hu.len j _ (aw (d:=(0,[])) hj)]; exact h1
 have lk:j < (u.getD k (0,[])).2.length:=by rw[hu.len k _ (aw (d:=(0,[])) h3)]; exact h2
 have lki:i < (u.getD k (0,[])).2.length:=by omega
 have w:∀ {p m:HJ},m < (u.getD p (0,[])).2.length->((u.getD p (0,[])).2.map W.int)[((m:HJ):HY).toNat]?=gV (.int ((u.getD p (0,[])).2.getD m 0)):=λ{p m} h=>by
  rw[HU,HP,aw (d:=0) h]; rfl
 dsimp only[dD];refine st ?_;dsimp only[wS,wE,wA,wV,wG,HV];refine aj (HR i) (dL hi) (aj (by decide) rfl ?_)
 refine st ?_;dsimp only[wS,wE,wA,wV,wG,HV];refine aj (HR j) (dL hj) (aj (by decide) rfl (aj (HR j) (dL hj) (aj (by decide) rfl (aj (HR i) (w lj) ?_))))
 refine st ?_;dsimp only[wS,wE,wA,wV,wG,HV];exact aj (HR k) (dL h3) (aj (by decide) rfl (aj (HR k) (dL h3) (aj (by decide) rfl (aj (HR i) (w lki) (aj (HR k) (dL h3) (aj (by decide) rfl (aj (HR j) (w lk) q)))))))
end
noncomputable def iN (kvs:HC (T×W))(u:Wd)(i j k:HJ):Ir:=(cm kvs (dc (eI u i j k))).isSome
structure HasD (kvs:HC (T×W))(L:HC Wd):Prop where
 iff:∀t,t∈kvs.map (·.1)↔t∈L.map dc
 len:kvs.length<=L.length
theorem yg {kvs:HC (T×W)}{t:T}:(cm kvs t).isSome=true↔t∈kvs.map (·.1):=by
 constructor
 ·intro h;obtain⟨v,hv⟩:=Jh.mp h;exact Iq.mpr ⟨_,ll hv,rfl⟩
 ·intro h;obtain⟨p,hp,rfl⟩:=Iq.mp h;obtain⟨v,hv⟩:=tL hp;rw[hv]; rfl
theorem HasD.get {kvs:HC (T×W)}{L:HC Wd}(h:HasD kvs L)(t:T):(cm kvs t).isSome=decide (t∈L.map dc):=by
 rw[K8,yg,h.iff,Iy]
theorem HasD.nil:HasD [] []:=⟨λt=>by simp,HW _⟩
theorem HasD.put {kvs:HC (T×W)}{L:HC Wd}{f:Wd}{v:W}(h:HasD kvs L):HasD (eO kvs (dc f) v) (L++[f]):=by
 refine⟨λt=>?_,?_⟩
 ·rw[jg,Iw,IP,<- h.iff t]
  by_cases hk:dc f∈kvs.map (·.1)
  ·rw[Iv hk];constructor
   ·exact .inl
   ·rintro(z|z)
    ·exact z
    ·rw[Im.mp z]; exact hk
  ·rw[IK hk,IP]; rfl
 ·have:=c8 kvs (dc f) v;have:=h.len;rw[HM,Jj]; omega
noncomputable def fA:Ss:=
 (.cons (.set 1 .dnew)
 (.cons (.loop (.nm 2) (.seq (.ix (.v 0) (.c (.int 2)))) (.cons (.loop (.nm 3) (.seq (.own "_law_turns" 0 .nil)) (.cons (.put (.v 1) (.own "_law_part" 3 (.cons (.v 0) (.cons (.v 2) (.cons (.v 3) .nil)))) (.c (.bl true)))
 .nil))
 .nil))
 (.cons (.ret (.v 1))
 .nil)))
noncomputable def bX (bs:HC HY)(gs:HC Wd):HC Wd:=gs.flatMap λg=>ay.map (aL bs g)
theorem ln (bs:HC HY):∀gs:HC Wd,(bX bs gs).length=6*gs.length
 | []=>rfl
 | g::gs=>by
  have:=ln bs gs;unfold bX at this ⊢;rw[NV,HM,this,IQ,HF,show ay.length=6 from rfl]; omega
section
variable{defs:HC (Ih×Df)}{fuel d:HJ}{S:aa}{Q:QW}
theorem BR (G:Gen defs)(hg:Is defs ("_law_bad" : Ih) 1 4 fA){m0:W}{ns:HC Ih}{bs:HC HY}{a:HJ}{gs:HC Wd}(hb:GoodB bs)(hnl:ns.length=bs.length)(hgs:∀g∈gs,GoodW a bs.length g/\g.length=3)(h64:gs.length<=100)
  (k:∀(q:HJ) (kvs:HC (T×W)) (S':aa),S'[q]?=gV (.dic kvs)->HasD kvs (bX bs gs)->S.length<=q->Ka S S'->Q (.ref q,S')) :
  wO (be (ar defs fuel (d+3)) "_law_bad" 1 [.tup [m0,.tup (Ii bn ns bs),.tup (gs.map aI)]] S) Q:=by
 refine az hg rfl rfl λQ' hR=>?_
 replace k:∀(q:HJ) (kvs:HC (T×W)) (S':aa),S'[q]?=gV (.dic kvs)->HasD kvs (bX bs gs)->S.length<=q->Ka S S'->Q' (.rt (.ref q),S'):=λa b c e f g h=>hR _ _ (k a b c e f g h)
 clear hR;show wZ _ _ fA [gV (.tup [m0,.tup (Ii bn ns bs),.tup (gs.map aI)]),td,td,td] S Q';generalize hR0:W.tup [m0,.tup (Ii bn ns bs),.tup (gs.map aI)]=R;dsimp only[fA];refine st ?_;dsimp only[wS,wE,HV];refine aR λK hK=>?_
 refine for_tup (gs.map aI) (λi ρ S'=>(∃a2 a3,ρ=[gV R,gV (.ref S.length),a2,a3])/\(∃kvs,S'[S.length]?=gV (.dic kvs)/\HasD kvs (bX bs (gs.take i)))/\Ka S S') rfl rfl ?_ ?_ ?_
 ·dsimp only[wE,wV,wG];subst hR0;exact aj (by decide) rfl ⟨rfl,⟨_,_,rfl⟩,⟨[],ak,.nil⟩,.push⟩
 ·rintro i w ρ S1 hw ⟨⟨a2,a3,rfl⟩,⟨kvs,e1,h1⟩,k1⟩;clear hK k;rw[HP,HG]at hw;obtain⟨g,hg1,rfl⟩:=hw;obtain⟨gg,g3⟩:=hgs g (Ij hg1);have hi:i < gs.length:=(Ig.mp hg1).1;refine ac (show gK (.nm 2) (aI g) [gV R,gV (.ref S.length),a2,a3] S1=gV ([gV R,gV (.ref S.length),gV (aI g),a3],S1)from rfl) ?_
  intro Q2 hn _;refine aR λK hK=>?_
  refine fu rfl rfl ?_;dsimp only[wE,wA];refine kg (d:=d+1) G ?_;refine⟨S1.length,ay.map (λt=>W.tup (aH t)),(λj ρ S'=>(∃a3,ρ=[gV R,gV (.ref S.length),gV (aI g),a3])/\(∃kvs,S'[S.length]?=gV (.dic kvs)/\HasD kvs (bX bs (gs.take i)++(ay.take j).map (aL bs g)))/\S'[S1.length]?=gV (.lst (ay.map λt=>W.tup (aH t)))/\Ka S S'),rfl,⟨⟨_,rfl⟩,⟨kvs,au e1,by rw[OO,NO,Jy]; exact h1⟩,ak,k1.trans .push⟩,λj ρ S' h=>h.2.2.1,?_,?_⟩
  ·rintro j w ρ S2 hw ⟨⟨a3,rfl⟩,⟨kvs2,e2,h2⟩,el,k2⟩;clear hK hn;rw[HP,HG]at hw;obtain⟨t,ht,rfl⟩:=hw;have htm:=Ij ht;have tk:t.length<=3/\t.Nodup/\∀p∈t,p < 3:=by
    have:∀t∈ay,t.length<=3/\t.Nodup/\∀p∈t,p < 3:=by decide
    exact this t htm
   refine ac (show gK (.nm 3) (.tup (aH t)) [gV R,gV (.ref S.length),gV (aI g),a3] S2=gV ([gV R,gV (.ref S.length),gV (aI g),gV (.tup (aH t))],S2)from rfl) ?_
   intro Q3 hn3 _;refine st ?_;dsimp only[wS,wE,wA,wV,wG];subst hR0;refine xF (d:=d) G hb hnl gg (λp hp=>by have:=tk.2.2 p hp; omega) tk.2.1 (by omega) λS3 k3=>?_
   have e3:=k3.get _ _ e2;have hlt:kvs2.length < sizeLine:=by
    have b1:=h2.len;have b2:=ln bs (gs.take i);rw[HM,b2,HF,IL,IL,show ay.length=6 from rfl]at b1
    rw[Ja]; omega
   refine ac (xM e3 hlt) (b7 (hn3 _ _ ⟨⟨_,rfl⟩,⟨_,cw e3,?_⟩,?_,(k2.trans k3).late (HW _)⟩))
   ·rw[Jd,ht,Iw,<- KL];exact h2.put
   ·rw[cj (by have:=k1.len; have:=db e1; omega)]; exact k3.get _ _ el
  ·rintro ρ S2 ⟨⟨a3,rfl⟩,⟨kvs2,e2,h2⟩,el,k2⟩;rw[HF,Jl]at h2;refine hK _ _ (b7 (hn _ _ ⟨⟨_,_,rfl⟩,⟨kvs2,e2,?_⟩,k2⟩));unfold bX at h2 ⊢;rw[Jd,hg1,Na]
   simpa using h2
 ·rintro ρ S1 ⟨⟨a2,a3,rfl⟩,⟨kvs,e1,h1⟩,k1⟩;rw[HF,Jl]at h1;exact hK _ _ (st (k _ kvs S1 e1 h1 (HW _) k1))
end
noncomputable def cy:Ss:=
 (.cons (.set 1 (.lst (.cons (.tup .nil) .nil)))
 (.cons (.whl (.cmp .lt (.bi .len (.cons (.ix (.v 1) (.c (.int 0))) .nil)) (.c (.int 3))) (.cons (.set 1 (.own "longer_orders" 2 (.cons (.v 1) (.cons (.c (.int 3)) .nil))))
 .nil))
 (.cons (.set 2 .dnew)
 (.cons (.loop (.nm 3) (.seq (.ix (.v 0) (.c (.int 2)))) (.cons (.loop (.nm 4) (.seq (.v 1)) (.cons (.put (.v 2) (.own "part" 3 (.cons (.v 0) (.cons (.v 3) (.cons (.v 4) .nil)))) (.c (.bl true)))
 .nil))
 .nil))
 (.cons (.ret (.v 2))
 .nil)))))
noncomputable def uX:HJ->HC (HC HJ)
 | 0=>[[]]
 | i+1=>gn 3 (uX i)
theorem uY:uX 3=ay:=by decide
theorem DE:∀i,i<=3->(∃o,(uX i)[0]?=gV o/\o.length=i)/\(uX i).length<=6/\∀o∈uX i,o.length<=3:=λi hi=>by
 rcases(show i=0\/i=1\/i=2\/i=3 by omega)with rfl|rfl|rfl|rfl
 ·exact⟨⟨[],rfl,rfl⟩,by decide,by decide⟩
 ·exact⟨⟨[0],rfl,rfl⟩,by decide,by decide⟩
 ·exact⟨⟨[0,1],rfl,rfl⟩,by decide,by decide⟩
 ·exact⟨⟨[0,1,2],rfl,rfl⟩,by decide,by decide⟩
section
variable{defs:HC (Ih×Df)}{fuel d:HJ}{S:aa}{Q:QW}
theorem yh (hfu:20 < fuel)(P:Parts defs)(hp:Is defs ("part" : Ih) 3 3 jk)(hl:Is defs ("longer_orders" : Ih) 2 4 bZ)(hg:Is defs ("barred_threes" : Ih) 1 5 cy){m0:W}{ns:HC Ih}{bs:HC HY}{a:HJ}{gs:HC Wd}(hb:GoodB bs)(hnl:ns.length=bs.length)(hgs:∀g∈gs,GoodW a bs.length g/\g.length=3)(h64:gs.length<=100)
  (k:∀(q:HJ) (kvs:HC (T×W)) (S':aa),S'[q]?=gV (.dic kvs)->HasD kvs (bX bs gs)->S.length<=q->Ka S S'->Q (.ref q,S')) :
  wO (be (ar defs fuel (d+4)) "barred_threes" 1 [.tup [m0,.tup (Ii bn ns bs),.tup (gs.map aI)]] S) Q:=by
 refine az hg rfl rfl λQ' hR=>?_
 replace k:∀(q:HJ) (kvs:HC (T×W)) (S':aa),S'[q]?=gV (.dic kvs)->HasD kvs (bX bs gs)->S.length<=q->Ka S S'->Q' (.rt (.ref q),S'):=λa b c e f g h=>hR _ _ (k a b c e f g h)
 clear hR;show wZ _ _ cy [gV (.tup [m0,.tup (Ii bn ns bs),.tup (gs.map aI)]),td,td,td,td] S Q';generalize hR0:W.tup [m0,.tup (Ii bn ns bs),.tup (gs.map aI)]=R;dsimp only[cy];refine st ?_;dsimp only[wS,wE,wA,HV];refine aR λK hK=>?_
 refine Fz (λm ρ S'=>∃(i q:HJ),i+m=3/\ρ=[gV R,gV (.ref q),td,td,td]/\S'[q]?=gV (.lst (cN (uX i)))/\S.length<=q/\Ka S S') 3 rfl rfl (by omega) ⟨0,S.length,rfl,rfl,ak,HW _,.push⟩ ?_
 rintro m ρ S1 ⟨i,q,him,rfl,e1,hq,k1⟩;obtain⟨⟨o,ho,hol⟩,l6,l3⟩:=DE i (by omega)
 dsimp only[wT,wE,wA,wV,wG];refine iF (w:=.tup (aH o)) e1 (by decide) (by unfold cN; rw[HP,show((0:HY).toNat)=0 from rfl,ho]; rfl) (bC ?_)
 rw[show(aH o).length=o.length from HF ..,hol]
 dsimp only[xt,aN,wB];refine⟨λh=>?_,λh=>?_⟩
 ·have h:(i:HY) < 3:=Jm h;refine⟨m - 1,by omega,λQ2 hn _=>?_⟩
  clear hK k;refine st ?_;dsimp only[wS,wE,wA,wV,wG,HV];refine yf (n:=3) (d:=d+2) hl e1 (by decide) (λo ho=>by have:=l3 o ho; omega) (by omega) λq2 S2 e2 hq2 k2=>b7 (hn _ _ ⟨i+1,q2,by omega,rfl,e2,?_,k1.trans k2⟩)
  exact IT k1.len hq2
 ·have h:¬ (i:HY) < 3:=Lb h;obtain rfl:i=3:=by omega
  rw[uY]at e1;refine hK _ _ ?_;clear hK K l6 l3 ho hol h him;refine st ?_;dsimp only[wS,wE,HV];refine aR λK hK=>?_
  have hq1:=db e1;refine for_tup (gs.map aI) (λi ρ S'=>(∃a3 a4,ρ=[gV R,gV (.ref q),gV (.ref S1.length),a3,a4])/\(∃kvs,S'[S1.length]?=gV (.dic kvs)/\HasD kvs (bX bs (gs.take i)))/\S'[q]?=gV (.lst (cN ay))/\Ka S S') rfl rfl ?_ ?_ ?_
  ·dsimp only[wE,wV,wG];subst hR0;exact aj (by decide) rfl ⟨rfl,⟨_,_,rfl⟩,⟨[],ak,.nil⟩,au e1,k1.trans .push⟩
  ·rintro i w ρ S2 hw ⟨⟨a3,a4,rfl⟩,⟨kvs,e2,h2⟩,el2,k2⟩;clear hK k;rw[HP,HG]at hw;obtain⟨g,hg1,rfl⟩:=hw;obtain⟨gg,g3⟩:=hgs g (Ij hg1);have hi:i < gs.length:=(Ig.mp hg1).1;refine ac (show gK (.nm 3) (aI g) [gV R,gV (.ref q),gV (.ref S1.length),a3,a4] S2=gV ([gV R,gV (.ref q),gV (.ref S1.length),gV (aI g),a4],S2)from rfl) ?_
   intro Q2 hn _;refine aR λK hK=>?_
   refine tm q (cN ay) (λj ρ S'=>(∃a4,ρ=[gV R,gV (.ref q),gV (.ref S1.length),gV (aI g),a4])/\(∃kvs,S'[S1.length]?=gV (.dic kvs)/\HasD kvs (bX bs (gs.take i)++(ay.take j).map (aL bs g)))/\S'[q]?=gV (.lst (cN ay))/\Ka S S') rfl rfl ⟨rfl,⟨_,rfl⟩,⟨kvs,e2,by rw[OO,NO,Jy]; exact h2⟩,el2,k2⟩ (λj ρ S' h=>h.2.2.1) ?_ ?_
   ·rintro j w ρ S3 hw ⟨⟨a4,rfl⟩,⟨kvs3,e3,h3⟩,el3,k3⟩;clear hK hn;unfold cN at hw;rw[HP,HG]at hw;obtain⟨t,ht,rfl⟩:=hw;have tk:t.length<=3/\t.Nodup/\∀p∈t,p < 3:=by
     have:∀t∈ay,t.length<=3/\t.Nodup/\∀p∈t,p < 3:=by decide
     exact this t (Ij ht)
    refine ac (show gK (.nm 4) (.tup (aH t)) [gV R,gV (.ref q),gV (.ref S1.length),gV (aI g),a4] S3=gV ([gV R,gV (.ref q),gV (.ref S1.length),gV (aI g),gV (.tup (aH t))],S3)from rfl) ?_
    intro Q3 hn3 _;refine st ?_;dsimp only[wS,wE,wA,wV,wG];subst hR0;refine FK (d:=d) P hp hb hnl gg (λp hp=>by have:=tk.2.2 p hp; omega) tk.2.1 (by omega) λS4 k4=>?_
    have e4:=k4.get _ _ e3;have hlt:kvs3.length < sizeLine:=by
     have b1:=h3.len;have b2:=ln bs (gs.take i);rw[HM,b2,HF,IL,IL,show ay.length=6 from rfl]at b1
     rw[Ja]; omega
    refine ac (xM e4 hlt) (b7 (hn3 _ _ ⟨⟨_,rfl⟩,⟨_,cw e4,?_⟩,?_,(k3.trans k4).late k1.len⟩))
    ·rw[Jd,ht,Iw,<- KL];exact h3.put
    ·rw[cj (by omega)]; exact k4.get _ _ el3
   ·rintro ρ S3 ⟨⟨a4,rfl⟩,⟨kvs3,e3,h3⟩,el3,k3⟩;rw[show(cN ay).length=ay.length from HF ..,Jl]at h3
    refine hK _ _ (b7 (hn _ _ ⟨⟨_,_,rfl⟩,⟨kvs3,e3,?_⟩,el3,k3⟩));unfold bX at h3 ⊢;rw[Jd,hg1,Na]
    simpa using h3
  ·rintro ρ S2 ⟨⟨a3,a4,rfl⟩,⟨kvs,e2,h2⟩,el2,k2⟩;rw[HF,Jl]at h2;exact hK _ _ (st (k _ kvs S2 e2 h2 k1.len k2))
end
noncomputable def bm:Ss:=
 (.cons (.loop (.nm 6) (.rng2 (.cons (.bi .len (.cons (.v 5) .nil)) (.cons (.bi .len (.cons (.v 3) .nil)) .nil))) (.cons (.set 7 (.lst .nil))
 (.cons (.loop (.nm 8) (.rng (.cons (.bi .len (.cons (.ix (.v 1) (.c (.int 1))) .nil)) .nil)) (.cons (.set 9 (.lst .nil))
 (.cons (.loop (.nm 10) (.rng (.cons (.v 6) .nil)) (.cons (.ex (.me .append (.v 9) (.cons (.cmp .isin (.tup (.cons (.tup (.cons (.ix (.ix (.v 3) (.v 10)) (.c (.int 0))) (.cons (.tup .nil) .nil))) (.cons (.tup (.cons (.ix (.ix (.v 3) (.v 6)) (.c (.int 0))) (.cons (.tup (.cons (.ix (.ix (.ix (.v 3) (.v 6)) (.c (.int 1))) (.v 10)) .nil)) .nil))) (.cons (.tup (.cons (.v 4) (.cons (.tup (.cons (.ix (.v 5) (.v 10)) (.cons (.v 8) .nil))) .nil))) .nil)))) (.v 2)) .nil)))
 .nil))
 (.cons (.ite (.cmp .notin (.c (.bl true)) (.v 9)) (.cons (.ex (.me .append (.v 7) (.cons (.v 8) .nil)))
 .nil) .nil)
 .nil))))
 (.cons (.ite (.cmp .eq (.v 7) (.lst .nil)) (.cons (.ret (.c .non))
 .nil) .nil)
 (.cons (.set 5 (.op .add (.v 5) (.tup (.cons (.ix (.v 7) (.own "_law_pick" 2 (.cons (.v 0) (.cons (.bi .len (.cons (.v 7) .nil)) .nil)))) .nil))))
 .nil)))))
 (.cons (.ret (.v 5))
 .nil))
noncomputable def bp (kvs:HC (T×W))(u:Wd)(mk:HY)(i m:HJ)(x y:HY):Ir:=(cm kvs (dc [((u.getD i (0,[])).1,[]),((u.getD m (0,[])).1,[(u.getD m (0,[])).2.getD i 0]),(mk,[x,y])])).isSome
theorem yi {S:aa}{l:HJ}{bl:HC Ir}(h:S[l]?=gV (.lst (bl.map W.bl))):∃b,cp .notin (.bl true) (.ref l) S=gV (.bl b,S)/\(b=true->∀x∈bl,x=false):=by
 have hf:(cz (.bl true)&&(bl.map W.bl).all cz)=true:=by
  simp only[cz,K6,IC];intro x hx;obtain⟨z,_,rfl⟩:=Iq.mp hx;rfl
 refine⟨!(bl.map W.bl).any λz=>yC z (.bl true),?_,λhb x hx=>?_⟩
 ·simp only[cp,ke h,ir,DT,Bv,fO,aM h,hf,KJ,IH]
 ·rw[Lk,List.any_eq_false]at hb;cases x with
  | false=>rfl
  | true=>exact absurd rfl (hb (.bl true) (Iq.mpr ⟨true,hx,rfl⟩))
section
variable{defs:HC (Ih×Df)}{fuel d:HJ}{S:aa}{r:HJ}{Q:QW}
theorem lp (G:Gen defs)(hg:Is defs ("_law_new_ways" : Ih) 6 11 bm){m0 b0:W}{N:HC W}{a n q:HJ}{u:Wd}{mk:HY}{kvs:HC (T×W)}(hN:N.length=n)(hn3:n<=3)(hu:GoodW a n u)(hl:u.length<=900)(e:S[q]?=gV (.dic kvs))(hqr:q≠r)(hf:Fl S r)
  (k:∀w S',(w=.non\/∃to:HC HY,w=.tup (ab to)/\to.length=u.length/\(∀x∈to,0<=x/\x < (n:HY))/\∀j < u.length,∀i < j,bp kvs u mk i j (to.getD i 0) (to.getD j 0)=false)->Fl S' r->Kp r S S'->Q (w,S')) :
  wO (be (ar defs fuel (d+2)) "_law_new_ways" 6 [.ref r,.tup [m0,.tup N,b0],.ref q,aI u,.int mk,.tup []] S) Q:=by
 refine az hg rfl rfl λQ' hR=>?_
 replace k:∀w S',(w=.non\/∃to:HC HY,w=.tup (ab to)/\to.length=u.length/\(∀x∈to,0<=x/\x < (n:HY))/\∀j < u.length,∀i < j,bp kvs u mk i j (to.getD i 0) (to.getD j 0)=false)->Fl S' r->Kp r S S'->Q' (.rt w,S'):=λw S' h1 h2 h3=>hR _ _ (k w S' h1 h2 h3)
 clear hR;show wZ _ _ bm [gV (.ref r),gV (.tup [m0,.tup N,b0]),gV (.ref q),gV (aI u),gV (.int mk),gV (.tup (ab [])),td,td,td,td,td] S Q';generalize hR0:W.tup [m0,.tup N,b0]=R;have ul:(u.map bD).length=u.length:=HF ..;have hqS:=db e;have hrS:=hf.lt;dsimp only[bm];refine aR λK hK=>?_
 refine iL 0 (u.length:HY) (λm ρ S'=>∃(to:HC HY) (a6 a7 a8 a9 a10:HI W),ρ=[gV (.ref r),gV R,gV (.ref q),gV (aI u),gV (.int mk),gV (.tup (ab to)),a6,a7,a8,a9,a10]/\to.length=m/\(∀x∈to,0<=x/\x < (n:HY))/\(∀j < m,∀i < j,bp kvs u mk i j (to.getD i 0) (to.getD j 0)=false)/\Fl S' r/\Kp r S S') rfl rfl rfl (by omega) ?_ ?_ ?_
 ·dsimp only[wE,wA,wV,wG];refine bC ⟨rfl,bC ?_⟩;rw[ul];exact⟨rfl,[],_,_,_,_,_,rfl,rfl,(λx hx=>nomatch hx),(λj hj=>by omega),hf,.refl⟩
 ·rintro m ρ S1 hm ⟨to,a6,a7,a8,a9,a10,rfl,htl,hto,hbp,f1,k1⟩ Q2 hn2 hr2;clear hK;rw[LM];have hmu:m < u.length:=by omega
  have e1:S1[q]?=gV (.dic kvs):=k1.get _ _ hqr e;have s1:S.length<=S1.length:=k1.len;have lm:=hu.len m _ (aw (d:=(0,[])) hmu);dsimp only[HV];refine st ?_;dsimp only[wS,wE,wA,HV];refine aR λK hK=>?_
  refine di (n:HY) (λx ρ S'=>(∃a8 a9 a10,ρ=[gV (.ref r),gV R,gV (.ref q),gV (aI u),gV (.int mk),gV (.tup (ab to)),gV (.int m),gV (.ref S1.length),a8,a9,a10])/\(∃ls:HC HY,S'[S1.length]?=gV (.lst (ab ls))/\ls.length<=x/\(∀y∈ls,0<=y/\y < (n:HY))/\∀y∈ls,∀i < m,bp kvs u mk i m (to.getD i 0) y=false)/\S'[q]?=gV (.dic kvs)/\Fl S' r/\Kp r S S') rfl rfl (by omega) ?_ ?_ ?_
  ·dsimp only[wE,wA,wV,wG];subst hR0;refine aj (by decide) rfl (bC ?_)
   rw[hN];exact⟨rfl,⟨_,_,_,rfl⟩,⟨[],ak,HW _,(λy hy=>nomatch hy),λy hy=>nomatch hy⟩,au e1,f1.ka .push,k1.trans .push⟩
  ·rintro x ρ S2 hx ⟨⟨a8,a9,a10,rfl⟩,⟨ls,e2,hll,hls,hlb⟩,q2,f2,k2⟩ Q3 hn3' hr3;clear hK;have l2:=db e2;dsimp only[HV];refine st ?_;dsimp only[wS,wE,wA,HV];refine aR λK hK=>?_
   refine di (m:HY) (λi ρ S'=>(∃a10,ρ=[gV (.ref r),gV R,gV (.ref q),gV (aI u),gV (.int mk),gV (.tup (ab to)),gV (.int m),gV (.ref S1.length),gV (.int x),gV (.ref S2.length),a10])/\S'[S2.length]?=gV (.lst (((Ic i).map λj=>bp kvs u mk j m (to.getD j 0) (x:HY)).map W.bl))/\S'[S1.length]?=gV (.lst (ab ls))/\S'[q]?=gV (.dic kvs)/\Fl S' r/\Kp r S S') rfl rfl (by omega) ⟨rfl,⟨_,rfl⟩,ak,au e2,au q2,f2.ka .push,k2.trans .push⟩ ?_ ?_
   ·rintro i ρ S3 hi ⟨⟨a10,rfl⟩,e3,el3,q3,f3,k3⟩ Q4 hn4 _;clear hK;have hiu:i < u.length:=by omega
    have him:i < (u.getD m (0,[])).2.length:=by omega
    have hit:i < to.length:=by omega
    dsimp only[HV];refine st ?_;dsimp only[wS,wE,wA,wV,wG];refine⟨dZ e3,?_⟩;refine aj (HR i) (dL hiu) (aj (by decide) rfl (aj (HR m) (dL hmu) (aj (by decide) rfl (aj (HR m) (dL hmu) (aj (by decide) rfl (aj (w:=.int ((u.getD m (0,[])).2.getD i 0)) (HR i) (by rw[HU,HP,aw (d:=0) him]; rfl) (aj (w:=.int (to.getD i 0)) (HR i) (by rw[HU]; unfold ab; rw[HP,aw (d:=0) hit]; rfl) ?_)))))))
    refine ac (a:=(.bl (bp kvs u mk i m (to.getD i 0) (x:HY)),S3)) ?_ ?_
    ·show cp .isin (aI [((u.getD i (0,[])).1,[]),((u.getD m (0,[])).1,[(u.getD m (0,[])).2.getD i 0]),(mk,[to.getD i 0,(x:HY)])]) (.ref q) S3=_;simp only[cp,cJ q3,ou]; rfl
    refine mV e3 (by rw[HF,HF,IU]; omega) (b7 (hn4 _ _ ⟨⟨_,rfl⟩,?_,?_,?_,f3.own (by omega),k3.late (by omega)⟩))
    ·rw[cw e3,Km,Iw,Iw]; rfl
    ·rw[cj (by omega)]; exact el3
    ·rw[cj (by omega)]; exact q3
   ·rintro ρ S3 ⟨⟨a10,rfl⟩,e3,el3,q3,f3,k3⟩;refine hK _ _ ?_;clear hK K;refine aR λK hK=>?_
    dsimp only[wS,wT,wE,wA,wV,wG];obtain⟨b,eb,hb⟩:=yi e3;refine ac eb ?_;dsimp only[wB];refine aq (Q0:=Q3) (λhbt Q5 hn5 _=>?_) (λ_ Q5 hn5 _=>b7 (hn5 _ _ (hK _ _ (b7 (hn3' _ _ ⟨⟨_,_,_,rfl⟩,⟨ls,el3,by omega,hls,hlb⟩,q3,f3,k3⟩)))))
    refine st ?_;dsimp only[wS,wE,wA,wV,wG];refine⟨dZ el3,mV el3 (by unfold ab; rw[HF]; omega) (b7 (hn5 _ _ (hK _ _ (b7 (hn3' _ _ ⟨⟨_,_,_,rfl⟩,⟨ls++[(x:HY)],?_,by rw[HM,Jj]; omega,λy hy=>?_,λy hy i hi=>?_⟩,?_,f3.own (by omega),k3.late (by omega)⟩)))))⟩
    ·rw[cw el3]; unfold ab; rw[Iw]; rfl
    ·rcases IP.mp hy with h|h
     ·exact hls y h
     ·rw[Im.mp h]; omega
    ·rcases IP.mp hy with h|h
     ·exact hlb y h i hi
     ·rw[Im.mp h];exact hb hbt _ (Iq.mpr ⟨i,IN.mpr (by omega),rfl⟩)
    ·rw[cj (by omega)]; exact q3
  ·rintro ρ S2 ⟨⟨a8,a9,a10,rfl⟩,⟨ls,e2,hll,hls,hlb⟩,q2,f2,k2⟩;refine hK _ _ ?_;clear hK K;rw[HU]at hll;refine aR λK hK=>?_
   dsimp only[wS,wT,wE,wA,wV,wG];refine ac (BP (au e2) ak) ?_;dsimp only[wB];refine aq (Q0:=Q2) (λ_ Q5 _ hr5=>?_) (λhne Q5 hn5 _=>b7 (hn5 _ _ (hK _ _ ?_)))
   ·refine st ?_;dsimp only[wS,wE];exact hr5 _ _ (hr2 _ _ (k _ _ (.inl rfl) (f2.ka .push) (k2.trans .push)))
   clear hn5 hK;have hpos:0 < ls.length:=by
    cases ls with
    | nil=>cases hne
    | cons _ _=>simp
   refine st ?_;dsimp only[wS,wE,wA,wV,wG,HV];have e2':=au (u:=O.lst []) e2;refine kZ e2' ?_;rw[show(ab ls).length=ls.length from HF ..]
   refine bo (d:=d) G.pick (f2.ka .push) (by omega) (by omega) λv S4 v0 v1 f4 k4=>?_
   have hv:v.toNat < ls.length:=by omega
   have e4:=k4.get _ _ (by have:=db e2; omega) e2'
   refine iF (w:=.int ls[v.toNat]) e4 v0 (by unfold ab; rw[HP,HX hv]; rfl) ?_
   refine ac (dB (gp (by rw[HM,show(ab to).length=to.length from HF ..]; show _+1<=_; omega))) (b7 (hn2 _ _ ⟨to++[ls[v.toNat]],gV (.int m),gV (.ref S1.length),a8,a9,a10,?_,by rw[HM,htl]; rfl,λy hy=>?_,λj hj i hi=>?_,f4,(k2.trans .push).trans k4⟩))
   ·rw[show ab to++[W.int ls[v.toNat]]=ab (to++[ls[v.toNat]]) by unfold ab; rw[Iw]; rfl]
   ·rcases IP.mp hy with h|h
    ·exact hto y h
    ·rw[Im.mp h]; exact hls _ (Jc hv)
   ·have gl:∀j:HJ,j < to.length->(to++[ls[v.toNat]]).getD j 0=to.getD j 0:=λj hj=>by rw[Iu,Iu,IF hj]
    rw[gl i (by omega)]
    by_cases ej:j=m
    ·subst ej;rw[show(to++[ls[v.toNat]]).getD j 0=ls[v.toNat] by rw[<- htl,Iu,Jb (HW _),LN]; rfl]
     exact hlb _ (Jc hv) i hi
    ·rw[gl j (by omega)]
     exact hbp j (by omega) i hi
 ·rintro ρ S1 ⟨to,a6,a7,a8,a9,a10,rfl,htl,hto,hbp,f1,k1⟩;refine hK _ _ (st ?_);dsimp only[wS,wE,wV,wG];exact k _ _ (.inr ⟨to,rfl,by omega,hto,λj hj=>hbp j (by omega)⟩) f1 k1
end
noncomputable def dN:Ss:=
 (.cons (.set 4 (.tup .nil))
 (.cons (.loop (.nm 5) (.rng (.cons (.v 3) .nil)) (.cons (.set 6 (.own "_law_pick" 2 (.cons (.v 0) (.cons (.bi .len (.cons (.ix (.v 1) (.c (.int 0))) .nil)) .nil))))
 (.cons (.set 7 (.own "_law_new_ways" 6 (.cons (.v 0) (.cons (.v 1) (.cons (.v 2) (.cons (.v 4) (.cons (.v 6) (.cons (.tup .nil) .nil))))))))
 (.cons (.ite (.cmp .isnot (.v 7) (.c .non)) (.cons (.set 4 (.op .add (.v 4) (.tup (.cons (.tup (.cons (.v 6) (.cons (.v 7) .nil))) .nil))))
 .nil) .nil)
 .nil))))
 (.cons (.ret (.v 4))
 .nil)))
theorem bE {u:Wd}{h:Pt}{p:HJ}(hp:p < u.length):(u++[h]).getD p (0,[])=u.getD p (0,[]):=by
 rw[Iu,Iu,IF hp]
theorem eJ {u:Wd}{h:Pt}:(u++[h]).getD u.length (0,[])=h:=by
 rw[Iu,Jb (HW _),LN]; rfl
noncomputable def Std (kvs:HC (T×W))(u:Wd):Prop:=∀k < u.length,∀j < k,∀i < j,iN kvs u i j k=false
theorem Std.snoc {kvs:HC (T×W)}{u:Wd}{m:HY}{to:HC HY}(h:Std kvs u)(hb:∀j < u.length,∀i < j,bp kvs u m i j (to.getD i 0) (to.getD j 0)=false):Std kvs (u++[(m,to)]):=by
 intro k hk j hj i hi;rw[HM,Jj]at hk
 by_cases e:k=u.length
 ·subst e;have:=hb j hj i hi;unfold bp at this;unfold iN eI;rw[bE (Lh hi hj),bE hj,eJ];exact this
 ·have hk':k < u.length:=by omega
  have:=h k hk' j hj i hi;unfold iN eI at this ⊢;rw[bE (Lh hi (Lh hj hk')),bE (Lh hj hk'),bE hk'];exact this
section
variable{defs:HC (Ih×Df)}{fuel d:HJ}{S:aa}{r:HJ}{Q:QW}
theorem AW (G:Gen defs)(hw:Is defs ("_law_new_ways" : Ih) 6 11 bm)(hg:Is defs ("_law_world" : Ih) 4 8 dN){M N:HC W}{b0:W}{a n q many:HJ}{kvs:HC (T×W)}(hM:M.length=a)(ha1:0 < a)(ha3:a<=3)(hN:N.length=n)(hn3:n<=3)(hm:many<=900)(e:S[q]?=gV (.dic kvs))(hqr:q≠r)(hf:Fl S r)
  (k:∀(u:Wd) S',u.length<=many->GoodW a n u->Std kvs u->Fl S' r->Kp r S S'->Q (aI u,S')) :
  wO (be (ar defs fuel (d+3)) "_law_world" 4 [.ref r,.tup [.tup M,.tup N,b0],.ref q,.int many] S) Q:=by
 refine az hg rfl rfl λQ' hR=>?_
 replace k:∀(u:Wd) S',u.length<=many->GoodW a n u->Std kvs u->Fl S' r->Kp r S S'->Q' (.rt (aI u),S'):=λu S' h1 h2 h3 h4 h5=>hR _ _ (k u S' h1 h2 h3 h4 h5)
 clear hR;show wZ _ _ dN [gV (.ref r),gV (.tup [.tup M,.tup N,b0]),gV (.ref q),gV (.int many),td,td,td,td] S Q';generalize hR0:W.tup [.tup M,.tup N,b0]=R;dsimp only[dN];refine st ?_;dsimp only[wS,wE,wA,HV];refine aR λK hK=>?_
 refine di (many:HY) (λi ρ S'=>∃(u:Wd) (a5 a6 a7:HI W),ρ=[gV (.ref r),gV R,gV (.ref q),gV (.int many),gV (aI u),a5,a6,a7]/\u.length<=i/\GoodW a n u/\Std kvs u/\Fl S' r/\Kp r S S') rfl rfl (by omega) ⟨rfl,[],_,_,_,rfl,HW _,.nil,(λk hk=>by cases hk),hf,.refl⟩ ?_ ?_
 ·rintro i ρ S1 hi ⟨u,a5,a6,a7,rfl,hul,hu,hst,f1,k1⟩ Q2 hn _;clear hK;have e1:=k1.get _ _ hqr e;dsimp only[HV];refine st ?_;dsimp only[wS,wE,wA,wV,wG,HV];subst hR0;refine aj (by decide) rfl (bC ?_)
  rw[hM];refine bo (d:=d+1) G.pick f1 (by omega) (by omega) λv S2 v0 v1 f2 k2=>?_
  have e2:=k2.get _ _ hqr e1;refine st ?_;dsimp only[wS,wE,wA,wV,wG,HV];refine lp (d:=d) G hw hN hn3 hu (by omega) e2 hqr f2 λw S3 hw3 f3 k3=>?_
  refine aR λK hK=>?_
  dsimp only[wS,wT,wE,wA,wV,wG];rcases hw3 with rfl|⟨to,rfl,htl,hto,hbp⟩
  ·refine ac (show cp .isnot .non .non S3=gV (.bl false,S3)from rfl) ?_
   dsimp only[wB];exact aq (Q0:=Q2) (λz=>by cases z) (λ_ Q5 hn5 _=>b7 (hn5 _ _ (hK _ _ (b7 (hn _ _ ⟨u,_,_,_,rfl,by omega,hu,hst,f3,(k1.trans k2).trans k3⟩)))))
  ·refine ac (show cp .isnot (.tup (ab to)) .non S3=gV (.bl true,S3)from rfl) ?_
   dsimp only[wB];refine aq (Q0:=Q2) (λ_ Q5 hn5 _=>?_) (λz=>by cases z)
   refine st ?_;dsimp only[wS,wE,wA,wV,wG,HV,aI];refine ac (dB (gp (by rw[HM,HF]; show _+1<=_; omega))) (b7 (hn5 _ _ (hK _ _ (b7 (hn _ _ ⟨u++[(v,to)],gV (.int i),gV (.int v),gV (.tup (ab to)),?_,?_,hu.snoc ⟨v0,v1⟩ htl hto,hst.snoc hbp,f3,(k1.trans k2).trans k3⟩)))))
   ·unfold aI;rw[Iw]; rfl
   ·rw[HM,Jj]; omega
 ·rintro ρ S1 ⟨u,a5,a6,a7,rfl,hul,hu,hst,f1,k1⟩;rw[HU]at hul;refine hK _ _ (st ?_);dsimp only[wS,wE,wV,wG];exact k u S1 hul hu hst f1 k1
end
section
variable{Φ:Ih->FF}{ρ:Fm}{S:aa}
theorem yj {α:Type}{elt:E}{it:Ie}{cs:Es}{cap:HC (HI HJ)}{mi:MI}{S1:aa}{Q:QW}(L:HC α)(f:α->W)(p:α->Ir)(g:α->W)(R:Fm)(oe:eN elt=true)(oc:p7 cs=true)(hc:fS cap ρ=td::td::R)(hl:L.length<=1000000)(hi:kN Φ it ρ S=gV (mi,S1))(k1:Ka S S1)(hat:∀i S',Ka S1 S'->mi.at S' i=gV (L.map f)[i]?)(hn:mi.len S1=gV (L.map f).length)
  (hstep:∀x∈L,∀S',Ka S S'->je Φ elt cs (td::gV (f x)::R) S' (λy _ S2=>p x=true/\y=g x/\Ka S' S2) (λ_ S2=>p x=false/\Ka S' S2))
  (k:∀S',Ka S S'->Q (.ref S'.length,S'++[.lst ((L.filter p).map g)])):Wp (aK Φ (.comp elt (.nm 1) it cs cap) ρ S) Q:=by
 rw[xr];refine⟨_,hi,_,hn,?_⟩;refine(d6 (xs:=L.map f) (Q:=λq=>q.1.length<=sizeLine/\Q (.ref q.2.length,q.2++[.lst q.1])) (λi ys ρ' S'=>(∃a1,ρ'=td::a1::R)/\ys=((L.take i).filter p).map g/\Ka S1 S') (λi ys ρ' S' h=>hat i S' h.2.2) (λi w ys ρ' S' hw h=>?_) (λys ρ' S' h=>?_) (L.map f).length 0 [] _ S1 (by omega) ⟨⟨td,hc⟩,rfl,.refl⟩).mono λq hq=>by simpa using hq
 ·obtain⟨⟨a1,rfl⟩,rfl,k2⟩:=h;rw[HP,HG]at hw;obtain⟨x,hx,rfl⟩:=hw;refine G4.mpr ?_;refine(BN oc (hstep x (Ij hx) S' (k1.trans k2))).mono λc hc=>⟨λz=>(bI elt oe (hc.1 z)).mono λy hy=>⟨⟨_,rfl⟩,?_,k2.trans hy.2.2⟩,λz=>⟨⟨_,rfl⟩,?_,k2.trans (hc.2 z).2⟩⟩
  ·rw[Jd,hx,Kd,show(O4 (gV x)).filter p=[x]from List.filter_cons_of_pos hy.1,Iw,hy.2.1]; rfl
  ·rw[Jd,hx,Kd,show(O4 (gV x)).filter p=[]from List.filter_cons_of_neg (by rw[(hc.2 z).1]; exact Ip),Jy]
 ·obtain⟨_,rfl,k2⟩:=h;dsimp only;rw[show(L.map f).length=L.length from HF ..,Jl]
  refine⟨gp ?_,k S' (k1.trans k2)⟩;rw[HF];exact IT (Kg _ _) hl
theorem DF {α:Type}{elt e:E}{cs:Es}{cap:HC (HI HJ)}{Q:QW}(L:HC α)(f:α->W)(p:α->Ir)(g:α->W)(R:Fm)(oi:eN e=true)(oe:eN elt=true)(oc:p7 cs=true)(hc:fS cap ρ=td::td::R)(hl:L.length<=1000000)
  (he:wE Φ e ρ S λq=>∃t,q.1=.ref t/\q.2[t]?=gV (.lst (L.map f))/\Ka S q.2)
  (hstep:∀x∈L,∀S',Ka S S'->je Φ elt cs (td::gV (f x)::R) S' (λy _ S2=>p x=true/\y=g x/\Ka S' S2) (λ_ S2=>p x=false/\Ka S' S2))
  (k:∀S',Ka S S'->Q (.ref S'.length,S'++[.lst ((L.filter p).map g)])):Wp (aK Φ (.comp elt (.nm 1) (.seq e) cs cap) ρ S) Q:=by
 obtain⟨w,S1,e1,t,rfl,ht,k1⟩:=cQ oi he;exact yj (mi:=.live t) L f p g R oe oc hc hl (by simp only[kN,fQ,e1,aM ht]) k1 (λi S' h=>by simp only[MI.at,aM (h.get _ _ ht)]) (by simp only[MI.len,aM ht,IH]) hstep k
theorem qt (n:HJ):dt 0 n=(Ic n).map λi=>W.int (i:HJ):=by
 unfold dt;refine J1 λi _=>?_
 rw[LM]
theorem rS {elt e:E}{cs:Es}{cap:HC (HI HJ)}{Q:QW}(n:HJ)(p:HJ->Ir)(g:HJ->W)(R:Fm)(oi:eN e=true)(oe:eN elt=true)(oc:p7 cs=true)(hc:fS cap ρ=td::td::R)(hl:n<=1000000)
  (he:wE Φ e ρ S λq=>q.1=.int n/\Ka S q.2)
  (hstep:∀x < n,∀S',Ka S S'->je Φ elt cs (td::gV (.int (x:HJ))::R) S' (λy _ S2=>p x=true/\y=g x/\Ka S' S2) (λ_ S2=>p x=false/\Ka S' S2))
  (k:∀S',Ka S S'->Q (.ref S'.length,S'++[.lst (((Ic n).filter p).map g)])):Wp (aK Φ (.comp elt (.nm 1) (.rng (.cons e .nil)) cs cap) ρ S) Q:=by
 obtain⟨w,S1,e1,rfl,k1⟩:=cQ oi he;refine yj (mi:=.its (dt 0 n)) (Ic n) (λi=>W.int (i:HJ)) p g R oe oc hc (by rw[IU]; exact hl) ?_ k1 (λi S' _=>by rw[<- qt]; rfl) (by rw[<- qt]; rfl) (λx hx=>hstep x (IN.mp hx)) k
 simp only[kN,dy,eC,hW,rD,e1];rw[Iv ⟨by omega,by omega⟩]; rfl
theorem yk {α:Type}(L:HC α):L.filter (λ_=>true)=L:=Nb.mpr λ_ _=>rfl
end
noncomputable def iO (kvs:HC (T×W))(u:Wd)(h:Pt)(p q:HJ):Ir:=(cm kvs (dc [((u.getD p (0,[])).1,[]),((u.getD q (0,[])).1,[(u.getD q (0,[])).2.getD p 0]),(h.1,[h.2.getD p 0,h.2.getD q 0])])).isSome
theorem fJ {ws:HC HY}{x:HY}{p:HJ}(hp:p < ws.length):(ws++[x]).getD p 0=ws.getD p 0:=by
 rw[Iu,Iu,IF hp]
noncomputable def dO:Ss:=
 (.cons (.set 2 (.op .sub (.bi .len (.cons (.v 1) .nil)) (.c (.int 1))))
 (.cons (.loop (.nm 3) (.rng (.cons (.op .sub (.v 2) (.c (.int 1))) .nil)) (.cons (.ite (.cmp .isin (.own "three_at" 4 (.cons (.v 1) (.cons (.v 3) (.cons (.op .sub (.v 2) (.c (.int 1))) (.cons (.v 2) .nil))))) (.v 0)) (.cons (.ret (.v 3))
 .nil) .nil)
 .nil))
 (.cons (.ret (.c .non))
 .nil)))
noncomputable def cr:Ss:=
 (.cons (.asg [4,5] (.ix (.v 2) (.v 3)))
 (.cons (.loop (.nm 6) (.rng2 (.cons (.c (.int 1)) (.cons (.v 3) .nil))) (.cons (.loop (.nm 7) (.rng (.cons (.v 6) .nil)) (.cons (.ite (.cmp .isin (.tup (.cons (.tup (.cons (.ix (.ix (.v 2) (.v 7)) (.c (.int 0))) (.cons (.tup .nil) .nil))) (.cons (.tup (.cons (.ix (.ix (.v 2) (.v 6)) (.c (.int 0))) (.cons (.tup (.cons (.ix (.ix (.ix (.v 2) (.v 6)) (.c (.int 1))) (.v 7)) .nil)) .nil))) (.cons (.tup (.cons (.v 4) (.cons (.tup (.cons (.ix (.v 5) (.v 7)) (.cons (.ix (.v 5) (.v 6)) .nil))) .nil))) .nil)))) (.v 1)) (.cons (.ret (.c (.bl false)))
 .nil) .nil)
 .nil))
 .nil))
 (.cons (.ret (.c (.bl true)))
 .nil)))
noncomputable def dP (kvs:HC (T×W))(u:Wd)(s:HJ)(h:Pt):Ir:=(Ic s).all λq=>(Ic q).all λp=>!iO kvs u h p q
theorem eW {kvs:HC (T×W)}{u:Wd}{s:HJ}{h:Pt}:dP kvs u s h=true↔∀q < s,∀p < q,iO kvs u h p q=false:=by
 unfold dP;simp only[IC,IN,Lk]
section
variable{defs:HC (Ih×Df)}{fuel d:HJ}{S:aa}{Q:QW}
theorem lq (hg:Is defs ("_law_last_may" : Ih) 4 8 cr){R:W}{a n q:HJ}{u:Wd}{h:Pt}{kvs:HC (T×W)}(hu:GoodW a n u)(hh:h.2.length=u.length)(hl:u.length<=1000)(e:S[q]?=gV (.dic kvs))(k:Q (.bl (dP kvs u u.length h),S)) :
  wO (be (ar defs fuel (d+1)) "_law_last_may" 4 [R,.ref q,aI (u++[h]),.int (u.length:HY)] S) Q:=by
 refine az hg rfl rfl λQ' hR=>?_
 replace k:=hR _ _ k;clear hR;show wZ _ _ cr [gV R,gV (.ref q),gV (aI (u++[h])),gV (.int (u.length:HY)),td,td,td,td] S Q';have hvl:u.length < (u++[h]).length:=by rw[HM,Jj]; omega
 have at':∀p < u.length,(((u++[h]).map bD)[((p:HJ):HY).toNat]?=gV (bD (u.getD p (0,[])))):=λp hp=>by
  rw[dL (by omega),bE hp]
 have hw:∀p < u.length,(ab h.2)[((p:HJ):HY).toNat]?=gV (.int (h.2.getD p 0)):=λp hp=>by
  rw[HU]; unfold ab; rw[HP,aw (d:=0) (by omega)]; rfl
 dsimp only[cr];refine st ?_;dsimp only[wS,wE,wV,wG];refine aj (HR _) (dL hvl) ?_;rw[eJ];dsimp only[wU,bD];refine ac (show dz [4,5] [.int h.1,.tup (h.2.map W.int)] [gV R,gV (.ref q),gV (aI (u++[h])),gV (.int (u.length:HY)),td,td,td,td]=gV [gV R,gV (.ref q),gV (aI (u++[h])),gV (.int (u.length:HY)),gV (.int h.1),gV (.tup (ab h.2)),td,td]from rfl) ?_
 refine aR λK hK=>?_
 refine iL 1 (u.length:HY) (λm ρ S'=>(∃a6 a7,ρ=[gV R,gV (.ref q),gV (aI (u++[h])),gV (.int (u.length:HY)),gV (.int h.1),gV (.tup (ab h.2)),a6,a7])/\S'=S/\∀j < m+1,∀p < j,iO kvs u h p j=false) rfl rfl rfl (by omega) ⟨rfl,rfl,⟨_,_,rfl⟩,rfl,λj hj p hp=>by omega⟩ ?_ ?_
 ·rintro m ρ S1 hm ⟨⟨a6,a7,rfl⟩,rfl,no⟩ Q2 hn2 hr2;clear hK;rw[show(1:HY)+m=((m+1:HJ):HY) by omega]
  have hmu:m+1 < u.length:=by omega
  generalize hj:m+1=j at hmu hn2 no;dsimp only[HV];refine aR λK hK=>?_
  refine di (j:HY) (λi ρ S'=>(∃a7,ρ=[gV R,gV (.ref q),gV (aI (u++[h])),gV (.int (u.length:HY)),gV (.int h.1),gV (.tup (ab h.2)),gV (.int (j:HY)),a7])/\S'=S1/\∀p < i,iO kvs u h p j=false) rfl rfl (by omega) ⟨rfl,⟨_,rfl⟩,rfl,λp hp=>by omega⟩ ?_ ?_
  ·rintro i ρ S2 hi ⟨⟨a7,rfl⟩,rfl,no2⟩ Q3 hn3 hr3;clear hK;have hij:i < j:=by omega
   have hiu:i < u.length:=by omega
   have lj:i < (u.getD j (0,[])).2.length:=by rw[hu.len j _ (aw (d:=(0,[])) hmu)]; exact hij
   dsimp only[HV];refine aR λK hK=>?_
   dsimp only[wS,wT,wE,wA,wV,wG];refine aj (HR i) (at' i hiu) (aj (by decide) rfl (aj (HR j) (at' j hmu) (aj (by decide) rfl (aj (HR j) (at' j hmu) (aj (by decide) rfl (aj (w:=.int ((u.getD j (0,[])).2.getD i 0)) (HR i) (by rw[HU,HP,aw (d:=0) lj]; rfl) (aj (HR i) (hw i hiu) (aj (HR j) (hw j hmu) ?_))))))))
   refine ac (show cp .isin (aI [((u.getD i (0,[])).1,[]),((u.getD j (0,[])).1,[(u.getD j (0,[])).2.getD i 0]),(h.1,[h.2.getD i 0,h.2.getD j 0])]) (.ref q) S2=gV (.bl (iO kvs u h i j),S2) by simp only[cp,cJ e,ou]; rfl) ?_
   dsimp only[wB];refine aq (Q0:=Q3) (λhb Q5 _ hr5=>?_) (λhb Q5 hn5 _=>b7 (hn5 _ _ (hK _ _ (b7 (hn3 _ _ ⟨⟨_,rfl⟩,rfl,λp hp=>?_⟩)))))
   ·refine st ?_;dsimp only[wS,wE];have:dP kvs u u.length h=false:=by
     rw[Bool.eq_false_iff];intro z;rw[eW.mp z j hmu i hij]at hb;cases hb
    rw[this]at k;exact hr5 _ _ (hr3 _ _ (hr2 _ _ k))
   ·by_cases ep:p=i
    ·rw[ep]; exact hb
    ·exact no2 p (by omega)
  ·rintro ρ S2 ⟨⟨a7,rfl⟩,rfl,no2⟩;rw[HU]at no2;refine hK _ _ (b7 (hn2 _ _ ⟨⟨_,_,rfl⟩,rfl,λj' hj' p hp=>?_⟩))
   by_cases ej:j'=j
   ·subst ej; exact no2 p hp
   ·exact no j' (by omega) p hp
 ·rintro ρ S1 ⟨⟨a6,a7,rfl⟩,rfl,no⟩;refine hK _ _ (st ?_);dsimp only[wS,wE];rw[eW.mpr λq hq p hp=>no q (by omega) p hp]at k
  exact k
end
theorem DG {bs:HC HY}{a:HJ}{v:Wd}{i j:HJ}(hb:GoodB bs)(hv:GoodW a bs.length v)(hi:i < v.length)(hj:j < v.length)(hij:i≠j):0<=dw bs v i j/\dw bs v i j < (bs.length:HY):=by
 unfold dw
 by_cases h:j < i
 ·rw[Iv h];have hp:=aw (d:=(0,[])) hi;have hw:j < (v.getD i (0,[])).2.length:=by rw[hv.len i _ hp]; exact h
  exact hv.way i _ hp _ (Ij (aw (d:=0) hw))
 ·rw[IK h];have hp:=aw (d:=(0,[])) hj;have hw:i < (v.getD j (0,[])).2.length:=by rw[hv.len j _ hp]; omega
  obtain⟨g1,g2⟩:=hv.way j _ hp _ (Ij (aw (d:=0) hw));exact(hb.at g1 g2).2
theorem uZ {bs:HC HY}{a:HJ}{v:Wd}{ps:HC HJ}(hb:GoodB bs)(hv:GoodW a bs.length v)(hps:∀p∈ps,p < v.length)(hnd:ps.Nodup):GoodW a bs.length (aL bs v ps):=by
 have at':∀(k:HJ) (q:Pt),(aL bs v ps)[k]?=gV q->∃hk:k < ps.length,q=((v.getD ps[k] (0,[])).1,(ps.take k).map λj=>dw bs v ps[k] j):=λk q e=>by
  have hk:k < ps.length:=by
   have:=(Ig.mp e).1;rw[cL]at this; exact this
  refine⟨hk,?_⟩;unfold aL at e;rw[HP,J0 hk,IH,show ps.getD k 0=ps[k] by simp[hk]]at e
  exact(Jo e).symm
 refine⟨λk q e=>?_,λk q e=>?_,λk q e=>?_⟩
 ·obtain⟨hk,rfl⟩:=at' k q e;have:=hv.mark _ _ (aw (d:=(0,[])) (hps _ (Jc hk)));exact this
 ·obtain⟨hk,rfl⟩:=at' k q e;dsimp only;rw[HF,IL]; omega
 ·obtain⟨hk,rfl⟩:=at' k q e;intro w hw;obtain⟨j,hj,rfl⟩:=Iq.mp hw;have hjm:=LA hj;refine DG hb hv (hps _ (Jc hk)) (hps _ hjm) λe=>?_
  obtain⟨m,hm,e2⟩:=LB.mp hj;rw[IL]at hm;rw[Lm]at e2;have:=(Kz hnd).mp (e.trans e2.symm);omega
section
variable{defs:HC (Ih×Df)}{fuel d:HJ}{S:aa}{Q:QW}
theorem DH (hd:Is defs ("_law_flow" : Ih) 1 1 eG){ns:HC HY}{u:HJ}(hu:S[u]?=gV (.fro (ns.map W.int)))(k:∀r S',Ka S S'->Fl S' r->Q (.ref r,S')) :
  wO (be (ar defs fuel (d+1)) "_law_flow" 1 [.ref u] S) Q:=by
 refine az hd rfl rfl λQ' hR=>?_
 show wZ _ _ eG [gV (.ref u)] S Q';dsimp only[eG];refine st ?_;dsimp only[wS,wE,wA,wV,wG];have e:Bi.list.fn [.ref u] S=gV (.ref S.length,S++[.lst (ns.map W.int)]):=by
  have h1:zA S u=td:=by simp[zA,hu]
  simp only[Bi.fn,EX,mF,h1,iu,fO,Az hu]
 refine ac e (hR _ _ (k _ _ (Ka.push.trans .push) ⟨S.length,ns,0,0,1,0,?_,?_,?_,by decide,by decide,by decide,by decide⟩))
 ·exact ak
 ·exact au ak
 ·simp
end
structure Ord (n:HJ)(o:HC HJ):Prop where
 nd:o.Nodup
 lt:∀p∈o,p < n
noncomputable def ym:HJ->HC (HC HJ)
 | 0=>[[]]
 | k+1=>(ym k).flatMap λo=>(Ic (k+1)).map λi=>o.take i++[k]++o.drop i
theorem oy:∀ {n:HJ} {o:HC HJ},o∈ym n↔Ord n o/\o.length=n
 | 0,o=>by
  rw[ym,Im];exact⟨λh=>by subst h; exact⟨⟨.nil,λp hp=>nomatch hp⟩,rfl⟩,λh=>List.eq_nil_of_length_eq_zero h.2⟩
 | n+1,o=>by
  rw[ym,J7];constructor
  ·rintro⟨o',h1,h2⟩;obtain⟨i,hi,rfl⟩:=Iq.mp h2;obtain⟨⟨nd,lt⟩,hl⟩:=oy.mp h1;have hi:=IN.mp hi;have hp:(o'.take i++[n]++o'.drop i).Perm (n::o'):=by
    have e:o'.take i++[n]++o'.drop i=o'.take i++n::o'.drop i:=by simp
    rw[e];refine Of.trans ?_;rw[Lo]
   refine⟨⟨hp.nodup_iff.mpr (Kj.mpr ⟨λz=>absurd (lt _ z) (Jr _),nd⟩),λp hpm=>?_⟩,by rw[hp.length_eq,IQ,hl]⟩
   rcases IG.mp (hp.mem_iff.mp hpm)with z|z
   ·omega
   ·have:=lt p z; omega
  ·rintro⟨⟨nd,lt⟩,hl⟩;have hm:n∈o:=by
    by_cases z:n∈o
    ·exact z
    ·have h1:=oq o (Ic n) nd λp hp=>IN.mpr (by
      have:=lt p hp;have:p≠n:=λe=>z (e ▸ hp)
      omega)
     rw[IU]at h1;omega
   obtain⟨a,b,rfl⟩:=List.append_of_mem hm;have hp:(a++n::b).Perm (n::(a++b)):=Of;have nd2:=hp.nodup_iff.mp nd;obtain⟨nn,nd3⟩:=Kj.mp nd2;refine⟨a++b,oy.mpr ⟨⟨nd3,λp hpm=>?_⟩,?_⟩,Iq.mpr ⟨a.length,IN.mpr ?_,?_⟩⟩
   ·have h1:=lt p (hp.mem_iff.mpr (Jg _ hpm));have:p≠n:=λe=>nn (e ▸ hpm)
    omega
   ·have:=hp.length_eq;rw[hl,IQ]at this;omega
   ·rw[HM,IQ]at hl;omega
   ·rw[List.take_left',List.drop_left'] <;> simp
theorem gF {bs:HC HY}{u:Wd}{o:HC HJ}{i:HJ}(hi:i < o.length):(aL bs u o).getD i (0,[])=((u.getD (o.getD i 0) (0,[])).1,(o.take i).map λj=>dw bs u (o.getD i 0) j):=by
 unfold aL;rw[Iu,HP,J0 hi]; rfl
theorem qu {bs:HC HY}{u:Wd}{o:HC HJ}{i j:HJ}(hi:i < o.length)(hj:j < i):((aL bs u o).getD i (0,[])).2.getD j 0=dw bs u (o.getD i 0) (o.getD j 0):=by
 rw[gF hi];dsimp only;rw[Iu,HP,Ma hj,aw (d:=0) (show j < o.length by omega)]; rfl
theorem yn {bs:HC HY}{a:HJ}{u:Wd}{o:HC HJ}{i j:HJ}(hb:GoodB bs)(hu:GoodW a bs.length u)(hO:Ord u.length o)(hi:i < o.length)(hj:j < o.length)(hij:i≠j):dw bs (aL bs u o) i j=dw bs u (o.getD i 0) (o.getD j 0):=by
 have gi:=aw (d:=0) hi;have gj:=aw (d:=0) hj;have li:=hO.lt _ (Ij gi);have lj:=hO.lt _ (Ij gj);have ne:o.getD i 0≠o.getD j 0:=λe=>by
  have h1:o[i]=o.getD i 0:=by simp[hi]
  have h2:o[j]=o.getD j 0:=by simp[hj]
  exact hij ((Kz hO.nd).mp (by rw[h1,h2,e]))
 by_cases h:j < i
 ·have:dw bs (aL bs u o) i j=((aL bs u o).getD i (0,[])).2.getD j 0:=by unfold dw; rw[Iv h]
  rw[this,qu hi h]
 ·have:dw bs (aL bs u o) i j=bs.getD (((aL bs u o).getD j (0,[])).2.getD i 0).toNat 0:=by unfold dw; rw[IK h]
  rw[this,qu hj (by omega)]
  generalize o.getD i 0=x at *
  generalize o.getD j 0=y at *
  unfold dw
  by_cases h2:x < y
  ·rw[Iv h2,IK (by omega)]
  ·rw[IK h2,Iv (by omega)]
   have hp:=aw (d:=(0,[])) li;have hw:y < (u.getD x (0,[])).2.length:=by rw[hu.len x _ hp]; omega
   obtain⟨w0,w1⟩:=hu.way x _ hp _ (Ij (aw (d:=0) hw));have:=hb.inv ((u.getD x (0,[])).2.getD y 0).toNat (by omega)
   rw[this]; omega
theorem u4 {bs:HC HY}{a:HJ}{u:Wd}{o p:HC HJ}(hb:GoodB bs)(hu:GoodW a bs.length u)(hO:Ord u.length o)(hP:Ord o.length p):aL bs (aL bs u o) p=aL bs u (p.map λi=>o.getD i 0):=by
 refine Lv (by rw[cL,cL,HF]) λk h1 h2=>?_
 rw[cL]at h1;have e1:=gF (bs:=bs) (u:=aL bs u o) (o:=p) h1;have e2:=gF (bs:=bs) (u:=u) (o:=p.map λi=>o.getD i 0) (i:=k) (by rw[HF]; exact h1)
 have hk:p.getD k 0 < o.length:=hP.lt _ (Ij (aw (d:=0) h1));have ek:(p.map λi=>o.getD i 0).getD k 0=o.getD (p.getD k 0) 0:=by
  rw[Iu,HP,aw (d:=0) h1]; rfl
 rw[ek]at e2;rw[gF hk]at e1;have f:∀(v:Wd) (hv:k < v.length),v[k]=v.getD k (0,[]):=λv hv=>by simp[hv]
 rw[f _ (by rw[cL]; exact h1),f _ h2,e1,e2]
 congr 1;rw[<- Ly,J5];refine J1 λj hj=>?_
 obtain⟨m,hm,rfl⟩:=LB.mp hj;rw[IL]at hm;rw[Lm];have hpm:p[m]=p.getD m 0:=by simp[show m < p.length by omega]
 rw[hpm];refine yn hb hu hO hk (hP.lt _ (Ij (aw (d:=0) (show m < p.length by omega)))) λe=>?_
 have h3:p[k]=p.getD k 0:=by simp[h1]
 have:=(Kz hP.nd).mp (h3.trans (e.trans hpm.symm));omega
theorem fB {n:HJ}{x:HY}(h:x∈eQ n):0<=x/\x < n:=by
 obtain⟨k,hk,rfl⟩:=Iq.mp h;have:=IN.mp hk;omega
theorem rT {a n:HJ}{u:Wd}(h:u∈qc a n):GoodW a n u/\u.length=3:=by
 unfold qc at h;simp only[J7,Iq]at h;obtain⟨m0,h0,m1,h1,m2,h2,w1,g1,w2,g2,w3,g3,rfl⟩:=h;refine⟨?_,rfl⟩;have s1:GoodW a n ([]++[(m0,[])]):=GoodW.nil.snoc (fB h0) rfl (λw hw=>nomatch hw)
 have s2:GoodW a n ([(m0,[])]++[(m1,[w1])]):=s1.snoc (fB h1) rfl (λw hw=>by rw[Im.mp hw]; exact fB g1)
 exact s2.snoc (fB h2) rfl (λw hw=>by
  simp only[IG,JA,Lj]at hw;rcases hw with rfl|rfl
  ·exact fB g2
  ·exact fB g3)
theorem u5 {a:HJ}{bs:HC HY}{g:Wd}(hb:GoodB bs)(h:g∈bc a bs):GoodW a bs.length g/\g.length=3:=by
 unfold bc at h;rw[LW]at h;obtain⟨u,hu,rfl⟩:=Iq.mp h;obtain⟨gu,u3⟩:=rT hu;unfold lf;have hm:nS ((ay.map (aL bs u)).map dc) < (ay.map (aL bs u)).length:=by
  unfold nS;refine Nx (fH _ _) ?_;rw[HF,HF]; decide
 have:=Ij (aw (d:=[]) hm);obtain⟨t,ht,e⟩:=Iq.mp this;rw[<- e];have tk:∀t∈ay,t.length=3/\t.Nodup/\∀p∈t,p < 3:=by decide
 obtain⟨t1,t2,t3⟩:=tk t ht;exact⟨uZ hb gu (λp hp=>by have:=t3 p hp; omega) t2,by rw[cL]; exact t1⟩
theorem u6 {a n:HJ}{u:Wd}(hu:GoodW a n u):GoodW a n u.dropLast:=by
 have key:∀(k:HJ) (x:Pt),(u.dropLast)[k]?=gV x->u[k]?=gV x:=λk x e=>by
  rw[Mx]at e;split at e
  ·exact e
  ·cases e
 exact⟨λk x e=>hu.mark k x (key k x e),λk x e=>hu.len k x (key k x e),λk x e=>hu.way k x (key k x e)⟩
theorem nb {t:HC HJ}:t∈ay↔Ord 3 t/\t.length=3:=by
 constructor
 ·intro h;have:∀t∈ay,t.Nodup/\(∀p∈t,p < 3)/\t.length=3:=by decide
  obtain⟨h1,h2,h3⟩:=this t h;exact⟨⟨h1,h2⟩,h3⟩
 ·intro h;have h1:=oy.mpr h;have:∀t∈ym 3,t∈ay:=by decide
  exact this t h1
noncomputable def jm:Ss:=
 (.cons (.ret (.ix (.ix (.ix (.v 0) (.c (.int 1))) (.v 1)) (.c (.int 1))))
 .nil)
noncomputable def fK:Ss:=
 (.cons (.set 4 (.own "barred_by" 4 (.cons (.v 0) (.cons (.v 1) (.cons (.v 2) (.cons (.v 3) .nil))))))
 (.cons (.set 5 (.comp (.v 1) (.nm 1) (.rng (.cons (.bi .len (.cons (.ix (.v 0) (.c (.int 1))) .nil)) .nil)) (.cons (.cmp .is (.ix (.v 2) (.v 1)) (.c .non)) .nil) [td,td,gV 4]))
 (.cons (.ite (.cmp .is (.ix (.v 4) (.neg (.c (.int 1)))) (.c .non)) (.cons (.ex (.me .append (.v 5) (.cons (.neg (.c (.int 1))) .nil)))
 .nil) .nil)
 (.cons (.ret (.v 5))
 .nil))))
noncomputable def eX:Ss:=
 (.cons (.ret (.own "all_bars" 5 (.cons (.v 0) (.cons (.own "barred_threes" 1 (.cons (.v 0) .nil)) (.cons (.v 1) (.cons (.v 2) (.cons (.v 3) .nil)))))))
 .nil)
noncomputable def fL:Ss:=
 (.cons (.set 5 (.comp (.own "first_bar" 2 (.cons (.v 2) (.cons (.own "with_both" 5 (.cons (.v 6) (.cons (.v 3) (.cons (.v 4) (.cons (.v 5) (.cons (.v 1) .nil)))))) .nil))) (.nm 1) (.rng (.cons (.bi .len (.cons (.ix (.v 0) (.c (.int 1))) .nil)) .nil)) .nil [td,td,gV 1,gV 2,gV 3,gV 4,gV 0]))
 (.cons (.ret (.bi .tuple (.cons (.op .add (.v 5) (.lst (.cons (.own "same_bar" 2 (.cons (.v 3) (.cons (.v 4) .nil))) .nil))) .nil)))
 .nil))
noncomputable def dQ:Ss:=
 (.cons (.ret (.op .add (.v 1) (.tup (.cons (.v 2) (.cons (.tup (.cons (.ix (.v 3) (.c (.int 0))) (.cons (.op .add (.ix (.v 3) (.c (.int 1))) (.tup (.cons (.own "back" 2 (.cons (.v 0) (.cons (.v 4) .nil))) .nil))) .nil))) .nil)))))
 .nil)
noncomputable def eL:Ss:=
 (.cons (.ite (.cmp .ne (.ix (.v 0) (.c (.int 0))) (.ix (.v 1) (.c (.int 0)))) (.cons (.ret (.neg (.c (.int 1))))
 .nil) .nil)
 (.cons (.set 2 (.comp (.v 1) (.nm 1) (.rng (.cons (.bi .len (.cons (.ix (.v 0) (.c (.int 1))) .nil)) .nil)) (.cons (.cmp .ne (.ix (.ix (.v 2) (.c (.int 1))) (.v 1)) (.ix (.ix (.v 3) (.c (.int 1))) (.v 1))) .nil) [td,td,gV 0,gV 1]))
 (.cons (.ret (.ite (.v 2) (.ix (.v 2) (.c (.int 0))) (.c .non)))
 .nil)))
noncomputable def b9 (P:HJ->Ir)(s:HJ):W:=match (Ic s).find? P with
 | some i=>.int (i:HY)
 | none=>.non
theorem rV {P:HJ->Ir}{s:HJ}(h:∀i < s,P i=false):b9 P s=.non:=by
 unfold b9;have:(Ic s).find? P=td:=KF.mpr λi hi=>by rw[h i (IN.mp hi)]; exact Ip
 rw[this]
theorem lr {P:HJ->Ir}:∀ {s i:HJ},i < s->P i=true->(∀j < i,P j=false)->(Ic s).find? P=gV i
 | s+1,i,hi,hp,hn=>by
  rw[Km,List.find?_append]
  by_cases e:i=s
  ·subst e;have:(Ic i).find? P=td:=KF.mpr λj hj=>by rw[hn j (IN.mp hj)]; exact Ip
   rw[this];simp[hp]
  ·rw[lr (by omega) hp hn]; rfl
theorem rW {P:HJ->Ir}{s i:HJ}(hi:i < s)(hp:P i=true)(hn:∀j < i,P j=false):b9 P s=.int (i:HY):=by
 unfold b9;rw[lr hi hp hn]
theorem rX {P:HJ->Ir}{s:HJ}:(((Ic s).filter P).map (λ(i:HJ)=>W.int (i:HY))++[.non])[0]?=gV (b9 P s):=by
 unfold b9;rw[<- List.head?_filter];cases(Ic s).filter P <;> rfl
theorem jN (P:HJ->Ir)(s:HJ):b9 P s=.non\/∃i:HY,b9 P s=.int i:=by
 unfold b9;cases(Ic s).find? P with
 | none=>exact .inl rfl
 | some i=>exact .inr ⟨_,rfl⟩
theorem qv {P P':HJ->Ir}{s:HJ}(h:∀i < s,P i=P' i):b9 P s=b9 P' s:=by
 unfold b9;have:(Ic s).find? P=(Ic s).find? P':=by
  have:∀L:HC HJ,(∀i∈L,P i=P' i)->L.find? P=L.find? P':=λL=>by
   induction L with
   | nil=>intro _; rfl
   | cons x L ih=>
    intro hx;rw[JZ,JZ,hx x (JI ..),ih λi hi=>hx i (Jg _ hi)]
  exact this _ λi hi=>h i (IN.mp hi)
 rw[this]
noncomputable def dm (bs:HC HY)(u:Wd)(one other:Pt)(n:HJ):Wd:=u++[one]++[(other.1,other.2++[bs.getD n 0])]
noncomputable def g5 (one other:Pt):W:=if one.1=other.1 then b9 (λp=>!(one.2.getD p 0==other.2.getD p 0)) one.2.length else .int (-1)
noncomputable def eM (P:Wd->HJ->Ir)(bs:HC HY)(u:Wd)(one other:Pt):HC W:=(Ic bs.length).map (λn=>b9 (P (dm bs u one other n)) u.length)++[g5 one other]
theorem rY (one other:Pt):g5 one other=.non\/∃i:HY,g5 one other=.int i:=by
 unfold g5;split
 ·exact jN _ _
 ·exact .inr ⟨_,rfl⟩
structure GoodP (a n k:HJ)(p:Pt):Prop where
 mark:0<=p.1/\p.1 < a
 len:p.2.length=k
 way:∀w∈p.2,0<=w/\w < (n:HY)
theorem u7 {bs:HC HY}{a:HJ}{u:Wd}{one other:Pt}{n:HJ}(hb:GoodB bs)(hu:GoodW a bs.length u)(h1:GoodP a bs.length u.length one)(h2:GoodP a bs.length u.length other)(hn:n < bs.length):GoodW a bs.length (dm bs u one other n)/\(dm bs u one other n).length=u.length+2:=by
 refine⟨(hu.snoc (m:=one.1) (ws:=one.2) h1.mark h1.len h1.way).snoc h2.mark ?_ λw hw=>?_,?_⟩
 ·rw[HM,HM,h2.len]; rfl
 ·rcases IP.mp hw with z|z
  ·exact h2.way w z
  ·rw[Im.mp z];obtain⟨b,hb1,hb2,hb3⟩:=hb.rng n hn;rw[getD_some hb1]; exact⟨hb2,hb3⟩
 ·unfold dm;rw[HM,HM]; rfl
section
variable{defs:HC (Ih×Df)}{fuel d:HJ}{S:aa}{Q:QW}
theorem qw (h3:Is defs ("three_at" : Ih) 4 6 dD)(hg:Is defs ("first_bar" : Ih) 2 4 dO){a n q s:HJ}{v:Wd}{kvs:HC (T×W)}(hv:GoodW a n v)(hs:v.length=s+2)(hl:v.length<=1000)(e:S[q]?=gV (.dic kvs))(k:Q (b9 (λp=>iN kvs v p s (s+1)) s,S)) :
  wO (be (ar defs fuel (d+2)) "first_bar" 2 [.ref q,aI v] S) Q:=by
 refine az hg rfl rfl λQ' hR=>?_
 replace k:=hR _ _ k;clear hR;show wZ _ _ dO [gV (.ref q),gV (aI v),td,td] S Q';have ul:(v.map bD).length=v.length:=HF ..;dsimp only[dO];refine st ?_;dsimp only[wS,wE,wA,wV,wG,HV];refine bC (ac mT ?_);rw[ul,show((v.length:HJ):HY) - 1=((s+1:HJ):HY) by omega]
 refine aR λK hK=>?_
 refine di (s:HY) (λi ρ S'=>(∃a3,ρ=[gV (.ref q),gV (aI v),gV (.int ((s+1:HJ):HY)),a3])/\S'=S/\∀i' < i,iN kvs v i' s (s+1)=false) rfl rfl (by omega) ?_ ?_ ?_
 ·dsimp only[wE,wV,wG];refine ac mT ⟨?_,⟨_,rfl⟩,rfl,λi' z=>by omega⟩
  dsimp only;rw[show((s+1:HJ):HY) - 1=(s:HY) by omega]
 ·rintro i ρ S1 hi ⟨⟨a3,rfl⟩,rfl,no⟩ Q2 hn hr;clear hK;dsimp only[HV];refine aR λK hK=>?_
  dsimp only[wS,wT,wE,wA,wV,wG];refine ac mT ?_;dsimp only;rw[show((s+1:HJ):HY) - 1=(s:HY) by omega]
  refine AV (d:=d) h3 hv (by omega) (KT s) (by omega) ?_
  refine ac (show cp .isin (aI (eI v i s (s+1))) (.ref q) S1=gV (.bl (iN kvs v i s (s+1)),S1) by simp only[cp,cJ e,ou]; rfl) ?_
  dsimp only[wB];refine aq (Q0:=Q2) (λh Q5 _ hr5=>?_) (λh Q5 hn5 _=>b7 (hn5 _ _ (hK _ _ (b7 (hn _ _ ⟨⟨_,rfl⟩,rfl,λi' z=>?_⟩)))))
  ·refine st ?_;dsimp only[wS,wE,wV,wG];rw[rW (P:=λp=>iN kvs v p s (s+1)) (by omega) h no]at k
   exact hr5 _ _ (hr _ _ k)
  ·by_cases ei:i'=i
   ·rw[ei]; exact h
   ·exact no i' (by omega)
 ·rintro ρ S1 ⟨⟨a3,rfl⟩,rfl,no⟩;refine hK _ _ (st ?_);dsimp only[wS,wE];rw[rV (P:=λp=>iN kvs v p s (s+1)) λi hi=>no i (by omega)]at k
  exact k
theorem DI (hg:Is defs ("back" : Ih) 2 2 jm){m0 b0:W}{ns:HC Ih}{bs:HC HY}{n:HJ}(hnl:ns.length=bs.length)(hn:n < bs.length)(k:Q (.int (bs.getD n 0),S)) :
  wO (be (ar defs fuel (d+1)) "back" 2 [.tup [m0,.tup (Ii bn ns bs),b0],.int n] S) Q:=by
 refine az hg rfl rfl λQ' hR=>?_
 replace k:=hR _ _ k;show wZ _ _ jm [gV (.tup [m0,.tup (Ii bn ns bs),b0]),gV (.int n)] S Q';have hb:=aw (d:=0) hn;dsimp only[jm];refine st ?_;dsimp only[wS,wE,wV,wG];exact aj (by decide) rfl (aj (HR n) (by rw[HU]; exact ie (HX (by omega)) hb) (aj (by decide) rfl k))
theorem qx (hbk:Is defs ("back" : Ih) 2 2 jm)(hg:Is defs ("with_both" : Ih) 5 5 dQ){m0 b0:W}{ns:HC Ih}{bs:HC HY}{u:Wd}{one other:Pt}{n:HJ}(hnl:ns.length=bs.length)(hn:n < bs.length)(hu:u.length<=900)(ho:other.2.length<=900)(k:Q (aI (dm bs u one other n),S)) :
  wO (be (ar defs fuel (d+2)) "with_both" 5 [.tup [m0,.tup (Ii bn ns bs),b0],aI u,bD one,bD other,.int n] S) Q:=by
 refine az hg rfl rfl λQ' hR=>?_
 replace k:=hR _ _ k;show wZ _ _ dQ [gV (.tup [m0,.tup (Ii bn ns bs),b0]),gV (aI u),gV (bD one),gV (bD other),gV (.int n)] S Q';dsimp only[dQ];refine st ?_;dsimp only[wS,wE,wA,wV,wG];refine aj (by decide) rfl (aj (by decide) rfl ?_)
 refine DI (d:=d) hbk hnl hn ?_;refine ac (dB (gp ?_)) ?_
 ·rw[HM,HF]; show _+1<=_; omega
 dsimp only;have ev:u.map bD++[bD one,.tup [.int other.1,.tup (other.2.map W.int++[.int (bs.getD n 0)])]]=(dm bs u one other n).map bD:=by
  unfold dm;simp[bD]
 unfold aI at k ⊢;refine ac (dB (gp ?_)) ?_
 ·rw[HM,HF]; show _+2<=_; omega
 dsimp only;rw[ev];exact k
theorem rZ (hg:Is defs ("same_bar" : Ih) 2 3 eL){one other:Pt}(h:other.2.length=one.2.length)(hl:one.2.length<=900)(k:∀S',Ka S S'->Q (g5 one other,S')) :
  wO (be (ar defs fuel (d+1)) "same_bar" 2 [bD one,bD other] S) Q:=by
 refine az hg rfl rfl λQ' hR=>?_
 replace k:∀S',Ka S S'->Q' (.rt (g5 one other),S'):=λS' a=>hR _ _ (k S' a)
 clear hR;show wZ _ _ eL [gV (bD one),gV (bD other),td] S Q';have wl:∀(p:Pt) (i:HJ),i < p.2.length->(p.2.map W.int)[((i:HJ):HY).toNat]?=gV (.int (p.2.getD i 0)):=λp i hi=>by
  rw[HU,HP,aw (d:=0) hi]; rfl
 dsimp only[eL];refine aR λK hK=>?_
 dsimp only[wS,wT,wE,wV,wG];refine aj (by decide) rfl (aj (by decide) rfl (ac Dq ?_))
 dsimp only[wB];unfold g5 at k;refine aq (Q0:=Q') (λhm Q2 _ hr=>?_) (λhm Q2 hn _=>b7 (hn _ _ (hK _ _ ?_)))
 ·have hm:one.1≠other.1:=λz=>by rw[z]at hm; simp at hm
  refine st ?_;dsimp only[wS,wE,wN];rw[IK hm]at k;exact hr _ _ (k S .refl)
 clear hK K hn;have hm:one.1=other.1:=by
  by_cases z:one.1=other.1
  ·exact z
  ·have:(!(one.1==other.1))=true:=by simp[z]
   rw[this]at hm; cases hm
 rw[Iv hm]at k;refine st ?_;dsimp only[wS,wE,HV];refine rS one.2.length (λp=>!(one.2.getD p 0==other.2.getD p 0)) (λ(i:HJ)=>W.int (i:HY)) [gV (bD one),gV (bD other)] rfl rfl rfl rfl (by omega) ?_ (λi hi S2 k2=>?_) λS2 k2=>?_
 ·dsimp only[wE,wA,wV,wG];refine aj (by decide) rfl (bC ?_)
  rw[HF];exact⟨rfl,.refl⟩
 ·dsimp only[je,wC,wT,wE,wV,wG];refine aj (by decide) rfl (aj (HR i) (wl one i hi) (aj (by decide) rfl (aj (HR i) (wl other i (by omega)) (ac Dq ?_))))
  dsimp only[wB];exact⟨λz=>⟨z,rfl,.refl⟩,λz=>⟨z,.refl⟩⟩
 ·have hh:=rX (P:=λp=>!(one.2.getD p 0==other.2.getD p 0)) (s:=one.2.length)
  refine st ?_;dsimp only[wS,wE,wT,wV,wG];cases hL:((Ic one.2.length).filter λp=>!(one.2.getD p 0==other.2.getD p 0))with
  | nil=>
   rw[hL]at hh;refine ac (show eA (S2++[O.lst []]) (.ref S2.length)=gV false by simp only[eA,aM ak]; rfl) ⟨λz=>(by cases z),λ_=>?_⟩
   have e:b9 (λp=>!(one.2.getD p 0==other.2.getD p 0)) one.2.length=.non:=(Jo hh).symm
   rw[e]at k;exact k _ (k2.trans .push)
  | cons x L=>
   rw[hL]at hh;refine ac (show eA (S2++[O.lst ((x::L).map λ(i:HJ)=>W.int (i:HY))]) (.ref S2.length)=gV true by simp only[eA,aM ak]; rfl) ⟨λ_=>?_,λz=>by cases z⟩
   have e:b9 (λp=>!(one.2.getD p 0==other.2.getD p 0)) one.2.length=.int (x:HY):=(Jo hh).symm
   rw[e]at k;exact eH (i:=0) ak rfl (k _ (k2.trans .push))
end
noncomputable def AX:W->Ir
 | .non=>true
 | _=>false
noncomputable def NI (w:W):Prop:=w=.non\/∃i:HY,w=.int i
noncomputable def qy (xs:HC W)(n:HJ):HC HY:=((Ic n).filter λi=>AX (xs.getD i (.int 0))).map (λ(i:HJ)=>(i:HY))++(if AX (xs.getLastD (.int 0))then[-1]else[])
noncomputable def PB (X:HC T)(s:HJ)(v:Wd)(p:HJ):Ir:=decide (dc (eI v p s (s+1))∈X)
theorem BS {S:aa}{w:W}(h:NI w):cp .is w .non S=gV (.bl (AX w),S):=by
 rcases h with rfl|⟨i,rfl⟩ <;> rfl
theorem AY {P:Wd->HJ->Ir}{bs:HC HY}{u:Wd}{one other:Pt}:∀w∈eM P bs u one other,NI w:=λw hw=>by
 unfold eM at hw;rcases IP.mp hw with z|z
 ·obtain⟨n,_,rfl⟩:=Iq.mp z;exact jN _ _
 ·rw[Im.mp z]; exact rY _ _
theorem u8 {P:Wd->HJ->Ir}{bs:HC HY}{u:Wd}{one other:Pt}:(eM P bs u one other).length=bs.length+1:=by
 unfold eM;rw[HM,HF,IU]; rfl
theorem qz {S:aa}{xs:HC W}(h:xs≠[]):j6 (.tup xs) (.int (-1)) S=gV (xs.getLastD (.int 0),S):=by
 have hp:0 < xs.length:=LI.mpr h;have hs:qT xs.length (-1)=gV (xs.length - 1):=by
  unfold qT;rw[IK (by decide)]
  exact(Iv (by omega)).trans (by congr 1; omega)
 have hg:xs[xs.length - 1]?=gV (xs.getLastD (.int 0)):=by
  rw[KW,L3];have:xs.length - 1 < xs.length:=by omega
  simp[this]
 simp only[j6,sx,o7,hs,hg,Og,IH]
theorem AZ {xs:HC W}(h:xs≠[])(hx:∀w∈xs,NI w):NI (xs.getLastD (.int 0)):=by
 rw[KW,List.getLast?_eq_some_getLast h];exact hx _ (List.getLast_mem h)
theorem A6 {xs:HC W}{i:HJ}(h:i < xs.length)(hx:∀w∈xs,NI w):xs[i]?=gV (xs.getD i (.int 0))/\NI (xs.getD i (.int 0)):=by
 have:=aw (d:=W.int 0) h;exact⟨this,hx _ (Ij this)⟩
section
variable{defs:HC (Ih×Df)}{fuel d:HJ}{S:aa}{Q:QW}
structure Fil (defs:HC (Ih×Df)):Prop where
 parts:Parts defs
 part:Is defs ("part" : Ih) 3 3 jk
 longer:Is defs ("longer_orders" : Ih) 2 4 bZ
 barred:Is defs ("barred_threes" : Ih) 1 5 cy
 three:Is defs ("three_at" : Ih) 4 6 dD
 fbar:Is defs ("first_bar" : Ih) 2 4 dO
 back:Is defs ("back" : Ih) 2 2 jm
 both:Is defs ("with_both" : Ih) 5 5 dQ
 same:Is defs ("same_bar" : Ih) 2 3 eL
 all:Is defs ("all_bars" : Ih) 5 6 fL
 by':Is defs ("barred_by" : Ih) 4 4 eX
 fill:Is defs ("fillings" : Ih) 4 6 fK
theorem r0 (F:Fil defs){m0 b0:W}{ns:HC Ih}{bs:HC HY}{a q:HJ}{u:Wd}{one other:Pt}{kvs:HC (T×W)}(hb:GoodB bs)(hnl:ns.length=bs.length)(hu:GoodW a bs.length u)(h1:GoodP a bs.length u.length one)(h2:GoodP a bs.length u.length other)(hul:u.length<=800)(e:S[q]?=gV (.dic kvs))
  (k:∀S',Ka S S'->Q (.tup (eM (λv p=>iN kvs v p u.length (u.length+1)) bs u one other),S')) :
  wO (be (ar defs fuel (d+3)) "all_bars" 5 [.tup [m0,.tup (Ii bn ns bs),b0],.ref q,aI u,bD one,bD other] S) Q:=by
 refine az F.all rfl rfl λQ' hR=>?_
 replace k:∀S',Ka S S'->Q' (.rt (.tup (eM (λv p=>iN kvs v p u.length (u.length+1)) bs u one other)),S'):=λS' a=>hR _ _ (k S' a)
 clear hR;show wZ _ _ fL [gV (.tup [m0,.tup (Ii bn ns bs),b0]),gV (.ref q),gV (aI u),gV (bD one),gV (bD other),td] S Q';generalize hR0:W.tup [m0,.tup (Ii bn ns bs),b0]=R;have hb3:bs.length<=3:=by rcases hb with rfl|rfl|rfl|rfl|rfl|rfl <;> decide
 dsimp only[fL];refine st ?_;dsimp only[wS,wE,HV];refine rS bs.length (λ_=>true) (λn=>b9 (λp=>iN kvs (dm bs u one other n) p u.length (u.length+1)) u.length) [gV (.ref q),gV (aI u),gV (bD one),gV (bD other),gV R] rfl rfl rfl rfl (by omega) ?_ (λn hn S2 k2=>?_) λS2 k2=>?_
 ·dsimp only[wE,wA,wV,wG];subst hR0;refine aj (by decide) rfl (bC ?_)
  rw[Ky,hnl,LK];exact⟨rfl,.refl⟩
 ·obtain⟨g1,g2⟩:=u7 hb hu h1 h2 hn;dsimp only[je,wC,wE,wA,wV,wG];subst hR0;refine⟨λ_=>?_,λz=>by cases z⟩
  refine qx (d:=d) F.back F.both hnl hn (by omega) (by rw[h2.len]; omega) ?_
  exact qw (d:=d) F.three F.fbar g1 g2 (by omega) (k2.get _ _ e) ⟨rfl,rfl,.refl⟩
 ·rw[yk];refine st ?_;dsimp only[wS,wE,wA,wV,wG];refine rZ (d:=d+1) F.same (by rw[h1.len,h2.len]) (by rw[h1.len]; omega) λS3 k3=>?_
  dsimp only;refine ac (ol (au (k3.get _ _ ak)) ak (gp ?_)) (fR ak (k _ (((k2.trans .push).trans k3).trans (Ka.push.trans .push))));rw[HM,HF,IU]; show _+1<=_; omega
theorem qA (hfu:20 < fuel)(F:Fil defs){m0:W}{ns:HC Ih}{bs:HC HY}{a:HJ}{gs:HC Wd}{u:Wd}{one other:Pt}(hb:GoodB bs)(hnl:ns.length=bs.length)(hgs:∀g∈gs,GoodW a bs.length g/\g.length=3)(h64:gs.length<=100)(hu:GoodW a bs.length u)(h1:GoodP a bs.length u.length one)(h2:GoodP a bs.length u.length other)(hul:u.length<=800)
  (k:∀S',Ka S S'->Q (.tup (eM (PB ((bX bs gs).map dc) u.length) bs u one other),S')) :
  wO (be (ar defs fuel (d+5)) "barred_by" 4 [.tup [m0,.tup (Ii bn ns bs),.tup (gs.map aI)],aI u,bD one,bD other] S) Q:=by
 refine az F.by' rfl rfl λQ' hR=>?_
 show wZ _ _ eX [gV (.tup [m0,.tup (Ii bn ns bs),.tup (gs.map aI)]),gV (aI u),gV (bD one),gV (bD other)] S Q';dsimp only[eX];refine st ?_;dsimp only[wS,wE,wA,wV,wG];refine yh (d:=d) hfu F.parts F.part F.longer F.barred hb hnl hgs h64 λq kvs S1 e1 hk _ k1=>?_
 have ep:(λ(v:Wd) p=>iN kvs v p u.length (u.length+1))=PB ((bX bs gs).map dc) u.length:=funext λv=>funext λp=>hk.get _
 refine r0 (d:=d+1) F hb hnl hu h1 h2 hul e1 λS2 k2=>hR _ _ ?_
 rw[ep];exact k S2 (k1.trans k2)
theorem r4 (hfu:20 < fuel)(F:Fil defs){m0:W}{ns:HC Ih}{bs:HC HY}{a:HJ}{gs:HC Wd}{u:Wd}{one other:Pt}(hb:GoodB bs)(hnl:ns.length=bs.length)(hgs:∀g∈gs,GoodW a bs.length g/\g.length=3)(h64:gs.length<=100)(hu:GoodW a bs.length u)(h1:GoodP a bs.length u.length one)(h2:GoodP a bs.length u.length other)(hul:u.length<=800)
  (k:∀(l:HJ) S',S'[l]?=gV (.lst (ab (qy (eM (PB ((bX bs gs).map dc) u.length) bs u one other) bs.length)))->S.length<=l->Ka S S'->Q (.ref l,S')) :
  wO (be (ar defs fuel (d+6)) "fillings" 4 [.tup [m0,.tup (Ii bn ns bs),.tup (gs.map aI)],aI u,bD one,bD other] S) Q:=by
 refine az F.fill rfl rfl λQ' hR=>?_
 replace k:∀(l:HJ) S',S'[l]?=gV (.lst (ab (qy (eM (PB ((bX bs gs).map dc) u.length) bs u one other) bs.length)))->S.length<=l->Ka S S'->Q' (.rt (.ref l),S'):=λl S' a b c=>hR _ _ (k l S' a b c)
 clear hR;show wZ _ _ fK [gV (.tup [m0,.tup (Ii bn ns bs),.tup (gs.map aI)]),gV (aI u),gV (bD one),gV (bD other),td,td] S Q';have hb3:bs.length<=3:=by rcases hb with rfl|rfl|rfl|rfl|rfl|rfl <;> decide
 dsimp only[fK];refine st ?_;dsimp only[wS,wE,wA,wV,wG,HV];refine qA (d:=d) hfu F hb hnl hgs h64 hu h1 h2 hul λS1 k1=>?_
 have ni:=AY (P:=PB ((bX bs gs).map dc) u.length) (bs:=bs) (u:=u) (one:=one) (other:=other);have bl:=u8 (P:=PB ((bX bs gs).map dc) u.length) (bs:=bs) (u:=u) (one:=one) (other:=other);generalize eM (PB ((bX bs gs).map dc) u.length) bs u one other=X at ni bl k;have xne:X≠[]:=λz=>by rw[z]at bl; cases bl
 refine st ?_;dsimp only[wS,wE,HV];refine rS bs.length (λi=>AX (X.getD i (.int 0))) (λ(i:HJ)=>W.int (i:HY)) [gV (.tup X)] rfl rfl rfl rfl (by omega) ?_ (λi hi S2 k2=>?_) λS2 k2=>?_
 ·dsimp only[wE,wA,wV,wG];refine aj (by decide) rfl (bC ?_)
  rw[Ky,hnl,LK];exact⟨rfl,.refl⟩
 ·obtain⟨g1,g2⟩:=A6 (i:=i) (by omega) ni
  dsimp only[je,wC,wT,wE,wV,wG];refine aj (HR i) (by rw[HU]; exact g1) (ac (BS g2) ?_)
  dsimp only[wB];exact⟨λz=>⟨z,rfl,.refl⟩,λz=>⟨z,.refl⟩⟩
 ·have em:((Ic bs.length).filter λi=>AX (X.getD i (.int 0))).map (λ(i:HJ)=>W.int (i:HY))=ab (((Ic bs.length).filter λi=>AX (X.getD i (.int 0))).map λ(i:HJ)=>(i:HY)):=by unfold ab; rw[J5]; rfl
  rw[em];have hl:(ab (((Ic bs.length).filter λi=>AX (X.getD i (.int 0))).map λ(i:HJ)=>(i:HY))).length<=3:=by
   unfold ab;rw[HF,HF];exact IT (Kg _ _) (by rw[IU]; exact hb3)
  have kl:S.length<=S2.length:=(k1.trans k2).len;unfold qy at k;refine aR λK hK=>?_
  dsimp only[wS,wT,wE,wV,wG,wN];refine ac (qz xne) (ac (BS (AZ xne ni)) ?_);dsimp only[wB];refine aq (Q0:=Q') (λz Q2 hn _=>?_) (λz Q2 hn _=>b7 (hn _ _ (hK _ _ (st ?_))))
  ·rw[Iv z]at k;refine st ?_;dsimp only[wS,wE,wA,wV,wG,wN];refine⟨dZ ak,DC ak (by omega) (b7 (hn _ _ (hK _ _ (st ?_))))⟩
   dsimp only[wS,wE,wV,wG];refine k _ _ ?_ kl (((k1.trans k2).trans .push).late kl);rw[cw ak];unfold ab;rw[Iw]; rfl
  ·rw[IK (by rw[z]; exact Ip),Jy]at k
   dsimp only[wS,wE,wV,wG];exact k _ _ ak kl ((k1.trans k2).trans .push)
end
noncomputable def cX:Ss:=
 (.cons (.set 1 (.own "_law_pick" 2 (.cons (.v 0) (.cons (.c (.int 8)) .nil))))
 (.cons (.ite (.cmp .lt (.v 1) (.c (.int 4))) (.cons (.ret (.own "_law_any_rule" 1 (.cons (.v 0) .nil)))
 .nil) .nil)
 (.cons (.ite (.cmp .lt (.v 1) (.c (.int 7))) (.cons (.ret (.own "_law_laying_rule" 1 (.cons (.v 0) .nil)))
 .nil) .nil)
 (.cons (.ret (.own "_law_unlaying_rule" 1 (.cons (.v 0) .nil)))
 .nil))))
noncomputable def cY:Ss:=
 (.cons (.set 4 (.own "_law_pick" 2 (.cons (.v 0) (.cons (.bi .len (.cons (.ix (.v 1) (.c (.int 0))) .nil)) .nil))))
 (.cons (.loop (.nm 5) (.rng (.cons (.bi .len (.cons (.ix (.v 1) (.c (.int 0))) .nil)) .nil)) (.cons (.set 6 (.op .mod (.op .add (.v 4) (.v 5)) (.bi .len (.cons (.ix (.v 1) (.c (.int 0))) .nil))))
 (.cons (.set 7 (.own "_law_new_ways" 6 (.cons (.v 0) (.cons (.v 1) (.cons (.v 2) (.cons (.v 3) (.cons (.v 6) (.cons (.tup .nil) .nil))))))))
 (.cons (.ite (.cmp .isnot (.v 7) (.c .non)) (.cons (.ret (.tup (.cons (.v 6) (.cons (.v 7) .nil))))
 .nil) .nil)
 .nil))))
 (.cons (.ret (.c .non))
 .nil)))
noncomputable def fM:Ss:=
 (.cons (.asg [5,6] (.v 4))
 (.cons (.set 7 (.own "_law_pick" 2 (.cons (.v 0) (.cons (.c (.int 4)) .nil))))
 (.cons (.ite (.cmp .eq (.v 7) (.c (.int 1))) (.cons (.set 5 (.own "_law_pick" 2 (.cons (.v 0) (.cons (.bi .len (.cons (.ix (.v 1) (.c (.int 0))) .nil)) .nil))))
 .nil) (.cons (.ite (.and (.cmp .gt (.v 7) (.c (.int 1))) (.cmp .ne (.v 6) (.tup .nil))) (.cons (.set 8 (.own "_law_pick" 2 (.cons (.v 0) (.cons (.bi .len (.cons (.v 6) .nil)) .nil))))
 (.cons (.set 6 (.op .add (.op .add (.sl (.v 6) .no (.yes (.v 8))) (.tup (.cons (.own "_law_pick" 2 (.cons (.v 0) (.cons (.bi .len (.cons (.ix (.v 1) (.c (.int 1))) .nil)) .nil))) .nil))) (.sl (.v 6) (.yes (.op .add (.v 8) (.c (.int 1)))) .no)))
 .nil)) .nil)
 .nil))
 (.cons (.ite (.own "_law_last_may" 4 (.cons (.v 1) (.cons (.v 2) (.cons (.op .add (.v 3) (.tup (.cons (.tup (.cons (.v 5) (.cons (.v 6) .nil))) .nil))) (.cons (.bi .len (.cons (.v 3) .nil)) .nil))))) (.cons (.ret (.tup (.cons (.v 5) (.cons (.v 6) .nil))))
 .nil) .nil)
 (.cons (.ret (.v 4))
 .nil)))))
noncomputable def fN:Ss:=
 (.cons (.set 4 (.own "_law_world" 4 (.cons (.v 0) (.cons (.v 1) (.cons (.v 2) (.cons (.v 3) .nil))))))
 (.cons (.set 5 (.own "_law_new_point" 4 (.cons (.v 0) (.cons (.v 1) (.cons (.v 2) (.cons (.v 4) .nil))))))
 (.cons (.ite (.cmp .is (.v 5) (.c .non)) (.cons (.set 5 (.ix (.v 4) (.neg (.c (.int 1)))))
 (.cons (.set 4 (.sl (.v 4) .no (.yes (.neg (.c (.int 1))))))
 .nil)) .nil)
 (.cons (.set 6 (.c .non))
 (.cons (.ite (.cmp .eq (.own "_law_pick" 2 (.cons (.v 0) (.cons (.c (.int 2)) .nil))) (.c (.int 0))) (.cons (.set 6 (.own "_law_new_point" 4 (.cons (.v 0) (.cons (.v 1) (.cons (.v 2) (.cons (.v 4) .nil))))))
 .nil) .nil)
 (.cons (.ite (.cmp .is (.v 6) (.c .non)) (.cons (.set 6 (.own "_law_near" 5 (.cons (.v 0) (.cons (.v 1) (.cons (.v 2) (.cons (.v 4) (.cons (.v 5) .nil)))))))
 .nil) .nil)
 (.cons (.ret (.tup (.cons (.v 4) (.cons (.v 5) (.cons (.v 6) .nil)))))
 .nil)))))))
theorem FM {S:aa}{xs:HC HY}:cp .ne (.tup (ab xs)) (.tup []) S=gV (.bl (!decide (xs=[])),S):=by
 cases xs <;> rfl
theorem Std.last {kvs:HC (T×W)}{u:Wd}(h:Std kvs u):Std kvs u.dropLast/\dP kvs u.dropLast u.dropLast.length (u.getD (u.length - 1) (0,[]))=true:=by
 have e:∀p,p < u.length - 1->u.dropLast.getD p (0,[])=u.getD p (0,[]):=λp hp=>by
  rw[Iu,Iu,Mx,Iv hp]
 refine⟨λk hk j hj i hi=>?_,eW.mpr λj hj i hi=>?_⟩
 ·rw[Ks]at hk;have:=h k (by omega) j hj i hi
  unfold iN eI at this ⊢;rw[e i (by omega),e j (by omega),e k hk]
  exact this
 ·rw[Ks]at hj;have:=h (u.length - 1) (by omega) j hj i hi
  unfold iN eI at this;unfold iO;rw[e i (by omega),e j (by omega)]
  exact this
section
variable{defs:HC (Ih×Df)}{fuel d:HJ}{S:aa}{r:HJ}{Q:QW}
structure Pai (defs:HC (Ih×Df)):Prop where
 un:Is defs ("_law_unlaying_rule" : Ih) 1 10 bG
 some':Is defs ("_law_some_rule" : Ih) 1 2 cX
 ways:Is defs ("_law_new_ways" : Ih) 6 11 bm
 world:Is defs ("_law_world" : Ih) 4 8 dN
 lmay:Is defs ("_law_last_may" : Ih) 4 8 cr
 point:Is defs ("_law_new_point" : Ih) 4 8 cY
 near:Is defs ("_law_near" : Ih) 5 9 fM
 pair:Is defs ("_law_pair" : Ih) 4 7 fN
theorem qB (hfu:20 < fuel)(G:Gen defs)(P:Pai defs)(hf:Fl S r)(k:∀w S',dC w->Fl S' r->Kp r S S'->Q (w,S')):wO (be (ar defs fuel (d+8)) "_law_some_rule" 1 [.ref r] S) Q:=by
 refine az P.some' rfl rfl λQ' hR=>?_
 replace k:∀w S',dC w->Fl S' r->Kp r S S'->Q' (.rt w,S'):=λz S' a b c=>hR _ _ (k z S' a b c)
 clear hR;show wZ _ _ cX [gV (.ref r),td] S Q';dsimp only[cX];refine aR λK hK=>?_
 dsimp only[wS,wE,wA,wV,wG,HV];refine bo (d:=d+6) G.pick hf (by decide) (by decide) λv S1 v0 v7 f1 k1=>hK _ _ ?_
 clear hK K;refine aR λK hK=>?_
 dsimp only[wS,wT,wE,wV,wG,xt,aN,wB];refine aq (Q0:=Q') (λ_ Q2 _ hr=>?_) (λ_ Q2 hn _=>b7 (hn _ _ (hK _ _ ?_)))
 ·refine st ?_;dsimp only[wS,wE,wA,wV,wG];exact rO (d:=d+1) hfu G f1 λw S2 a b c=>hr _ _ (k w S2 a b (k1.trans c))
 clear hK K hn;refine aR λK hK=>?_
 dsimp only[wS,wT,wE,wV,wG,xt,aN,wB];refine aq (Q0:=Q') (λ_ Q2 _ hr=>?_) (λ_ Q2 hn _=>b7 (hn _ _ (hK _ _ ?_)))
 ·refine st ?_;dsimp only[wS,wE,wA,wV,wG];exact yc (d:=d) hfu G f1 λw S2 a b c=>hr _ _ (k w S2 a b (k1.trans c))
 refine st ?_;dsimp only[wS,wE,wA,wV,wG];exact rR (d:=d+1) hfu G P.un f1 λw S2 a b c=>k w S2 a b (k1.trans c)
theorem r6 (G:Gen defs)(hg:Is defs ("_law_new_ways" : Ih) 6 11 bm){m0 b0:W}{N:HC W}{a n q:HJ}{u:Wd}{mk:HY}{kvs:HC (T×W)}(hN:N.length=n)(hn3:n<=3)(hu:GoodW a n u)(hl:u.length<=900)(e:S[q]?=gV (.dic kvs))(hqr:q≠r)(hf:Fl S r)
  (k:∀w S',((w=.non/\u≠[])\/∃to:HC HY,w=.tup (ab to)/\to.length=u.length/\(∀x∈to,0<=x/\x < (n:HY))/\∀j < u.length,∀i < j,bp kvs u mk i j (to.getD i 0) (to.getD j 0)=false)->Fl S' r->Kp r S S'->Q (w,S')) :
  wO (be (ar defs fuel (d+2)) "_law_new_ways" 6 [.ref r,.tup [m0,.tup N,b0],.ref q,aI u,.int mk,.tup []] S) Q:=by
 by_cases z:u=[]
 ·subst z;refine az hg rfl rfl λQ' hR=>?_
  show wZ _ _ bm [gV (.ref r),gV (.tup [m0,.tup N,b0]),gV (.ref q),gV (aI []),gV (.int mk),gV (.tup (ab [])),td,td,td,td,td] S Q';dsimp only[bm];refine aR λK hK=>?_
  refine iL 0 0 (λm ρ S'=>ρ=[gV (.ref r),gV (.tup [m0,.tup N,b0]),gV (.ref q),gV (aI []),gV (.int mk),gV (.tup (ab [])),td,td,td,td,td]/\S'=S) rfl rfl rfl (by decide) ?_ (λm ρ S1 hm=>by omega) ?_
  ·dsimp only[wE,wA,wV,wG];exact bC ⟨rfl,bC ⟨rfl,rfl,rfl⟩⟩
  ·rintro ρ S1 ⟨rfl,rfl⟩;refine hK _ _ (st ?_);dsimp only[wS,wE,wV,wG];exact hR _ _ (k _ _ (.inr ⟨[],rfl,rfl,(λx hx=>nomatch hx),λj hj=>by cases hj⟩) hf .refl)
 ·refine lp G hg hN hn3 hu hl e hqr hf λw S' hw f' k'=>k w S' ?_ f' k'
  rcases hw with h|h
  ·exact .inl ⟨h,z⟩
  ·exact .inr h
theorem jO (G:Gen defs)(P:Pai defs){M N:HC W}{b0:W}{a n q:HJ}{u:Wd}{kvs:HC (T×W)}(hM:M.length=a)(ha1:0 < a)(ha3:a<=3)(hN:N.length=n)(hn3:n<=3)(hu:GoodW a n u)(hl:u.length<=900)(e:S[q]?=gV (.dic kvs))(hqr:q≠r)(hf:Fl S r)
  (k:∀w S',((w=.non/\u≠[])\/∃p,w=bD p/\GoodP a n u.length p/\dP kvs u u.length p=true)->Fl S' r->Kp r S S'->Q (w,S')) :
  wO (be (ar defs fuel (d+3)) "_law_new_point" 4 [.ref r,.tup [.tup M,.tup N,b0],.ref q,aI u] S) Q:=by
 refine az P.point rfl rfl λQ' hR=>?_
 replace k:∀w S',((w=.non/\u≠[])\/∃p,w=bD p/\GoodP a n u.length p/\dP kvs u u.length p=true)->Fl S' r->Kp r S S'->Q' (.rt w,S'):=λw S' h1 h2 h3=>hR _ _ (k w S' h1 h2 h3)
 clear hR;show wZ _ _ cY [gV (.ref r),gV (.tup [.tup M,.tup N,b0]),gV (.ref q),gV (aI u),td,td,td,td] S Q';generalize hR0:W.tup [.tup M,.tup N,b0]=R;dsimp only[cY];refine aR λK hK=>?_
 dsimp only[wS,wE,wA,wV,wG,HV];have lm:∀(S:aa) (Q:QW),Q (.int (a:HY),S)->wO (j6 R (.int 0) S) λp=>wO (Bi.len.fn [p.1] p.2) Q:=λS Q q=>by
  subst hR0;refine aj (by decide) rfl (bC ?_)
  rw[hM]; exact q
 refine lm _ _ ?_;refine bo (d:=d+1) G.pick hf (by omega) (by omega) λv S1 v0 v1 f1 k1=>hK _ _ ?_
 clear hK K;refine aR λK hK=>?_
 refine di (a:HY) (λi ρ S'=>(∃a5 a6 a7,ρ=[gV (.ref r),gV R,gV (.ref q),gV (aI u),gV (.int v),a5,a6,a7])/\(u=[]->i=0)/\Fl S' r/\Kp r S S') rfl rfl (by omega) ?_ ?_ ?_
 ·dsimp only[wE,wA,wV,wG];exact lm _ _ ⟨rfl,⟨_,_,_,rfl⟩,λ_=>rfl,f1,k1⟩
 ·rintro i ρ S2 hi ⟨⟨a5,a6,a7,rfl⟩,_,f2,k2⟩ Q2 hn2 hr2;clear hK;dsimp only[HV];refine st ?_;dsimp only[wS,wE,wA,wV,wG,HV];refine ac d3 (lm _ _ (ac (kW (by omega)) ?_))
  have m0:0<=(v+(i:HY)) % (a:HY):=Kl _ (by omega)
  have m1:(v+(i:HY)) % (a:HY) < a:=JS _ (by omega)
  generalize(v+(i:HY)) % (a:HY)=m at m0 m1;refine st ?_;dsimp only[wS,wE,wA,wV,wG,HV];subst hR0;refine r6 (d:=d) G P.ways hN hn3 hu hl (k2.get _ _ hqr e) hqr f2 λw S3 hw f3 k3=>?_
  refine aR λK hK=>?_
  dsimp only[wS,wT,wE,wA,wV,wG];rcases hw with⟨rfl,hne⟩|⟨to,rfl,htl,hto,hbp⟩
  ·refine ac (show cp .isnot .non .non S3=gV (.bl false,S3)from rfl) ?_
   dsimp only[wB];exact aq (Q0:=Q2) (λz=>by cases z) (λ_ Q5 hn5 _=>b7 (hn5 _ _ (hK _ _ (b7 (hn2 _ _ ⟨⟨_,_,_,rfl⟩,λz=>absurd z hne,f3,k2.trans k3⟩)))))
  ·refine ac (show cp .isnot (.tup (ab to)) .non S3=gV (.bl true,S3)from rfl) ?_
   dsimp only[wB];refine aq (Q0:=Q2) (λ_ Q5 _ hr5=>?_) (λz=>by cases z)
   refine st ?_;dsimp only[wS,wE,wA,wV,wG];exact hr5 _ _ (hr2 _ _ (k _ _ (.inr ⟨(m,to),rfl,⟨⟨m0,m1⟩,htl,hto⟩,eW.mpr hbp⟩) f3 (k2.trans k3)))
 ·rintro ρ S2 ⟨⟨a5,a6,a7,rfl⟩,hz,f2,k2⟩;rw[HU]at hz;refine hK _ _ (st ?_);dsimp only[wS,wE];exact k _ _ (.inl ⟨rfl,λz=>by have:=hz z; omega⟩) f2 k2
theorem DJ (G:Gen defs)(P:Pai defs){M N:HC W}{b0:W}{a n q:HJ}{u:Wd}{p:Pt}{kvs:HC (T×W)}(hM:M.length=a)(ha1:0 < a)(ha3:a<=3)(hN:N.length=n)(hn1:0 < n)(hn3:n<=3)(hu:GoodW a n u)(hp:GoodP a n u.length p)(hpm:dP kvs u u.length p=true)(hl:u.length<=900)(e:S[q]?=gV (.dic kvs))(hqr:q≠r)(hf:Fl S r)
  (k:∀p' S',GoodP a n u.length p'->dP kvs u u.length p'=true->Fl S' r->Kp r S S'->Q (bD p',S')) :
  wO (be (ar defs fuel (d+2)) "_law_near" 5 [.ref r,.tup [.tup M,.tup N,b0],.ref q,aI u,bD p] S) Q:=by
 refine az P.near rfl rfl λQ' hR=>?_
 replace k:∀p' S',GoodP a n u.length p'->dP kvs u u.length p'=true->Fl S' r->Kp r S S'->Q' (.rt (bD p'),S'):=λw S' h1 h2 h3 h4=>hR _ _ (k w S' h1 h2 h3 h4)
 clear hR;show wZ _ _ fM [gV (.ref r),gV (.tup [.tup M,.tup N,b0]),gV (.ref q),gV (aI u),gV (bD p),td,td,td,td] S Q';generalize hR0:W.tup [.tup M,.tup N,b0]=R;have lm:∀(S:aa) (Q:QW),Q (.int (a:HY),S)->wO (j6 R (.int 0) S) λp=>wO (Bi.len.fn [p.1] p.2) Q:=λS Q q=>by
  subst hR0;refine aj (by decide) rfl (bC ?_)
  rw[hM]; exact q
 have lw:∀(S:aa) (Q:QW),Q (.int (n:HY),S)->wO (j6 R (.int 1) S) λp=>wO (Bi.len.fn [p.1] p.2) Q:=λS Q q=>by
  subst hR0;refine aj (by decide) rfl (bC ?_)
  rw[hN]; exact q
 have ul:(u.map bD).length=u.length:=HF ..;dsimp only[fM];refine st ?_;dsimp only[wS,wE,wV,wG,wU,bD];refine ac (show dz [5,6] [.int p.1,.tup (p.2.map W.int)] [gV (.ref r),gV R,gV (.ref q),gV (aI u),gV (.tup [.int p.1,.tup (p.2.map W.int)]),td,td,td,td]=gV [gV (.ref r),gV R,gV (.ref q),gV (aI u),gV (bD p),gV (.int p.1),gV (.tup (ab p.2)),td,td]from rfl) ?_
 refine aR λK hK=>?_
 dsimp only[wS,wE,wA,wV,wG,HV];refine bo (d:=d) G.pick hf (by decide) (by decide) λv S1 _ _ f1 k1=>hK _ _ ?_
 clear hK K;refine aR λK hK=>?_
 have tl:∀(m:HY) (to:HC HY) (a8:HI W) (S2:aa),GoodP a n u.length (m,to)->Fl S2 r->Kp r S S2->K [gV (.ref r),gV R,gV (.ref q),gV (aI u),gV (bD p),gV (.int m),gV (.tup (ab to)),gV (.int v),a8] S2:=by
  intro m to a8 S2 hg f2 k2;refine hK _ _ ?_;clear hK K;refine aR λK hK=>?_
  dsimp only[wS,wT,wE,wA,wV,wG,aI];have ev:u.map bD++[.tup [.int m,.tup (ab to)]]=(u++[(m,to)]).map bD:=by rw[Iw]; rfl
  refine ac (dB (gp (by rw[ev,HF,HM,Jj]; omega))) (bC ?_)
  dsimp only;rw[ev,ul];have lmay:=λ(Q:QW)=>lq (fuel:=fuel) (d:=d) (Q:=Q) (R:=R) (h:=(m,to)) P.lmay hu hg.len (by omega) (k2.get _ _ hqr e)
  unfold aI at lmay;refine lmay _ ?_;refine ac (show eA S2 (.bl (dP kvs u u.length (m,to)))=gV (dP kvs u u.length (m,to))from rfl) ?_
  refine aq (Q0:=Q') (λhmt Q2 _ hr=>?_) (λ_ Q2 hn _=>b7 (hn _ _ (hK _ _ (st ?_))))
  ·refine st ?_;dsimp only[wS,wE,wA,wV,wG];exact hr _ _ (k (m,to) S2 hg hmt f2 k2)
  ·dsimp only[wS,wE,wV,wG];exact k p S2 hp hpm f2 k2
 dsimp only[wS,wT,wE,wV,wG,gL,aN,wB];refine aq (Q0:=Q') (λ_ Q2 hn _=>?_) (λ_ Q2 hn _=>?_)
 ·refine st ?_;dsimp only[wS,wE,wA,wV,wG,HV];refine lm _ _ (bo (d:=d) G.pick f1 (by omega) (by omega) λm S2 m0 m1 f2 k2=>b7 (hn _ _ (tl m p.2 td S2 ⟨⟨m0,m1⟩,hp.len,hp.way⟩ f2 (k1.trans k2))))
 ·refine aR λK2 hK2=>?_
  dsimp only[wS,wT,wE,wA,wV,wG];have stay:K2 [gV (.ref r),gV R,gV (.ref q),gV (aI u),gV (bD p),gV (.int p.1),gV (.tup (ab p.2)),gV (.int v),td] S1:=hK2 _ _ (b7 (hn _ _ (tl p.1 p.2 td S1 hp f1 k1)));refine ac Dr ?_;dsimp only[wB];refine⟨λ_=>ac FM ?_,λ_=>aq (Q0:=Q2) (λz=>by cases z) λ_ Q3 hn3 _=>b7 (hn3 _ _ stay)⟩
  dsimp only[wB];refine aq (Q0:=Q2) (λhne Q3 hn3 _=>?_) (λ_ Q3 hn3 _=>b7 (hn3 _ _ stay))
  have hne:p.2≠[]:=by simpa using hne
  have hpl:0 < p.2.length:=LI.mpr hne;have il:(ab p.2).length=p.2.length:=HF ..;have hpe:=hp.len;refine st ?_;dsimp only[wS,wE,wA,wV,wG,HV];refine bC ?_;rw[il];refine bo (d:=d) G.pick f1 (by omega) (by omega) λv2 S2 v0 v1 f2 k2=>?_
  obtain⟨at',rfl⟩ : ∃k:HJ,v2=k:=⟨v2.toNat,by omega⟩
  refine st ?_;dsimp only[wS,wE,wA,wP,wV,wG,wN,HV];refine ac (show mE (.tup (ab p.2)) td (gV ((at':HJ):HY)) S2=gV (.tup ((ab p.2).take at'),S2) by simp only[mE,gk]) ?_
  dsimp only;refine lw _ _ (bo (d:=d) G.pick f2 (by omega) (by omega) λw S3 w0 w1 f3 k3=>?_)
  refine ac (dB (gp (by rw[HM,IL,il]; show _+1<=_; omega))) ?_
  dsimp only;refine ac d3 ?_;dsimp only;refine ac (show mE (.tup (ab p.2)) (gV ((at':HY)+1)) td S3=gV (.tup ((ab p.2).drop (at'+1)),S3) by rw[show(at':HY)+1=((at'+1:HJ):HY) by omega]; simp only[mE,xx]) ?_
  dsimp only;refine ac (dB (gp (by rw[HM,HM,IL,KA,il]; show _+1+_<=_; omega))) ?_
  have es:(ab p.2).take at'++[.int w]++(ab p.2).drop (at'+1)=ab (p.2.set at' w):=by
   unfold ab;rw[Pg,List.set_eq_take_append_cons_drop,Iv (by rw[HF]; omega)]
   simp
  dsimp only;rw[es];refine b7 (hn3 _ _ (hK2 _ _ (b7 (hn _ _ (tl p.1 (p.2.set at' w) _ S3 ⟨hp.mark,?_,λx hx=>?_⟩ f3 ((k1.trans k2).trans k3))))))
  ·show(p.2.set at' w).length=_;rw[Om]; exact hpe
  ·rcases List.mem_or_eq_of_mem_set hx with z|z
   ·exact hp.way x z
   ·rw[z]; exact⟨w0,w1⟩
theorem DK (G:Gen defs)(P:Pai defs){M N:HC W}{b0:W}{a n q many:HJ}{kvs:HC (T×W)}(hM:M.length=a)(ha1:0 < a)(ha3:a<=3)(hN:N.length=n)(hn1:0 < n)(hn3:n<=3)(hm:many<=800)(e:S[q]?=gV (.dic kvs))(hqr:q≠r)(hf:Fl S r)
  (k:∀(u:Wd) (one other:Pt) S',u.length<=many->GoodW a n u->Std kvs u->GoodP a n u.length one->dP kvs u u.length one=true->GoodP a n u.length other->dP kvs u u.length other=true->Fl S' r->Kp r S S'->Q (.tup [aI u,bD one,bD other],S')) :
  wO (be (ar defs fuel (d+4)) "_law_pair" 4 [.ref r,.tup [.tup M,.tup N,b0],.ref q,.int many] S) Q:=by
 refine az P.pair rfl rfl λQ' hR=>?_
 replace k:∀(u:Wd) (one other:Pt) S',u.length<=many->GoodW a n u->Std kvs u->GoodP a n u.length one->dP kvs u u.length one=true->GoodP a n u.length other->dP kvs u u.length other=true->Fl S' r->Kp r S S'->Q' (.rt (.tup [aI u,bD one,bD other]),S'):=λu x y S' h1 h2 h3 h4 h5 h6 h7 h8 h9=>hR _ _ (k u x y S' h1 h2 h3 h4 h5 h6 h7 h8 h9)
 clear hR;show wZ _ _ fN [gV (.ref r),gV (.tup [.tup M,.tup N,b0]),gV (.ref q),gV (.int many),td,td,td] S Q';generalize hR0:W.tup [.tup M,.tup N,b0]=R;dsimp only[fN];refine aR λK hK=>?_
 dsimp only[wS,wE,wA,wV,wG,HV];subst hR0;refine AW (d:=d) G P.ways P.world hM ha1 ha3 hN hn3 (by omega) e hqr hf λu S1 hul hu hst f1 k1=>hK _ _ ?_
 clear hK K;refine aR λK hK=>?_
 dsimp only[wS,wE,wA,wV,wG,HV];refine jO (d:=d) G P hM ha1 ha3 hN hn3 hu (by omega) (k1.get _ _ hqr e) hqr f1 λw S2 hw f2 k2=>hK _ _ ?_
 clear hK K;have k12:=k1.trans k2;clear f1 k1 k2;refine aR λK hK=>?_
 have tl:∀(u:Wd) (one:Pt),u.length<=many->GoodW a n u->Std kvs u->GoodP a n u.length one->dP kvs u u.length one=true->K [gV (.ref r),gV (.tup [.tup M,.tup N,b0]),gV (.ref q),gV (.int many),gV (aI u),gV (bD one),td] S2:=by
  intro u one hul hu hst h1 h1m;refine hK _ _ ?_;clear hK K;refine st ?_;dsimp only[wS,wE,HV];refine aR λK hK=>?_
  have tl2:∀(w:W) (S3:aa),(w=.non\/∃p,w=bD p/\GoodP a n u.length p/\dP kvs u u.length p=true)->Fl S3 r->Kp r S S3->K [gV (.ref r),gV (.tup [.tup M,.tup N,b0]),gV (.ref q),gV (.int many),gV (aI u),gV (bD one),gV w] S3:=by
   intro w S3 hw f3 k3;refine hK _ _ ?_;clear hK K;refine aR λK hK=>?_
   dsimp only[wS,wT,wE,wV,wG];have ret:∀(p:Pt) (S4:aa),GoodP a n u.length p->dP kvs u u.length p=true->Fl S4 r->Kp r S S4->K [gV (.ref r),gV (.tup [.tup M,.tup N,b0]),gV (.ref q),gV (.int many),gV (aI u),gV (bD one),gV (bD p)] S4:=λp S4 hp hpm f4 k4=>hK _ _ (st (by
    dsimp only[wS,wE,wA,wV,wG];exact k u one p S4 hul hu hst h1 h1m hp hpm f4 k4))
   rcases hw with rfl|⟨p,rfl,hp,hpm⟩
   ·refine ac (show cp .is .non .non S3=gV (.bl true,S3)from rfl) ?_
    dsimp only[wB];refine aq (Q0:=Q') (λ_ Q2 hn _=>?_) (λz=>by cases z)
    refine st ?_;dsimp only[wS,wE,wA,wV,wG,HV];exact DJ (d:=d+1) G P hM ha1 ha3 hN hn1 hn3 hu h1 h1m (by omega) (k3.get _ _ hqr e) hqr f3 λp S4 hp hpm f4 k4=>b7 (hn _ _ (ret p S4 hp hpm f4 (k3.trans k4)))
   ·refine ac (show cp .is (bD p) .non S3=gV (.bl false,S3)from rfl) ?_
    dsimp only[wB];exact aq (Q0:=Q') (λz=>by cases z) (λ_ Q2 hn _=>b7 (hn _ _ (ret p S3 hp hpm f3 k3)))
  dsimp only[wS,wT,wE,wA,wV,wG];refine bo (d:=d+2) G.pick f2 (by decide) (by decide) λv S3 _ _ f3 k3=>?_
  dsimp only[gL,aN,wB];refine aq (Q0:=Q') (λ_ Q2 hn _=>?_) (λ_ Q2 hn _=>b7 (hn _ _ (tl2 .non S3 (.inl rfl) f3 (k12.trans k3))))
  refine st ?_;dsimp only[wS,wE,wA,wV,wG,HV];refine jO (d:=d) G P hM ha1 ha3 hN hn3 hu (by omega) (k3.get _ _ hqr (k12.get _ _ hqr e)) hqr f3 λw S4 hw f4 k4=>b7 (hn _ _ (tl2 w S4 ?_ f4 ((k12.trans k3).trans k4)))
  rcases hw with⟨h,_⟩|h
  ·exact .inl h
  ·exact .inr h
 dsimp only[wS,wT,wE,wV,wG];rcases hw with⟨rfl,hne⟩|⟨p,rfl,hp,hpm⟩
 ·refine ac (show cp .is .non .non S2=gV (.bl true,S2)from rfl) ?_
  dsimp only[wB];refine aq (Q0:=Q') (λ_ Q2 hn _=>?_) (λz=>by cases z)
  have hup:0 < u.length:=LI.mpr hne;have hlt:u.length - 1 < u.length:=by omega
  have gl:=aw (d:=(0,[])) hlt;refine st ?_;dsimp only[wS,wE,wV,wG,wN,HV];have el:(u.map bD).getLastD (.int 0)=bD (u.getD (u.length - 1) (0,[])):=by
   rw[KW,L3,HF,HP,gl]; rfl
  refine ac (qz (xs:=u.map bD) (by simpa using hne)) ?_
  rw[el];refine st ?_;dsimp only[wS,wE,wP,wV,wG,wN,HV];refine ac (show mE (aI u) td (gV (-1)) S2=gV (aI u.dropLast,S2) by simp only[aI,mE,qr,NW]) ?_
  refine b7 (hn _ _ (tl u.dropLast (u.getD (u.length - 1) (0,[])) (by rw[Ks]; omega) (u6 hu) hst.last.1 ⟨hu.mark _ _ gl,?_,hu.way _ _ gl⟩ hst.last.2))
  rw[hu.len _ _ gl,Ks]
 ·refine ac (show cp .is (bD p) .non S2=gV (.bl false,S2)from rfl) ?_
  dsimp only[wB];exact aq (Q0:=Q') (λz=>by cases z) (λ_ Q2 hn _=>b7 (hn _ _ (tl u p hul hu hst hp hpm)))
end
noncomputable def u9 (u:Wd)(one other:Pt)(b:HY)(p:HJ):Wd:=[((u.getD p (0,[])).1,[]),(one.1,[one.2.getD p 0]),(other.1,[other.2.getD p 0,b])]
theorem r8 {bs:HC HY}{a k:HJ}{u:Wd}{one other:Pt}{n p:HJ}(h1:GoodP a k u.length one)(h2:GoodP a k u.length other)(hp:p < u.length):eI (dm bs u one other n) p u.length (u.length+1)=u9 u one other (bs.getD n 0) p:=by
 have l1:(u++[one]).length=u.length+1:=by rw[HM]; rfl
 have g0:(dm bs u one other n).getD p (0,[])=u.getD p (0,[]):=by
  unfold dm;rw[bE (by omega),bE hp]
 have g1:(dm bs u one other n).getD u.length (0,[])=one:=by
  unfold dm;rw[bE (by omega),eJ]
 have g2:(dm bs u one other n).getD (u.length+1) (0,[])=(other.1,other.2++[bs.getD n 0]):=by
  unfold dm;rw[<- l1,eJ]
 unfold eI u9;rw[g0,g1,g2];dsimp only;rw[fJ (by rw[h2.len]; exact hp)]
 have:(other.2++[bs.getD n 0]).getD u.length 0=bs.getD n 0:=by
  rw[<- h2.len,Iu,Jb (HW _),LN]; rfl
 rw[this]
noncomputable def ig (X:HC T)(bs:HC HY)(u:Wd)(one other:Pt)(i p:HJ):Ir:=decide (dc (u9 u one other (bs.getD i 0) p)∈X)
noncomputable def qC (one other:Pt)(s:HJ):Ir:=(one.1==other.1)&&(Ic s).all λp=>one.2.getD p 0==other.2.getD p 0
noncomputable def eY (B:HJ->HJ->Ir)(sm:Ir)(n s:HJ):HC HY:=((Ic n).filter λi=>(Ic s).all λp=>!B i p).map (λ(i:HJ)=>(i:HY))++(if sm then[-1]else[])
theorem nh {P:HJ->Ir}{s:HJ}:AX (b9 P s)=(Ic s).all λp=>!P p:=by
 rw[K8,IC];unfold b9;constructor
 ·intro h p hp;cases hf:(Ic s).find? P with
  | none=>
   have:=KF.mp hf p hp
   simpa using this
  | some i=>rw[hf]at h; cases h
 ·intro h;have:(Ic s).find? P=td:=KF.mpr λp hp=>by simpa using h p hp
  rw[this]; rfl
theorem A7 {X:HC T}{bs:HC HY}{a:HJ}{u:Wd}{one other:Pt}(h1:GoodP a bs.length u.length one)(h2:GoodP a bs.length u.length other):qy (eM (PB X u.length) bs u one other) bs.length=eY (ig X bs u one other) (qC one other u.length) bs.length u.length:=by
 have hg:∀i,i < bs.length->(eM (PB X u.length) bs u one other).getD i (.int 0)=b9 (ig X bs u one other i) u.length:=λi hi=>by
  unfold eM;rw[Iu,IF (by rw[HF,IU]; exact hi),HP,J0 hi]
  refine qv λp hp=>?_
  show decide (dc (eI (dm bs u one other i) p u.length (u.length+1))∈X)=_;rw[r8 h1 h2 hp]; rfl
 have hl:(eM (PB X u.length) bs u one other).getLastD (.int 0)=g5 one other:=by
  unfold eM;rw[List.getLastD_concat]
 unfold qy eY;rw[hl];congr 1
 ·congr 1;refine NX λi hi=>?_
  rw[hg i (IN.mp hi),nh]
 ·have:AX (g5 one other)=qC one other u.length:=by
   unfold g5 qC
   by_cases e:one.1=other.1
   ·rw[Iv e,nh,h1.len,e,IR,K6];congr 1
    funext p
    rw[Bool.not_not]
   ·rw[IK e,show(one.1==other.1)=false by simpa using e]; rfl
  rw[this]
noncomputable def dE:Ss:=
 (.cons (.ret (.op .add (.v 1) (.tup (.cons (.v 2) (.cons (.tup (.cons (.ix (.v 3) (.c (.int 0))) (.cons (.op .add (.ix (.v 3) (.c (.int 1))) (.tup (.cons (.ix (.ix (.ix (.v 0) (.c (.int 1))) (.v 4)) (.c (.int 1))) .nil))) .nil))) .nil)))))
 .nil)
section
variable{defs:HC (Ih×Df)}{fuel d:HJ}{S:aa}{Q:QW}
theorem r9 (hg:Is defs ("_law_both" : Ih) 5 5 dE){m0 b0:W}{ns:HC Ih}{bs:HC HY}{u:Wd}{one other:Pt}{n:HJ}(hnl:ns.length=bs.length)(hn:n < bs.length)(hu:u.length<=900)(ho:other.2.length<=900)(k:Q (aI (dm bs u one other n),S)) :
  wO (be (ar defs fuel (d+1)) "_law_both" 5 [.tup [m0,.tup (Ii bn ns bs),b0],aI u,bD one,bD other,.int n] S) Q:=by
 refine az hg rfl rfl λQ' hR=>?_
 replace k:=hR _ _ k;show wZ _ _ dE [gV (.tup [m0,.tup (Ii bn ns bs),b0]),gV (aI u),gV (bD one),gV (bD other),gV (.int n)] S Q';have hb:=aw (d:=0) hn;dsimp only[dE];refine st ?_;dsimp only[wS,wE,wA,wV,wG];refine aj (by decide) rfl (aj (by decide) rfl ?_)
 refine aj (by decide) rfl (aj (HR n) (by rw[HU]; exact ie (HX (by omega)) hb) (aj (by decide) rfl ?_))
 refine ac (dB (gp ?_)) ?_
 ·rw[HM,HF]; show _+1<=_; omega
 dsimp only;have ev:u.map bD++[bD one,.tup [.int other.1,.tup (other.2.map W.int++[.int (bs.getD n 0)])]]=(dm bs u one other n).map bD:=by
  unfold dm;simp[bD]
 unfold aI at k ⊢;refine ac (dB (gp ?_)) ?_
 ·rw[HM,HF]; show _+2<=_; omega
 dsimp only;rw[ev];exact k
end
noncomputable def dR:Ss:=
 (.cons (.set 5 (.lst .nil))
 (.cons (.loop (.nm 6) (.rng (.cons (.bi .len (.cons (.ix (.v 0) (.c (.int 1))) .nil)) .nil)) (.cons (.ite (.own "_law_last_may" 4 (.cons (.v 0) (.cons (.v 1) (.cons (.own "_law_both" 5 (.cons (.v 0) (.cons (.v 2) (.cons (.v 3) (.cons (.v 4) (.cons (.v 6) .nil)))))) (.cons (.op .add (.bi .len (.cons (.v 2) .nil)) (.c (.int 1))) .nil))))) (.cons (.ex (.me .append (.v 5) (.cons (.v 6) .nil)))
 .nil) .nil)
 .nil))
 (.cons (.ret (.op .add (.v 5) (.op .mul (.lst (.cons (.neg (.c (.int 1))) .nil)) (.bi .int (.cons (.cmp .eq (.v 3) (.v 4)) .nil)))))
 .nil)))
theorem sa {xs:HC HY}{b:HY}:(xs++[b]).getD xs.length 0=b:=by
 rw[Iu,Jb (HW _),LN]; rfl
theorem yo {X:HC T}{kvs:HC (T×W)}{bs:HC HY}{a:HJ}{u:Wd}{one other:Pt}{n:HJ}(hk:∀t,(cm kvs t).isSome=decide (t∈X))(h2:GoodP a bs.length u.length other)(hm:dP kvs u u.length other=true) :
  dP kvs (u++[one]) (u++[one]).length (other.1,other.2++[bs.getD n 0])=(Ic u.length).all λp=>!ig X bs u one other n p:=by
 have hl:(u++[one]).length=u.length+1:=by rw[HM]; rfl
 have key:∀p < u.length,iO kvs (u++[one]) (other.1,other.2++[bs.getD n 0]) p u.length=ig X bs u one other n p:=λp hp=>by
  unfold iO ig u9;dsimp only;rw[bE hp,eJ,fJ (by rw[h2.len]; exact hp),hk]
  have:(other.2++[bs.getD n 0]).getD u.length 0=bs.getD n 0:=by rw[<- h2.len]; exact sa
  rw[this]
 rw[K8,eW,IC,hl];constructor
 ·intro h p hp;have hp:=IN.mp hp;rw[<- key p hp,h u.length (by omega) p hp]; rfl
 ·intro h q hq p hp
  by_cases e:q=u.length
  ·subst e;have:=h p (IN.mpr hp);rw[key p hp]
   simpa using this
  ·have hq':q < u.length:=by omega
   have:=eW.mp hm q hq' p hp;unfold iO at this ⊢;dsimp only;rw[bE (Lh hp hq'),bE hq',fJ (by rw[h2.len]; omega),fJ (by rw[h2.len]; omega)]
   exact this
theorem FN {one other:Pt}{s:HJ}(h1:one.2.length=s)(h2:other.2.length=s):decide (one=other)=qC one other s:=by
 unfold qC;rw[K8,Iy,HL,beq_iff_eq,IC];constructor
 ·rintro rfl;exact⟨rfl,λp _=>by rw[IR]⟩
 ·rintro⟨e,h⟩;refine Pl e (L7 λi=>?_)
  by_cases hi:i < s
  ·have:=eq_of_beq (h i (IN.mpr hi));rw[aw (d:=0) (by omega),aw (d:=0) (by omega),this]
  ·rw[KH (by omega),KH (by omega)]
theorem gq {P:HJ->Ir}{n:HJ}:(((Ic n).filter P).map λ(i:HJ)=>(i:HY)).length<=n:=by
 rw[HF];exact IT (Kg _ _) (by rw[IU]; exact HW _)
section
variable{defs:HC (Ih×Df)}{fuel d:HJ}{S:aa}{Q:QW}
theorem Ba (hm:Is defs ("_law_last_may" : Ih) 4 8 cr)(hbo:Is defs ("_law_both" : Ih) 5 5 dE)(hg:Is defs ("_law_fills" : Ih) 5 7 dR){m0 b0:W}{ns:HC Ih}{bs:HC HY}{a q:HJ}{X:HC T}{u:Wd}{one other:Pt}{kvs:HC (T×W)}(hb:GoodB bs)(hnl:ns.length=bs.length)(hu:GoodW a bs.length u)(h1:GoodP a bs.length u.length one)(h2:GoodP a bs.length u.length other)(hul:u.length<=800)(e:S[q]?=gV (.dic kvs))
  (hk:∀t,(cm kvs t).isSome=decide (t∈X)) (hmay:dP kvs u u.length other=true)
  (k:∀(l:HJ) S',S'[l]?=gV (.lst (ab (eY (ig X bs u one other) (qC one other u.length) bs.length u.length)))->S.length<=l->Ka S S'->Q (.ref l,S')) :
  wO (be (ar defs fuel (d+2)) "_law_fills" 5 [.tup [m0,.tup (Ii bn ns bs),b0],.ref q,aI u,bD one,bD other] S) Q:=by
 refine az hg rfl rfl λQ' hR=>?_
 replace k:∀(l:HJ) S',S'[l]?=gV (.lst (ab (eY (ig X bs u one other) (qC one other u.length) bs.length u.length)))->S.length<=l->Ka S S'->Q' (.rt (.ref l),S'):=λl S' a b c=>hR _ _ (k l S' a b c)
 clear hR;show wZ _ _ dR [gV (.tup [m0,.tup (Ii bn ns bs),b0]),gV (.ref q),gV (aI u),gV (bD one),gV (bD other),td,td] S Q';have hb3:bs.length<=3:=by rcases hb with rfl|rfl|rfl|rfl|rfl|rfl <;> decide
 have ul:(u.map bD).length=u.length:=HF ..;have sl:((u++[one]).length:HY)=(u.length:HY)+1:=by rw[HM,Jj]; rfl
 have hul2:(u++[one]).length<=1000:=by rw[HM,Jj]; omega
 have gu:GoodW a bs.length (u++[one]):=hu.snoc (m:=one.1) (ws:=one.2) h1.mark h1.len h1.way;generalize hR0:W.tup [m0,.tup (Ii bn ns bs),b0]=R;have lw:∀(S:aa) (Q:QW),Q (.int (bs.length:HY),S)->wO (j6 R (.int 1) S) λp=>wO (Bi.len.fn [p.1] p.2) Q:=λS Q q=>by
  subst hR0;refine aj (by decide) rfl (bC ?_)
  rw[Ky,hnl,LK]; exact q
 have lb:∀(n:HJ) (S:aa) (Q:QW),n < bs.length->Q (aI (u++[one]++[(other.1,other.2++[bs.getD n 0])]),S)->wO (be (ar defs fuel (d+1)) "_law_both" 5 [R,aI u,bD one,bD other,.int n] S) Q:=λn S Q hn q=>by
  subst hR0;exact r9 (d:=d) hbo hnl hn (by omega) (by rw[h2.len]; omega) q
 clear hR0;have hP:=λn=>yo (n:=n) (one:=one) hk h2 hmay
 unfold eY at k;generalize hPd:(λi=>(Ic u.length).all λp=>!ig X bs u one other i p)=P at k
 have hP:∀n,dP kvs (u++[one]) (u++[one]).length (other.1,other.2++[bs.getD n 0])=P n:=λn=>by rw[hP n,<- hPd]
 clear hPd;dsimp only[dR];refine st ?_;dsimp only[wS,wE,wA,HV];refine aR λK hK=>?_
 refine di (bs.length:HY) (λi ρ S'=>(∃a6,ρ=[gV R,gV (.ref q),gV (aI u),gV (bD one),gV (bD other),gV (.ref S.length),a6])/\S'[S.length]?=gV (.lst (ab (((Ic i).filter P).map λ(i:HJ)=>(i:HY))))/\Ka S S') rfl rfl (by omega) ?_ ?_ ?_
 ·dsimp only[wE,wA,wV,wG];exact lw _ _ ⟨rfl,⟨_,rfl⟩,ak,.push⟩
 ·rintro i ρ S2 hi ⟨⟨a6,rfl⟩,e2,k2⟩ Q2 hn _;clear hK;have hib:i < bs.length:=by omega
  dsimp only[HV];refine aR λK hK=>?_
  dsimp only[wS,wT,wE,wA,wV,wG];refine lb i _ _ hib (bC ?_);rw[ul];refine ac d3 ?_;dsimp only;rw[<- sl];refine lq (d:=d) hm gu (by show(other.2++[_]).length=_; rw[HM,h2.len,HM]; rfl) hul2 (k2.get _ _ e) ?_
  rw[hP];refine ac (show eA S2 (.bl (P i))=gV (P i)from rfl) ?_
  refine aq (Q0:=Q2) (λhp Q3 hn3 _=>?_) (λhp Q3 hn3 _=>b7 (hn3 _ _ (hK _ _ (b7 (hn _ _ ⟨⟨_,rfl⟩,?_,k2⟩)))))
  ·refine st ?_;dsimp only[wS,wE,wA,wV,wG];refine⟨dZ e2,mV e2 ?_ (b7 (hn3 _ _ (hK _ _ (b7 (hn _ _ ⟨⟨_,rfl⟩,?_,k2.late (HW _)⟩)))))⟩
   ·have:=gq (P:=P) (n:=i);unfold ab;rw[HF];omega
   ·rw[cw e2,Km,Kd,Iw,Mm,hp];unfold ab;rw[Iw]; rfl
  ·rw[Km,Kd,Mm,hp]
   simpa using e2
 ·rintro ρ S2 ⟨⟨a6,rfl⟩,e2,k2⟩;rw[HU]at e2;refine hK _ _ ?_;clear hK K;refine st ?_;dsimp only[wS,wE,wA,wV,wG,wN];refine ac FL ?_;rw[FN h1.len h2.len];generalize qC one other u.length=c at k;obtain⟨g,hg,eg,er⟩ : ∃g:HJ,g<=1/\(∀S,Bi.int.fn [.bl c] S=gV (.int (g:HY),S))/\ab (if c then[-1]else[])=Ix g (W.int (-1)):=by
   cases c
   ·exact⟨0,by decide,λ_=>rfl,rfl⟩
   ·exact⟨1,by decide,λ_=>rfl,rfl⟩
  refine ac (eg _) ?_;dsimp only;refine xT ak (by omega) ?_
  have hl:=gq (P:=P) (n:=bs.length);refine ac (ol (au (au e2)) ak (gp (by unfold ab; rw[HM,Ke,HF]; omega))) (k _ _ ?_ ?_ (((k2.trans .push).trans .push).trans .push))
  ·unfold ab at er ⊢;rw[Iw,er];exact ak
  ·have:=k2.len;simp; omega
end
noncomputable def bW:Ss:=
 (.cons (.set 2 (.bi .sorted (.cons (.comp (.ix (.ix (.ix (.v 2) (.c (.int 1))) (.v 1)) (.c (.int 1))) (.nm 1) (.seq (.v 1)) (.cons (.cmp .ge (.v 1) (.c (.int 0))) .nil) [td,td,gV 0]) .nil)))
 (.cons (.ret (.op .add (.v 2) (.op .mul (.lst (.cons (.neg (.c (.int 1))) .nil)) (.me .count (.v 1) (.cons (.neg (.c (.int 1))) .nil)))))
 .nil))
theorem nj {bs:HC HY}{a:HJ}{gs:HC Wd}{w:Wd}{t:HC HJ}(hb:GoodB bs)(hgs:∀g∈gs,GoodW a bs.length g/\g.length=3)(hw:w∈bX bs gs)(ht:t∈ay):aL bs w t∈bX bs gs:=by
 unfold bX at hw ⊢;obtain⟨g,hg,h⟩:=J7.mp hw;obtain⟨s,hs,rfl⟩:=Iq.mp h;obtain⟨gg,g3⟩:=hgs g hg;obtain⟨s1,s2⟩:=nb.mp hs;refine J7.mpr ⟨g,hg,?_⟩;rw[u4 hb gg (by rw[g3]; exact s1) (by rw[s2]; exact(nb.mp ht).1)]
 have:∀s∈ay,∀t∈ay,(t.map λi=>s.getD i 0)∈ay:=by decide
 exact Iq.mpr ⟨_,this s hs t ht,rfl⟩
theorem qD {bs:HC HY}{u:Wd}{one other:Pt}{b:HY}{p:HJ}:aL bs (u9 u one other b p) [0,2,1]=u9 u other one (bs.getD b.toNat 0) p:=rfl
theorem BU {L:HC Wd}{w:Wd}:dc w∈L.map dc↔w∈L:=by
 rw[Iq];exact⟨λ⟨x,hx,e⟩=>tH e ▸ hx,λh=>⟨w,h,rfl⟩⟩
theorem vc {bs:HC HY}(hb:GoodB bs):∀i < bs.length,(bs.getD i 0).toNat < bs.length/\bs.getD (bs.getD i 0).toNat 0=(i:HY):=by
 rcases hb with rfl|rfl|rfl|rfl|rfl|rfl <;> decide
theorem yp {bs:HC HY}{a:HJ}{gs:HC Wd}{u:Wd}{one other:Pt}(hb:GoodB bs)(hgs:∀g∈gs,GoodW a bs.length g/\g.length=3){i p:HJ}(hi:i < bs.length):ig ((bX bs gs).map dc) bs u other one i p=ig ((bX bs gs).map dc) bs u one other (bs.getD i 0).toNat p:=by
 obtain⟨_,h2⟩:=vc hb i hi;unfold ig;rw[K8,Iy,Iy,BU,BU,h2];constructor
 ·intro h;have:=nj hb hgs h (t:=[0,2,1]) (by decide)
  rw[qD,h2]at this;exact this
 ·intro h;have:=nj hb hgs h (t:=[0,2,1]) (by decide)
  rw[qD,HU]at this;exact this
theorem Bb {one other:Pt}{s:HJ}:qC other one s=qC one other s:=by
 unfold qC;rw[O5];congr 2
 funext p
 rw[O5]
theorem vd {bs:HC HY}{a:HJ}{gs:HC Wd}{u:Wd}{one other:Pt}(hb:GoodB bs)(hgs:∀g∈gs,GoodW a bs.length g/\g.length=3):eY (ig ((bX bs gs).map dc) bs u other one) (qC other one u.length) bs.length u.length=((Ic bs.length).filter λi=>(λj=>(Ic u.length).all λp=>!ig ((bX bs gs).map dc) bs u one other j p) (bs.getD i 0).toNat).map (λ(i:HJ)=>(i:HY))++(if qC one other u.length then[-1]else[]):=by
 unfold eY;rw[Bb];congr 2;refine NX λi hi=>?_
 have hi:=IN.mp hi;dsimp only;congr 1
 funext p
 rw[yp hb hgs hi]
theorem ve {bs:HC HY}(hb:GoodB bs)(f:HJ->Ir):∃ks,W.ts (ab (((Ic bs.length).filter f).map λi=>bs.getD i 0))=gV ks/\i6 ks=true/\eP (yE ks) .non (ab (((Ic bs.length).filter f).map λi=>bs.getD i 0))=ab (((Ic bs.length).filter λi=>f (bs.getD i 0).toNat).map λ(i:HJ)=>(i:HY)):=by
 have r1:Ic 1=[0]:=rfl;have r2:Ic 2=[0,1]:=rfl;have r3:Ic 3=[0,1,2]:=rfl;rcases hb with rfl|rfl|rfl|rfl|rfl|rfl
 all_goals
  simp only[IQ,Jz,Nat.zero_add,Nat.reduceAdd,r1,r2,r3,Mm,List.filter_nil];simp only[List.getD_cons_zero,List.getD_cons_succ,show(0:HY).toNat=0 from rfl,show(1:HY).toNat=1 from rfl,show(2:HY).toNat=2 from rfl]
  generalize f 0=f0;generalize f 1=f1;generalize f 2=f2;cases f0 <;> cases f1 <;> cases f2 <;> exact⟨_,rfl,rfl,rfl⟩
theorem nk:∀xs:HC HY,uk (ab xs)=gV xs
 | []=>rfl
 | x::xs=>by
  have:=nk xs;unfold ab at this ⊢;rw[JF];simp only[uk,this];rfl
theorem Bc {S:aa}{l:HJ}{xs:HC HY}{z:HY}{Q:QW}(h:S[l]?=gV (.lst (ab xs)))(q:Q (.int (xs.count z:HJ),S)):wO (Me.count.fn (.ref l) [.int z] S) Q:=by
 refine ac ?_ q;show kC (.ref l) [.int z] S=_;simp only[kC,dh h,nk]
theorem Bd {S:aa}{l:HJ}{xs:HC W}{Q:QW}(h:S[l]?=gV (.lst xs))(q:Q (.non,S.set l (.lst []))):wO (Me.clear.fn (.ref l) [] S) Q:=by
 refine ac ?_ q;show kB (.ref l) [] S=_;simp only[kB,dh h]
theorem Be {S:aa}{l:HJ}{xs ys:HC HY}{ks:HC T}{Q:QW}(h:S[l]?=gV (.lst (ab xs)))(h1:W.ts (ab xs)=gV ks)(h2:i6 ks=true)(h3:eP (yE ks) .non (ab xs)=ab ys)(q:Q (.ref S.length,S++[.lst (ab ys)])):wO (Bi.sorted.fn [.ref l] S) Q:=by
 refine ac ?_ q;have:fE [.ref l] S=gV (.ref S.length,S++[.lst (ab ys)]):=by
  simp only[fE,dW,aM h,h1];rw[Iv h2,h3]
 exact this
section
variable{defs:HC (Ih×Df)}{fuel d:HJ}{S:aa}{Q:QW}
theorem yq (hg:Is defs ("_law_turned_fills" : Ih) 2 3 bW){m0 b0:W}{ns:HC Ih}{bs:HC HY}{l0:HJ}{f:HJ->Ir}{sm:Ir}(hb:GoodB bs)(hnl:ns.length=bs.length)(e:S[l0]?=gV (.lst (ab (((Ic bs.length).filter f).map (λ(i:HJ)=>(i:HY))++(if sm then[-1]else[])))))
  (k:∀(l:HJ) S',S'[l]?=gV (.lst (ab (((Ic bs.length).filter λi=>f (bs.getD i 0).toNat).map (λ(i:HJ)=>(i:HY))++(if sm then[-1]else[]))))->S.length<=l->Ka S S'->Q (.ref l,S')) :
  wO (be (ar defs fuel (d+1)) "_law_turned_fills" 2 [.tup [m0,.tup (Ii bn ns bs),b0],.ref l0] S) Q:=by
 refine az hg rfl rfl λQ' hR=>?_
 replace k:∀(l:HJ) S',S'[l]?=gV (.lst (ab (((Ic bs.length).filter λi=>f (bs.getD i 0).toNat).map (λ(i:HJ)=>(i:HY))++(if sm then[-1]else[]))))->S.length<=l->Ka S S'->Q' (.rt (.ref l),S'):=λl S' a b c=>hR _ _ (k l S' a b c)
 clear hR;show wZ _ _ bW [gV (.tup [m0,.tup (Ii bn ns bs),b0]),gV (.ref l0),td] S Q';have hb3:bs.length<=3:=by rcases hb with rfl|rfl|rfl|rfl|rfl|rfl <;> decide
 have nl1:=gq (P:=f) (n:=bs.length);have nl2:=gq (P:=λi=>f (bs.getD i 0).toNat) (n:=bs.length)
 have cnt:((((Ic bs.length).filter f).map (λ(i:HJ)=>(i:HY))++(if sm then[-1]else[])).count (-1))=if sm then 1 else 0:=by
  rw[List.count_append,List.count_eq_zero.mpr]
  ·cases sm <;> rfl
  ·intro h;obtain⟨i,_,h⟩:=Iq.mp h;omega
 dsimp only[bW];refine st ?_;dsimp only[wS,wE,wA,HV];refine DF (((Ic bs.length).filter f).map (λ(i:HJ)=>(i:HY))++(if sm then[-1]else[])) W.int (λz=>decide (z>=0)) (λz=>.int (bs.getD z.toNat 0)) [gV (.tup [m0,.tup (Ii bn ns bs),b0])] rfl rfl rfl rfl (by have:(if sm=true then[(-1:HY)]else[]).length<=1:=(by cases sm <;> decide); rw[HM]; omega) ⟨l0,rfl,e,.refl⟩ (λz hz S2 k2=>?_) λS2 k2=>?_
 ·dsimp only[je,wC,wT,wE,wV,wG];refine ac Fp ?_;dsimp only[wB];refine⟨λhz0=>?_,λhz0=>⟨hz0,.refl⟩⟩
  have hz0':0<=z:=by simpa using hz0
  have hzn:z.toNat < bs.length:=by
   rcases IP.mp hz with h|h
   ·obtain⟨i,hi,rfl⟩:=Iq.mp h;have:=IN.mp (LC.mp hi).1;omega
   ·cases sm
    ·cases h
    ·rw[Im.mp h]at hz0'; omega
  refine aj (by decide) rfl (aj hz0' (ie (HX (by omega)) (aw (d:=0) hzn)) (aj (by decide) rfl ?_))
  exact⟨hz0,rfl,.refl⟩
 ·have em:(((((Ic bs.length).filter f).map (λ(i:HJ)=>(i:HY))++(if sm then[-1]else[])).filter λz=>decide (z>=0)).map λ(z:HY)=>W.int (bs.getD z.toNat 0))=ab (((Ic bs.length).filter f).map λi=>bs.getD i 0):=by
   rw[Kd,Nb.mpr,show(if sm=true then[(-1:HY)]else[]).filter (λz=>decide (z>=0))=[] by cases sm <;> rfl,Jy,J5]
   ·unfold ab;rw[J5];rfl
   ·intro z hz;obtain⟨i,_,rfl⟩:=Iq.mp hz;simp
  rw[em];obtain⟨ks,h1,h2,h3⟩:=ve hb f;dsimp only;refine Be ak h1 h2 h3 ?_;refine st ?_;dsimp only[wS,wE,wA,wV,wG,wN];have e3:=au (u:=O.lst [W.int (-1)]) (au (u:=.lst (ab (((Ic bs.length).filter λi=>f (bs.getD i 0).toNat).map λ(i:HJ)=>(i:HY)))) (au (u:=.lst (ab (((Ic bs.length).filter f).map λi=>bs.getD i 0))) (k2.get _ _ e)))
  refine⟨dZ e3,Bc e3 ?_⟩;rw[cnt];refine xT ak (by split <;> decide) ?_
  refine ac (ol (xs:=ab (((Ic bs.length).filter λi=>f (bs.getD i 0).toNat).map λ(i:HJ)=>(i:HY))) (au (au ak)) ak (gp (by unfold ab; rw[HM,Ke,HF]; split <;> omega))) (k _ _ ?_ ?_ (((((k2.trans .push).trans .push).trans .push).trans .push).trans .push))
  ·have er:Ix (if sm=true then 1 else 0) (W.int (-1))=ab (if sm then[-1]else[]):=by cases sm <;> rfl
   rw[er];unfold ab;rw[Iw];exact ak
  ·have:=k2.len;simp; omega
end
noncomputable def kh:Ss:=
 (.cons (.set 1 (.own "_law_flow" 1 (.cons (.v 0) .nil)))
 (.cons (.set 2 (.own "_law_some_rule" 1 (.cons (.v 1) .nil)))
 (.cons (.set 3 (.own "_law_bad" 1 (.cons (.v 2) .nil)))
 (.cons (.set 4 (.own "_law_pick" 2 (.cons (.v 1) (.cons (.c (.int 7)) .nil))))
 (.cons (.ite (.cmp .eq (.own "_law_pick" 2 (.cons (.v 1) (.cons (.c (.int 8)) .nil))) (.c (.int 0))) (.cons (.set 4 (.own "_law_pick" 2 (.cons (.v 1) (.cons (.c (.int 29)) .nil))))
 .nil) .nil)
 (.cons (.asg [5,6,7] (.own "_law_pair" 4 (.cons (.v 1) (.cons (.v 2) (.cons (.v 3) (.cons (.v 4) .nil))))))
 (.cons (.set 8 (.own "_law_fills" 5 (.cons (.v 2) (.cons (.v 3) (.cons (.v 5) (.cons (.v 6) (.cons (.v 7) .nil)))))))
 (.cons (.set 9 (.own "fillings" 4 (.cons (.v 2) (.cons (.v 5) (.cons (.v 6) (.cons (.v 7) .nil))))))
 (.cons (.ite (.not (.own "_law_alike" 2 (.cons (.v 9) (.cons (.v 8) .nil)))) (.cons (.ret (.c (.bl false)))
 .nil) .nil)
 (.cons (.ex (.me .clear (.v 9) .nil))
 (.cons (.set 10 (.op .add (.sl (.v 2) .no (.yes (.c (.int 2)))) (.tup (.cons (.sl (.ix (.v 2) (.c (.int 2))) .no (.yes (.neg (.c (.int 1))))) .nil))))
 (.cons (.ite (.not (.own "_law_alike" 2 (.cons (.own "fillings" 4 (.cons (.v 10) (.cons (.v 5) (.cons (.v 6) (.cons (.v 7) .nil))))) (.cons (.own "_law_fills" 5 (.cons (.v 10) (.cons (.own "_law_bad" 1 (.cons (.v 10) .nil)) (.cons (.v 5) (.cons (.v 6) (.cons (.v 7) .nil)))))) .nil)))) (.cons (.ret (.c (.bl false)))
 .nil) .nil)
 (.cons (.ite (.not (.own "_law_alike" 2 (.cons (.own "fillings" 4 (.cons (.v 2) (.cons (.v 5) (.cons (.v 7) (.cons (.v 6) .nil))))) (.cons (.own "_law_turned_fills" 2 (.cons (.v 2) (.cons (.v 8) .nil))) .nil)))) (.cons (.ret (.c (.bl false)))
 .nil) .nil)
 (.cons (.ret (.and (.cmp .eq (.own "fillings" 4 (.cons (.v 2) (.cons (.v 5) (.cons (.v 6) (.cons (.v 7) .nil))))) (.v 8)) (.cmp .eq (.ix (.own "fillings" 4 (.cons (.v 2) (.cons (.v 5) (.cons (.v 6) (.cons (.v 6) .nil))))) (.neg (.c (.int 1)))) (.neg (.c (.int 1))))))
 .nil))))))))))))))
structure Lw23 (defs:HC (Ih×Df)):Prop where
 gen:Gen defs
 fil:Fil defs
 pai:Pai defs
 flow:Is defs ("_law_flow" : Ih) 1 1 eG
 bad:Is defs ("_law_bad" : Ih) 1 4 fA
 alike:Is defs ("_law_alike" : Ih) 2 2 bJ
 both:Is defs ("_law_both" : Ih) 5 5 dE
 fills:Is defs ("_law_fills" : Ih) 5 7 dR
 turned:Is defs ("_law_turned_fills" : Ih) 2 3 bW
 law:Is defs ("law" : Ih) 1 11 kh
theorem yr {kvs kvs':HC (T×W)}{u:Wd}{s:HJ}{p:Pt}(h:∀t,(cm kvs t).isSome=false->(cm kvs' t).isSome=false)(hm:dP kvs u s p=true):dP kvs' u s p=true:=eW.mpr λq hq i hi=>h _ (eW.mp hm q hq i hi)
theorem yt {S:aa}{l:HJ}{xs:HC W}{x:W}(h:S[l]?=gV (.lst (xs++[x]))):j6 (.ref l) (.int (-1)) S=gV (x,S):=by
 have hs:qT (xs++[x]).length (-1)=gV xs.length:=by
  unfold qT;rw[IK (by decide),HM,Jj]
  exact(Iv (by omega)).trans (by congr 1; omega)
 have hg:(xs++[x])[xs.length]?=gV x:=by rw[Jb (HW _),LN]; rfl
 simp only[j6,ke h,sx,aM h,o7,hs,hg,Og,IH]
theorem Bf {xs:HC HY}:∀x∈ab xs,Tr 0 x:=λx hx=>by
 unfold ab at hx;obtain⟨z,_,rfl⟩:=Iq.mp hx;trivial
theorem Bg {p:Pt}{s:HJ}:qC p p s=true:=by
 unfold qC;simp
section
variable{defs:HC (Ih×Df)}{fuel d:HJ}
theorem yu (hfu:50 < fuel)(L:Lw23 defs){zs:HC HY}:∃S',ar defs fuel (d+9) "law" [.ref 0] [.fro (zs.map W.int)]=gV (.bl true,S'):=by
 suffices h:wO (be (ar defs fuel (d+9)) "law" 1 [.ref 0] [.fro (zs.map W.int)]) (λp=>p.1=.bl true) by
  obtain⟨⟨v,S'⟩,e,q⟩:=cU h;cases(show v=.bl true from q)
  exact⟨S',e⟩
 have G:=L.gen;refine az L.law rfl rfl λQ' hR=>?_
 show wZ _ _ kh [gV (.ref 0),td,td,td,td,td,td,td,td,td,td] [.fro (zs.map W.int)] Q';unfold kh;refine aR λK hK=>?_
 dsimp only[wS,wE,wA,wV,wG,HV];refine DH (d:=d+7) L.flow (ns:=zs) rfl λr S1 _ f1=>hK _ _ ?_
 clear hK K;refine aR λK hK=>?_
 dsimp only[wS,wE,wA,wV,wG,HV];refine qB (d:=d) (by omega) G L.pai f1 λw S2 hw f2 _=>hK _ _ ?_
 clear hK K f1;obtain⟨a,bs,ms,ns,gs0,rfl,hr⟩:=hw;have hb:=hr.size.good;have hnl:=hr.nl;have hml:=hr.ml;have hpos:=hr.size.pos;have ha3:=hr.size.a3;have pm:(iI gs0).Perm gs0:=wo;have hgs:∀g∈iI gs0,GoodW a bs.length g/\g.length=3:=λg hg=>u5 hb (hr.mem g (pm.mem_iff.mp hg))
 have h64:(iI gs0).length<=100:=by
  have h1:=oq gs0 _ hr.nd hr.mem;have h2:=ow hr.size;rw[pm.length_eq]; omega
 clear hr pm;unfold cM;generalize iI gs0=gs at hgs h64;clear gs0;have hb3:1<=bs.length/\bs.length<=3:=by rcases hb with rfl|rfl|rfl|rfl|rfl|rfl <;> decide
 have zl:(Ii bn ns bs).length=bs.length:=by rw[Ky,hnl]; omega
 have ml:(ms.map W.str).length=a:=by rw[HF,hml]
 refine aR λK hK=>?_
 dsimp only[wS,wE,wA,wV,wG,HV];refine BR (d:=d+5) G L.bad hb hnl hgs h64 λq kvs S3 e3 h3 hq k3=>hK _ _ ?_
 clear hK K;have f3:=f2.ka k3;have hqr:q≠r:=by have:=f2.lt; omega
 clear k3 hq f2;refine aR λK hK=>?_
 dsimp only[wS,wE,wA,wV,wG,HV];refine bo (d:=d+7) G.pick f3 (by decide) (by decide) λv S4 v0 v1 f4 k4=>hK _ _ ?_
 clear hK K;have e4:=k4.get _ _ hqr e3;clear e3 f3 k4;refine aR λK hK=>?_
 have tl:∀(n:HJ) (S5:aa),n<=28->S5[q]?=gV (.dic kvs)->Fl S5 r->K [gV (.ref 0),gV (.ref r),gV (.tup [.tup (ms.map W.str),.tup (Ii bn ns bs),.tup (gs.map aI)]),gV (.ref q),gV (.int (n:HY)),td,td,td,td,td,td] S5:=by
  intro n S5 hn e5 f5;refine hK _ _ ?_;clear hK K e4 f4 v0 v1;refine aR λK hK=>?_
  dsimp only[wS,wE,wA,wV,wG];refine DK (d:=d+4) G L.pai ml hpos ha3 zl hb3.1 hb3.2 (by omega) e5 hqr f5 λu one other S6 hul hu _ g1 _ g2 m2 _ k6=>?_
  dsimp only[wU];refine ac (show dz [5,6,7] [aI u,bD one,bD other] [gV (.ref 0),gV (.ref r),gV (.tup [.tup (ms.map W.str),.tup (Ii bn ns bs),.tup (gs.map aI)]),gV (.ref q),gV (.int (n:HY)),td,td,td,td,td,td]=gV [gV (.ref 0),gV (.ref r),gV (.tup [.tup (ms.map W.str),.tup (Ii bn ns bs),.tup (gs.map aI)]),gV (.ref q),gV (.int (n:HY)),gV (aI u),gV (bD one),gV (bD other),td,td,td]from rfl) (hK _ _ ?_)
  clear hK K;have e6:=k6.get _ _ hqr e5;clear k6 e5 f5;have ff:∀(gs:HC Wd) (x y:Pt) (S:aa) (Q:QW),(∀g∈gs,GoodW a bs.length g/\g.length=3)->gs.length<=100->GoodP a bs.length u.length x->GoodP a bs.length u.length y->(∀(l:HJ) S',S'[l]?=gV (.lst (ab (eY (ig ((bX bs gs).map dc) bs u x y) (qC x y u.length) bs.length u.length)))->S.length<=l->Ka S S'->Q (.ref l,S'))->wO (be (ar defs fuel (d+8)) "fillings" 4 [.tup [.tup (ms.map W.str),.tup (Ii bn ns bs),.tup (gs.map aI)],aI u,bD x,bD y] S) Q:=λgs x y S Q h1 h2 h3 h4 h=>r4 (d:=d+2) (by omega) L.fil hb hnl h1 h2 hu h3 h4 (by omega) λl S' a b c=>h l S' (by rw[<- A7 h3 h4]; exact a) b c
  have fl:∀(X:HC T) (kvs:HC (T×W)) (q:HJ) (b0:W) (S:aa) (Q:QW),S[q]?=gV (.dic kvs)->(∀t,(cm kvs t).isSome=decide (t∈X))->dP kvs u u.length other=true->(∀(l:HJ) S',S'[l]?=gV (.lst (ab (eY (ig X bs u one other) (qC one other u.length) bs.length u.length)))->S.length<=l->Ka S S'->Q (.ref l,S'))->wO (be (ar defs fuel (d+8)) "_law_fills" 5 [.tup [.tup (ms.map W.str),.tup (Ii bn ns bs),b0],.ref q,aI u,bD one,bD other] S) Q:=λX kvs q b0 S Q h1 h2 h3 h=>Ba (d:=d+6) L.pai.lmay L.both L.fills hb hnl hu g1 g2 (by omega) h1 h2 h3 h
  have len:∀(B:HJ->HJ->Ir) (sm:Ir),(ab (eY B sm bs.length u.length)).length<=100000:=λB sm=>by
   unfold ab eY;have:=gq (P:=λi=>(Ic u.length).all λp=>!B i p) (n:=bs.length)
   have h2:(if sm=true then[(-1:HY)]else[]).length<=1:=by cases sm <;> decide
   rw[HF,HM]; omega
  have al:∀(i j:HJ) (B:HJ->HJ->Ir) (sm:Ir) (S:aa) (Q:QW),S[i]?=gV (.lst (ab (eY B sm bs.length u.length)))->S[j]?=gV (.lst (ab (eY B sm bs.length u.length)))->(∀S',Ka S S'->Q (.bl true,S'))->wO (be (ar defs fuel (d+8)) "_law_alike" 2 [.ref i,.ref j] S) Q:=λi j B sm S Q h1 h2 h=>uW (n:=0) (d:=d+6) L.alike h1 h2 (len B sm) Bf h
  refine aR λK hK=>?_
  dsimp only[wS,wE,wA,wV,wG,HV];refine fl ((bX bs gs).map dc) kvs q _ _ _ e6 h3.get m2 λl8 S7 e8 _ _=>hK _ _ ?_
  clear hK K;refine aR λK hK=>?_
  dsimp only[wS,wE,wA,wV,wG,HV];refine ff gs one other _ _ hgs h64 g1 g2 λl9 S8 e9 hl9 k8=>hK _ _ ?_
  clear hK K;have n89:l9≠l8:=by have:=db e8; omega
  have e8:=k8.get _ _ e8;refine aR λK hK=>?_
  dsimp only[wS,wT,wE,wA,wV,wG];refine al l9 l8 _ _ _ _ e9 e8 λS9 k9=>?_
  refine ac (show eA S9 (.bl true)=gV true from rfl) ?_
  refine aq (Q0:=Q') (λz=>by cases z) (λ_ Q2 hn2 _=>b7 (hn2 _ _ (hK _ _ ?_)))
  clear hn2 hK K;have e9:=k9.get _ _ e9;have e8:=k9.get _ _ e8;refine st ?_;dsimp only[wS,wE,wA,wV,wG];refine⟨dZ e9,Bd e9 ?_⟩;have e8:(S9.set l9 (.lst []))[l8]?=_:=(cj n89).trans e8;generalize S9.set l9 (.lst [])=S10 at e8;clear e9 k8 k9 hl9 n89;refine aR λK hK=>?_
  dsimp only[wS,wE,wA,wP,wV,wG,wN,HV];refine ac (show mE (.tup [.tup (ms.map W.str),.tup (Ii bn ns bs),.tup (gs.map aI)]) td (gV 2) S10=gV (.tup [.tup (ms.map W.str),.tup (Ii bn ns bs)],S10)from rfl) ?_
  dsimp only;refine aj (by decide) rfl ?_
  refine ac (show mE (.tup (gs.map aI)) td (gV (-1)) S10=gV (.tup (gs.dropLast.map aI),S10) by simp only[mE,qr,NW]) ?_
  dsimp only;refine ac (dB (gp (Ln rfl))) (hK _ _ ?_);clear hK K;dsimp only[List.cons_append,Oo];have hgs':∀g∈gs.dropLast,GoodW a bs.length g/\g.length=3:=λg hg=>hgs g (MY _ hg)
  have h64':gs.dropLast.length<=100:=by rw[Ks]; omega
  refine aR λK hK=>?_
  dsimp only[wS,wT,wE,wA,wV,wG];refine ff gs.dropLast one other _ _ hgs' h64' g1 g2 λl11 S11 e11 _ k11=>?_
  refine BR (d:=d+5) G L.bad hb hnl hgs' h64' λq' kvs' S12 e12 h12 _ k12=>?_
  refine fl ((bX bs gs.dropLast).map dc) kvs' q' _ _ _ e12 h12.get (yr (λt ht=>?_) m2) λl13 S13 e13 _ k13=>?_
  ·rw[h3.get,Mn]at ht;rw[h12.get,Mn];intro z;obtain⟨x,hx,rfl⟩:=Iq.mp z;refine ht (Iq.mpr ⟨x,?_,rfl⟩);unfold bX at hx ⊢;obtain⟨g,hg,hh⟩:=J7.mp hx;exact J7.mpr ⟨g,MY _ hg,hh⟩
  refine al l11 l13 _ _ _ _ (k13.get _ _ (k12.get _ _ e11)) e13 λS14 k14=>?_
  refine ac (show eA S14 (.bl true)=gV true from rfl) ?_
  refine aq (Q0:=Q') (λz=>by cases z) (λ_ Q2 hn2 _=>b7 (hn2 _ _ (hK _ _ ?_)))
  clear hn2 hK K;have e8:=k14.get _ _ (k13.get _ _ (k12.get _ _ (k11.get _ _ e8)));clear k11 k12 k13 k14 e11 e12 e13 hgs' h64' h12;refine aR λK hK=>?_
  dsimp only[wS,wT,wE,wA,wV,wG];refine ff gs other one _ _ hgs h64 g2 g1 λl15 S15 e15 _ k15=>?_
  have e8:=k15.get _ _ e8;refine yq (d:=d+7) L.turned hb hnl e8 λl16 S16 e16 _ k16=>?_
  refine al l15 l16 _ _ _ _ (k16.get _ _ e15) (by rw[vd hb hgs]; exact e16) λS17 k17=>?_
  refine ac (show eA S17 (.bl true)=gV true from rfl) ?_
  refine aq (Q0:=Q') (λz=>by cases z) (λ_ Q2 hn2 _=>b7 (hn2 _ _ (hK _ _ ?_)))
  clear hn2 hK K;have e8:=k17.get _ _ (k16.get _ _ e8);clear k15 k16 k17 e15 e16;refine st ?_;dsimp only[wS,wE,wA,wV,wG,wN];refine ff gs one other _ _ hgs h64 g1 g2 λl18 S18 e18 _ k18=>ac (DD e18 (k18.get _ _ e8)) ?_
  dsimp only[wB];rw[JO rfl];refine⟨λ_=>?_,λz=>by cases z⟩
  refine ff gs one one _ _ hgs h64 g1 g1 λl19 S19 e19 _ _=>?_
  unfold eY ab at e19;rw[Bg,Iv rfl,Iw]at e19;refine ac (yt e19) (ac gL (hR _ _ ?_));rfl
 dsimp only[wS,wT,wE,wA,wV,wG];refine bo (d:=d+7) G.pick f4 (by decide) (by decide) λv2 S5 _ _ f5 k5=>?_
 have e5:=k5.get _ _ hqr e4;obtain⟨n,rfl⟩ : ∃n:HJ,v=n:=⟨v.toNat,by omega⟩
 dsimp only[gL,aN,wB];refine aq (Q0:=Q') (λ_ Q2 hn2 _=>?_) (λ_ Q2 hn2 _=>b7 (hn2 _ _ (tl n S5 (by omega) e5 f5)))
 refine st ?_;dsimp only[wS,wE,wA,wV,wG,HV];refine bo (d:=d+7) G.pick f5 (by decide) (by decide) λv3 S6 u0 u1 f6 k6=>?_
 obtain⟨n3,rfl⟩ : ∃n:HJ,v3=n:=⟨v3.toNat,by omega⟩
 exact b7 (hn2 _ _ (tl n3 S6 (by omega) (k6.get _ _ hqr e5) f6))
end
noncomputable def ah (i:HJ):Kt:=PySem.Challenge.pw_layworld_k23_fillings.main.body.getD i (.Pass ⟨0,0,0,0⟩)
noncomputable def g6:Df:=⟨["rule","world","i","j"],["rule","world","i","j"],tQ⟩
noncomputable def fj:Df:=⟨["rule","world","points"],["rule","world","points"],jk⟩
noncomputable def bq:Df:=⟨["rule","world","ahead","point"],["rule","world","ahead","point"],ee⟩
noncomputable def aS:Df:=⟨["orders","size"],["orders","size","longer","order"],bZ⟩
noncomputable def fm:Df:=⟨["rule","way"],["rule","way"],jm⟩
noncomputable def aT:Df:=⟨["rule"],["rule","orders","barred","figure","order"],cy⟩
noncomputable def cb:Df:=⟨["world","i","j","k"],["world","i","j","k","one","two"],dD⟩
noncomputable def bK:Df:=⟨["barred","world"],["barred","world","last","point"],dO⟩
noncomputable def ce:Df:=⟨["rule","base","one","other"],["rule","base","one","other","bars","found"],fK⟩
noncomputable def bL:Df:=⟨["rule","base","one","other"],["rule","base","one","other"],eX⟩
noncomputable def cf:Df:=⟨["rule","barred","base","one","other"],["rule","barred","base","one","other","bars"],fL⟩
noncomputable def bM:Df:=⟨["rule","base","one","other","number"],["rule","base","one","other","number"],dQ⟩
noncomputable def cg:Df:=⟨["one","other"],["one","other","apart"],eL⟩
noncomputable def bN:Df:=⟨["_law_script"],["_law_script"],eG⟩
noncomputable def bO:Df:=⟨["_law_flow_here","_law_many"],["_law_flow_here","_law_many","_law_cell","_law_digit"],c7⟩
noncomputable def br:Df:=⟨["_law_flow_here","_law_many"],["_law_flow_here","_law_many"],eU⟩
noncomputable def aZ:Df:=⟨["_law_rule","_law_world_here","_law_i","_law_j"],["_law_rule","_law_world_here","_law_i","_law_j"],dH⟩
noncomputable def bP:Df:=⟨["_law_rule","_law_world_here","_law_points"],["_law_rule","_law_world_here","_law_points","_law_told","_law_k","_law_i"],fG⟩
noncomputable def bu:Df:=⟨[],[],gf⟩
noncomputable def bf:Df:=⟨["_law_rule","_law_three"],["_law_rule","_law_three"],d7⟩
noncomputable def ci:Df:=⟨["_law_rule"],["_law_rule","_law_bad_here","_law_three","_law_points"],fA⟩
noncomputable def aU:Df:=⟨["_law_rule","_law_bad_here","_law_world_here","_law_k"],["_law_rule","_law_bad_here","_law_world_here","_law_k","_law_mark","_law_to","_law_j","_law_i"],cr⟩
noncomputable def bv:Df:=⟨["_law_flow_here","_law_many"],["_law_flow_here","_law_many","_law_menu"],eS⟩
noncomputable def ba:Df:=⟨["_law_flow_here","_law_marks","_law_backs_here","_law_barred"],["_law_flow_here","_law_marks","_law_backs_here","_law_barred","_law_names_here","_law_ways"],dI⟩
noncomputable def aJ:Df:=⟨["_law_flow_here","_law_marks","_law_ways"],["_law_flow_here","_law_marks","_law_ways","_law_told","_law_k"],cK⟩
noncomputable def bw:Df:=⟨["_law_flow_here"],["_law_flow_here","_law_menu"],eT⟩
noncomputable def aV:Df:=⟨["_law_flow_here"],["_law_flow_here","_law_marks","_law_ways","_law_rule","_law_barred","_law_k"],dj⟩
noncomputable def aF:Df:=⟨["_law_flow_here"],["_law_flow_here","_law_menu"],cF⟩
noncomputable def bg:Df:=⟨["_law_backs_here","_law_must","_law_to_one","_law_to_two","_law_between_here"],["_law_backs_here","_law_must","_law_to_one","_law_to_two","_law_between_here","_law_to","_law_pair_here","_law_x","_law_y","_law_z"],d8⟩
noncomputable def aW:Df:=⟨["_law_flow_here","_law_backs_here","_law_must"],["_law_flow_here","_law_backs_here","_law_must","_law_many","_law_menu","_law_some","_law_numbers","_law_told","_law_k","_law_other","_law_u","_law_v"],bV⟩
noncomputable def aG:Df:=⟨["_law_flow_here"],["_law_flow_here","_law_form","_law_backs_here","_law_must","_law_most","_law_marks","_law_rule","_law_barred","_law_many","_law_at","_law_one","_law_two","_law_between_here","_law_some","_law_first"],cG⟩
noncomputable def bh:Df:=⟨["_law_marks"],["_law_marks","_law_told","_law_i","_law_j"],ec⟩
noncomputable def aO:Df:=⟨["_law_flow_here"],["_law_flow_here","_law_marks","_law_ways","_law_rule","_law_k","_law_own","_law_free","_law_barred","_law_three"],cW⟩
noncomputable def aB:Df:=⟨["_law_flow_here"],["_law_flow_here","_law_marks","_law_barred"],cx⟩
noncomputable def aA:Df:=⟨["_law_flow_here"],["_law_flow_here","_law_form","_law_rule","_law_barred","_law_some","_law_one","_law_two","_law_between_here","_law_first","_law_marks"],bG⟩
noncomputable def aX:Df:=⟨["_law_flow_here","_law_rule","_law_bad_here","_law_world_here","_law_mark","_law_to"],["_law_flow_here","_law_rule","_law_bad_here","_law_world_here","_law_mark","_law_to","_law_k","_law_left","_law_w","_law_seen","_law_i"],bm⟩
noncomputable def bx:Df:=⟨["_law_flow_here","_law_rule","_law_bad_here","_law_many"],["_law_flow_here","_law_rule","_law_bad_here","_law_many","_law_world_here","_law_k","_law_mark","_law_to"],dN⟩
noncomputable def bz:Df:=⟨["_law_found","_law_due"],["_law_found","_law_due"],bJ⟩
noncomputable def aP:Df:=⟨["_law_flow_here"],["_law_flow_here","_law_form"],cX⟩
noncomputable def aQ:Df:=⟨["_law_flow_here","_law_rule","_law_bad_here","_law_base"],["_law_flow_here","_law_rule","_law_bad_here","_law_base","_law_first","_law_k","_law_mark","_law_to"],cY⟩
noncomputable def bQ:Df:=⟨["_law_flow_here","_law_rule","_law_bad_here","_law_base","_law_point"],["_law_flow_here","_law_rule","_law_bad_here","_law_base","_law_point","_law_mark","_law_to","_law_kind","_law_at"],fM⟩
noncomputable def bR:Df:=⟨["_law_flow_here","_law_rule","_law_bad_here","_law_many"],["_law_flow_here","_law_rule","_law_bad_here","_law_many","_law_base","_law_one","_law_other"],fN⟩
noncomputable def bS:Df:=⟨["_law_rule","_law_base","_law_one","_law_other","_law_number"],["_law_rule","_law_base","_law_one","_law_other","_law_number"],dE⟩
noncomputable def bA:Df:=⟨["_law_rule","_law_bad_here","_law_base","_law_one","_law_other"],["_law_rule","_law_bad_here","_law_base","_law_one","_law_other","_law_found","_law_number"],dR⟩
noncomputable def aC:Df:=⟨["_law_rule","_law_found"],["_law_rule","_law_found","_law_turned_ways"],bW⟩
noncomputable def g7:Df:=⟨["_law_script"],["_law_script","_law_flow_here","_law_rule","_law_bad_here","_law_many","_law_base","_law_one","_law_other","_law_due","_law_found","_law_looser"],kh⟩
noncomputable def jP:HC (Ih×Df):=[(("way" : Ih),g6),(("part" : Ih),fj),(("point_over" : Ih),bq),(("longer_orders" : Ih),aS),(("back" : Ih),fm),(("barred_threes" : Ih),aT),(("three_at" : Ih),cb),(("first_bar" : Ih),bK),(("fillings" : Ih),ce),(("barred_by" : Ih),bL),(("all_bars" : Ih),cf),(("with_both" : Ih),bM),(("same_bar" : Ih),cg),(("_law_flow" : Ih),bN),(("_law_pick" : Ih),bO),(("_law_names" : Ih),br),(("_law_between" : Ih),aZ),(("_law_part" : Ih),bP),(("_law_turns" : Ih),bu),(("_law_figure" : Ih),bf),(("_law_bad" : Ih),ci),(("_law_last_may" : Ih),aU),(("_law_backs" : Ih),bv),(("_law_rule_of" : Ih),ba),(("_law_free_three" : Ih),aJ),(("_law_sizes" : Ih),bw),(("_law_any_rule" : Ih),aV),(("_law_laying_kind" : Ih),aF),(("_law_breaks" : Ih),bg),(("_law_numbered" : Ih),aW),(("_law_laying_rule" : Ih),aG),(("_law_rising" : Ih),bh),(("_law_free_rule" : Ih),aO),(("_law_one_way_rule" : Ih),aB),(("_law_unlaying_rule" : Ih),aA),(("_law_new_ways" : Ih),aX),(("_law_world" : Ih),bx),(("_law_alike" : Ih),bz),(("_law_some_rule" : Ih),aP),(("_law_new_point" : Ih),aQ),(("_law_near" : Ih),bQ),(("_law_pair" : Ih),bR),(("_law_both" : Ih),bS),(("_law_fills" : Ih),bA),(("_law_turned_fills" : Ih),aC),(("law" : Ih),g7)]
noncomputable def Bh:HC (Ih×HJ):=[(("way" : Ih),4),(("part" : Ih),3),(("point_over" : Ih),4),(("longer_orders" : Ih),2),(("back" : Ih),2),(("barred_threes" : Ih),1),(("three_at" : Ih),4),(("first_bar" : Ih),2),(("fillings" : Ih),4),(("barred_by" : Ih),4),(("all_bars" : Ih),5),(("with_both" : Ih),5),(("same_bar" : Ih),2),(("_law_flow" : Ih),1),(("_law_pick" : Ih),2),(("_law_names" : Ih),2),(("_law_between" : Ih),4),(("_law_part" : Ih),3),(("_law_turns" : Ih),0),(("_law_figure" : Ih),2),(("_law_bad" : Ih),1),(("_law_last_may" : Ih),4),(("_law_backs" : Ih),2),(("_law_rule_of" : Ih),4),(("_law_free_three" : Ih),3),(("_law_sizes" : Ih),1),(("_law_any_rule" : Ih),1),(("_law_laying_kind" : Ih),1),(("_law_breaks" : Ih),5),(("_law_numbered" : Ih),3),(("_law_laying_rule" : Ih),1),(("_law_rising" : Ih),1),(("_law_free_rule" : Ih),1),(("_law_one_way_rule" : Ih),1),(("_law_unlaying_rule" : Ih),1),(("_law_new_ways" : Ih),6),(("_law_world" : Ih),4),(("_law_alike" : Ih),2),(("_law_some_rule" : Ih),1),(("_law_new_point" : Ih),4),(("_law_near" : Ih),5),(("_law_pair" : Ih),4),(("_law_both" : Ih),5),(("_law_fills" : Ih),5),(("_law_turned_fills" : Ih),2),(("law" : Ih),1)]
noncomputable def DL:HC Ih:=["range","len","list","tuple","int","sorted","isinstance","bool","str","all","min","enumerate"]
noncomputable def dS:Md:=⟨Bh,DL⟩
theorem DM:bH dS (ah 1) g6:=by rfl
theorem DN:FnScope g6.N g6.ps (ag (ah 1)):=⟨rfl,rfl,rfl,by decide +kernel,rfl,by decide +kernel,by decide +kernel⟩
theorem Bj:bH dS (ah 3) fj:=by rfl
theorem Bk:FnScope fj.N fj.ps (ag (ah 3)):=⟨rfl,rfl,rfl,by decide +kernel,rfl,by decide +kernel,by decide +kernel⟩
theorem lL:bH dS (ah 4) bq:=by rfl
theorem lM:FnScope bq.N bq.ps (ag (ah 4)):=⟨rfl,rfl,rfl,by decide +kernel,rfl,by decide +kernel,by decide +kernel⟩
theorem jn:bH dS (ah 5) aS:=by rfl
theorem jo:FnScope aS.N aS.ps (ag (ah 5)):=⟨rfl,rfl,rfl,by decide +kernel,rfl,by decide +kernel,by decide +kernel⟩
theorem Bl:bH dS (ah 7) fm:=by rfl
theorem Bm:FnScope fm.N fm.ps (ag (ah 7)):=⟨rfl,rfl,rfl,by decide +kernel,rfl,by decide +kernel,by decide +kernel⟩
theorem jp:bH dS (ah 9) aT:=by rfl
theorem jq:FnScope aT.N aT.ps (ag (ah 9)):=⟨rfl,rfl,rfl,by decide +kernel,rfl,by decide +kernel,by decide +kernel⟩
theorem qE:bH dS (ah 10) cb:=by rfl
theorem qF:FnScope cb.N cb.ps (ag (ah 10)):=⟨rfl,rfl,rfl,by decide +kernel,rfl,by decide +kernel,by decide +kernel⟩
theorem oz:bH dS (ah 11) bK:=by rfl
theorem oA:FnScope bK.N bK.ps (ag (ah 11)):=⟨rfl,rfl,rfl,by decide +kernel,rfl,by decide +kernel,by decide +kernel⟩
theorem qG:bH dS (ah 13) ce:=by rfl
theorem qH:FnScope ce.N ce.ps (ag (ah 13)):=⟨rfl,rfl,rfl,by decide +kernel,rfl,by decide +kernel,by decide +kernel⟩
theorem oB:bH dS (ah 14) bL:=by rfl
theorem oD:FnScope bL.N bL.ps (ag (ah 14)):=⟨rfl,rfl,rfl,by decide +kernel,rfl,by decide +kernel,by decide +kernel⟩
theorem qI:bH dS (ah 15) cf:=by rfl
theorem qJ:FnScope cf.N cf.ps (ag (ah 15)):=⟨rfl,rfl,rfl,by decide +kernel,rfl,by decide +kernel,by decide +kernel⟩
theorem oE:bH dS (ah 16) bM:=by rfl
theorem oF:FnScope bM.N bM.ps (ag (ah 16)):=⟨rfl,rfl,rfl,by decide +kernel,rfl,by decide +kernel,by decide +kernel⟩
theorem qK:bH dS (ah 17) cg:=by rfl
theorem qL:FnScope cg.N cg.ps (ag (ah 17)):=⟨rfl,rfl,rfl,by decide +kernel,rfl,by decide +kernel,by decide +kernel⟩
theorem oG:bH dS (ah 19) bN:=by rfl
theorem oH:FnScope bN.N bN.ps (ag (ah 19)):=⟨rfl,rfl,rfl,by decide +kernel,rfl,by decide +kernel,by decide +kernel⟩
theorem oI:bH dS (ah 20) bO:=by rfl
theorem oJ:FnScope bO.N bO.ps (ag (ah 20)):=⟨rfl,rfl,rfl,by decide +kernel,rfl,by decide +kernel,by decide +kernel⟩
theorem lN:bH dS (ah 21) br:=by rfl
theorem lO:FnScope br.N br.ps (ag (ah 21)):=⟨rfl,rfl,rfl,by decide +kernel,rfl,by decide +kernel,by decide +kernel⟩
theorem jV:bH dS (ah 22) aZ:=by rfl
theorem jW:FnScope aZ.N aZ.ps (ag (ah 22)):=⟨rfl,rfl,rfl,by decide +kernel,rfl,by decide +kernel,by decide +kernel⟩
theorem oK:bH dS (ah 23) bP:=by rfl
theorem oM:FnScope bP.N bP.ps (ag (ah 23)):=⟨rfl,rfl,rfl,by decide +kernel,rfl,by decide +kernel,by decide +kernel⟩
theorem lP:bH dS (ah 24) bu:=by rfl
theorem lQ:FnScope bu.N bu.ps (ag (ah 24)):=⟨rfl,rfl,rfl,by decide +kernel,rfl,by decide +kernel,by decide +kernel⟩
theorem lu:bH dS (ah 25) bf:=by rfl
theorem lv:FnScope bf.N bf.ps (ag (ah 25)):=⟨rfl,rfl,rfl,by decide +kernel,rfl,by decide +kernel,by decide +kernel⟩
theorem qM:bH dS (ah 26) ci:=by rfl
theorem qN:FnScope ci.N ci.ps (ag (ah 26)):=⟨rfl,rfl,rfl,by decide +kernel,rfl,by decide +kernel,by decide +kernel⟩
theorem jr:bH dS (ah 27) aU:=by rfl
theorem js:FnScope aU.N aU.ps (ag (ah 27)):=⟨rfl,rfl,rfl,by decide +kernel,rfl,by decide +kernel,by decide +kernel⟩
theorem lR:bH dS (ah 28) bv:=by rfl
theorem lS:FnScope bv.N bv.ps (ag (ah 28)):=⟨rfl,rfl,rfl,by decide +kernel,rfl,by decide +kernel,by decide +kernel⟩
theorem jX:bH dS (ah 29) ba:=by rfl
theorem jY:FnScope ba.N ba.ps (ag (ah 29)):=⟨rfl,rfl,rfl,by decide +kernel,rfl,by decide +kernel,by decide +kernel⟩
theorem ii:bH dS (ah 30) aJ:=by rfl
theorem ij:FnScope aJ.N aJ.ps (ag (ah 30)):=⟨rfl,rfl,rfl,by decide +kernel,rfl,by decide +kernel,by decide +kernel⟩
theorem lT:bH dS (ah 31) bw:=by rfl
theorem lU:FnScope bw.N bw.ps (ag (ah 31)):=⟨rfl,rfl,rfl,by decide +kernel,rfl,by decide +kernel,by decide +kernel⟩
theorem jt:bH dS (ah 32) aV:=by rfl
theorem ju:FnScope aV.N aV.ps (ag (ah 32)):=⟨rfl,rfl,rfl,by decide +kernel,rfl,by decide +kernel,by decide +kernel⟩
theorem gN:bH dS (ah 33) aF:=by rfl
theorem gO:FnScope aF.N aF.ps (ag (ah 33)):=⟨rfl,rfl,rfl,by decide +kernel,rfl,by decide +kernel,by decide +kernel⟩
theorem lx:bH dS (ah 34) bg:=by rfl
theorem ly:FnScope bg.N bg.ps (ag (ah 34)):=⟨rfl,rfl,rfl,by decide +kernel,rfl,by decide +kernel,by decide +kernel⟩
theorem jv:bH dS (ah 35) aW:=by rfl
theorem jw:FnScope aW.N aW.ps (ag (ah 35)):=⟨rfl,rfl,rfl,by decide +kernel,rfl,by decide +kernel,by decide +kernel⟩
theorem gP:bH dS (ah 36) aG:=by rfl
theorem gQ:FnScope aG.N aG.ps (ag (ah 36)):=⟨rfl,rfl,rfl,by decide +kernel,rfl,by decide +kernel,by decide +kernel⟩
theorem lz:bH dS (ah 37) bh:=by rfl
theorem lA:FnScope bh.N bh.ps (ag (ah 37)):=⟨rfl,rfl,rfl,by decide +kernel,rfl,by decide +kernel,by decide +kernel⟩
theorem iP:bH dS (ah 38) aO:=by rfl
theorem iQ:FnScope aO.N aO.ps (ag (ah 38)):=⟨rfl,rfl,rfl,by decide +kernel,rfl,by decide +kernel,by decide +kernel⟩
theorem gr:bH dS (ah 39) aB:=by rfl
theorem gv:FnScope aB.N aB.ps (ag (ah 39)):=⟨rfl,rfl,rfl,by decide +kernel,rfl,by decide +kernel,by decide +kernel⟩
theorem fT:bH dS (ah 40) aA:=by rfl
theorem fU:FnScope aA.N aA.ps (ag (ah 40)):=⟨rfl,rfl,rfl,by decide +kernel,rfl,by decide +kernel,by decide +kernel⟩
theorem jx:bH dS (ah 41) aX:=by rfl
theorem jy:FnScope aX.N aX.ps (ag (ah 41)):=⟨rfl,rfl,rfl,by decide +kernel,rfl,by decide +kernel,by decide +kernel⟩
theorem lV:bH dS (ah 42) bx:=by rfl
theorem lW:FnScope bx.N bx.ps (ag (ah 42)):=⟨rfl,rfl,rfl,by decide +kernel,rfl,by decide +kernel,by decide +kernel⟩
theorem lX:bH dS (ah 43) bz:=by rfl
theorem lY:FnScope bz.N bz.ps (ag (ah 43)):=⟨rfl,rfl,rfl,by decide +kernel,rfl,by decide +kernel,by decide +kernel⟩
theorem iR:bH dS (ah 44) aP:=by rfl
theorem iS:FnScope aP.N aP.ps (ag (ah 44)):=⟨rfl,rfl,rfl,by decide +kernel,rfl,by decide +kernel,by decide +kernel⟩
theorem iT:bH dS (ah 45) aQ:=by rfl
theorem iU:FnScope aQ.N aQ.ps (ag (ah 45)):=⟨rfl,rfl,rfl,by decide +kernel,rfl,by decide +kernel,by decide +kernel⟩
theorem oN:bH dS (ah 46) bQ:=by rfl
theorem oO:FnScope bQ.N bQ.ps (ag (ah 46)):=⟨rfl,rfl,rfl,by decide +kernel,rfl,by decide +kernel,by decide +kernel⟩
theorem oP:bH dS (ah 47) bR:=by rfl
theorem oQ:FnScope bR.N bR.ps (ag (ah 47)):=⟨rfl,rfl,rfl,by decide +kernel,rfl,by decide +kernel,by decide +kernel⟩
theorem oR:bH dS (ah 48) bS:=by rfl
theorem oS:FnScope bS.N bS.ps (ag (ah 48)):=⟨rfl,rfl,rfl,by decide +kernel,rfl,by decide +kernel,by decide +kernel⟩
theorem lZ:bH dS (ah 49) bA:=by rfl
theorem l4:FnScope bA.N bA.ps (ag (ah 49)):=⟨rfl,rfl,rfl,by decide +kernel,rfl,by decide +kernel,by decide +kernel⟩
theorem gw:bH dS (ah 50) aC:=by rfl
theorem gx:FnScope aC.N aC.ps (ag (ah 50)):=⟨rfl,rfl,rfl,by decide +kernel,rfl,by decide +kernel,by decide +kernel⟩
theorem yv:bH dS (ah 51) g7:=by rfl
theorem yw:FnScope g7.N g7.ps (ag (ah 51)):=⟨rfl,rfl,rfl,by decide +kernel,rfl,by decide +kernel,by decide +kernel⟩
theorem am {α:Type}{x y:Ih}{n m:α}{L:HC (Ih×α)}(h:((y,m)::L).lookup x=gV n):(x=y/\n=m)\/L.lookup x=gV n:=by
 rw[JM]at h;split at h
 ·rename_i e;cases h;exact .inl ⟨eq_of_beq e,rfl⟩
 ·exact .inr h
theorem FP:Lw23 jP:=⟨⟨⟨bO,rfl,rfl,rfl,rfl⟩,⟨br,rfl,rfl,rfl,rfl⟩,⟨aZ,rfl,rfl,rfl,rfl⟩,⟨bP,rfl,rfl,rfl,rfl⟩,⟨bu,rfl,rfl,rfl,rfl⟩,⟨bf,rfl,rfl,rfl,rfl⟩,⟨bv,rfl,rfl,rfl,rfl⟩,⟨ba,rfl,rfl,rfl,rfl⟩,⟨aJ,rfl,rfl,rfl,rfl⟩,⟨bw,rfl,rfl,rfl,rfl⟩,⟨aV,rfl,rfl,rfl,rfl⟩,⟨aF,rfl,rfl,rfl,rfl⟩,⟨bg,rfl,rfl,rfl,rfl⟩,⟨aW,rfl,rfl,rfl,rfl⟩,⟨aG,rfl,rfl,rfl,rfl⟩,⟨bh,rfl,rfl,rfl,rfl⟩,⟨aO,rfl,rfl,rfl,rfl⟩,⟨aB,rfl,rfl,rfl,rfl⟩⟩,⟨⟨⟨g6,rfl,rfl,rfl,rfl⟩,⟨bq,rfl,rfl,rfl,rfl⟩⟩,⟨fj,rfl,rfl,rfl,rfl⟩,⟨aS,rfl,rfl,rfl,rfl⟩,⟨aT,rfl,rfl,rfl,rfl⟩,⟨cb,rfl,rfl,rfl,rfl⟩,⟨bK,rfl,rfl,rfl,rfl⟩,⟨fm,rfl,rfl,rfl,rfl⟩,⟨bM,rfl,rfl,rfl,rfl⟩,⟨cg,rfl,rfl,rfl,rfl⟩,⟨cf,rfl,rfl,rfl,rfl⟩,⟨bL,rfl,rfl,rfl,rfl⟩,⟨ce,rfl,rfl,rfl,rfl⟩⟩,⟨⟨aA,rfl,rfl,rfl,rfl⟩,⟨aP,rfl,rfl,rfl,rfl⟩,⟨aX,rfl,rfl,rfl,rfl⟩,⟨bx,rfl,rfl,rfl,rfl⟩,⟨aU,rfl,rfl,rfl,rfl⟩,⟨aQ,rfl,rfl,rfl,rfl⟩,⟨bQ,rfl,rfl,rfl,rfl⟩,⟨bR,rfl,rfl,rfl,rfl⟩⟩,⟨bN,rfl,rfl,rfl,rfl⟩,⟨ci,rfl,rfl,rfl,rfl⟩,⟨bz,rfl,rfl,rfl,rfl⟩,⟨bS,rfl,rfl,rfl,rfl⟩,⟨bA,rfl,rfl,rfl,rfl⟩,⟨aC,rfl,rfl,rfl,rfl⟩,⟨g7,rfl,rfl,rfl,rfl⟩⟩
noncomputable def BD (x:Ih)(st:Kt)(df:Df):Prop:=∀(kV doc pm:HE) (an:HI HN) (cdv ct:HE) (us:HC HE),us.length=df.ps.length->bindArgs (JT x x (d4 st) (de st) (ag st) .none kV doc pm an cdv ct) ⟨us,[]⟩=pure (df.ps.zip us)
theorem Hz {us:HC HE}(h:us.length=0):us=[]:=match us,h with|[],_=>rfl
theorem vf {us:HC HE}(h:us.length=1):∃a,us=[a]:=match us,h with|[a],_=>⟨a,rfl⟩
theorem yF {us:HC HE}(h:us.length=2):∃a b,us=[a,b]:=match us,h with|[a,b],_=>⟨a,b,rfl⟩
theorem F5 {us:HC HE}(h:us.length=3):∃a b c,us=[a,b,c]:=match us,h with|[a,b,c],_=>⟨a,b,c,rfl⟩
theorem yy {us:HC HE}(h:us.length=4):∃a b c d,us=[a,b,c,d]:=match us,h with|[a,b,c,d],_=>⟨a,b,c,d,rfl⟩
theorem DX {us:HC HE}(h:us.length=5):∃a b c d e,us=[a,b,c,d,e]:=match us,h with|[a,b,c,d,e],_=>⟨a,b,c,d,e,rfl⟩
theorem HA {us:HC HE}(h:us.length=6):∃a b c d e f,us=[a,b,c,d,e,f]:=match us,h with|[a,b,c,d,e,f],_=>⟨a,b,c,d,e,f,rfl⟩
theorem DO:BD "way" (ah 1) g6:=λ_ _ _ _ _ _ us h=>by
 obtain⟨x0,x1,x2,x3,rfl⟩:=yy h;rfl
theorem Bn:BD "part" (ah 3) fj:=λ_ _ _ _ _ _ us h=>by
 obtain⟨x0,x1,x2,rfl⟩:=F5 h;rfl
theorem l5:BD "point_over" (ah 4) bq:=λ_ _ _ _ _ _ us h=>by
 obtain⟨x0,x1,x2,x3,rfl⟩:=yy h;rfl
theorem jz:BD "longer_orders" (ah 5) aS:=λ_ _ _ _ _ _ us h=>by
 obtain⟨x0,x1,rfl⟩:=yF h;rfl
theorem Bo:BD "back" (ah 7) fm:=λ_ _ _ _ _ _ us h=>by
 obtain⟨x0,x1,rfl⟩:=yF h;rfl
theorem jA:BD "barred_threes" (ah 9) aT:=λ_ _ _ _ _ _ us h=>by
 obtain⟨x0,rfl⟩:=vf h;rfl
theorem qO:BD "three_at" (ah 10) cb:=λ_ _ _ _ _ _ us h=>by
 obtain⟨x0,x1,x2,x3,rfl⟩:=yy h;rfl
theorem oT:BD "first_bar" (ah 11) bK:=λ_ _ _ _ _ _ us h=>by
 obtain⟨x0,x1,rfl⟩:=yF h;rfl
theorem qP:BD "fillings" (ah 13) ce:=λ_ _ _ _ _ _ us h=>by
 obtain⟨x0,x1,x2,x3,rfl⟩:=yy h;rfl
theorem oU:BD "barred_by" (ah 14) bL:=λ_ _ _ _ _ _ us h=>by
 obtain⟨x0,x1,x2,x3,rfl⟩:=yy h;rfl
theorem qQ:BD "all_bars" (ah 15) cf:=λ_ _ _ _ _ _ us h=>by
 obtain⟨x0,x1,x2,x3,x4,rfl⟩:=DX h;rfl
theorem oV:BD "with_both" (ah 16) bM:=λ_ _ _ _ _ _ us h=>by
 obtain⟨x0,x1,x2,x3,x4,rfl⟩:=DX h;rfl
theorem qR:BD "same_bar" (ah 17) cg:=λ_ _ _ _ _ _ us h=>by
 obtain⟨x0,x1,rfl⟩:=yF h;rfl
theorem oW:BD "_law_flow" (ah 19) bN:=λ_ _ _ _ _ _ us h=>by
 obtain⟨x0,rfl⟩:=vf h;rfl
theorem oX:BD "_law_pick" (ah 20) bO:=λ_ _ _ _ _ _ us h=>by
 obtain⟨x0,x1,rfl⟩:=yF h;rfl
theorem l7:BD "_law_names" (ah 21) br:=λ_ _ _ _ _ _ us h=>by
 obtain⟨x0,x1,rfl⟩:=yF h;rfl
theorem jZ:BD "_law_between" (ah 22) aZ:=λ_ _ _ _ _ _ us h=>by
 obtain⟨x0,x1,x2,x3,rfl⟩:=yy h;rfl
theorem oY:BD "_law_part" (ah 23) bP:=λ_ _ _ _ _ _ us h=>by
 obtain⟨x0,x1,x2,rfl⟩:=F5 h;rfl
theorem ma:BD "_law_turns" (ah 24) bu:=λ_ _ _ _ _ _ us h=>by
 obtain rfl:=Hz h;rfl
theorem lB:BD "_law_figure" (ah 25) bf:=λ_ _ _ _ _ _ us h=>by
 obtain⟨x0,x1,rfl⟩:=yF h;rfl
theorem qS:BD "_law_bad" (ah 26) ci:=λ_ _ _ _ _ _ us h=>by
 obtain⟨x0,rfl⟩:=vf h;rfl
theorem jB:BD "_law_last_may" (ah 27) aU:=λ_ _ _ _ _ _ us h=>by
 obtain⟨x0,x1,x2,x3,rfl⟩:=yy h;rfl
theorem md:BD "_law_backs" (ah 28) bv:=λ_ _ _ _ _ _ us h=>by
 obtain⟨x0,x1,rfl⟩:=yF h;rfl
theorem j3:BD "_law_rule_of" (ah 29) ba:=λ_ _ _ _ _ _ us h=>by
 obtain⟨x0,x1,x2,x3,rfl⟩:=yy h;rfl
theorem ik:BD "_law_free_three" (ah 30) aJ:=λ_ _ _ _ _ _ us h=>by
 obtain⟨x0,x1,x2,rfl⟩:=F5 h;rfl
theorem mf:BD "_law_sizes" (ah 31) bw:=λ_ _ _ _ _ _ us h=>by
 obtain⟨x0,rfl⟩:=vf h;rfl
theorem jC:BD "_law_any_rule" (ah 32) aV:=λ_ _ _ _ _ _ us h=>by
 obtain⟨x0,rfl⟩:=vf h;rfl
theorem gR:BD "_law_laying_kind" (ah 33) aF:=λ_ _ _ _ _ _ us h=>by
 obtain⟨x0,rfl⟩:=vf h;rfl
theorem lC:BD "_law_breaks" (ah 34) bg:=λ_ _ _ _ _ _ us h=>by
 obtain⟨x0,x1,x2,x3,x4,rfl⟩:=DX h;rfl
theorem jD:BD "_law_numbered" (ah 35) aW:=λ_ _ _ _ _ _ us h=>by
 obtain⟨x0,x1,x2,rfl⟩:=F5 h;rfl
theorem gS:BD "_law_laying_rule" (ah 36) aG:=λ_ _ _ _ _ _ us h=>by
 obtain⟨x0,rfl⟩:=vf h;rfl
theorem lD:BD "_law_rising" (ah 37) bh:=λ_ _ _ _ _ _ us h=>by
 obtain⟨x0,rfl⟩:=vf h;rfl
theorem iV:BD "_law_free_rule" (ah 38) aO:=λ_ _ _ _ _ _ us h=>by
 obtain⟨x0,rfl⟩:=vf h;rfl
theorem gy:BD "_law_one_way_rule" (ah 39) aB:=λ_ _ _ _ _ _ us h=>by
 obtain⟨x0,rfl⟩:=vf h;rfl
theorem fW:BD "_law_unlaying_rule" (ah 40) aA:=λ_ _ _ _ _ _ us h=>by
 obtain⟨x0,rfl⟩:=vf h;rfl
theorem jE:BD "_law_new_ways" (ah 41) aX:=λ_ _ _ _ _ _ us h=>by
 obtain⟨x0,x1,x2,x3,x4,x5,rfl⟩:=HA h;rfl
theorem mh:BD "_law_world" (ah 42) bx:=λ_ _ _ _ _ _ us h=>by
 obtain⟨x0,x1,x2,x3,rfl⟩:=yy h;rfl
theorem mj:BD "_law_alike" (ah 43) bz:=λ_ _ _ _ _ _ us h=>by
 obtain⟨x0,x1,rfl⟩:=yF h;rfl
theorem iW:BD "_law_some_rule" (ah 44) aP:=λ_ _ _ _ _ _ us h=>by
 obtain⟨x0,rfl⟩:=vf h;rfl
theorem iX:BD "_law_new_point" (ah 45) aQ:=λ_ _ _ _ _ _ us h=>by
 obtain⟨x0,x1,x2,x3,rfl⟩:=yy h;rfl
theorem oZ:BD "_law_near" (ah 46) bQ:=λ_ _ _ _ _ _ us h=>by
 obtain⟨x0,x1,x2,x3,x4,rfl⟩:=DX h;rfl
theorem o4:BD "_law_pair" (ah 47) bR:=λ_ _ _ _ _ _ us h=>by
 obtain⟨x0,x1,x2,x3,rfl⟩:=yy h;rfl
theorem o5:BD "_law_both" (ah 48) bS:=λ_ _ _ _ _ _ us h=>by
 obtain⟨x0,x1,x2,x3,x4,rfl⟩:=DX h;rfl
theorem mn:BD "_law_fills" (ah 49) bA:=λ_ _ _ _ _ _ us h=>by
 obtain⟨x0,x1,x2,x3,x4,rfl⟩:=DX h;rfl
theorem gz:BD "_law_turned_fills" (ah 50) aC:=λ_ _ _ _ _ _ us h=>by
 obtain⟨x0,x1,rfl⟩:=yF h;rfl
theorem DP:BD "law" (ah 51) g7:=λ_ _ _ _ _ _ us h=>by
 obtain⟨x0,rfl⟩:=vf h;rfl
section
variable{P:Iz}{w:IM}{K:HS}{mg:Ih->HI HE}{base:IX}
noncomputable def ap (K:HS)(mg:Ih->HI HE)(x:Ih)(st:Kt)(df:Df):Prop:=∃(f:HN) (fd:Kb),Fun K x x st f fd/\mg x=gV (.ref f)/\Ju K (.ref f)=true/\Binds K fd df.ps []
theorem yz {h:IX}{x:Ih}{st:Kt}{df:Df}{f:HN}{oc:HE}{od an:HI HN}{osl:IW (HI HE)}{kV doc pm cdv ct:HE}(X:K.In h)(G:h.Ns mainGlobals mg)
  (b:BD x st df)
  (a:Jt K mainGlobals x=gV (gV (.ref f))) (l:K.lookup f=gV ⟨oc,od,.func (JT x x (d4 st) (de st) (ag st) .none kV doc pm an cdv ct),osl⟩) (c:KP K cdv x=true) (k:Ju K (.ref f)=true):ap K mg x st df:=
 have F:=vP (st:=st) l c k
 ⟨f,_,F,O6 X G a,k,F.binds b⟩
theorem yA {fuel:HJ}(hb:MdOk w K mg dS)(D:∀x n,Bh.lookup x=gV n->∃st df,jP.lookup x=gV df/\df.ps.length=n/\FnScope df.N df.ps (ag st)/\bH dS st df/\ap K mg x st df):∀d,BC P w K mg base dS jP fuel d
 | 0=>λf n h=>by
  obtain⟨st,df,h1,h2,h3,h4,fa,fd,F,m,kp,b⟩:=D f n h;refine⟨fa,fd,df.ps,⟨λvs H Q E z=>?_,λA outer s H args us vs Q E hr he hbd hv z=>?_⟩,m,kp,b⟩
  all_goals
   obtain⟨_,_,_,_,_,_,_,_,z,_⟩:=z;cases z
 | d+1=>λf n h=>by
  obtain⟨st,df,h1,h2,h3,h4,fa,fd,F,m,kp,b⟩:=D f n h;refine⟨fa,fd,df.ps,?_,m,kp,b⟩;rw[<- h2];exact BE F h3 h1 h4 hb (yA hb D d)
theorem FQ (D1:ap K mg "way" (ah 1) g6)(D3:ap K mg "part" (ah 3) fj)(D4:ap K mg "point_over" (ah 4) bq)(D5:ap K mg "longer_orders" (ah 5) aS)(D7:ap K mg "back" (ah 7) fm)(D9:ap K mg "barred_threes" (ah 9) aT)(D10:ap K mg "three_at" (ah 10) cb)(D11:ap K mg "first_bar" (ah 11) bK)(D13:ap K mg "fillings" (ah 13) ce)(D14:ap K mg "barred_by" (ah 14) bL)(D15:ap K mg "all_bars" (ah 15) cf)(D16:ap K mg "with_both" (ah 16) bM)(D17:ap K mg "same_bar" (ah 17) cg)(D19:ap K mg "_law_flow" (ah 19) bN)(D20:ap K mg "_law_pick" (ah 20) bO)(D21:ap K mg "_law_names" (ah 21) br)(D22:ap K mg "_law_between" (ah 22) aZ)(D23:ap K mg "_law_part" (ah 23) bP)(D24:ap K mg "_law_turns" (ah 24) bu)(D25:ap K mg "_law_figure" (ah 25) bf)(D26:ap K mg "_law_bad" (ah 26) ci)(D27:ap K mg "_law_last_may" (ah 27) aU)(D28:ap K mg "_law_backs" (ah 28) bv)(D29:ap K mg "_law_rule_of" (ah 29) ba)(D30:ap K mg "_law_free_three" (ah 30) aJ)(D31:ap K mg "_law_sizes" (ah 31) bw)(D32:ap K mg "_law_any_rule" (ah 32) aV)(D33:ap K mg "_law_laying_kind" (ah 33) aF)(D34:ap K mg "_law_breaks" (ah 34) bg)(D35:ap K mg "_law_numbered" (ah 35) aW)(D36:ap K mg "_law_laying_rule" (ah 36) aG)(D37:ap K mg "_law_rising" (ah 37) bh)(D38:ap K mg "_law_free_rule" (ah 38) aO)(D39:ap K mg "_law_one_way_rule" (ah 39) aB)(D40:ap K mg "_law_unlaying_rule" (ah 40) aA)(D41:ap K mg "_law_new_ways" (ah 41) aX)(D42:ap K mg "_law_world" (ah 42) bx)(D43:ap K mg "_law_alike" (ah 43) bz)(D44:ap K mg "_law_some_rule" (ah 44) aP)(D45:ap K mg "_law_new_point" (ah 45) aQ)(D46:ap K mg "_law_near" (ah 46) bQ)(D47:ap K mg "_law_pair" (ah 47) bR)(D48:ap K mg "_law_both" (ah 48) bS)(D49:ap K mg "_law_fills" (ah 49) bA)(D50:ap K mg "_law_turned_fills" (ah 50) aC)(D51:ap K mg "law" (ah 51) g7):∀x n,Bh.lookup x=gV n->∃st df,jP.lookup x=gV df/\df.ps.length=n/\FnScope df.N df.ps (ag st)/\bH dS st df/\ap K mg x st df:=by
 intro x n h;unfold Bh at h;rcases am h with⟨rfl,rfl⟩|h
 ·exact⟨ah 1,g6,by rfl,rfl,DN,DM,D1⟩
 rcases am h with⟨rfl,rfl⟩|h
 ·exact⟨ah 3,fj,by rfl,rfl,Bk,Bj,D3⟩
 rcases am h with⟨rfl,rfl⟩|h
 ·exact⟨ah 4,bq,by rfl,rfl,lM,lL,D4⟩
 rcases am h with⟨rfl,rfl⟩|h
 ·exact⟨ah 5,aS,by rfl,rfl,jo,jn,D5⟩
 rcases am h with⟨rfl,rfl⟩|h
 ·exact⟨ah 7,fm,by rfl,rfl,Bm,Bl,D7⟩
 rcases am h with⟨rfl,rfl⟩|h
 ·exact⟨ah 9,aT,by rfl,rfl,jq,jp,D9⟩
 rcases am h with⟨rfl,rfl⟩|h
 ·exact⟨ah 10,cb,by rfl,rfl,qF,qE,D10⟩
 rcases am h with⟨rfl,rfl⟩|h
 ·exact⟨ah 11,bK,by rfl,rfl,oA,oz,D11⟩
 rcases am h with⟨rfl,rfl⟩|h
 ·exact⟨ah 13,ce,by rfl,rfl,qH,qG,D13⟩
 rcases am h with⟨rfl,rfl⟩|h
 ·exact⟨ah 14,bL,by rfl,rfl,oD,oB,D14⟩
 rcases am h with⟨rfl,rfl⟩|h
 ·exact⟨ah 15,cf,by rfl,rfl,qJ,qI,D15⟩
 rcases am h with⟨rfl,rfl⟩|h
 ·exact⟨ah 16,bM,by rfl,rfl,oF,oE,D16⟩
 rcases am h with⟨rfl,rfl⟩|h
 ·exact⟨ah 17,cg,by rfl,rfl,qL,qK,D17⟩
 rcases am h with⟨rfl,rfl⟩|h
 ·exact⟨ah 19,bN,by rfl,rfl,oH,oG,D19⟩
 rcases am h with⟨rfl,rfl⟩|h
 ·exact⟨ah 20,bO,by rfl,rfl,oJ,oI,D20⟩
 rcases am h with⟨rfl,rfl⟩|h
 ·exact⟨ah 21,br,by rfl,rfl,lO,lN,D21⟩
 rcases am h with⟨rfl,rfl⟩|h
 ·exact⟨ah 22,aZ,by rfl,rfl,jW,jV,D22⟩
 rcases am h with⟨rfl,rfl⟩|h
 ·exact⟨ah 23,bP,by rfl,rfl,oM,oK,D23⟩
 rcases am h with⟨rfl,rfl⟩|h
 ·exact⟨ah 24,bu,by rfl,rfl,lQ,lP,D24⟩
 rcases am h with⟨rfl,rfl⟩|h
 ·exact⟨ah 25,bf,by rfl,rfl,lv,lu,D25⟩
 rcases am h with⟨rfl,rfl⟩|h
 ·exact⟨ah 26,ci,by rfl,rfl,qN,qM,D26⟩
 rcases am h with⟨rfl,rfl⟩|h
 ·exact⟨ah 27,aU,by rfl,rfl,js,jr,D27⟩
 rcases am h with⟨rfl,rfl⟩|h
 ·exact⟨ah 28,bv,by rfl,rfl,lS,lR,D28⟩
 rcases am h with⟨rfl,rfl⟩|h
 ·exact⟨ah 29,ba,by rfl,rfl,jY,jX,D29⟩
 rcases am h with⟨rfl,rfl⟩|h
 ·exact⟨ah 30,aJ,by rfl,rfl,ij,ii,D30⟩
 rcases am h with⟨rfl,rfl⟩|h
 ·exact⟨ah 31,bw,by rfl,rfl,lU,lT,D31⟩
 rcases am h with⟨rfl,rfl⟩|h
 ·exact⟨ah 32,aV,by rfl,rfl,ju,jt,D32⟩
 rcases am h with⟨rfl,rfl⟩|h
 ·exact⟨ah 33,aF,by rfl,rfl,gO,gN,D33⟩
 rcases am h with⟨rfl,rfl⟩|h
 ·exact⟨ah 34,bg,by rfl,rfl,ly,lx,D34⟩
 rcases am h with⟨rfl,rfl⟩|h
 ·exact⟨ah 35,aW,by rfl,rfl,jw,jv,D35⟩
 rcases am h with⟨rfl,rfl⟩|h
 ·exact⟨ah 36,aG,by rfl,rfl,gQ,gP,D36⟩
 rcases am h with⟨rfl,rfl⟩|h
 ·exact⟨ah 37,bh,by rfl,rfl,lA,lz,D37⟩
 rcases am h with⟨rfl,rfl⟩|h
 ·exact⟨ah 38,aO,by rfl,rfl,iQ,iP,D38⟩
 rcases am h with⟨rfl,rfl⟩|h
 ·exact⟨ah 39,aB,by rfl,rfl,gv,gr,D39⟩
 rcases am h with⟨rfl,rfl⟩|h
 ·exact⟨ah 40,aA,by rfl,rfl,fU,fT,D40⟩
 rcases am h with⟨rfl,rfl⟩|h
 ·exact⟨ah 41,aX,by rfl,rfl,jy,jx,D41⟩
 rcases am h with⟨rfl,rfl⟩|h
 ·exact⟨ah 42,bx,by rfl,rfl,lW,lV,D42⟩
 rcases am h with⟨rfl,rfl⟩|h
 ·exact⟨ah 43,bz,by rfl,rfl,lY,lX,D43⟩
 rcases am h with⟨rfl,rfl⟩|h
 ·exact⟨ah 44,aP,by rfl,rfl,iS,iR,D44⟩
 rcases am h with⟨rfl,rfl⟩|h
 ·exact⟨ah 45,aQ,by rfl,rfl,iU,iT,D45⟩
 rcases am h with⟨rfl,rfl⟩|h
 ·exact⟨ah 46,bQ,by rfl,rfl,oO,oN,D46⟩
 rcases am h with⟨rfl,rfl⟩|h
 ·exact⟨ah 47,bR,by rfl,rfl,oQ,oP,D47⟩
 rcases am h with⟨rfl,rfl⟩|h
 ·exact⟨ah 48,bS,by rfl,rfl,oS,oR,D48⟩
 rcases am h with⟨rfl,rfl⟩|h
 ·exact⟨ah 49,bA,by rfl,rfl,l4,lZ,D49⟩
 rcases am h with⟨rfl,rfl⟩|h
 ·exact⟨ah 50,aC,by rfl,rfl,gx,gw,D50⟩
 rcases am h with⟨rfl,rfl⟩|h
 ·exact⟨ah 51,g7,by rfl,rfl,yw,yv,D51⟩
 cases h
theorem FR {h:IX}(X:K.In h)(G:h.Ns mainGlobals mg)(z0:Jt K mainGlobals "range" = gV td)(z1:Jt K mainGlobals "len" = gV td)(z2:Jt K mainGlobals "list" = gV td)(z3:Jt K mainGlobals "tuple" = gV td)(z4:Jt K mainGlobals "int" = gV td)(z5:Jt K mainGlobals "sorted" = gV td)(z6:Jt K mainGlobals "isinstance" = gV td)(z7:Jt K mainGlobals "bool" = gV td)(z8:Jt K mainGlobals "str" = gV td)(z9:Jt K mainGlobals "all" = gV td)(z10:Jt K mainGlobals "min" = gV td)(z11:Jt K mainGlobals "enumerate" = gV td):MdOk w K mg dS:=by
 refine⟨?_⟩;show ∀y∈DL,mg y=td;intro y hy;unfold DL at hy;simp only[IG,JA,Lj]at hy;rcases hy with rfl|rfl|rfl|rfl|rfl|rfl|rfl|rfl|rfl|rfl|rfl|rfl
 ·exact Ji X G z0
 ·exact Ji X G z1
 ·exact Ji X G z2
 ·exact Ji X G z3
 ·exact Ji X G z4
 ·exact Ji X G z5
 ·exact Ji X G z6
 ·exact Ji X G z7
 ·exact Ji X G z8
 ·exact Ji X G z9
 ·exact Ji X G z10
 ·exact Ji X G z11
end
theorem DQ {l:MA}{w:IM}{K:HS}{h:IX}{mg:Ih->HI HE}{fa f:HN}(X:K.In h)(G:h.Ns mainGlobals mg)(hfa:mg "law" = gV (.ref fa))(hb:MdOk w K mg dS)
  (D1:ap K mg "way" (ah 1) g6) (D3:ap K mg "part" (ah 3) fj) (D4:ap K mg "point_over" (ah 4) bq) (D5:ap K mg "longer_orders" (ah 5) aS) (D7:ap K mg "back" (ah 7) fm) (D9:ap K mg "barred_threes" (ah 9) aT) (D10:ap K mg "three_at" (ah 10) cb) (D11:ap K mg "first_bar" (ah 11) bK) (D13:ap K mg "fillings" (ah 13) ce) (D14:ap K mg "barred_by" (ah 14) bL) (D15:ap K mg "all_bars" (ah 15) cf) (D16:ap K mg "with_both" (ah 16) bM) (D17:ap K mg "same_bar" (ah 17) cg) (D19:ap K mg "_law_flow" (ah 19) bN) (D20:ap K mg "_law_pick" (ah 20) bO) (D21:ap K mg "_law_names" (ah 21) br) (D22:ap K mg "_law_between" (ah 22) aZ) (D23:ap K mg "_law_part" (ah 23) bP) (D24:ap K mg "_law_turns" (ah 24) bu) (D25:ap K mg "_law_figure" (ah 25) bf) (D26:ap K mg "_law_bad" (ah 26) ci) (D27:ap K mg "_law_last_may" (ah 27) aU) (D28:ap K mg "_law_backs" (ah 28) bv) (D29:ap K mg "_law_rule_of" (ah 29) ba) (D30:ap K mg "_law_free_three" (ah 30) aJ) (D31:ap K mg "_law_sizes" (ah 31) bw) (D32:ap K mg "_law_any_rule" (ah 32) aV) (D33:ap K mg "_law_laying_kind" (ah 33) aF) (D34:ap K mg "_law_breaks" (ah 34) bg) (D35:ap K mg "_law_numbered" (ah 35) aW) (D36:ap K mg "_law_laying_rule" (ah 36) aG) (D37:ap K mg "_law_rising" (ah 37) bh) (D38:ap K mg "_law_free_rule" (ah 38) aO) (D39:ap K mg "_law_one_way_rule" (ah 39) aB) (D40:ap K mg "_law_unlaying_rule" (ah 40) aA) (D41:ap K mg "_law_new_ways" (ah 41) aX) (D42:ap K mg "_law_world" (ah 42) bx) (D43:ap K mg "_law_alike" (ah 43) bz) (D44:ap K mg "_law_some_rule" (ah 44) aP) (D45:ap K mg "_law_new_point" (ah 45) aQ) (D46:ap K mg "_law_near" (ah 46) bQ) (D47:ap K mg "_law_pair" (ah 47) bR) (D48:ap K mg "_law_both" (ah 48) bS) (D49:ap K mg "_law_fills" (ah 49) bA) (D50:ap K mg "_law_turned_fills" (ah 50) aC)
  {oc:HE} {od an:HI HN} {osl:IW (HI HE)} {kV doc pm cdv ct:HE} (a:Jt K mainGlobals "law" = gV (gV (.ref f))) (l':K.lookup f=gV ⟨oc,od,.func (JT "law" "law" (d4 (ah 51)) (de (ah 51)) (ag (ah 51)) .none kV doc pm an cdv ct),osl⟩) (c:KP K cdv "law" = true) (k:Ju K (.ref f)=true) :
  ∃fd:Kb,(∀(s:HH) (v:HE),NF s fd ⟨[v],[]⟩ [("_law_script",v)])/\∀base:IX,K.In base->base.Ns mainGlobals mg->FnOk l.prog w K mg base vg 9 fa fd ["_law_script"] (wF w K 1 (ar jP 100 9 "law")):=by
 have e:=hfa.symm.trans (O6 X G a);cases e;have D51:ap K mg "law" (ah 51) g7:=yz X G DP a l' c k;have F:=vP (st:=ah 51) l' c k;exact⟨JT "law" "law" (d4 (ah 51)) (de (ah 51)) (ag (ah 51)) .none kV doc pm an cdv ct,λs v=>.of_eq rfl,λbase _ _=>BE (df:=g7) F yw (by rfl) yv hb (yA hb (FQ D1 D3 D4 D5 D7 D9 D10 D11 D13 D14 D15 D16 D17 D19 D20 D21 D22 D23 D24 D25 D26 D27 D28 D29 D30 D31 D32 D33 D34 D35 D36 D37 D38 D39 D40 D41 D42 D43 D44 D45 D46 D47 D48 D49 D50 D51) 8)⟩
theorem Hg {l:MA}{q:Iz}{loose:HC Ih}{XP:(Ih->HI HE)->IX->Prop}{YP:IM->IX->Prop}{d:DefRec}{K:OC->HS}(hn:l.most=gV 63)(hdf:d.params.defaults=[])
  (hY:∀(w:IM) (h:IX),YP w h->(K w.params).In h)
  (F:∀(w:IM) (mg:Ih->HI HE) (fa:HN) (h:IX),(K w.params).In h->h.Ns mainGlobals mg->mg d.name=gV (.ref fa)->
   ∃fd:Kb,(∀(s:HH) (u:HE),NF s fd ⟨[u],[]⟩ [("_law_script",u)])/\∀base:IX,(K w.params).In base->base.Ns mainGlobals mg->FnOk l.prog w (K w.params) mg base vg 9 fa fd ["_law_script"] (wF w (K w.params) 1 (ar jP 100 9 "law"))) :
  OY q loose XP YP l.row.toRowW d [] (λf vs=>OD f vs):=
 L2.ze (n:=63) (k:=9) (x:="_law_script") (CX:=λ_=>vg) (sp:=λw=>wF w (K w.params) 1 (ar jP 100 9 "law")) hn (by decide) hdf ⟨rfl,by decide,by decide⟩ hY F
  (λw H a ns hl hO hS=>De (yu (defs:=jP) (fuel:=100) (d:=0) (by decide) FP) hO hS) λ_ _ _ _ _ z=>z
end Mi
open PySem PySem.W PyProof.Rows L2
set_option maxHeartbeats 0
namespace Mi
section
noncomputable def pw:Iz:=MN
noncomputable def ge (P:OC)(n:Ih)(t:HJ)(v:HE):JX:=⟨PyData.keyHash P n,.str n t,v⟩
noncomputable def kd (a:HJ)(es:HC JX)(n:HJ):HN×JC:=(a,⟨.type "dict",td,.dict es.toArray n,#[]⟩)
noncomputable def kt (a:HJ)(c:HE)(vs:HC HE)(n:HJ):HN×JC:=(a,⟨c,td,.seq vs.toArray n,#[]⟩)
noncomputable def kc (a:HJ)(vs:HC HE):HN×JC:=(a,⟨.type "code",td,.fields vs.toArray,#[]⟩)
noncomputable def kf (a:HJ)(st:Kt)(n:Ih)(pm cd:HE):HN×JC:=(a,⟨.type "function",td,.func (JT n n (d4 st) (de st) (ag st) .none .none .none pm td cd .none),#[]⟩)
noncomputable def K0 (P:OC):HS:=[kd 3 [ge P "__name__" 165 (.str "law_layworld_k23_fillings" 305),ge P "__doc__" 166 .none,ge P "__package__" 167 .none,ge P "__loader__" 168 (.builtin "__main__.__loader__#opaque"),ge P "__spec__" 169 .none,ge P "__annotations__" 170 (.ref 6),ge P "__builtins__" 171 (.ref 4),ge P "__file__" 173 (.str "/claim/cut.py" 172),ge P "__cached__" 174 .none,ge P "way" 198 (.ref 21),ge P "part" 206 (.ref 26),ge P "point_over" 212 (.ref 31),ge P "longer_orders" 218 (.ref 36),ge P "back" 228 (.ref 43),ge P "barred_threes" 241 (.ref 50),ge P "three_at" 253 (.ref 57),ge P "first_bar" 263 (.ref 64),ge P "fillings" 271 (.ref 69),ge P "barred_by" 281 (.ref 76),ge P "all_bars" 287 (.ref 81),ge P "with_both" 298 (.ref 88),ge P "same_bar" 304 (.ref 93),ge P "_law_flow" 313 (.ref 100),ge P "_law_pick" 323 (.ref 107),ge P "_law_names" 329 (.ref 112),ge P "_law_between" 339 (.ref 119),ge P "_law_part" 345 (.ref 124),ge P "_law_turns" 351 (.ref 131),ge P "_law_figure" 357 (.ref 136),ge P "_law_bad" 367 (.ref 143),ge P "_law_last_may" 381 (.ref 150),ge P "_law_backs" 390 (.ref 157),ge P "_law_rule_of" 396 (.ref 162),ge P "_law_free_three" 402 (.ref 167),ge P "_law_sizes" 410 (.ref 174),ge P "_law_any_rule" 422 (.ref 181),ge P "_law_laying_kind" 430 (.ref 188),ge P "_law_breaks" 446 (.ref 195),ge P "_law_numbered" 452 (.ref 200),ge P "_law_laying_rule" 473 (.ref 207),ge P "_law_rising" 479 (.ref 212),ge P "_law_free_rule" 485 (.ref 217),ge P "_law_one_way_rule" 491 (.ref 222),ge P "_law_unlaying_rule" 497 (.ref 227),ge P "_law_new_ways" 514 (.ref 234),ge P "_law_world" 528 (.ref 241),ge P "_law_alike" 534 (.ref 246),ge P "_law_some_rule" 542 (.ref 253),ge P "_law_new_point" 556 (.ref 260),ge P "_law_near" 571 (.ref 267),ge P "_law_pair" 584 (.ref 274),ge P "_law_both" 595 (.ref 281),ge P "_law_fills" 608 (.ref 288),ge P "_law_turned_fills" 614 (.ref 293),ge P "law" 631 (.ref 300)] 55,
 kc 20 [(.str "way" 189),(.str "way" 190),(.str "/claim/cut.py" 191),(.int 2 0),(.int 4 0),(.int 0 0),(.int 0 0),(.int 3 0),(.ref 15),(.bool true),(.int 181 0),(.ref 16),.none,(.ref 17),(.ref 18),(.ref 19),(.int 196 0),(.int 2 0),(.str "/claim/cut.py" 197)],
 kf 21 (ah 1) "way" (.str "layworld.worlds" 187) (.ref 20),
 kc 25 [(.str "part" 201),(.str "part" 202),(.str "/claim/cut.py" 203),(.int 7 0),(.int 3 0),(.int 0 0),(.int 0 0),(.int 3 0),(.ref 22),(.bool true),(.int 181 0),(.ref 23),.none,.none,.none,(.ref 24),(.int 204 0),(.int 7 0),(.str "/claim/cut.py" 205)],
 kf 26 (ah 3) "part" (.str "layworld.parts" 199) (.ref 25),
 kc 30 [(.str "point_over" 207),(.str "point_over" 208),(.str "/claim/cut.py" 209),(.int 9 0),(.int 4 0),(.int 0 0),(.int 0 0),(.int 3 0),(.ref 27),(.bool true),(.int 181 0),(.ref 28),.none,.none,.none,(.ref 29),(.int 210 0),(.int 9 0),(.str "/claim/cut.py" 211)],
 kf 31 (ah 4) "point_over" (.str "layworld.parts" 199) (.ref 30),
 kc 35 [(.str "longer_orders" 213),(.str "longer_orders" 214),(.str "/claim/cut.py" 215),(.int 11 0),(.int 2 0),(.int 0 0),(.int 0 0),(.int 3 0),(.ref 32),(.bool true),(.int 181 0),(.ref 33),.none,.none,.none,(.ref 34),(.int 216 0),(.int 11 0),(.str "/claim/cut.py" 217)],
 kf 36 (ah 5) "longer_orders" (.str "layworld.parts" 199) (.ref 35),
 kc 42 [(.str "back" 221),(.str "back" 222),(.str "/claim/cut.py" 223),(.int 17 0),(.int 2 0),(.int 0 0),(.int 0 0),(.int 3 0),(.ref 37),(.bool true),(.int 181 0),(.ref 38),.none,(.ref 39),(.ref 40),(.ref 41),(.int 226 0),(.int 17 0),(.str "/claim/cut.py" 227)],
 kf 43 (ah 7) "back" (.str "layworld.rules" 219) (.ref 42),
 kc 49 [(.str "barred_threes" 231),(.str "barred_threes" 232),(.str "/claim/cut.py" 233),(.int 20 0),(.int 1 0),(.int 0 0),(.int 0 0),(.int 3 0),(.ref 44),(.bool true),(.int 181 0),(.ref 45),.none,(.ref 46),(.ref 47),(.ref 48),(.int 239 0),(.int 20 0),(.str "/claim/cut.py" 240)],
 kf 50 (ah 9) "barred_threes" (.str "layworld.threes" 229) (.ref 49),
 kc 56 [(.str "three_at" 242),(.str "three_at" 243),(.str "/claim/cut.py" 244),(.int 29 0),(.int 4 0),(.int 0 0),(.int 0 0),(.int 3 0),(.ref 51),(.bool true),(.int 181 0),(.ref 52),.none,(.ref 53),(.ref 54),(.ref 55),(.int 251 0),(.int 29 0),(.str "/claim/cut.py" 252)],
 kf 57 (ah 10) "three_at" (.str "layworld.threes" 229) (.ref 56),
 kc 63 [(.str "first_bar" 254),(.str "first_bar" 255),(.str "/claim/cut.py" 256),(.int 33 0),(.int 2 0),(.int 0 0),(.int 0 0),(.int 3 0),(.ref 58),(.bool true),(.int 181 0),(.ref 59),.none,(.ref 60),(.ref 61),(.ref 62),(.int 261 0),(.int 33 0),(.str "/claim/cut.py" 262)],
 kf 64 (ah 11) "first_bar" (.str "layworld.threes" 229) (.ref 63),
 kc 68 [(.str "fillings" 266),(.str "fillings" 267),(.str "/claim/cut.py" 268),(.int 40 0),(.int 4 0),(.int 0 0),(.int 0 0),(.int 3 0),(.ref 65),(.bool true),(.int 181 0),(.ref 66),.none,.none,.none,(.ref 67),(.int 269 0),(.int 40 0),(.str "/claim/cut.py" 270)],
 kf 69 (ah 13) "fillings" (.str "layworld.fillings" 264) (.ref 68),
 kc 75 [(.str "barred_by" 272),(.str "barred_by" 273),(.str "/claim/cut.py" 274),(.int 46 0),(.int 4 0),(.int 0 0),(.int 0 0),(.int 3 0),(.ref 70),(.bool true),(.int 181 0),(.ref 71),.none,(.ref 72),(.ref 73),(.ref 74),(.int 279 0),(.int 46 0),(.str "/claim/cut.py" 280)],
 kf 76 (ah 14) "barred_by" (.str "layworld.fillings" 264) (.ref 75),
 kc 80 [(.str "all_bars" 282),(.str "all_bars" 283),(.str "/claim/cut.py" 284),(.int 48 0),(.int 5 0),(.int 0 0),(.int 0 0),(.int 3 0),(.ref 77),(.bool true),(.int 181 0),(.ref 78),.none,.none,.none,(.ref 79),(.int 285 0),(.int 48 0),(.str "/claim/cut.py" 286)],
 kf 81 (ah 15) "all_bars" (.str "layworld.fillings" 264) (.ref 80),
 kc 87 [(.str "with_both" 288),(.str "with_both" 289),(.str "/claim/cut.py" 290),(.int 51 0),(.int 5 0),(.int 0 0),(.int 0 0),(.int 3 0),(.ref 82),(.bool true),(.int 181 0),(.ref 83),.none,(.ref 84),(.ref 85),(.ref 86),(.int 296 0),(.int 51 0),(.str "/claim/cut.py" 297)],
 kf 88 (ah 16) "with_both" (.str "layworld.fillings" 264) (.ref 87),
 kc 92 [(.str "same_bar" 299),(.str "same_bar" 300),(.str "/claim/cut.py" 301),(.int 53 0),(.int 2 0),(.int 0 0),(.int 0 0),(.int 3 0),(.ref 89),(.bool true),(.int 181 0),(.ref 90),.none,.none,.none,(.ref 91),(.int 302 0),(.int 53 0),(.str "/claim/cut.py" 303)],
 kf 93 (ah 17) "same_bar" (.str "layworld.fillings" 264) (.ref 92),
 kc 99 [(.str "_law_flow" 307),(.str "_law_flow" 308),(.str "/claim/cut.py" 309),(.int 59 0),(.int 1 0),(.int 0 0),(.int 0 0),(.int 3 0),(.ref 94),(.bool true),(.int 181 0),(.ref 95),.none,(.ref 96),(.ref 97),(.ref 98),(.int 311 0),(.int 59 0),(.str "/claim/cut.py" 312)],
 kf 100 (ah 19) "_law_flow" (.str "law_layworld_k23_fillings" 305) (.ref 99),
 kc 106 [(.str "_law_pick" 314),(.str "_law_pick" 315),(.str "/claim/cut.py" 316),(.int 61 0),(.int 2 0),(.int 0 0),(.int 0 0),(.int 3 0),(.ref 101),(.bool true),(.int 181 0),(.ref 102),.none,(.ref 103),(.ref 104),(.ref 105),(.int 321 0),(.int 61 0),(.str "/claim/cut.py" 322)],
 kf 107 (ah 20) "_law_pick" (.str "law_layworld_k23_fillings" 305) (.ref 106),
 kc 111 [(.str "_law_names" 324),(.str "_law_names" 325),(.str "/claim/cut.py" 326),(.int 76 0),(.int 2 0),(.int 0 0),(.int 0 0),(.int 3 0),(.ref 108),(.bool true),(.int 181 0),(.ref 109),.none,.none,.none,(.ref 110),(.int 327 0),(.int 76 0),(.str "/claim/cut.py" 328)],
 kf 112 (ah 21) "_law_names" (.str "law_layworld_k23_fillings" 305) (.ref 111),
 kc 118 [(.str "_law_between" 330),(.str "_law_between" 331),(.str "/claim/cut.py" 332),(.int 78 0),(.int 4 0),(.int 0 0),(.int 0 0),(.int 3 0),(.ref 113),(.bool true),(.int 181 0),(.ref 114),.none,(.ref 115),(.ref 116),(.ref 117),(.int 337 0),(.int 78 0),(.str "/claim/cut.py" 338)],
 kf 119 (ah 22) "_law_between" (.str "law_layworld_k23_fillings" 305) (.ref 118),
 kc 123 [(.str "_law_part" 340),(.str "_law_part" 341),(.str "/claim/cut.py" 342),(.int 82 0),(.int 3 0),(.int 0 0),(.int 0 0),(.int 3 0),(.ref 120),(.bool true),(.int 181 0),(.ref 121),.none,.none,.none,(.ref 122),(.int 343 0),(.int 82 0),(.str "/claim/cut.py" 344)],
 kf 124 (ah 23) "_law_part" (.str "law_layworld_k23_fillings" 305) (.ref 123),
 kc 130 [(.str "_law_turns" 346),(.str "_law_turns" 347),(.str "/claim/cut.py" 348),(.int 88 0),(.int 0 0),(.int 0 0),(.int 0 0),(.int 3 0),(.ref 125),(.bool true),(.int 181 0),(.ref 126),.none,(.ref 127),(.ref 128),(.ref 129),(.int 349 0),(.int 88 0),(.str "/claim/cut.py" 350)],
 kf 131 (ah 24) "_law_turns" (.str "law_layworld_k23_fillings" 305) (.ref 130),
 kc 135 [(.str "_law_figure" 352),(.str "_law_figure" 353),(.str "/claim/cut.py" 354),(.int 90 0),(.int 2 0),(.int 0 0),(.int 0 0),(.int 3 0),(.ref 132),(.bool true),(.int 181 0),(.ref 133),.none,.none,.none,(.ref 134),(.int 355 0),(.int 90 0),(.str "/claim/cut.py" 356)],
 kf 136 (ah 25) "_law_figure" (.str "law_layworld_k23_fillings" 305) (.ref 135),
 kc 142 [(.str "_law_bad" 358),(.str "_law_bad" 359),(.str "/claim/cut.py" 360),(.int 92 0),(.int 1 0),(.int 0 0),(.int 0 0),(.int 3 0),(.ref 137),(.bool true),(.int 181 0),(.ref 138),.none,(.ref 139),(.ref 140),(.ref 141),(.int 365 0),(.int 92 0),(.str "/claim/cut.py" 366)],
 kf 143 (ah 26) "_law_bad" (.str "law_layworld_k23_fillings" 305) (.ref 142),
 kc 149 [(.str "_law_last_may" 368),(.str "_law_last_may" 369),(.str "/claim/cut.py" 370),(.int 98 0),(.int 4 0),(.int 0 0),(.int 0 0),(.int 3 0),(.ref 144),(.bool true),(.int 181 0),(.ref 145),.none,(.ref 146),(.ref 147),(.ref 148),(.int 379 0),(.int 98 0),(.str "/claim/cut.py" 380)],
 kf 150 (ah 27) "_law_last_may" (.str "law_layworld_k23_fillings" 305) (.ref 149),
 kc 156 [(.str "_law_backs" 382),(.str "_law_backs" 383),(.str "/claim/cut.py" 384),(.int 105 0),(.int 2 0),(.int 0 0),(.int 0 0),(.int 3 0),(.ref 151),(.bool true),(.int 181 0),(.ref 152),.none,(.ref 153),(.ref 154),(.ref 155),(.int 388 0),(.int 105 0),(.str "/claim/cut.py" 389)],
 kf 157 (ah 28) "_law_backs" (.str "law_layworld_k23_fillings" 305) (.ref 156),
 kc 161 [(.str "_law_rule_of" 391),(.str "_law_rule_of" 392),(.str "/claim/cut.py" 393),(.int 108 0),(.int 4 0),(.int 0 0),(.int 0 0),(.int 3 0),(.ref 158),(.bool true),(.int 181 0),(.ref 159),.none,.none,.none,(.ref 160),(.int 394 0),(.int 108 0),(.str "/claim/cut.py" 395)],
 kf 162 (ah 29) "_law_rule_of" (.str "law_layworld_k23_fillings" 305) (.ref 161),
 kc 166 [(.str "_law_free_three" 397),(.str "_law_free_three" 398),(.str "/claim/cut.py" 399),(.int 112 0),(.int 3 0),(.int 0 0),(.int 0 0),(.int 3 0),(.ref 163),(.bool true),(.int 181 0),(.ref 164),.none,.none,.none,(.ref 165),(.int 400 0),(.int 112 0),(.str "/claim/cut.py" 401)],
 kf 167 (ah 30) "_law_free_three" (.str "law_layworld_k23_fillings" 305) (.ref 166),
 kc 173 [(.str "_law_sizes" 403),(.str "_law_sizes" 404),(.str "/claim/cut.py" 405),(.int 117 0),(.int 1 0),(.int 0 0),(.int 0 0),(.int 3 0),(.ref 168),(.bool true),(.int 181 0),(.ref 169),.none,(.ref 170),(.ref 171),(.ref 172),(.int 408 0),(.int 117 0),(.str "/claim/cut.py" 409)],
 kf 174 (ah 31) "_law_sizes" (.str "law_layworld_k23_fillings" 305) (.ref 173),
 kc 180 [(.str "_law_any_rule" 411),(.str "_law_any_rule" 412),(.str "/claim/cut.py" 413),(.int 120 0),(.int 1 0),(.int 0 0),(.int 0 0),(.int 3 0),(.ref 175),(.bool true),(.int 181 0),(.ref 176),.none,(.ref 177),(.ref 178),(.ref 179),(.int 420 0),(.int 120 0),(.str "/claim/cut.py" 421)],
 kf 181 (ah 32) "_law_any_rule" (.str "law_layworld_k23_fillings" 305) (.ref 180),
 kc 187 [(.str "_law_laying_kind" 423),(.str "_law_laying_kind" 424),(.str "/claim/cut.py" 425),(.int 127 0),(.int 1 0),(.int 0 0),(.int 0 0),(.int 3 0),(.ref 182),(.bool true),(.int 181 0),(.ref 183),.none,(.ref 184),(.ref 185),(.ref 186),(.int 428 0),(.int 127 0),(.str "/claim/cut.py" 429)],
 kf 188 (ah 33) "_law_laying_kind" (.str "law_layworld_k23_fillings" 305) (.ref 187),
 kc 194 [(.str "_law_breaks" 431),(.str "_law_breaks" 432),(.str "/claim/cut.py" 433),(.int 136 0),(.int 5 0),(.int 0 0),(.int 0 0),(.int 3 0),(.ref 189),(.bool true),(.int 181 0),(.ref 190),.none,(.ref 191),(.ref 192),(.ref 193),(.int 444 0),(.int 136 0),(.str "/claim/cut.py" 445)],
 kf 195 (ah 34) "_law_breaks" (.str "law_layworld_k23_fillings" 305) (.ref 194),
 kc 199 [(.str "_law_numbered" 447),(.str "_law_numbered" 448),(.str "/claim/cut.py" 449),(.int 144 0),(.int 3 0),(.int 0 0),(.int 0 0),(.int 3 0),(.ref 196),(.bool true),(.int 181 0),(.ref 197),.none,.none,.none,(.ref 198),(.int 450 0),(.int 144 0),(.str "/claim/cut.py" 451)],
 kf 200 (ah 35) "_law_numbered" (.str "law_layworld_k23_fillings" 305) (.ref 199),
 kc 206 [(.str "_law_laying_rule" 453),(.str "_law_laying_rule" 454),(.str "/claim/cut.py" 455),(.int 159 0),(.int 1 0),(.int 0 0),(.int 0 0),(.int 3 0),(.ref 201),(.bool true),(.int 181 0),(.ref 202),.none,(.ref 203),(.ref 204),(.ref 205),(.int 471 0),(.int 159 0),(.str "/claim/cut.py" 472)],
 kf 207 (ah 36) "_law_laying_rule" (.str "law_layworld_k23_fillings" 305) (.ref 206),
 kc 211 [(.str "_law_rising" 474),(.str "_law_rising" 475),(.str "/claim/cut.py" 476),(.int 179 0),(.int 1 0),(.int 0 0),(.int 0 0),(.int 3 0),(.ref 208),(.bool true),(.int 181 0),(.ref 209),.none,.none,.none,(.ref 210),(.int 477 0),(.int 179 0),(.str "/claim/cut.py" 478)],
 kf 212 (ah 37) "_law_rising" (.str "law_layworld_k23_fillings" 305) (.ref 211),
 kc 216 [(.str "_law_free_rule" 480),(.str "_law_free_rule" 481),(.str "/claim/cut.py" 482),(.int 185 0),(.int 1 0),(.int 0 0),(.int 0 0),(.int 3 0),(.ref 213),(.bool true),(.int 181 0),(.ref 214),.none,.none,.none,(.ref 215),(.int 483 0),(.int 185 0),(.str "/claim/cut.py" 484)],
 kf 217 (ah 38) "_law_free_rule" (.str "law_layworld_k23_fillings" 305) (.ref 216),
 kc 221 [(.str "_law_one_way_rule" 486),(.str "_law_one_way_rule" 487),(.str "/claim/cut.py" 488),(.int 198 0),(.int 1 0),(.int 0 0),(.int 0 0),(.int 3 0),(.ref 218),(.bool true),(.int 181 0),(.ref 219),.none,.none,.none,(.ref 220),(.int 489 0),(.int 198 0),(.str "/claim/cut.py" 490)],
 kf 222 (ah 39) "_law_one_way_rule" (.str "law_layworld_k23_fillings" 305) (.ref 221),
 kc 226 [(.str "_law_unlaying_rule" 492),(.str "_law_unlaying_rule" 493),(.str "/claim/cut.py" 494),(.int 202 0),(.int 1 0),(.int 0 0),(.int 0 0),(.int 3 0),(.ref 223),(.bool true),(.int 181 0),(.ref 224),.none,.none,.none,(.ref 225),(.int 495 0),(.int 202 0),(.str "/claim/cut.py" 496)],
 kf 227 (ah 40) "_law_unlaying_rule" (.str "law_layworld_k23_fillings" 305) (.ref 226),
 kc 233 [(.str "_law_new_ways" 498),(.str "_law_new_ways" 499),(.str "/claim/cut.py" 500),(.int 217 0),(.int 6 0),(.int 0 0),(.int 0 0),(.int 3 0),(.ref 228),(.bool true),(.int 181 0),(.ref 229),.none,(.ref 230),(.ref 231),(.ref 232),(.int 512 0),(.int 217 0),(.str "/claim/cut.py" 513)],
 kf 234 (ah 41) "_law_new_ways" (.str "law_layworld_k23_fillings" 305) (.ref 233),
 kc 240 [(.str "_law_world" 515),(.str "_law_world" 516),(.str "/claim/cut.py" 517),(.int 230 0),(.int 4 0),(.int 0 0),(.int 0 0),(.int 3 0),(.ref 235),(.bool true),(.int 181 0),(.ref 236),.none,(.ref 237),(.ref 238),(.ref 239),(.int 526 0),(.int 230 0),(.str "/claim/cut.py" 527)],
 kf 241 (ah 42) "_law_world" (.str "law_layworld_k23_fillings" 305) (.ref 240),
 kc 245 [(.str "_law_alike" 529),(.str "_law_alike" 530),(.str "/claim/cut.py" 531),(.int 238 0),(.int 2 0),(.int 0 0),(.int 0 0),(.int 3 0),(.ref 242),(.bool true),(.int 181 0),(.ref 243),.none,.none,.none,(.ref 244),(.int 532 0),(.int 238 0),(.str "/claim/cut.py" 533)],
 kf 246 (ah 43) "_law_alike" (.str "law_layworld_k23_fillings" 305) (.ref 245),
 kc 252 [(.str "_law_some_rule" 535),(.str "_law_some_rule" 536),(.str "/claim/cut.py" 537),(.int 250 0),(.int 1 0),(.int 0 0),(.int 0 0),(.int 3 0),(.ref 247),(.bool true),(.int 181 0),(.ref 248),.none,(.ref 249),(.ref 250),(.ref 251),(.int 540 0),(.int 250 0),(.str "/claim/cut.py" 541)],
 kf 253 (ah 44) "_law_some_rule" (.str "law_layworld_k23_fillings" 305) (.ref 252),
 kc 259 [(.str "_law_new_point" 543),(.str "_law_new_point" 544),(.str "/claim/cut.py" 545),(.int 257 0),(.int 4 0),(.int 0 0),(.int 0 0),(.int 3 0),(.ref 254),(.bool true),(.int 181 0),(.ref 255),.none,(.ref 256),(.ref 257),(.ref 258),(.int 554 0),(.int 257 0),(.str "/claim/cut.py" 555)],
 kf 260 (ah 45) "_law_new_point" (.str "law_layworld_k23_fillings" 305) (.ref 259),
 kc 266 [(.str "_law_near" 557),(.str "_law_near" 558),(.str "/claim/cut.py" 559),(.int 265 0),(.int 5 0),(.int 0 0),(.int 0 0),(.int 3 0),(.ref 261),(.bool true),(.int 181 0),(.ref 262),.none,(.ref 263),(.ref 264),(.ref 265),(.int 569 0),(.int 265 0),(.str "/claim/cut.py" 570)],
 kf 267 (ah 46) "_law_near" (.str "law_layworld_k23_fillings" 305) (.ref 266),
 kc 273 [(.str "_law_pair" 572),(.str "_law_pair" 573),(.str "/claim/cut.py" 574),(.int 276 0),(.int 4 0),(.int 0 0),(.int 0 0),(.int 3 0),(.ref 268),(.bool true),(.int 181 0),(.ref 269),.none,(.ref 270),(.ref 271),(.ref 272),(.int 582 0),(.int 276 0),(.str "/claim/cut.py" 583)],
 kf 274 (ah 47) "_law_pair" (.str "law_layworld_k23_fillings" 305) (.ref 273),
 kc 280 [(.str "_law_both" 585),(.str "_law_both" 586),(.str "/claim/cut.py" 587),(.int 288 0),(.int 5 0),(.int 0 0),(.int 0 0),(.int 3 0),(.ref 275),(.bool true),(.int 181 0),(.ref 276),.none,(.ref 277),(.ref 278),(.ref 279),(.int 593 0),(.int 288 0),(.str "/claim/cut.py" 594)],
 kf 281 (ah 48) "_law_both" (.str "law_layworld_k23_fillings" 305) (.ref 280),
 kc 287 [(.str "_law_fills" 596),(.str "_law_fills" 597),(.str "/claim/cut.py" 598),(.int 290 0),(.int 5 0),(.int 0 0),(.int 0 0),(.int 3 0),(.ref 282),(.bool true),(.int 181 0),(.ref 283),.none,(.ref 284),(.ref 285),(.ref 286),(.int 606 0),(.int 290 0),(.str "/claim/cut.py" 607)],
 kf 288 (ah 49) "_law_fills" (.str "law_layworld_k23_fillings" 305) (.ref 287),
 kc 292 [(.str "_law_turned_fills" 609),(.str "_law_turned_fills" 610),(.str "/claim/cut.py" 611),(.int 296 0),(.int 2 0),(.int 0 0),(.int 0 0),(.int 3 0),(.ref 289),(.bool true),(.int 181 0),(.ref 290),.none,.none,.none,(.ref 291),(.int 612 0),(.int 296 0),(.str "/claim/cut.py" 613)],
 kf 293 (ah 50) "_law_turned_fills" (.str "law_layworld_k23_fillings" 305) (.ref 292),
 kc 299 [(.str "law" 615),(.str "law" 616),(.str "/claim/cut.py" 617),(.int 299 0),(.int 1 0),(.int 0 0),(.int 0 0),(.int 3 0),(.ref 294),(.bool true),(.int 181 0),(.ref 295),.none,(.ref 296),(.ref 297),(.ref 298),(.int 629 0),(.int 299 0),(.str "/claim/cut.py" 630)],
 kf 300 (ah 51) "law" (.str "law_layworld_k23_fillings" 305) (.ref 299)]
noncomputable def Ho:HC HJ:=[3,20,21,25,26,30,31,35,36,42,43,49,50,56,57,63,64,68,69,75,76,80,81,87,88,92,93,99,100,106,107,111,112,118,119,123,124,130,131,135,136,142,143,149,150,156,157,161,162,166,167,173,174,180,181,187,188,194,195,199,200,206,207,211,212,216,217,221,222,226,227,233,234,240,241,245,246,252,253,259,260,266,267,273,274,280,281,287,288,292,293,299,300]
noncomputable def vq:Iz:={ pw with main:={ pw.main with body:=[ah 51] } }
noncomputable def lo:HC Ih:=[("way" : Ih),("part" : Ih),("point_over" : Ih),("longer_orders" : Ih),("back" : Ih),("barred_threes" : Ih),("three_at" : Ih),("first_bar" : Ih),("fillings" : Ih),("barred_by" : Ih),("all_bars" : Ih),("with_both" : Ih),("same_bar" : Ih),("_law_flow" : Ih),("_law_pick" : Ih),("_law_names" : Ih),("_law_between" : Ih),("_law_part" : Ih),("_law_turns" : Ih),("_law_figure" : Ih),("_law_bad" : Ih),("_law_last_may" : Ih),("_law_backs" : Ih),("_law_rule_of" : Ih),("_law_free_three" : Ih),("_law_sizes" : Ih),("_law_any_rule" : Ih),("_law_laying_kind" : Ih),("_law_breaks" : Ih),("_law_numbered" : Ih),("_law_laying_rule" : Ih),("_law_rising" : Ih),("_law_free_rule" : Ih),("_law_one_way_rule" : Ih),("_law_unlaying_rule" : Ih),("_law_new_ways" : Ih),("_law_world" : Ih),("_law_alike" : Ih),("_law_some_rule" : Ih),("_law_new_point" : Ih),("_law_near" : Ih),("_law_pair" : Ih),("_law_both" : Ih),("_law_fills" : Ih),("_law_turned_fills" : Ih)]
theorem aD {K:HS}{h:IX}{mg:Ih->HI HE}{x:Ih}{st:Kt}{df:Df}(a:HJ)(pm cd:HE)(X:K.In h)(G:h.Ns mainGlobals mg)
  (b:BD x st df)
  (e:Jt K mainGlobals x=gV (gV (.ref a))) (l:K.lookup a=gV (kf a st x pm cd).2) (c:KP K cd x=true) (k:Ju K (.ref a)=true):ap K mg x st df:=yz X G b e l c k
theorem eK:∀P,Ho=(K0 P).map (·.1):=λ_=>by kernel_rfl
noncomputable def hk:PySem.W.Hook:=PySem.W.kHook K0 Ho eK
theorem hl:PySem.W.LeftO pw vq lo (λs=>Ph vq [] s&&O7 [] s) hk.obs hk.val 3052:=λw=>by kernel_rfl
end
end Mi
end ZZ.Lean
open ZZ.Lean
theorem PySem.Challenge.cw_layworld_k23_fillings_holds : PySem.Challenge.rw_layworld_k23_fillings.Holds := by
 w_on
 refine PySem.W.holds_law (by kernel_rfl) (λsaid=>?_)
 refine PySem.W.holds_open (q:=Mi.vq) (loose:=Mi.lo) (Xt:=λs=>Ph Mi.vq [] s&&O7 [] s) (XP:=PySem.W.XL Mi.vq []) (Yf:=Mi.hk.obs) (Ya:=Mi.hk.val) (YP:=Mi.hk.says) (N:=3052) Mi.hl Mi.hk.of Mi.hk.keeps (λs e=>PySem.W.xl_of s (MZ.mp e).1) P0 (by rfl) (by rfl) (by rfl) (λs e=>PySem.W.recFacts_of (MZ.mp e).2) (by rfl) said (by decide +kernel) ⟨rfl,rfl,rfl,rfl,rfl,by decide +kernel⟩ ?hw ?hc
 case hw=>w_witness2
 case hc=>
 refine Mi.Hg (l:=MO) (K:=Mi.K0) rfl rfl (λw h Y=>PySem.W.kIn_of Y) ?F
 case F=>
  intro w mg fa h KX G hmg;exact Mi.DQ KX G hmg (Mi.FR KX G (by kernel_rfl) (by kernel_rfl) (by kernel_rfl) (by kernel_rfl) (by kernel_rfl) (by kernel_rfl) (by kernel_rfl) (by kernel_rfl) (by kernel_rfl) (by kernel_rfl) (by kernel_rfl) (by kernel_rfl))
   (Mi.aD 21 (.str "layworld.worlds" 187) (.ref 20) (x:="way") (st:=Mi.ah 1) (df:=Mi.g6) KX G Mi.DO (by kernel_rfl) (by kernel_rfl) (by kernel_rfl) (by kernel_rfl))
   (Mi.aD 26 (.str "layworld.parts" 199) (.ref 25) (x:="part") (st:=Mi.ah 3) (df:=Mi.fj) KX G Mi.Bn (by kernel_rfl) (by kernel_rfl) (by kernel_rfl) (by kernel_rfl))
   (Mi.aD 31 (.str "layworld.parts" 199) (.ref 30) (x:="point_over") (st:=Mi.ah 4) (df:=Mi.bq) KX G Mi.l5 (by kernel_rfl) (by kernel_rfl) (by kernel_rfl) (by kernel_rfl))
   (Mi.aD 36 (.str "layworld.parts" 199) (.ref 35) (x:="longer_orders") (st:=Mi.ah 5) (df:=Mi.aS) KX G Mi.jz (by kernel_rfl) (by kernel_rfl) (by kernel_rfl) (by kernel_rfl))
   (Mi.aD 43 (.str "layworld.rules" 219) (.ref 42) (x:="back") (st:=Mi.ah 7) (df:=Mi.fm) KX G Mi.Bo (by kernel_rfl) (by kernel_rfl) (by kernel_rfl) (by kernel_rfl))
   (Mi.aD 50 (.str "layworld.threes" 229) (.ref 49) (x:="barred_threes") (st:=Mi.ah 9) (df:=Mi.aT) KX G Mi.jA (by kernel_rfl) (by kernel_rfl) (by kernel_rfl) (by kernel_rfl))
   (Mi.aD 57 (.str "layworld.threes" 229) (.ref 56) (x:="three_at") (st:=Mi.ah 10) (df:=Mi.cb) KX G Mi.qO (by kernel_rfl) (by kernel_rfl) (by kernel_rfl) (by kernel_rfl))
   (Mi.aD 64 (.str "layworld.threes" 229) (.ref 63) (x:="first_bar") (st:=Mi.ah 11) (df:=Mi.bK) KX G Mi.oT (by kernel_rfl) (by kernel_rfl) (by kernel_rfl) (by kernel_rfl))
   (Mi.aD 69 (.str "layworld.fillings" 264) (.ref 68) (x:="fillings") (st:=Mi.ah 13) (df:=Mi.ce) KX G Mi.qP (by kernel_rfl) (by kernel_rfl) (by kernel_rfl) (by kernel_rfl))
   (Mi.aD 76 (.str "layworld.fillings" 264) (.ref 75) (x:="barred_by") (st:=Mi.ah 14) (df:=Mi.bL) KX G Mi.oU (by kernel_rfl) (by kernel_rfl) (by kernel_rfl) (by kernel_rfl))
   (Mi.aD 81 (.str "layworld.fillings" 264) (.ref 80) (x:="all_bars") (st:=Mi.ah 15) (df:=Mi.cf) KX G Mi.qQ (by kernel_rfl) (by kernel_rfl) (by kernel_rfl) (by kernel_rfl))
   (Mi.aD 88 (.str "layworld.fillings" 264) (.ref 87) (x:="with_both") (st:=Mi.ah 16) (df:=Mi.bM) KX G Mi.oV (by kernel_rfl) (by kernel_rfl) (by kernel_rfl) (by kernel_rfl))
   (Mi.aD 93 (.str "layworld.fillings" 264) (.ref 92) (x:="same_bar") (st:=Mi.ah 17) (df:=Mi.cg) KX G Mi.qR (by kernel_rfl) (by kernel_rfl) (by kernel_rfl) (by kernel_rfl))
   (Mi.aD 100 (.str "law_layworld_k23_fillings" 305) (.ref 99) (x:="_law_flow") (st:=Mi.ah 19) (df:=Mi.bN) KX G Mi.oW (by kernel_rfl) (by kernel_rfl) (by kernel_rfl) (by kernel_rfl))
   (Mi.aD 107 (.str "law_layworld_k23_fillings" 305) (.ref 106) (x:="_law_pick") (st:=Mi.ah 20) (df:=Mi.bO) KX G Mi.oX (by kernel_rfl) (by kernel_rfl) (by kernel_rfl) (by kernel_rfl))
   (Mi.aD 112 (.str "law_layworld_k23_fillings" 305) (.ref 111) (x:="_law_names") (st:=Mi.ah 21) (df:=Mi.br) KX G Mi.l7 (by kernel_rfl) (by kernel_rfl) (by kernel_rfl) (by kernel_rfl))
   (Mi.aD 119 (.str "law_layworld_k23_fillings" 305) (.ref 118) (x:="_law_between") (st:=Mi.ah 22) (df:=Mi.aZ) KX G Mi.jZ (by kernel_rfl) (by kernel_rfl) (by kernel_rfl) (by kernel_rfl))
   (Mi.aD 124 (.str "law_layworld_k23_fillings" 305) (.ref 123) (x:="_law_part") (st:=Mi.ah 23) (df:=Mi.bP) KX G Mi.oY (by kernel_rfl) (by kernel_rfl) (by kernel_rfl) (by kernel_rfl))
   (Mi.aD 131 (.str "law_layworld_k23_fillings" 305) (.ref 130) (x:="_law_turns") (st:=Mi.ah 24) (df:=Mi.bu) KX G Mi.ma (by kernel_rfl) (by kernel_rfl) (by kernel_rfl) (by kernel_rfl))
   (Mi.aD 136 (.str "law_layworld_k23_fillings" 305) (.ref 135) (x:="_law_figure") (st:=Mi.ah 25) (df:=Mi.bf) KX G Mi.lB (by kernel_rfl) (by kernel_rfl) (by kernel_rfl) (by kernel_rfl))
   (Mi.aD 143 (.str "law_layworld_k23_fillings" 305) (.ref 142) (x:="_law_bad") (st:=Mi.ah 26) (df:=Mi.ci) KX G Mi.qS (by kernel_rfl) (by kernel_rfl) (by kernel_rfl) (by kernel_rfl))
   (Mi.aD 150 (.str "law_layworld_k23_fillings" 305) (.ref 149) (x:="_law_last_may") (st:=Mi.ah 27) (df:=Mi.aU) KX G Mi.jB (by kernel_rfl) (by kernel_rfl) (by kernel_rfl) (by kernel_rfl))
   (Mi.aD 157 (.str "law_layworld_k23_fillings" 305) (.ref 156) (x:="_law_backs") (st:=Mi.ah 28) (df:=Mi.bv) KX G Mi.md (by kernel_rfl) (by kernel_rfl) (by kernel_rfl) (by kernel_rfl))
   (Mi.aD 162 (.str "law_layworld_k23_fillings" 305) (.ref 161) (x:="_law_rule_of") (st:=Mi.ah 29) (df:=Mi.ba) KX G Mi.j3 (by kernel_rfl) (by kernel_rfl) (by kernel_rfl) (by kernel_rfl))
   (Mi.aD 167 (.str "law_layworld_k23_fillings" 305) (.ref 166) (x:="_law_free_three") (st:=Mi.ah 30) (df:=Mi.aJ) KX G Mi.ik (by kernel_rfl) (by kernel_rfl) (by kernel_rfl) (by kernel_rfl))
   (Mi.aD 174 (.str "law_layworld_k23_fillings" 305) (.ref 173) (x:="_law_sizes") (st:=Mi.ah 31) (df:=Mi.bw) KX G Mi.mf (by kernel_rfl) (by kernel_rfl) (by kernel_rfl) (by kernel_rfl))
   (Mi.aD 181 (.str "law_layworld_k23_fillings" 305) (.ref 180) (x:="_law_any_rule") (st:=Mi.ah 32) (df:=Mi.aV) KX G Mi.jC (by kernel_rfl) (by kernel_rfl) (by kernel_rfl) (by kernel_rfl))
   (Mi.aD 188 (.str "law_layworld_k23_fillings" 305) (.ref 187) (x:="_law_laying_kind") (st:=Mi.ah 33) (df:=Mi.aF) KX G Mi.gR (by kernel_rfl) (by kernel_rfl) (by kernel_rfl) (by kernel_rfl))
   (Mi.aD 195 (.str "law_layworld_k23_fillings" 305) (.ref 194) (x:="_law_breaks") (st:=Mi.ah 34) (df:=Mi.bg) KX G Mi.lC (by kernel_rfl) (by kernel_rfl) (by kernel_rfl) (by kernel_rfl))
   (Mi.aD 200 (.str "law_layworld_k23_fillings" 305) (.ref 199) (x:="_law_numbered") (st:=Mi.ah 35) (df:=Mi.aW) KX G Mi.jD (by kernel_rfl) (by kernel_rfl) (by kernel_rfl) (by kernel_rfl))
   (Mi.aD 207 (.str "law_layworld_k23_fillings" 305) (.ref 206) (x:="_law_laying_rule") (st:=Mi.ah 36) (df:=Mi.aG) KX G Mi.gS (by kernel_rfl) (by kernel_rfl) (by kernel_rfl) (by kernel_rfl))
   (Mi.aD 212 (.str "law_layworld_k23_fillings" 305) (.ref 211) (x:="_law_rising") (st:=Mi.ah 37) (df:=Mi.bh) KX G Mi.lD (by kernel_rfl) (by kernel_rfl) (by kernel_rfl) (by kernel_rfl))
   (Mi.aD 217 (.str "law_layworld_k23_fillings" 305) (.ref 216) (x:="_law_free_rule") (st:=Mi.ah 38) (df:=Mi.aO) KX G Mi.iV (by kernel_rfl) (by kernel_rfl) (by kernel_rfl) (by kernel_rfl))
   (Mi.aD 222 (.str "law_layworld_k23_fillings" 305) (.ref 221) (x:="_law_one_way_rule") (st:=Mi.ah 39) (df:=Mi.aB) KX G Mi.gy (by kernel_rfl) (by kernel_rfl) (by kernel_rfl) (by kernel_rfl))
   (Mi.aD 227 (.str "law_layworld_k23_fillings" 305) (.ref 226) (x:="_law_unlaying_rule") (st:=Mi.ah 40) (df:=Mi.aA) KX G Mi.fW (by kernel_rfl) (by kernel_rfl) (by kernel_rfl) (by kernel_rfl))
   (Mi.aD 234 (.str "law_layworld_k23_fillings" 305) (.ref 233) (x:="_law_new_ways") (st:=Mi.ah 41) (df:=Mi.aX) KX G Mi.jE (by kernel_rfl) (by kernel_rfl) (by kernel_rfl) (by kernel_rfl))
   (Mi.aD 241 (.str "law_layworld_k23_fillings" 305) (.ref 240) (x:="_law_world") (st:=Mi.ah 42) (df:=Mi.bx) KX G Mi.mh (by kernel_rfl) (by kernel_rfl) (by kernel_rfl) (by kernel_rfl))
   (Mi.aD 246 (.str "law_layworld_k23_fillings" 305) (.ref 245) (x:="_law_alike") (st:=Mi.ah 43) (df:=Mi.bz) KX G Mi.mj (by kernel_rfl) (by kernel_rfl) (by kernel_rfl) (by kernel_rfl))
   (Mi.aD 253 (.str "law_layworld_k23_fillings" 305) (.ref 252) (x:="_law_some_rule") (st:=Mi.ah 44) (df:=Mi.aP) KX G Mi.iW (by kernel_rfl) (by kernel_rfl) (by kernel_rfl) (by kernel_rfl))
   (Mi.aD 260 (.str "law_layworld_k23_fillings" 305) (.ref 259) (x:="_law_new_point") (st:=Mi.ah 45) (df:=Mi.aQ) KX G Mi.iX (by kernel_rfl) (by kernel_rfl) (by kernel_rfl) (by kernel_rfl))
   (Mi.aD 267 (.str "law_layworld_k23_fillings" 305) (.ref 266) (x:="_law_near") (st:=Mi.ah 46) (df:=Mi.bQ) KX G Mi.oZ (by kernel_rfl) (by kernel_rfl) (by kernel_rfl) (by kernel_rfl))
   (Mi.aD 274 (.str "law_layworld_k23_fillings" 305) (.ref 273) (x:="_law_pair") (st:=Mi.ah 47) (df:=Mi.bR) KX G Mi.o4 (by kernel_rfl) (by kernel_rfl) (by kernel_rfl) (by kernel_rfl))
   (Mi.aD 281 (.str "law_layworld_k23_fillings" 305) (.ref 280) (x:="_law_both") (st:=Mi.ah 48) (df:=Mi.bS) KX G Mi.o5 (by kernel_rfl) (by kernel_rfl) (by kernel_rfl) (by kernel_rfl))
   (Mi.aD 288 (.str "law_layworld_k23_fillings" 305) (.ref 287) (x:="_law_fills") (st:=Mi.ah 49) (df:=Mi.bA) KX G Mi.mn (by kernel_rfl) (by kernel_rfl) (by kernel_rfl) (by kernel_rfl))
   (Mi.aD 293 (.str "law_layworld_k23_fillings" 305) (.ref 292) (x:="_law_turned_fills") (st:=Mi.ah 50) (df:=Mi.aC) KX G Mi.gz (by kernel_rfl) (by kernel_rfl) (by kernel_rfl) (by kernel_rfl))
   (f:=300) (oc:=.type "function") (od:=td) (an:=td) (osl:=#[]) (kV:=.none) (doc:=.none) (pm:=(.str "law_layworld_k23_fillings" 305)) (cdv:=(.ref 299)) (ct:=.none) (by kernel_rfl) (by kernel_rfl) (by kernel_rfl) (by kernel_rfl)
