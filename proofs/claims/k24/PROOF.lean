import PyProof.Rows.All
import Wide.All
import OpenK.AllK
import Wide.FinOn
import Lean
import PyProof.EqAt
import PyProof.EqKinds
import PyProof.TupleCall
import KE.KDictList
import PyProof.SetKind
import PyProof.IsRules
import KE.KSortTup
import PyProof.ZipIter
import PyProof.Draws
import PyProof.EnumMake
import PyProof.WalksEnum
import PySem.Challenge.RW_layworld_k24_what_bars
noncomputable section
open Option renaming some→gV,none→td
local macro_rules|`(#v[])=>`((by decide))|`(#v[$x:term])=>`(.cons $x .nil)|`(#v[$x:term,$y:term,*])=>`(.cons $x #v[$y,*])
local macro_rules|`(#[$x:term])=>`(⟨$x⟩)|`(#[$x:term,$y:term,*])=>`(⟨$x,$y,*⟩)
local macro_rules|`(∅)=>`((by omega))
open _root_ renaming List→HF,Option→HL,Nat→HM,Int→Ig,if_pos→Iw,decide_eq_true_eq→Ix,Bool→Iy,decide_eq_false→IF,if_neg→IH,Array→IY,of_decide_eq_true→Jg,beq_self_eq_true→Jh,False→Jq,String→Jr,decide_eq_true→Jt,if_false→Kq,or_false→KC,if_true→KG,DecidableEq→KO,of_decide_eq_false→Le,beq_eq_false_iff_ne→LG,decide_eq_false_iff_not→Mo,True→Ny,bne_self_eq_false→NQ,not_false_eq_true→NV,dif_pos→PQ
open PySem renaming wpAny_bind→HG,Value→HH,Shared→HK,Addr→HR,wpAny_pure→HU,Str→Ik,Expr→Iv,Program→IC,Around→IL,World→IP,Heap→IZ,wpAny_newObj_type→Ja,sizeLine_eq→Je,wpAny_callSpecial?_slot→Jp,wpAny_call_entry→Jv,wpAny_holding→JC,Obj→JE,codeAny_builtin→JM,NameKind→JP,wpAny_mono→JR,wpAny_field→J0,wpAny_typeNameOfWhole_keyiter→J1,wpAny_truthy_bool→J2,DictEntry→J3,Spec→Kc,FuncData→Kd,Pos→Kf,wpAny_passesOwn→Kj,Stmt→Ks,wpAny_typeNameOf_keyiter→Kv,mem_of_lookup→Kw,plainId_quiet→KJ,Scope→KL,wpAny_seqItems→KU,wpAny_Call_Name_kw→Lc,wpAny_dictEntries→Lm,wpAny_standAt→Lx,wpAny_letGo→LA,wpAny_loadPart'→LD,wpAny_typeOf→LI,IsPart→LO,call_meets→LQ,wpAny_setField→LR,wpAny_tryCatch→LS,wpAny_pyIter_list→L9,wpAny_attempt→Mg,wpAny_comprehension_free→Mj,noFill_tuple_add→Ml,wpAny_isInstance→Mm,Paired→Mp,codeAny_mono→Mr,ItemsOf→Mu,wpAny_execs_nil→Mx,wpAny_dictEpoch→MB,wpAny_updateSeq→MC,wpAny_isOneOf_keyiter→MN,GenState→MR,wpAny_of_eq→MU,wpAny_pyIter_keyiter→MV,wpAny_runValue→MX,PassesOwn→M1,Builtin→M2,rangeSize_one→Na,seq_tuple_add→Nb,wpAny_newList→Ng,wpAny_rule→Nl,wpAny_load→Nm,wpAny_pyIter_tuple→Nt,Env→NA,wpAny_assign_Name→NB,Operator→ND,BindsTo→NE,concat_meets→NG,wpAny_sequenceKey→NH,seqIndex_neg→NJ,list_append→NK,wpAny_pyIter_enum→NT,wpAny_pyHash_int→NX,wpAny_pyHash_str→NY,Result→N1,wpAny_forIn_list→N6,seqIndex_of→Oh,wpAny_mkInt→Oi,Keyword→Os,wpAny_Name→Ou,wpAny_bindName→Ov,typeIs_int→Ox,fitsIndex_both→Oz,Params→OB,call→OC,SetTable→OD,wpAny_fieldsOf→OF,isSubtype_stop→OG,wpAny_newTuple→OI,intBits_le_64→OS,evalPart_none→OU,call_list_seq→OW,wpAny_handled→O1,small_one→O6,CmpOp→O7,call_range_1→Pa,Sem→Ph,IsRangeIter→Pi,wpAny_throw→Pp,BoolOp→PK,IsEnum→PL,IsRange→PR,Drawn→P1,Model→P2,Walks→P4,Tok→P7
open List renaming length_map→HI,length_append→HQ,getElem?_map→HS,set→HX,getElem?_eq_getElem→Ic,size_toArray→Ih,getElem?_eq_some_iff→Ii,mem_of_getElem?→Ij,zipWith→Il,range→Im,mem_singleton→Ip,mem_map→Ir,mem_cons→Iz,map_append→IA,all_eq_true→IB,mem_append_right→IG,replicate→IJ,length_range→IM,length_take→IN,getElem?_append_left→IQ,mem_range→IT,mem_append→IU,length_cons→IW,getElem_mem→IX,take_add_one→Jb,all_cons→Jd,getD_eq_getElem?_getD→Jf,mem_cons_of_mem→Jk,not_mem_nil→Jl,take_length→Jm,map_congr_left→Jw,length_singleton→Jx,replicate_succ→JD,length_filter_le→JG,map_cons→JI,append_nil→JJ,length_nil→JK,mem_cons_self→JN,lookup_cons→JQ,getElem?_append_right→JS,getElem?_set→JT,nodup_cons→JU,getElem?_eq_none_iff→JW,mem_append_left→JZ,map_map→J8,idxOf_lt_length_of_mem→J9,getElem_inj→Kb,mem_filter→Ki,range_succ→Km,flatten_cons→Kr,any_cons→Kt,getElem?_range→Kx,length_zipWith→Ky,length_drop→Kz,eq_nil_of_length_eq_zero→KD,zip_cons_cons→KH,find?_cons→KI,append_assoc→KM,pairwise_map→KN,mem_iff_getElem→KW,ext_getElem→KY,mem_flatMap→KZ,getLastD_eq_getLast?→K4,filterMap_cons→K5,length_pos_iff→K8,mem_eraseDups→Lf,length_eq_zero_iff→Lh,nodup_nil→Ln,take_of_length_le→Lo,getElem_take→Lp,length_replicate→Lq,take_append_drop→Lr,map_take→Lz,mem_of_mem_take→LB,length_dropLast→LC,find?_eq_none→LV,filter_append→LW,nodup_iff_pairwise_ne→LX,getElem_idxOf→LY,exists_mem_of_ne_nil→L5,getLast?_eq_getElem?→L6,nodup_append→Mb,getElem?_take_of_lt→Mf,getElem?_set_self→Mq,range_succ_eq_map→Mt,drop_of_length_le→Mw,of_mem_zip→My,forIn_cons→MA,find?_some→MF,getElem?_eq_none→MP,getElem?_set_ne→MS,eraseDups_cons→M8,flatMap_append→M9,mem_filterMap→Nn,ne_nil_of_mem→Nw,take_sublist→NF,map_nil→NM,zip_nil_left→NN,ext_getElem?→NS,flatMap_cons→NU,any_toArray→N7,isEmpty_iff→Ob,cons_ne_nil→Od,nodup_range→Oe,cons_append→Of,perm_middle→Og,length_set→Om,foldr_cons→Oo,foldl→Oy,forIn_nil→OJ,drop_zero→OM,take_zero→ON,all_map→Pd,map_set→Pf,length→Pj,Nodup→PM
open Option renaming map_eq_some_iff→HJ,map_some→IR,isSome_iff_exists→Jc,getD_none→N3,getD_some→Oa,toList→O3
open Bool renaming and_eq_true→HN,false_ne_true→Iu,false_eq_true→Js,or_eq_true→J4,true_and→Ly,not_eq_true'→Ma,eq_iff_iff→MG,and_eq_false_iff→MK,and_eq_true_iff→MY,and_true→Nc,not_true→Nd,false_or→Nf,or_false→OV
open PySem.Heap renaming get?_push_of_some→HP,lt_size→Io,get?_push_size→Iq,get?_update_other→Jj,get?_update_self→Kg,SameBut→Kn,get?_update_ne→K7,ExtBut→MT,size_update→N9,size_push→OL
open Int renaming natCast_nonneg→HV,toNat_natCast→HY,emod_lt_of_pos→JX,emod_nonneg→Kl,zero_add→LL,toNat_of_nonneg→M5,ediv_nonneg→Op
open PySem.W renaming Frag→HW,mg_none_of→Jo,nsIn→Jy,keepIn→Jz,fnOf→JY,kia_one→Kk,codeIn→KR,methodObj→L7,cellsFrom_some→Ms,OpenLaw→Mz,kat_nil→ME,KdlSrc→MW,kas_sort→N8,WalkO→OX,Looks→O2,mg_of→O4,recOk→O5,xlAt→Pg
open Nat renaming le_refl→HZ,ne_of_lt→ID,lt_of_lt_of_le→IE,le_trans→IS,lt_irrefl→Ju,zero_le→Ko,lt_succ_self→KA,ne_of_gt→KF,le_succ→KT,le_of_lt→Lj,succ_le_succ→Lv,min_self→LJ,le_of_ble_eq_true→MQ,lt_of_le_of_lt→Nv,min_eq_right→Oc,min_eq_left→Oq,not_lt→OH,add_assoc→OZ,succ_mul→Pb,lt_trans→Pc,sub_zero→Pe,ble→P9
open Option.some renaming injEq→II,inj→Jn
open Array renaming length_toList→IK,getElem?_toList→JF,getElem?_eq_some_iff→Ke,perm_iff_toList_perm→LU,getElem?_eq_getElem→L1,append_assoc→Nj,forIn_toList→Nq,toList→O9,getD→PJ
open PySem.Value renaming ref→IV,none→Ji,bool→KP,type→KQ,str→Ls,int→Mk
open PySem.Obj renaming mapSeq→JA,data_mapFields→Ld,isFreed_of_fields→MO,cls_mapFields→NO,mapFields→O0
open PySem.Around renaming under_plainId→JB
open PySem.Builtin.Tuple renaming tupleExact→JH,tupleItemsOf→KS,tupleHashOf→LZ,tupleCompareSizes→NW,tupleIsExact→OE
open ForInStep renaming yield→JL
open PySem.Builtin.Range renaming rangeSize→JO,small→LH
open PyProof.Rows renaming slot_tuple_getitem→JV,callWith_type1→J5,subscriptTail_builtinR→Ll,assignInOrder_cons→LN,AllBare→L8,listUpdate_at→Mh,SortKind→Mn,get?_update_seq→MD,entry_tuple_getitem→M4,lt_int→M6,args_tuple_getitem→No,IsTup→Nz,assignInOrder_nil→NC,listItems_at→NP,callWith_builtin1→N2,seqEpoch_at→Oj,IntsAre→Ot,slicePart_none→Ow,tupleItemsOf_→OT
open PySem.Str renaming ofString→J6
open PySem.Builtin.List renaming listExtendWith→J7,listTooLong→Ku,listFitsIndex→OA
open PySem.Builtin.Slice renaming slicePlaces→Kh,sliceAdjust→K1,sliceApplied→LP,slicePartIndex→Ol,sliceFields→OO
open PySem.Heap.SameBut renaming update→K6,refl→PU
open PySem.F renaming args_tuple_add_2→K9,entry_tuple_add→Lg,plainAttrs_list→Li,slot_tuple_add→Lk,slot_dict_get→ML
open PySem.Builtin.SmallTypes renaming ownedTupleIsFree→La,nextOf→L4,ownedTupleHandOut→M7
open PySem.NameKind renaming free→Lb,cell→P6
open PySem.SeqAt renaming EqAt→Lu,notIn_listAt→Np,in_tupleAt→N4,in_listAt→On
open True renaming intro→Lw
open PySem.Builtin.Dict_items renaming ownsTuple→LF
open PySem.Builtin.Builtins renaming bindParams→LK
open PySem.Calls renaming Name_function_global→LM,call_function_entry→L3,Constant_str→Nk
open Classical renaming byContradiction→L0,propDecidable→O8
open PySem.Paired renaming length→Mc
open PySem.Env renaming kindOf→Mv
open PySem.Challenge renaming pw_layworld_k24_what_bars→MH,rw_layworld_k24_what_bars→MJ
open PySem.Builtin.Dict renaming showsAll→MM,dictSlotNone→OQ,pendingCount→OR
open Sum renaming inl→MZ,inr→M0
open PySem.Expr renaming Name→M3
open PySem.SeqAt.EqAt renaming int_str→Nh,str_int→Ni,none_bool→Pk,bool_none→Pl,bool_bool→Pn,none_int→Pq,none_str→Pr,bool_int→Ps,bool_str→Pu,int_none→Pw,int_bool→Px,str_none→Py,str_bool→Pz,int_int→PD,str_str→PF,same→PZ
open PUnit renaming unit→Nr
open PySem.ScopeKind renaming function→Nu
open PySem.AutoListH renaming list___mul___list_int_3→Nx
open PySem.AutoSeq1 renaming list_extend_list_list_0→NL,sub_tuple_tuple→OY
open Function renaming comp_def→NR
open PyProof.Rows.IsTup renaming new→NZ
open PySem.IsL renaming update→N5
open PySem.Builtin.Str renaming tooLong→OP
open PySem.MeetsSeq renaming list_pop_at→Po
open PySem.Heap.IsSliceOf renaming new→PC
open PySem.Walks renaming list→PH
open List.Nodup renaming sublist→PN
open List.Pairwise renaming nil→PP
open PySem.Flow renaming next→PV
open PySem.W.Looks renaming ld→PX
open PySem.W.XL renaming keeps→PY
open PySem.PassesOwn renaming never→P0
open Prod renaming ext→P3
open List.Perm renaming map→P5
open PySem.Txt renaming mul→P8
set_option genSizeOf false
namespace ZZ.Lean
set_option Elab.async false
set_option linter.all false
set_option maxRecDepth 100000
namespace L2
open PySem PySem.Spec PyProof.Rows
noncomputable abbrev nu:=Sum Ig Ik
noncomputable def Bu:nu->HH->Iy
 | .inl k,v=>Value.isInt k v
 | .inr x,v=>Value.isStrOf x v
noncomputable def F5 (w:IP):nu->Ig
 | .inl k=>hashInt k
 | .inr x=>hashStr w x
theorem bW:∀ {k:nu} {v:HH},Bu k v=true->(∃i t,k=MZ i/\v=Mk i t)\/(∃x t,k=M0 x/\v=Ls x t)
 | .inl i,v,h=>by
  obtain⟨t,e⟩:=Value.isInt_shape (k:=i) (v:=v) h;exact .inl #[i,t,rfl,e]
 | .inr x,v,h=>by
  obtain⟨t,e⟩:=Value.isStrOf_shape (x:=x) (v:=v) h;exact .inr #[x,t,rfl,e]
theorem BX (a b:Ig):decide ((MZ a:nu)=MZ b)=(a==b):=by
 by_cases e:a=b
 ·subst e; simp
 ·have h:¬ (MZ a:nu)=MZ b:=λq=>e (Sum.inl.inj q)
  rw[IF h];exact(LG.mpr e).symm
theorem BY (a b:Ik):decide ((M0 a:nu)=M0 b)=decide (a=b):=by
 by_cases e:a=b
 ·subst e; simp
 ·have h:¬ (M0 a:nu)=M0 b:=λq=>e (Sum.inr.inj q)
  rw[IF h,IF e]
theorem BZ (a:Ig)(b:Ik):decide ((MZ a:nu)=M0 b)=false:=IF (λq=>nomatch q)
theorem B0 (a:Ik)(b:Ig):decide ((M0 a:nu)=MZ b)=false:=IF (λq=>nomatch q)
noncomputable def nv (prog:IC)(w:IP):PySem.KeyKind prog w nu where
 is:=Bu
 hash:=F5 w
 inj:=λv a b ha hb=>by
  rcases bW ha with⟨i,t,rfl,rfl⟩|⟨x,t,rfl,rfl⟩
  ·rcases bW hb with⟨j,u,rfl,e⟩|⟨y,u,rfl,e⟩
   ·injection e with e1 _; rw[e1]
   ·exact nomatch e
  ·rcases bW hb with⟨j,u,rfl,e⟩|⟨y,u,rfl,e⟩
   ·exact nomatch e
   ·injection e with e1 _; rw[e1]
 byValue:=λk v h=>by
  rcases bW h with⟨i,t,rfl,rfl⟩|⟨x,t,rfl,rfl⟩ <;> rfl
 pyHash:=λhv h=>by
  rcases bW hv with⟨i,t,rfl,rfl⟩|⟨x,t,rfl,rfl⟩
  ·exact NX h
  ·exact NY h
 eqBool:=λhu hv h=>by
  rcases bW hu with⟨i,t,rfl,rfl⟩|⟨x,t,rfl,rfl⟩
  ·rcases bW hv with⟨j,u,rfl,rfl⟩|⟨y,u,rfl,rfl⟩
   ·rw[BX]at h; exact wpAny_eqBool_int h
   ·rw[BZ]at h; exact Nh i t y u _ _ _ _ h
  ·rcases bW hv with⟨j,u,rfl,rfl⟩|⟨y,u,rfl,rfl⟩
   ·rw[B0]at h; exact Ni x t j u _ _ _ _ h
   ·rw[BY]at h; exact wpAny_eqBool_str h
 «strs»:=λk x t v h=>by
  rcases bW h with⟨i,u,rfl,e⟩|⟨y,u,rfl,e⟩
  ·exact nomatch e
  ·injection e with e1 _
   subst e1;cases v <;> rfl
inductive V where
 | non|bl (b:Iy)|int (i:Ig)|str (x:Ik)|byt (b:IY UInt8)|flt (b:UInt64)|ref (a:HR)|ty (n:Jr)
 deriving KO
noncomputable def RelV:V->HH->Prop
 | .non,u=>u=Ji
 | .bl b,u=>u=KP b
 | .int i,u=>∃t,u=Mk i t
 | .str x,u=>∃t,u=Ls x t
 | .byt b,u=>∃t,u=Value.bytes b t
 | .flt b,u=>∃t,u=Value.float b t
 | .ref a,u=>u=IV a
 | .ty n,u=>u=KQ n
noncomputable abbrev Vals:HF V->HF HH->Prop:=Mp RelV
theorem Vals.length {xs:HF V}{us:HF HH}(r:Vals xs us):xs.length=us.length:=Mc r
theorem Vals.get:∀ {xs:HF V} {us:HF HH} {i:HM} {x:V},Vals xs us->xs[i]?=gV x->∃u,us[i]?=gV u/\RelV x u
 | _,_,_,_,.nil,e=>by simp at e
 | _,_,0,_,.cons r _,e=>by simp at e; subst e; exact#[_,rfl,r]
 | _,_,i+1,x,.cons _ t,e=>by
  obtain⟨u,h1,h2⟩:=Vals.get (i:=i) (x:=x) t (by simpa using e)
  exact#[u,by simpa using h1,h2]
theorem Vals.set {x:V}{u:HH}(r:RelV x u):∀ {xs:HF V} {us:HF HH} (i:HM),Vals xs us->Vals (xs.set i x) (us.set i u)
 | _,_,_,.nil=>.nil
 | _,_,0,.cons _ t=>.cons r t
 | _,_,i+1,.cons q t=>.cons q (Vals.set r i t)
theorem Vals.append:∀ {xs ys:HF V} {us ws:HF HH},Vals xs us->Vals ys ws->Vals (xs++ys) (us++ws)
 | _,_,_,_,.nil,s=>s
 | _,_,_,_,.cons r t,s=>.cons r (Vals.append t s)
theorem Vals.take:∀ {xs:HF V} {us:HF HH} (n:HM),Vals xs us->Vals (xs.take n) (us.take n)
 | _,_,0,_=>.nil
 | _,_,_+1,.nil=>.nil
 | _,_,n+1,.cons r t=>.cons r (Vals.take n t)
theorem Vals.drop:∀ {xs:HF V} {us:HF HH} (n:HM),Vals xs us->Vals (xs.drop n) (us.drop n)
 | _,_,0,r=>r
 | _,_,_+1,.nil=>.nil
 | _,_,n+1,.cons _ t=>Vals.drop n t
noncomputable def DZ:HL V->HL HH->Prop
 | some v,gV u=>RelV v u
 | none,td=>Ny
 | _,_=>Jq
noncomputable def KV {κ:Type}:HF (κ×V)->HF (κ×HH)->Prop:=Mp λ(p:κ×V) (q:κ×HH)=>p.1=q.1/\RelV p.2 q.2
noncomputable def kV:nu->V
 | .inl i=>.int i
 | .inr x=>.str x
inductive HO where
 | lst (xs:HF V)
 | tup (xs:HF V)
 | dK (kvs:HF (nu×V))|dT (kvs:HF (HF nu×V))
 | set (S:Ig->Iy) (n:HM)
 | ins (C dx:HR) (fs:HF (Ik×V))
 | own (x:HR)
 | xd (fs:HF (Ik×V))
 | met (f x:HR)
 | rng (lo hi:Ig)
 | frz (o:JE) (u:HO)
 | tbl (ps:IY HH)
 | ext (φ:IZ->Prop)
noncomputable abbrev Hp:=HR->HL HO
noncomputable def cp (H:Hp)(a:HR)(o:HO):Hp:=λb=>if b=a then gV o else H b
theorem bD {H:Hp}{a:HR}{o:HO}:cp H a o a=gV o:=by unfold cp; rw[Iw rfl]
theorem aV {H:Hp}{a b:HR}{o:HO}(h:b≠a):cp H a o b=H b:=by unfold cp; rw[IH h]
theorem d7 {H:Hp}{a b:HR}{o:HO}(h:H a=gV o)(h':H b=td):a≠b:=by
 intro e; subst e; rw[h]at h'; cases h'
section
variable (P:IC) (w:IP)
noncomputable def ObjOk (H:Hp)(h:IZ)(a:HR):HO->Prop
 | .lst xs=>xs.length<=sizeLine/\∃(its:HF HH) (n:HM),Vals xs its/\h.get? a=gV { cls:=.type "list",data:=.seq its.toArray n }
 | .tup xs=>xs.length<=sizeLine/\∃its:HF HH,Vals xs its/\Nz h a its.toArray
 | .dK kvs=>kvs.length<=sizeLine/\(a==sysModules)=false/\∃vs,KV kvs vs/\h.DictOf (nv P w) a vs
 | .dT kvs=>kvs.length<=sizeLine/\(a==sysModules)=false/\∃xs:HF (HF nu×HR×HH),
   Mp (λ(p:HF nu×V) (q:HF nu×HR×HH)=>p.1=q.1/\H q.2.1=gV (.tup (p.1.map kV))/\RelV p.2 q.2.2) kvs xs/\
   ∃o es ep,h.get? a=gV o/\o.ExactDict/\o.data=.dict es ep/\es.toList=xs.map (entryOfKey (tupleKind (nv P w)))/\(xs.map (·.1)).Nodup
 | .set S n=>h.SetOf (intKind P w) a S n
 | .ins C dx fs=>H dx=gV (.own a)/\fs.length<=1000/\dx≠a/\h.get? a=gV (PySem.W.instObj C dx)/\
   ∃mA,h.Ns1 dx mA/\(∀f,DZ (fs.lookup f) (mA f))/\PySem.Within mA (fs.map (·.1))
 | .own _=>∃o,h.get? a=gV o
 | .xd fs=>∃mA,h.Ns1 a mA/\∀f,DZ (fs.lookup f) (mA f)
 | .rng lo hi=>∃t u v,h.get? a=gV { cls:=.type "range",data:=.fields [.int lo t,.int hi u,.int 1 v].toArray }
 | .frz o u=>h.get? a=gV o/\ObjOk H h a u
 | .tbl ps=>h.get? a=gV { cls:=.none,data:=.fields ps }
 | .met f x=>h.get? a=gV (L7 (.ref f) (.ref x))
 | .ext φ=>φ h/\(∃o,h.get? a=gV o)/\∀h1 h2:IZ,φ h1->(∀o,h1.get? a=gV o->h2.get? a=gV o)->φ h2
noncomputable def HOk (H:Hp)(h:IZ):Prop:=∀a o,H a=gV o->ObjOk P w H h a o
end
section
variable{P:IC}{w:IP}{H H':Hp}{h h':IZ}{a:HR}{o:HO}
theorem ObjOk.lt (x:ObjOk P w H h a o):a < h.objs.size:=by
 cases o with
 | lst xs=>obtain⟨_,_,_,_,e⟩:=x; exact Io e
 | tup xs=>obtain⟨_,_,_,p⟩:=x; exact p.lt
 | dK kvs=>obtain⟨_,_,_,_,o,_,_,e,_⟩:=x; exact Io e
 | dT kvs=>obtain⟨_,_,_,_,o,_,_,e,_⟩:=x; exact Io e
 | set S n=>obtain⟨o,_,_,_,e,_⟩:=x; exact Io e
 | ins C dx fs=>obtain⟨_,_,_,e,_⟩:=x; exact Io e
 | own y=>obtain⟨_,e⟩:=x; exact Io e
 | xd fs=>obtain⟨_,⟨_,_,_,e,_⟩,_⟩:=x; exact Io e
 | rng lo hi=>obtain⟨_,_,_,e⟩:=x; exact Io e
 | frz ob u=>obtain⟨e,_⟩:=x; exact Io e
 | tbl ps=>exact Io (show h.get? a=gV _ from x)
 | met f y=>exact Io (show h.get? a=gV _ from x)
 | ext φ=>obtain⟨_,⟨_,e⟩,_⟩:=x; exact Io e
theorem Paired.mapP {α β:Type}{F G:α->β->Prop}:∀ {l₁:HF α} {l₂:HF β},Mp F l₁ l₂->(∀a b,F a b->G a b)->Mp G l₁ l₂
 | _,_,.nil,_=>.nil
 | _,_,.cons r t,f=>.cons (f _ _ r) (Paired.mapP t f)
theorem ObjOk.stay (x:ObjOk P w H h a o)(k:∀b u,(b=a\/H b=gV (.own a))->h.get? b=gV u->h'.get? b=gV u)
  (ho:∀b,H b=gV (.own a)->H' b=gV (.own a)) (ht:∀b xs,H b=gV (.tup xs)->H' b=gV (.tup xs)):ObjOk P w H' h' a o:=by
 induction o with
 | lst xs=>obtain⟨z,its,n,r,e⟩:=x; exact#[z,its,n,r,k _ _ (.inl rfl) e]
 | tup xs=>obtain⟨z,its,r,ob,e,c⟩:=x; exact#[z,its,r,ob,k _ _ (.inl rfl) e,c]
 | dK kvs=>obtain⟨z,y,vs,r,ob,es,ep,e,c⟩:=x; exact#[z,y,vs,r,ob,es,ep,k _ _ (.inl rfl) e,c]
 | dT kvs=>
  obtain⟨z,y,xs,r,ob,es,ep,e,c⟩:=x;exact#[z,y,xs,Paired.mapP r λp q z=>#[z.1,ht _ _ z.2.1,z.2.2],ob,es,ep,k _ _ (.inl rfl) e,c]
 | set S n=>obtain⟨ob,es,ep,t,e,c⟩:=x; exact#[ob,es,ep,t,k _ _ (.inl rfl) e,c]
 | ins C dx fs=>
  obtain⟨d,z,ne,e,mA,⟨od,es,ep,e2,c⟩,r⟩:=x;exact#[ho _ d,z,ne,k _ _ (.inl rfl) e,mA,#[od,es,ep,k _ _ (.inr d) e2,c],r]
 | own y=>obtain⟨ob,e⟩:=x; exact#[ob,k _ _ (.inl rfl) e]
 | xd fs=>obtain⟨mA,⟨od,es,ep,e,c⟩,r⟩:=x; exact#[mA,#[od,es,ep,k _ _ (.inl rfl) e,c],r]
 | rng lo hi=>obtain⟨t,u,v,e⟩:=x; exact#[t,u,v,k _ _ (.inl rfl) e]
 | frz ob u ih=>obtain⟨e,q⟩:=x; exact#[k _ _ (.inl rfl) e,ih q]
 | tbl ps=>
  have e:h.get? a=gV { cls:=.none,data:=.fields ps }:=x;show h'.get? a=gV { cls:=.none,data:=.fields ps };exact k a _ (.inl rfl) e
 | met f y=>
  have e:h.get? a=gV (L7 (.ref f) (.ref y)):=x;show h'.get? a=gV (L7 (.ref f) (.ref y));exact k a _ (.inl rfl) e
 | ext φ=>obtain⟨p,⟨o,e⟩,st⟩:=x; exact#[st _ _ p λo q=>k _ _ (.inl rfl) q,#[o,k _ _ (.inl rfl) e],st]
theorem HOk.lt (x:HOk P w H h)(e:H a=gV o):a < h.objs.size:=(x a o e).lt
theorem HOk.fresh (x:HOk P w H h)(e:h.objs.size<=a):H a=td:=by
 cases q:H a with
 | none=>rfl
 | some u=>exact absurd (IE (x.lt q) e) (Ju _)
theorem HOk.kept (x:HOk P w H h)(k:∀b u,h.get? b=gV u->h'.get? b=gV u):HOk P w H h':=λa o e=>
 (x a o e).stay (λb u _ q=>k b u q) (λ_ q=>q) λ_ _ q=>q
theorem HOk.laid (x:HOk P w H h)(k:∀b u,h.get? b=gV u->h'.get? b=gV u)(hp:h.objs.size<=a)(new:ObjOk P w (cp H a o) h' a o):HOk P w (cp H a o) h':=λb u e=>by
 have hn:=x.fresh hp
 by_cases hb:b=a
 ·subst hb; rw[bD]at e; cases e; exact new
 ·rw[aV hb]at e;exact(x b u e).stay (λc v _ q=>k c v q) (λc q=>by rw[aV (d7 q hn)]; exact q) λc xs q=>by rw[aV (d7 q hn)]; exact q
end
noncomputable def Rd (H:Hp)(a:HR)(u:HO):Prop:=H a=gV u\/∃o,H a=gV (.frz o u)
theorem Rd.ok {P:IC}{w:IP}{H:Hp}{h:IZ}{a:HR}{u:HO}(r:Rd H a u)(x:HOk P w H h):ObjOk P w H h a u:=by
 rcases r with r|⟨o,r⟩
 ·exact x a u r
 ·obtain⟨_,q⟩:=x a _ r;exact q
noncomputable def D0:HL HO->Prop
 | some (.lst _)=>Ny
 | some (.dK _)=>Ny
 | some (.dT _)=>Ny
 | some (.set _ _)=>Ny
 | some (.ins _ _ _)=>Ny
 | some (.ext _)=>Ny
 | _=>Jq
section
variable{P:IC}{w:IP}{H:Hp}{h h':IZ}{x e:HR}{o':HO}
theorem HOk.write (ok:HOk P w H h)(mu:D0 (H x))(he:e=x\/H e=gV (.own x))(k:∀b u,b≠e->h.get? b=gV u->h'.get? b=gV u)(heo:∃u,h'.get? e=gV u)
  (new:ObjOk P w (cp H x o') h' x o'):HOk P w (cp H x o') h':=λb u q=>by
 have nown:∀c y,H c=gV (.own y)->c≠x:=λc y r z=>by subst z; rw[r]at mu; exact mu
 have ntup:∀c xs,H c=gV (.tup xs)->c≠x:=λc xs r z=>by subst z; rw[r]at mu; exact mu
 by_cases hb:b=x
 ·subst hb; rw[bD]at q; cases q; exact new
 ·rw[aV hb]at q
  by_cases hbe:b=e
  ·have q':H b=gV (.own x):=by
    rcases he with z|z
    ·exact absurd (hbe.trans z) hb
    ·rw[hbe]; exact z
   rw[q]at q'; cases q'
   obtain⟨v,hv⟩:=heo;exact#[v,by rw[hbe]; exact hv]
  ·refine(ok b u q).stay (λc v hc r=>k c v ?_ r) (λc r=>by rw[aV (nown c b r)]; exact r) λc xs r=>by rw[aV (ntup c xs r)]; exact r
   rcases hc with rfl|hc
   ·exact hbe
   ·rintro rfl;rcases he with z|z
    ·exact nown c b hc z
    ·rw[hc]at z; cases z; exact hb rfl
end
structure Un (fs ex:HF HR)(H H':Hp)(h h':IZ):Prop where
 keep:∀b o,h.get? b=gV o->H b=td->b∉fs->b∉ex->h'.get? b=gV o
 slot:∀b o,h.get? b=gV o->H b=td->b∈fs->b∉ex->∃sl,h'.get? b=gV { o with slots:=sl }
 free:∀b o,h.get? b=gV o->H b=td->b∉ex->H' b=td
 there:∀b o,h.get? b=gV o->b∉ex->∃o',h'.get? b=gV o'
 tups:∀b xs,H b=gV (.tup xs)->H' b=gV (.tup xs)
 frzs:∀b o u,H b=gV (.frz o u)->H' b=gV (.frz o u)
 tbls:∀b ps,H b=gV (.tbl ps)->∃more,H' b=gV (.tbl (ps++more))
section
variable{fs fs' ex ex':HF HR}{H H1 H2:Hp}{h h1 h2 h':IZ}{a x e:HR}{o:HO}
theorem Un.any (u:Un fs ex H H1 h h1){b:HR}{ob:JE}(q:h.get? b=gV ob)(n:H b=td)(hx:b∉ex):∃sl,h1.get? b=gV { ob with slots:=sl }:=by
 by_cases hb:b∈fs
 ·exact u.slot b ob q n hb hx
 ·exact#[ob.slots,u.keep b ob q n hb hx]
theorem Un.trans (a:Un fs ex H H1 h h1)(b:Un fs ex H1 H2 h1 h2):Un fs ex H H2 h h2 where
 keep:=λc ob q n hc hx=>b.keep c ob (a.keep c ob q n hc hx) (a.free c ob q n hx) hc hx
 slot:=λc ob q n hc hx=>by
  obtain⟨sl,e1⟩:=a.slot c ob q n hc hx;obtain⟨sl',e2⟩:=b.slot c _ e1 (a.free c ob q n hx) hc hx;exact#[sl',e2]
 free:=λc ob q n hx=>by
  obtain⟨o',e1⟩:=a.there c ob q hx;exact b.free c o' e1 (a.free c ob q n hx) hx
 there:=λc ob q hx=>by
  obtain⟨o',e1⟩:=a.there c ob q hx;exact b.there c o' e1 hx
 tups:=λc xs q=>b.tups c xs (a.tups c xs q)
 frzs:=λc ob xs q=>b.frzs c ob xs (a.frzs c ob xs q)
 tbls:=λc ps q=>by
  obtain⟨m1,e1⟩:=a.tbls c ps q;obtain⟨m2,e2⟩:=b.tbls c _ e1;exact#[m1++m2,by rw[e2,Nj]]
theorem Un.kept (k:∀b u,h.get? b=gV u->h'.get? b=gV u):Un fs ex H H h h':=
 #[λb ob q _ _ _=>k b ob q,λb ob q _ _ _=>#[ob.slots,k b ob q],λ_ _ _ n _=>n,λb ob q _=>#[ob,k b ob q],λ_ _ q=>q,λ_ _ _ q=>q,λ_ ps q=>#[#[],by rw[q]; simp]]
theorem Un.refl:Un fs ex H H h h:=Un.kept λ_ _ q=>q
theorem Un.laid (k:∀b u,h.get? b=gV u->h'.get? b=gV u)(hp:h.objs.size<=a)(hn:H a=td):Un fs ex H (cp H a o) h h' where
 keep:=λb u q _ _ _=>k b u q
 slot:=λb u q _ _ _=>#[u.slots,k b u q]
 free:=λb u q n _=>by rw[aV (ID (IE (Io q) hp))]; exact n
 there:=λb u q _=>#[u,k b u q]
 tups:=λb xs q=>by rw[aV (d7 q hn)]; exact q
 frzs:=λb u xs q=>by rw[aV (d7 q hn)]; exact q
 tbls:=λb ps q=>#[#[],by rw[aV (d7 q hn),q]; simp]
theorem Un.write (mu:D0 (H x))(he:e=x\/H e=gV (.own x))(k:∀b u,b≠e->h.get? b=gV u->h'.get? b=gV u)(heo:∃u,h'.get? e=gV u):Un fs ex H (cp H x o) h h':=by
 have hx:∀b,H b=td->b≠x:=λb n z=>by subst z; rw[n]at mu; exact mu
 have hb:∀b,H b=td->b≠e:=λb n z=>by
  subst z;rcases he with r|r
  ·exact hx b n r
  ·rw[n]at r; cases r
 have hm:∀b u,H b=gV u->¬ D0 (gV u)->b≠x:=λb u q nm z=>by subst z; rw[q]at mu; exact nm mu
 refine#[λb u q n _ _=>k b u (hb b n) q,λb u q n _ _=>#[u.slots,k b u (hb b n) q],λb u q n _=>by rw[aV (hx b n)]; exact n,λb u q _=>?_,
  λb xs q=>by rw[aV (hm b _ q λz=>z)]; exact q,λb u xs q=>by rw[aV (hm b _ q λz=>z)]; exact q,λb ps q=>#[#[],by rw[aV (hm b _ q λz=>z),q]; simp]]
 by_cases hbe:b=e
 ·subst hbe; exact heo
 ·exact#[u,k b u hbe q]
end
noncomputable def FV (h:IZ)(H:Hp):HF HR:=(Im h.objs.size).filter λa=>(H a).isSome
noncomputable def nw (h:IZ)(H:Hp):IZ:=PySem.W.hideAll h (FV h H)
theorem ur (h:IZ)(H:Hp):(nw h H).objs.size=h.objs.size:=PySem.W.hideAll_size _ _
theorem vJ {h:IZ}{H:Hp}{b:HR}{o:JE}(e:h.get? b=gV o)(n:H b=td):(nw h H).get? b=gV o:=
 PySem.W.hideAll_get _ e λhm=>by
  have q:(H b).isSome=true:=(Ki.mp hm).2;rw[n]at q; simp at q
theorem yY {h:IZ}{H:Hp}{b:HR}{o:JE}(e:(nw h H).get? b=gV o):h.get? b=gV o/\H b=td:=by
 have e':h.get? b=gV o:=PySem.W.of_hideAll (FV h H) e;refine#[e',?_];cases q:H b with
 | none=>rfl
 | some x=>
  have hm:b∈FV h H:=Ki.mpr #[IT.mpr (Io e'),by simp[q]]
  have z:(nw h H).get? b=td:=PySem.W.hideAll_none (FV h H) hm;rw[z]at e; cases e
noncomputable def yZ (g h:IZ)(L:HR):HF (HR×JE):=(Im h.objs.size).filterMap λa=>if a=L\/(g.get? a).isSome=true then td else(h.get? a).map λo=>(a,o)
noncomputable def dh (g h:IZ)(L d:HR):HF (HR×JE):=(yZ g h L).filter λp=>decide (p.1≠d)
structure Mod (K:HW)(mg:Ik->HL HH)(base:IZ):Prop where
 kin:K.In base
 glob:base.Ns mainGlobals mg
 blt:∃mb,base.Ns builtinsNs mb/\∀x:Ik,x≠"__name__"->mb x=bootBuiltins x
 nolimit:base.NoLimit
structure Cx where
 prog:IC
 w:IP
 K:HW
 mg:Ik->HL HH
 base:IZ
 A:IL
 N:HF Ik
 s₀:HK
 H₀:Hp
 env:NA
 outer:HF NA
 stack:HF NA
 ex:HF HR
 fn:Ik->Iy
 calm:Iy
 pn:HF (HR×JE)
 xe:HH->HK->Prop
noncomputable def q8 (l:HF NA):HF HR:=l.filterMap (·.frame)
noncomputable abbrev Cx.fs (X:Cx):HF HR:=q8 X.outer
noncomputable def F6 (sc:KL)(x:Ik):Prop:=sc.names.lookup x=gV .local\/sc.names.lookup x=gV .cell\/sc.names.lookup x=gV .free
noncomputable def y4 (sc:KL)(x:Ik):Prop:=sc.names.lookup x=gV .local\/sc.names.lookup x=gV .cell
noncomputable def F7 (env:NA)(h:IZ)(m:Ik->HL HH)(x:Ik)(u:HH):Prop:=
 (env.kindOf x=gV .local/\m x=gV u)\/((env.kindOf x=gV .cell\/env.kindOf x=gV .free)/\∃c,env.cells.lookup x=gV c/\h.IsCell c (gV u))
structure Cx.Ok (X:Cx):Prop where
 mod:Mod X.K X.mg X.base
 kind:X.env.scope.kind=.function
 glob:X.env.globals=mainGlobals
 blt:X.env.builtins=builtinsNs
 above:X.s₀.heap.objs.size<=X.env.locals
 inj:∀x y c,X.env.cells.lookup x=gV c->X.env.cells.lookup y=gV c->x=y
 has:∀x,(X.env.kindOf x=gV .cell\/X.env.kindOf x=gV .free)->∃c,X.env.cells.lookup x=gV c
 cab:∀x c,X.fn x=true->X.env.cells.lookup x=gV c->X.s₀.heap.objs.size<=c
 hd:X.calm=true->X.A.handled=td
 frames:X.A.frames=gV X.stack
 stk:X.stack=X.outer\/(X.stack=X.env::X.outer/\X.env.frame=gV X.env.locals)
 exf:∀b∈X.ex,b≠X.env.locals/\∀x c,X.env.cells.lookup x=gV c->c≠b
 bs:∀b o,X.base.get? b=gV o->X.s₀.heap.get? b=gV o/\X.H₀ b=td
 bsz:X.base.objs.size<=X.s₀.heap.objs.size
 noex:∀b o,X.base.get? b=gV o->b∉X.ex
 exfs:∀b∈X.ex,b∉X.fs
 funs:X.s₀.heap.FunFrames X.base X.outer
 frf:∀b∈X.fs,X.H₀ b=td
structure Inv (X:Cx)(pins:HF (HR×JE))(σ:HF (HL V))(H:Hp)(s:HK):Prop where
 ok:X.Ok
 os:s.os=X.s₀.os
 bare:L8 s.gens
 base:Un X.fs X.ex X.H₀ H X.s₀.heap s.heap
 loc:∃m,s.heap.Ns X.env.locals m/\∀(i:HM) (x:Ik) (v:V),X.N[i]?=gV x->σ[i]?=gV (gV v)->F6 X.env.scope x->∃u,RelV v u/\F7 X.env s.heap m x u
 cell:∀x c,X.env.cells.lookup x=gV c->∃v,s.heap.IsCell c v
 free:H X.env.locals=td
 freeC:∀x c,X.env.cells.lookup x=gV c->H c=td
 pin:∀p∈X.pn++pins,s.heap.get? p.1=gV p.2/\H p.1=td/\p.1≠X.env.locals/\p.1∉X.fs/\∀v,p.2.data≠.cell v
 hok:HOk X.prog X.w H s.heap
 len:σ.length=X.N.length
section
variable{X:Cx}{pins:HF (HR×JE)}{σ:HF (HL V)}{H H':Hp}{s:HK}{h':IZ}
theorem Cx.Ok.nofr (ok:X.Ok){b:HR}{o:JE}(e:X.base.get? b=gV o):b∉X.fs:=λhb=>by
 have:=(ok.funs.mem hb).1;rw[e]at this; cases this
theorem Inv.bs (I:Inv X pins σ H s):∀b o,X.base.get? b=gV o->s.heap.get? b=gV o/\H b=td:=λb o e=>
 #[I.base.keep b o (I.ok.bs b o e).1 (I.ok.bs b o e).2 (I.ok.nofr e) (I.ok.noex b o e),I.base.free b o (I.ok.bs b o e).1 (I.ok.bs b o e).2 (I.ok.noex b o e)]
theorem Inv.bk (I:Inv X pins σ H s):∀b o,X.base.get? b=gV o->s.heap.get? b=gV o:=λb o e=>(I.bs b o e).1
theorem Inv.mod (I:Inv X pins σ H s):Mod X.K X.mg X.base:=I.ok.mod
theorem Inv.kIn (I:Inv X pins σ H s):X.K.In s.heap:=I.ok.mod.kin.keeps I.bk
theorem Inv.lt (I:Inv X pins σ H s):X.env.locals < s.heap.objs.size:=let ⟨_,hn,_⟩:=I.loc; hn.lt
theorem Inv.sz (I:Inv X pins σ H s):X.s₀.heap.objs.size<=s.heap.objs.size:=IS I.ok.above (Lj I.lt)
theorem Inv.nofs (I:Inv X pins σ H s){a:HR}(h:s.heap.objs.size<=a):a∉X.fs:=λhb=>by
 obtain⟨_,o,ho,_⟩:=I.ok.funs.mem hb;exact absurd (IE (Io ho) (IS I.sz h)) (Ju _)
theorem Inv.cne (I:Inv X pins σ H s):∀x c,X.env.cells.lookup x=gV c->c≠X.env.locals:=λx c e z=>by
 obtain⟨v,o,ho,hd⟩:=I.cell x c e;obtain⟨m,⟨o',es,ep,ho',hd',_⟩,_⟩:=I.loc;rw[z,ho']at ho; cases ho; rw[hd']at hd; cases hd
theorem Inv.funs (I:Inv X pins σ H s):s.heap.FunFrames X.base X.outer:=by
 have all:∀(l:HF NA),(∀b∈q8 l,b∈X.fs)->X.s₀.heap.FunFrames X.base l->s.heap.FunFrames X.base l:=by
  intro l
  induction l with
  | nil=>intro _ _; trivial
  | cons env r ih=>
   intro hs hl;obtain⟨hk,⟨L,o,hf,hn,ho,hd⟩,hr⟩:=hl;have hL:L∈X.fs:=hs L (by unfold q8; rw[K5,hf]; exact JN)
   obtain⟨sl,e⟩:=I.base.slot L o ho (I.ok.frf L hL) hL λz=>I.ok.exfs L z hL
   exact#[hk,#[L,_,hf,hn,e,hd],ih (λb hb=>hs b (by unfold q8; rw[K5,hf]; exact Jk _ hb)) hr]
 exact all X.outer (λ_ hb=>hb) I.ok.funs
theorem Inv.stack (I:Inv X pins σ H s):s.heap.FunFrames X.base X.stack:=by
 rcases I.ok.stk with e|⟨e,hf⟩
 ·rw[e]; exact I.funs
 ·rw[e];obtain⟨m,hn,_⟩:=I.loc;refine .cons (by rw[I.ok.kind]; decide) hf hn ?_ I.funs
  exact Heap.get?_none_of_le (IS I.ok.bsz I.ok.above)
theorem Inv.stkSub (I:Inv X pins σ H s):∀b∈q8 X.stack,b∈X.env.locals::X.fs:=λb hb=>by
 rcases I.ok.stk with e|⟨e,hf⟩
 ·rw[e]at hb; exact Jk _ hb
 ·rw[e]at hb;unfold q8 at hb;rw[K5,hf]at hb;exact hb
theorem Inv.stkFree (I:Inv X pins σ H s):∀b∈q8 X.stack,H b=td:=λb hb=>by
 rcases Iz.mp (I.stkSub b hb)with e|hb
 ·rw[e]; exact I.free
 ·obtain⟨_,o,ho,_⟩:=I.ok.funs.mem hb;exact I.base.free b o ho (I.ok.frf b hb) λz=>I.ok.exfs b z hb
theorem Inv.step {g':IY MR}{t':HM}{d':P1}{ch:HF HR}(I:Inv X pins σ H s)
  (hch:∀b∈ch,(b∈X.ex\/X.s₀.heap.objs.size<=b)/\b≠X.env.locals/\(∀x c,X.env.cells.lookup x=gV c->c≠b)/\∀p∈X.pn++pins,p.1≠b)
  (keep:∀b o,b≠X.env.locals->b∉X.fs->b∉ch->s.heap.get? b=gV o->H b=td->h'.get? b=gV o)
  (slot:∀b o,b≠X.env.locals->b∈X.fs->b∉ch->s.heap.get? b=gV o->H b=td->∃sl,h'.get? b=gV { o with slots:=sl }) (free:∀b o,b∉ch->s.heap.get? b=gV o->H b=td->H' b=td)
  (there:∀b o,b∉ch->s.heap.get? b=gV o->∃o',h'.get? b=gV o')
  (tups:∀b xs,H b=gV (.tup xs)->H' b=gV (.tup xs)) (frzs:∀b o u,H b=gV (.frz o u)->H' b=gV (.frz o u)) (tbls:∀b ps,H b=gV (.tbl ps)->∃more,H' b=gV (.tbl (ps++more)))
  (ns:∀m,s.heap.Ns X.env.locals m->h'.Ns X.env.locals m) (hok:HOk X.prog X.w H' h') (hg:L8 g') :
  Inv X pins σ H' { s with heap:=h',gens:=g',drawn:=d',toks:=t' }:=by
 have neL:∀b o,X.s₀.heap.get? b=gV o->b≠X.env.locals:=λb o e=>ID (IE (Io e) I.ok.above)
 have neC:∀b o,X.s₀.heap.get? b=gV o->b∉X.ex->b∉ch:=λb o e hx hb=>by
  rcases(hch b hb).1 with z|z
  ·exact hx z
  ·exact absurd (IE (Io e) z) (Ju _)
 have cellK:∀x c,X.env.cells.lookup x=gV c->∀v,s.heap.IsCell c v->h'.IsCell c v:=λx c e v #[o,ho,hd]=>by
  have nch:c∉ch:=λz=>(hch c z).2.2.1 x c e rfl
  by_cases hc:c∈X.fs
  ·obtain⟨sl,q⟩:=slot c o (I.cne x c e) hc nch ho (I.freeC x c e);exact#[_,q,hd]
  ·exact#[o,keep c o (I.cne x c e) hc nch ho (I.freeC x c e),hd]
 refine#[I.ok,I.os,hg,#[λb o e n hb hx=>?_,λb o e n hb hx=>?_,λb o e n hx=>?_,λb o e hx=>?_,λb xs e=>tups b xs (I.base.tups b xs e),λb o xs e=>frzs b o xs (I.base.frzs b o xs e),λb ps e=>?_],?_,λx c e=>?_,?_,λx c e=>?_,λp hp=>?_,hok,I.len]
 ·exact keep b o (neL b o e) hb (neC b o e hx) (I.base.keep b o e n hb hx) (I.base.free b o e n hx)
 ·obtain⟨sl,e1⟩:=I.base.slot b o e n hb hx;obtain⟨sl',e2⟩:=slot b _ (neL b o e) hb (neC b o e hx) e1 (I.base.free b o e n hx);exact#[sl',e2]
 ·obtain⟨o',e1⟩:=I.base.there b o e hx;exact free b o' (neC b o e hx) e1 (I.base.free b o e n hx)
 ·obtain⟨o',e1⟩:=I.base.there b o e hx;exact there b o' (neC b o e hx) e1
 ·obtain⟨m1,e1⟩:=I.base.tbls b ps e;obtain⟨m2,e2⟩:=tbls b _ e1;exact#[m1++m2,by rw[e2,Nj]]
 ·obtain⟨m,hn,hl⟩:=I.loc;refine#[m,ns m hn,λi x v e1 e2 e3=>?_]
  obtain⟨u,r,l⟩:=hl i x v e1 e2 e3;refine#[u,r,?_];rcases l with l|⟨k,c,e,z⟩
  ·exact .inl l
  ·exact .inr #[k,c,e,cellK x c e _ z]
 ·obtain⟨v,z⟩:=I.cell x c e;exact#[v,cellK x c e v z]
 ·obtain⟨m,⟨o,_,_,ho,_⟩,_⟩:=I.loc;exact free _ o (λz=>(hch _ z).2.1 rfl) ho I.free
 ·obtain⟨v,o,ho,hd⟩:=I.cell x c e;exact free c o (λz=>(hch c z).2.2.1 x c e rfl) ho (I.freeC x c e)
 ·obtain⟨e,n,ne,nf,d⟩:=I.pin p hp;have nch:p.1∉ch:=λz=>(hch p.1 z).2.2.2 p hp rfl
  exact#[keep p.1 p.2 ne nf nch e n,free p.1 p.2 nch e n,ne,nf,d]
theorem Inv.un {t':HM}(I:Inv X pins σ H s)(u:Un X.fs [] H H' s.heap h')(hok:HOk X.prog X.w H' h'):Inv X pins σ H' { s with heap:=h',toks:=t' }:=by
 obtain⟨m,⟨o,es,ep,ho,r⟩,_⟩:=id I.loc;obtain⟨sl,hL⟩:=u.any ho I.free (by simp)
 exact I.step (g':=s.gens) (d':=s.drawn) (ch:=[]) (λ_ z=>nomatch z) (λb o _ hb _ e n=>u.keep b o e n hb (by simp)) (λb o _ hb _ e n=>u.slot b o e n hb (by simp)) (λb o _ e n=>u.free b o e n (by simp)) (λb o _ e=>u.there b o e (by simp)) u.tups u.frzs u.tbls (λm' hm=>by
  obtain⟨o',es',ep',ho',r'⟩:=hm;rw[ho]at ho'; cases ho'
  exact#[_,es',ep',hL,r']) hok I.bare
theorem Inv.call {g':IY MR}{t':HM}{d':P1}{ch:HF HR}(I:Inv X pins σ H s)(u:Un (q8 X.stack) ch H H' s.heap h')(hok:HOk X.prog X.w H' h')(hg:L8 g')
  (hch:∀b∈ch,(b∈X.ex\/X.s₀.heap.objs.size<=b)/\b≠X.env.locals/\(∀x c,X.env.cells.lookup x=gV c->c≠b)/\∀p∈X.pn++pins,p.1≠b) :
  Inv X pins σ H' { s with heap:=h',gens:=g',drawn:=d',toks:=t' }:=by
 obtain⟨m,⟨o,es,ep,ho,r⟩,_⟩:=id I.loc;obtain⟨sl,hL⟩:=u.any ho I.free λz=>(hch _ z).2.1 rfl
 exact I.step (ch:=ch) hch (λb o hL hb hc e n=>u.keep b o e n (λz=>(Iz.mp (I.stkSub b z)).elim hL hb) hc) (λb o _ _ hc e n=>u.any e n hc) (λb o hc e n=>u.free b o e n hc) (λb o hc e=>u.there b o e hc) u.tups u.frzs u.tbls (λm' hm=>by
  obtain⟨o',es',ep',ho',r'⟩:=hm;rw[ho]at ho'; cases ho'
  exact#[_,es',ep',hL,r']) hok hg
theorem Inv.turned {t':HM}{it:HR}(I:Inv X pins σ H s)(k:∀b o,b≠it->s.heap.get? b=gV o->h'.get? b=gV o)(hn:H it=td)(hL:it≠X.env.locals)
  (h1:it∈X.ex\/X.s₀.heap.objs.size<=it) (h2:∀x c,X.env.cells.lookup x=gV c->c≠it) (h3:∀p∈X.pn++pins,p.1≠it):Inv X pins σ H { s with heap:=h',toks:=t' }:=by
 have nit:∀b u,H b=gV u->b≠it:=λb u e z=>by rw[z,hn]at e; cases e
 refine I.step (g':=s.gens) (d':=s.drawn) (ch:=[it]) (λb hb=>?_) (λb o _ _ hc e _=>k b o (λz=>hc (by simp[z])) e) (λb o _ _ hc e _=>#[o.slots,k b o (λz=>hc (by simp[z])) e]) (λ_ _ _ _ n=>n)
  (λb o hc e=>#[o,k b o (λz=>hc (by simp[z])) e]) (λ_ _ e=>e) (λ_ _ _ e=>e) (λb ps e=>#[#[],by rw[e]; simp]) (λm hm=>?_) (λb u e=>?_) I.bare
 ·have e:b=it:=by simpa using hb
  subst e;exact#[h1,hL,h2,h3]
 ·obtain⟨o,es,ep,ho,r⟩:=hm;exact#[o,es,ep,k _ o (Ne.symm hL) ho,r]
 ·refine(I.hok b u e).stay (λc v hc q=>k c v ?_ q) (λ_ q=>q) λ_ _ q=>q
  rcases hc with z|z
  ·rw[z]; exact nit b u e
  ·exact nit c _ z
theorem Inv.tok (I:Inv X pins σ H s)(t:HM):Inv X pins σ H { s with toks:=t }:=I.un (h':=s.heap) (t':=t) Un.refl I.hok
theorem Inv.kept {t':HM}(I:Inv X pins σ H s)(k:∀b u,s.heap.get? b=gV u->h'.get? b=gV u):Inv X pins σ H { s with heap:=h',toks:=t' }:=I.un (Un.kept k) (I.hok.kept k)
theorem Inv.laid {a:HR}{o:HO}{t':HM}(I:Inv X pins σ H s)(k:∀b u,s.heap.get? b=gV u->h'.get? b=gV u)(hp:s.heap.objs.size<=a)(new:ObjOk X.prog X.w (cp H a o) h' a o) :
  Inv X pins σ (cp H a o) { s with heap:=h',toks:=t' }:=I.un (Un.laid k hp (I.hok.fresh hp)) (I.hok.laid k hp new)
theorem Inv.write {x e:HR}{o:HO}{t':HM}(I:Inv X pins σ H s)(mu:D0 (H x))(he:e=x\/H e=gV (.own x))(k:∀b u,b≠e->s.heap.get? b=gV u->h'.get? b=gV u)(heo:∃u,h'.get? e=gV u)
  (new:ObjOk X.prog X.w (cp H x o) h' x o):Inv X pins σ (cp H x o) { s with heap:=h',toks:=t' }:=I.un (Un.write mu he k heo) (I.hok.write mu he k heo new)
theorem Inv.pins_of {pins':HF (HR×JE)}(I:Inv X pins σ H s)(h:∀p∈pins',s.heap.get? p.1=gV p.2/\H p.1=td/\p.1≠X.env.locals/\p.1∉X.fs/\∀v,p.2.data≠.cell v):Inv X pins' σ H s:=
 #[I.ok,I.os,I.bare,I.base,I.loc,I.cell,I.free,I.freeC,λp hp=>(IU.mp hp).elim (λz=>I.pin p (JZ _ z)) (h p),I.hok,I.len]
theorem pk {N:HF Ik}(hN:N.Nodup){i j:HM}{x:Ik}(a:N[i]?=gV x)(b:N[j]?=gV x):i=j:=by
 obtain⟨h1,e1⟩:=Ii.mp a;obtain⟨h2,e2⟩:=Ii.mp b;exact(Kb hN).mp (e1.trans e2.symm)
theorem ut {M:P2}{A:IL}{E:HH->HK->Prop}{i:HM}{x:Ik}{v:V}{u:HH}{Q:Unit->HK->Prop}(I:Inv X pins σ H s)(hN:X.N.Nodup)(hi:X.N[i]?=gV x)(hx:y4 X.env.scope x)(r:RelV v u)
  (h:∀s',Inv X pins (σ.set i (gV v)) H s'->(∃a,Kn a s.heap s'.heap/\(a=X.env.locals\/X.env.cells.lookup x=gV a))->Q () s') (hf:X.fn x=true\/X.env.scope.names.lookup x=gV .local):wpAny M A (storeName X.env x u) Q E s:=by
 obtain⟨m,hn,hl⟩:=id I.loc;have hcls:(X.env.scope.kind==.class||(X.env.scope.kind==.module&&X.env.locals != X.env.globals))=false:=by rw[I.ok.kind]; rfl
 have hiσ:i < σ.length:=by rw[I.len]; exact(Ii.mp hi).1
 have cne:=I.cne;have tracked:∀ {a:HR} {h':IZ},(∃o,s.heap.get? a=gV o/\H a=td)->Kn a s.heap h'->HOk X.prog X.w H h':=λ{a h'} ha hs b ob e=>by
  obtain⟨_,_,hfree⟩:=ha;refine(I.hok b ob e).stay (λc w' hc q=>(hs.2 c ?_).trans q) (λ_ q=>q) λ_ _ q=>q
  rintro rfl;rcases hc with rfl|hc
  ·rw[hfree]at e; cases e
  ·rw[hfree]at hc; cases hc
 rcases hx with hk|hk
 ·refine wpAny_storeName_local hk hn (λh' hn' hs=>?_) hcls
  obtain⟨oL,_,_,hoL,_⟩:=id hn;refine h _ #[I.ok,I.os,I.bare,#[λb o e n hb hx=>?_,λb o e n hb hx=>?_,I.base.free,λb o e hx=>?_,I.base.tups,I.base.frzs,I.base.tbls],#[_,hn',λj y v' e1 e2 e3=>?_],λy c e=>?_,I.free,I.freeC,λp hp=>?_,tracked #[oL,hoL,I.free] hs,by simpa using I.len] #[_,hs,.inl rfl]
  ·exact(hs.2 b (ID (IE (Io e) I.ok.above))).trans (I.base.keep b o e n hb hx)
  ·obtain⟨sl,e1⟩:=I.base.slot b o e n hb hx;exact#[sl,(hs.2 b (ID (IE (Io e) I.ok.above))).trans e1]
  ·obtain⟨o',e1⟩:=I.base.there b o e hx;exact#[o',(hs.2 b (ID (IE (Io e) I.ok.above))).trans e1]
  ·by_cases hj:j=i
   ·subst hj;rw[hi]at e1; cases e1
    rw[Mq hiσ]at e2;cases e2;exact#[u,r,.inl #[hk,by simp]]
   ·rw[MS (Ne.symm hj)]at e2;obtain⟨u',r',q⟩:=hl j y v' e1 e2 e3;refine#[u',r',?_];rcases q with⟨k,e⟩|⟨k,c,e,z⟩
    ·refine .inl #[k,?_];have:y≠x:=λe=>hj (pk hN e1 (e ▸ hi))
     simp[this,e]
    ·exact .inr #[k,c,e,z.sameBut hs (cne y c e)]
  ·obtain⟨w',z⟩:=I.cell y c e;exact#[w',z.sameBut hs (cne y c e)]
  ·obtain⟨e,n,ne,nf,d⟩:=I.pin p hp;exact#[(hs.2 p.1 ne).trans e,n,ne,nf,d]
 ·have hfn:X.fn x=true:=by
   rcases hf with z|z
   ·exact z
   ·rw[z]at hk; cases hk
  obtain⟨c,hc⟩:=I.ok.has x (.inl hk);obtain⟨w',z⟩:=I.cell x c hc;refine wpAny_storeName_cell I.ok.kind hk hc z (λh' hc' hs=>?_)
  obtain⟨oc,hoc,hocd⟩:=id z;refine h { s with heap:=h' } #[I.ok,I.os,I.bare,#[λb o e n hb hx=>?_,λb o e n hb hx=>?_,I.base.free,λb o e hx=>?_,I.base.tups,I.base.frzs,I.base.tbls],#[m,hn.sameBut hs (Ne.symm (cne x c hc)),λj y v' e1 e2 e3=>?_],λy c' e=>?_,I.free,I.freeC,λp hp=>?_,tracked #[oc,hoc,I.freeC x c hc] hs,by simpa using I.len] #[c,hs,.inr hc]
  ·exact(hs.2 b (ID (IE (Io e) (I.ok.cab x c hfn hc)))).trans (I.base.keep b o e n hb hx)
  ·obtain⟨sl,e1⟩:=I.base.slot b o e n hb hx;exact#[sl,(hs.2 b (ID (IE (Io e) (I.ok.cab x c hfn hc)))).trans e1]
  ·obtain⟨o',e1⟩:=I.base.there b o e hx;exact#[o',(hs.2 b (ID (IE (Io e) (I.ok.cab x c hfn hc)))).trans e1]
  ·by_cases hj:j=i
   ·subst hj;rw[hi]at e1; cases e1
    rw[Mq hiσ]at e2;cases e2;exact#[u,r,.inr #[.inl hk,c,hc,hc']]
   ·rw[MS (Ne.symm hj)]at e2;obtain⟨u',r',q⟩:=hl j y v' e1 e2 e3;refine#[u',r',?_];rcases q with q|⟨k,c',e,z'⟩
    ·exact .inl q
    ·refine .inr #[k,c',e,z'.sameBut hs ?_];rintro rfl;exact hj (pk hN e1 (I.ok.inj _ _ _ e hc ▸ hi))
  ·by_cases hcc:c'=c
   ·subst hcc; exact#[_,hc']
   ·obtain⟨w2,z2⟩:=I.cell y c' e;exact#[w2,z2.sameBut hs hcc]
  ·obtain⟨e,n,ne,nf,d⟩:=I.pin p hp;refine#[(hs.2 p.1 ?_).trans e,n,ne,nf,d];intro q;rw[q,hoc]at e;have q':oc=p.2:=Jn e;exact d w' (by rw[<- q']; exact hocd)
theorem ik {M:P2}{A:IL}{E:HH->HK->Prop}{i:HM}{x:Ik}{v:V}{u:HH}{Q:Unit->HK->Prop}(I:Inv X pins σ H s)(hN:X.N.Nodup)(hi:X.N[i]?=gV x)(hx:y4 X.env.scope x)(r:RelV v u)
  (h:∀s',Inv X pins (σ.set i (gV v)) H s'->Q () s') (hf:X.fn x=true\/X.env.scope.names.lookup x=gV .local):wpAny M A (storeName X.env x u) Q E s:=
 ut I hN hi hx r (λs' I' _=>h s' I') hf
theorem Inv.call' {s':HK}{ch:HF HR}(I:Inv X pins σ H s)(ho:s'.os=s.os)(u:Un (q8 X.stack) ch H H' s.heap s'.heap)(hok:HOk X.prog X.w H' s'.heap)(hg:L8 s'.gens)
  (hch:∀b∈ch,(b∈X.ex\/X.s₀.heap.objs.size<=b)/\b≠X.env.locals/\(∀x c,X.env.cells.lookup x=gV c->c≠b)/\∀p∈X.pn++pins,p.1≠b):Inv X pins σ H' s':=by
 obtain⟨h',g',d',t',o'⟩:=s';have e:o'=s.os:=ho;subst e;exact I.call (g':=g') (t':=t') (d':=d') u hok hg hch
end
noncomputable abbrev XK:=HH->HL HR->Hp->Prop
noncomputable abbrev St:=HF (HL V)
noncomputable abbrev VK:=V->Hp->Prop
noncomputable abbrev TE:=St->Hp->VK->Prop
noncomputable abbrev TT:=St->Hp->(Iy->Hp->Prop)->Prop
noncomputable abbrev TA:=St->Hp->(HF V->Hp->Prop)->Prop
structure Ends where
 nx:St->Hp->Prop
 rt:VK
 bk:St->Hp->Prop:=λ_ _=>Jq
 ct:St->Hp->Prop:=λ_ _=>Jq
noncomputable abbrev TS:=Ends->St->Hp->Prop
noncomputable def EP (X:Cx)(pins:HF (HR×JE))(σ:St)(Q:VK)(u:HH)(s':HK):Prop:=∃v H',Inv X pins σ H' s'/\RelV v u/\Q v H'
noncomputable def TP (X:Cx)(pins:HF (HR×JE))(σ:St)(Q:Iy->Hp->Prop)(b:Iy)(s':HK):Prop:=∃H',Inv X pins σ H' s'/\Q b H'
noncomputable def AP (X:Cx)(pins:HF (HR×JE))(σ:St)(Q:HF V->Hp->Prop)(us:HF HH)(s':HK):Prop:=∃vs H',Inv X pins σ H' s'/\Vals vs us/\Q vs H'
noncomputable def SP (X:Cx)(pins:HF (HR×JE))(D:Ends)(f:Flow)(s':HK):Prop:=
 match f with
 | .next=>∃σ' H',Inv X pins σ' H' s'/\D.nx σ' H'
 | .brk=>∃σ' H',Inv X pins σ' H' s'/\D.bk σ' H'
 | .cont=>∃σ' H',Inv X pins σ' H' s'/\D.ct σ' H'
 | .ret u=>∃v σ' H',Inv X pins σ' H' s'/\RelV v u/\D.rt v H'
noncomputable def PE (X:Cx)(e:Iv)(t:TE):Prop:=
 ∀(pins:HF (HR×JE)) (s:HK) (σ:St) (H:Hp) (Q:VK),Inv X pins σ H s->t σ H Q->wpAny (model X.prog X.w) X.A (eval e X.env) (EP X pins σ Q) X.xe s
noncomputable def PT (X:Cx)(e:Iv)(t:TT):Prop:=
 ∀(pins:HF (HR×JE)) (s:HK) (σ:St) (H:Hp) (Q:Iy->Hp->Prop),Inv X pins σ H s->t σ H Q->wpAny (model X.prog X.w) X.A (isTrue e X.env (eval e X.env)) (TP X pins σ Q) X.xe s
noncomputable def PW (X:Cx)(e:Iv)(t:TT):Prop:=
 ∀(whole:Ph HH) (pins:HF (HR×JE)) (s:HK) (σ:St) (H:Hp) (Q:Iy->Hp->Prop),Inv X pins σ H s->t σ H Q->wpAny (model X.prog X.w) X.A (isTrue e X.env whole) (TP X pins σ Q) X.xe s
theorem PW.pt {X:Cx}{e:Iv}{t:TT}(h:PW X e t):PT X e t:=h _
noncomputable def PA (X:Cx)(es:HF Iv)(t:TA):Prop:=
 ∀(pos:Kf) (pins:HF (HR×JE)) (s:HK) (σ:St) (H:Hp) (Q:HF V->Hp->Prop),Inv X pins σ H s->t σ H Q->wpAny (model X.prog X.w) X.A (spliced (backTo pos (starEach es X.env))) (AP X pins σ Q) X.xe s
noncomputable def PS (X:Cx)(st:Ks)(t:TS):Prop:=
 ∀(pins:HF (HR×JE)) (s:HK) (σ:St) (H:Hp) (D:Ends),Inv X pins σ H s->t D σ H->wpAny (model X.prog X.w) X.A (exec st X.env) (SP X pins D) X.xe s
noncomputable def PSs (X:Cx)(st:HF Ks)(t:TS):Prop:=
 ∀(pins:HF (HR×JE)) (s:HK) (σ:St) (H:Hp) (D:Ends),Inv X pins σ H s->t D σ H->wpAny (model X.prog X.w) X.A (execs st X.env) (SP X pins D) X.xe s
theorem b9 {α:Type}{t:Ph α}{Q Q':α->HK->Prop}{M:P2}{A:IL}{E:HH->HK->Prop}{s:HK}(h:wpAny M A t Q E s)(hQ:∀a s,Q a s->Q' a s):wpAny M A t Q' E s:=JR h hQ λ_ _ x=>x
section
variable{X:Cx}
theorem HE {a b:Iv}{ta tb:TE}(ha:PE X a ta)(hb:PE X b tb){pins:HF (HR×JE)}{s:HK}{σ:St}{H:Hp}{R:V->V->Hp->Prop}(I:Inv X pins σ H s)(h:ta σ H λx H1=>tb σ H1 λy H2=>R x y H2)
  {α:Type} {Q:α->HK->Prop} {f:HH->HH->Ph α}
  (hf:∀v u s2 x y H2,Inv X pins σ H2 s2->RelV x v->RelV y u->R x y H2->wpAny (model X.prog X.w) X.A (f v u) Q X.xe s2) :
  wpAny (model X.prog X.w) X.A (eval a X.env) (λv s₁=>wpAny (model X.prog X.w) X.A (eval b X.env) (λu s₂=>wpAny (model X.prog X.w) X.A (f v u) Q X.xe s₂) X.xe s₁) X.xe s:=by
 refine b9 (ha pins s σ H _ I h) λv s1 #[x,H1,I1,r1,q1]=>?_
 refine b9 (hb pins s1 σ H1 _ I1 q1) λu s2 #[y,H2,I2,r2,q2]=>?_
 exact hf v u s2 x y H2 I2 r1 r2 q2
noncomputable def D2 (i:HM):TE:=λσ H Q=>∃v,σ[i]?=gV (gV v)/\Q v H
noncomputable def tC (v:V):TE:=λ_ H Q=>Q v H
theorem B1 {i:HM}{x:Ik}{pos:Kf}(hN:X.N[i]?=gV x)(hv:F6 X.env.scope x)(hd:(x==("__debug__" : Ik))=false:=by decide)(hcd:(x==("__classdict__" : Ik))=false:=by decide):PE X (.Name x pos) (D2 i):=by
 intro pins s σ H Q I h;obtain⟨v,e,h⟩:=h;obtain⟨m,hn,hl⟩:=I.loc;obtain⟨u,r,l⟩:=hl i x v hN e hv;have fin:EP X pins σ Q u s:=#[v,H,I,r,h];rcases l with⟨hk,hm⟩|⟨hk,c,hc,hcell⟩
 ·exact Ou (wpAny_loadName_local I.ok.kind hk hn hm fin) hd
 ·rcases hk with hk|hk
  ·exact Ou (wpAny_loadName_cell I.ok.kind hk hc hcell fin) hd
  ·exact Ou (wpAny_loadName_free I.ok.kind hk hc hcell fin hcd) hd
theorem vK {i j pos}:PE X (.Constant (.int i) j pos) (tC (.int i)):=λ_ _ _ H _ I h=>wpAny_Constant_int #[.int i,H,I.tok _,#[_,rfl],h]
theorem Bv {b j pos}:PE X (.Constant (.bool b) j pos) (tC (.bl b)):=λ_ _ _ H _ I h=>Constant_bool #[.bl b,H,I,rfl,h]
theorem vL {j pos}:PE X (.Constant .none j pos) (tC .non):=λ_ _ _ H _ I h=>Constant_none #[.non,H,I,rfl,h]
theorem vM {x j pos}:PE X (.Constant (.str x) j pos) (tC (.str x)):=λ_ _ _ H _ I h=>Nk #[.str x,H,I.tok _,#[_,rfl],h]
noncomputable def Gl (X:Cx)(x:Ik):Prop:=X.env.kindOf x=gV .globalImplicit
theorem sx {E:HH->HK->Prop}{pins:HF (HR×JE)}{s:HK}{σ:St}{H:Hp}{x:Ik}{u:HH}{pos:Kf}{Q:HH->HK->Prop}(I:Inv X pins σ H s)(hg:Gl X x)(hm:X.mg x=gV u)(h:Q u s)
  (hd:(x==("__debug__" : Ik))=false:=by decide):wpAny (model X.prog X.w) X.A (eval (.Name x pos) X.env) Q E s:=
 LM I.ok.kind hg (Calls.loadGlobal_global (by rw[I.ok.glob]; exact I.mod.glob.keeps I.bk) hm h) hd
theorem iX {E:HH->HK->Prop}{pins:HF (HR×JE)}{s:HK}{σ:St}{H:Hp}{x:Ik}{u:HH}{pos:Kf}{Q:HH->HK->Prop}(I:Inv X pins σ H s)(hg:Gl X x)(hm:X.mg x=td)(hv:bootBuiltins x=gV u)(h:Q u s)
  (hn:x≠"__name__":=by decide) (hd:(x==("__debug__" : Ik))=false:=by decide):wpAny (model X.prog X.w) X.A (eval (.Name x pos) X.env) Q E s:=by
 obtain⟨mb,h1,h2⟩:=I.mod.blt;exact LM I.ok.kind hg (Calls.loadGlobal_builtin (by rw[I.ok.glob]; exact I.mod.glob.keeps I.bk) hm (by rw[I.ok.blt]; exact h1.keeps I.bk) ((h2 x hn).trans hv) h) hd
theorem y6 {x:Ik}{v:V}{u:HH}{pos:Kf}(hg:Gl X x)(hm:X.mg x=td)(hv:bootBuiltins x=gV u)(r:RelV v u)(hn:x≠"__name__":=by decide)(hd:(x==("__debug__" : Ik))=false:=by decide):PE X (.Name x pos) (tC v):=
 λ_ _ _ H _ I h=>iX I hg hm hv #[v,H,I,r,h] hn hd
variable{a b:Iv}{ta tb:TE}{pos:Kf}
variable{tA tB':TT}{dh:HF Iv}
noncomputable def D6 (t u:TT):TT:=λσ H Q=>t σ H λc H1=>if c=true then u σ H1 Q else Q false H1
noncomputable def Hj (t u:TT):TT:=λσ H Q=>t σ H λc H1=>if c=true then Q true H1 else u σ H1 Q
noncomputable def F8 (t:TT):TT:=λσ H Q=>t σ H λc H1=>Q (!c) H1
theorem y8 (ha:PT X a tA):PW X (.BoolOp .And [a] pos) tA:=by
 intro wh pins s σ H Q I h;refine isTrue_and (b9 (ha pins s σ H Q I h) λc s1 e=>?_)
 cases c with
 | true=>exact isTrue_and_nil e
 | false=>exact e
theorem B2 (ha:PT X a tA):PW X (.BoolOp .Or [a] pos) tA:=by
 intro wh pins s σ H Q I h;refine isTrue_or (b9 (ha pins s σ H Q I h) λc s1 e=>?_)
 cases c with
 | false=>exact isTrue_or_nil e
 | true=>exact e
theorem B3 (ha:PT X a tA)(hb:PW X (.BoolOp .And (b::dh) pos) tB'):PW X (.BoolOp .And (a::b::dh) pos) (D6 tA tB'):=by
 intro wh pins s σ H Q I h;refine isTrue_and (b9 (ha pins s σ H _ I h) λc s1 #[H1,I1,q1]=>?_)
 cases c with
 | true=>exact hb wh pins s1 σ H1 Q I1 q1
 | false=>exact#[H1,I1,q1]
theorem D8 (ha:PT X a tA)(hb:PW X (.BoolOp .Or (b::dh) pos) tB'):PW X (.BoolOp .Or (a::b::dh) pos) (Hj tA tB'):=by
 intro wh pins s σ H Q I h;refine isTrue_or (b9 (ha pins s σ H _ I h) λc s1 #[H1,I1,q1]=>?_)
 cases c with
 | true=>exact#[H1,I1,q1]
 | false=>exact hb wh pins s1 σ H1 Q I1 q1
theorem B4 (ha:PT X a tA):PT X (.UnaryOp .Not a pos) (F8 tA):=by
 intro pins s σ H Q I h;exact isTrue_not (ha pins s σ H (λc H1=>Q (!c) H1) I h)
noncomputable def Ea (ta tb:TE):TE:=λσ H Q=>ta σ H λx H1=>∃c,x=.bl c/\if c=true then tb σ H1 Q else Q (.bl false) H1
noncomputable def F9 (ta tb:TE):TE:=λσ H Q=>ta σ H λx H1=>∃c,x=.bl c/\if c=true then Q (.bl true) H1 else tb σ H1 Q
noncomputable def Eb (ta:TE):TE:=λσ H Q=>ta σ H λx H1=>∃c,x=.bl c/\Q (.bl (!c)) H1
theorem B5 {op}{t:TE}(h:PE X a t):PE X (.BoolOp op [a] pos) t:=λpins s σ H Q I hw=>BoolOp_one (h pins s σ H Q I hw)
theorem B6 (ha:PE X a ta)(hb:PE X (.BoolOp .And (b::dh) pos) tb):PE X (.BoolOp .And (a::b::dh) pos) (Ea ta tb):=by
 intro pins s σ H Q I h;refine BoolOp_and (b9 (ha pins s σ H _ I h) λv s1 #[x,H1,I1,r1,q1]=>?_)
 obtain⟨c,rfl,q1⟩:=q1;cases r1;refine J2 ?_;cases c with
 | true=>exact hb pins s1 σ H1 Q I1 q1
 | false=>exact#[.bl false,H1,I1,rfl,q1]
theorem Ec (ha:PE X a ta)(hb:PE X (.BoolOp .Or (b::dh) pos) tb):PE X (.BoolOp .Or (a::b::dh) pos) (F9 ta tb):=by
 intro pins s σ H Q I h;refine BoolOp_or (b9 (ha pins s σ H _ I h) λv s1 #[x,H1,I1,r1,q1]=>?_)
 obtain⟨c,rfl,q1⟩:=q1;cases r1;refine J2 ?_;cases c with
 | false=>exact hb pins s1 σ H1 Q I1 q1
 | true=>exact#[.bl true,H1,I1,rfl,q1]
theorem B7 (ha:PE X a ta):PE X (.UnaryOp .Not a pos) (Eb ta):=by
 intro pins s σ H Q I h;refine UnaryOp_ (b9 (ha pins s σ H _ I h) λv s1 #[x,H1,I1,r1,q1]=>?_)
 obtain⟨c,rfl,q1⟩:=q1;cases r1;exact not_of (J2 #[.bl (!c),H1,I1,rfl,q1])
noncomputable def Ht (t:TT)(ta tb:TE):TE:=λσ H Q=>t σ H λc H1=>if c=true then ta σ H1 Q else tb σ H1 Q
theorem vN {c:Iv}(hc:PT X c tA)(ha:PE X a ta)(hb:PE X b tb):PE X (.IfExp c a b pos) (Ht tA ta tb):=by
 intro pins s σ H Q I h;refine wpAny_IfExp (b9 (hc pins s σ H _ I h) λd s1 #[H1,I1,q1]=>?_)
 cases d with
 | true=>exact ha pins s1 σ H1 Q I1 q1
 | false=>exact hb pins s1 σ H1 Q I1 q1
end
noncomputable def SqL (K:HW)(H:Hp)(a:HR)(xs:HF V):Prop:=
 Rd H a (.lst xs)\/
  ∃(o:JE) (its:IY HH) (n:HM),K.lookup a=gV o/\o.cls=.type "list"/\o.dict=td/\o.data=.seq its n/\its.size<=sizeLine/\Vals xs its.toList
noncomputable def SqT (K:HW)(H:Hp)(a:HR)(xs:HF V):Prop:=
 Rd H a (.tup xs)\/
  ∃(o:JE) (its:IY HH) (n:HM),K.lookup a=gV o/\o.cls=.type "tuple"/\o.data=.seq its n/\its.size<=sizeLine/\Vals xs its.toList
noncomputable def Ga:HH->HL V
 | .none=>gV .non
 | .bool b=>gV (.bl b)
 | .int i _=>gV (.int i)
 | .str x _=>gV (.str x)
 | .bytes b _=>gV (.byt b)
 | .float b _=>gV (.flt b)
 | .ref a=>gV (.ref a)
 | .type n=>gV (.ty n)
 | _=>td
theorem RelV.abs {x:V}{u:HH}(r:RelV x u):Ga u=gV x:=by
 cases x with
 | non=>cases r; rfl
 | bl _=>cases r; rfl
 | int _=>obtain⟨t,rfl⟩:=r; rfl
 | str _=>obtain⟨t,rfl⟩:=r; rfl
 | byt _=>obtain⟨t,rfl⟩:=r; rfl
 | flt _=>obtain⟨t,rfl⟩:=r; rfl
 | ref _=>cases r; rfl
 | ty _=>cases r; rfl
theorem RelV.inj {x y:V}{u:HH}(r:RelV x u)(q:RelV y u):x=y:=Jn (r.abs.symm.trans q.abs)
theorem Vals.inj:∀ {xs ys:HF V} {us:HF HH},Vals xs us->Vals ys us->xs=ys
 | _,_,_,.nil,.nil=>rfl
 | _,_,_,.cons r t,.cons r' t'=>by rw[r.inj r',Vals.inj t t']
section
variable{X:Cx}{pins:HF (HR×JE)}{σ:St}{H:Hp}{s:HK}{a:HR}{xs ys:HF V}
theorem SqL.of {K:HW}(h:H a=gV (.lst xs)):SqL K H a xs:=.inl (.inl h)
theorem SqT.of {K:HW}(h:H a=gV (.tup xs)):SqT K H a xs:=.inl (.inl h)
theorem Inv.list (I:Inv X pins σ H s)(h:SqL X.K H a xs):∃its:HF HH,Vals xs its/\PlainL s.heap a its.toArray/\xs.length<=sizeLine:=by
 rcases h with h|⟨o,its,n,hk,hc,hd,hs,hz,r⟩
 ·obtain⟨z,its,n,r,e⟩:=h.ok I.hok;exact#[its,r,#[_,n,e,rfl,rfl,rfl],z]
 ·refine#[its.toList,r,#[o,n,I.kIn a o hk,hc,hd,by simpa using hs],?_]
  have e:=r.length;simp only[IK]at e;omega
theorem Inv.tuple (I:Inv X pins σ H s)(h:SqT X.K H a xs):∃its:HF HH,Vals xs its/\Nz s.heap a its.toArray/\xs.length<=sizeLine:=by
 rcases h with h|⟨o,its,n,hk,hc,hs,hz,r⟩
 ·obtain⟨z,its,r,p⟩:=h.ok I.hok;exact#[its,r,p,z]
 ·refine#[its.toList,r,#[o,I.kIn a o hk,hc,n,by simpa using hs],?_]
  have e:=r.length;simp only[IK]at e;omega
theorem Inv.list_inj (I:Inv X pins σ H s)(h:SqL X.K H a xs)(h':SqL X.K H a ys):xs=ys:=by
 obtain⟨its,r,⟨o,n,e,_,_,d⟩,_⟩:=I.list h;obtain⟨its',r',⟨o',n',e',_,_,d'⟩,_⟩:=I.list h';rw[e]at e'; cases e'
 rw[d]at d';injection d' with d1 _
 have:its=its':=by simpa using congrArg O9 d1
 subst this;exact r.inj r'
theorem Inv.tuple_inj (I:Inv X pins σ H s)(h:SqT X.K H a xs)(h':SqT X.K H a ys):xs=ys:=by
 obtain⟨its,r,⟨o,e,_,n,d⟩,_⟩:=I.tuple h;obtain⟨its',r',⟨o',e',_,n',d'⟩,_⟩:=I.tuple h';rw[e]at e'; cases e'
 rw[d]at d';injection d' with d1 _
 have:its=its':=by simpa using congrArg O9 d1
 subst this;exact r.inj r'
end
noncomputable abbrev Cx.wish (X:Cx)(E:HH->HK->Prop):Cx:={ X with xe:=E }
noncomputable abbrev Cx.nox (X:Cx):Cx:=X.wish λ_ _=>Jq
theorem Cx.Ok.wish {X:Cx}(ok:X.Ok)(E:HH->HK->Prop):(X.wish E).Ok:=
 #[ok.mod,ok.kind,ok.glob,ok.blt,ok.above,ok.inj,ok.has,ok.cab,ok.hd,ok.frames,ok.stk,ok.exf,ok.bs,ok.bsz,ok.noex,ok.exfs,ok.funs,ok.frf]
theorem Cx.Ok.unwish {X:Cx}{E:HH->HK->Prop}(ok:(X.wish E).Ok):X.Ok:=
 #[ok.mod,ok.kind,ok.glob,ok.blt,ok.above,ok.inj,ok.has,ok.cab,ok.hd,ok.frames,ok.stk,ok.exf,ok.bs,ok.bsz,ok.noex,ok.exfs,ok.funs,ok.frf]
section
variable{X:Cx}{pins:HF (HR×JE)}{σ:St}{H:Hp}{s:HK}{E:HH->HK->Prop}
theorem Inv.wish (I:Inv X pins σ H s)(E:HH->HK->Prop):Inv (X.wish E) pins σ H s:=#[I.ok.wish E,I.os,I.bare,I.base,I.loc,I.cell,I.free,I.freeC,I.pin,I.hok,I.len]
theorem Inv.unwish (I:Inv (X.wish E) pins σ H s):Inv X pins σ H s:=#[I.ok.unwish,I.os,I.bare,I.base,I.loc,I.cell,I.free,I.freeC,I.pin,I.hok,I.len]
theorem SP.unwish {D:Ends}{f:Flow}{s':HK}(h:SP (X.wish E) pins D f s'):SP X pins D f s':=by
 cases f with
 | next=>obtain⟨σ',H',I,q⟩:=h; exact#[σ',H',I.unwish,q]
 | brk=>obtain⟨σ',H',I,q⟩:=h; exact#[σ',H',I.unwish,q]
 | cont=>obtain⟨σ',H',I,q⟩:=h; exact#[σ',H',I.unwish,q]
 | ret u=>obtain⟨v,σ',H',I,r,q⟩:=h; exact#[v,σ',H',I.unwish,r,q]
theorem PSs.nox {st:HF Ks}{t:TS}(h:PSs X.nox st t):PSs X st t:=λpins s σ H D I hw=>
 JR (h pins s σ H D (I.wish _) hw) (λ_ _ q=>q.unwish) λ_ _ z=>Jq.elim z
end
section
variable{X:Cx}{st:Ks}{dh:HF Ks}{t u:TS}{e:Iv}{te:TE}{pos:Kf}
noncomputable def vO:TS:=λD σ H=>D.nx σ H
noncomputable def Gb (t u:TS):TS:=λD σ H=>t { D with nx:=u D } σ H
theorem y9:PSs X [] vO:=λ_ _ σ H _ I h=>Mx #[σ,H,I,h]
theorem vP (h1:PS X st t)(h2:PSs X dh u):PSs X (st::dh) (Gb t u):=by
 intro pins s σ H D I h;refine wpAny_execs_cons (b9 (h1 pins s σ H { D with nx:=u D } I h) λf s1 q=>?_)
 cases f with
 | next=>
  obtain⟨σ',H',I',q⟩:=q;exact h2 pins s1 σ' H' D I' q
 | ret v=>exact q
 | brk=>exact q
 | cont=>exact q
noncomputable def B8:TS:=λD σ H=>D.bk σ H
noncomputable def Ed:TS:=λD σ H=>D.ct σ H
theorem zb:PS X (.Pass pos) vO:=λ_ _ σ H _ I h=>wpAny_Pass #[σ,H,I,h]
theorem vQ:PS X (.Break pos) B8:=λ_ _ σ H _ I h=>wpAny_Break #[σ,H,I,h]
theorem po:PS X (.Continue pos) Ed:=λ_ _ σ H _ I h=>wpAny_Continue #[σ,H,I,h]
theorem Inv.quiet {pins:HF (HR×JE)}{σ:St}{H:Hp}{s:HK}(I:Inv X pins σ H s):interactive X.env=false:=by simp[interactive,I.ok.kind]
theorem B9 {x j pos pos'}:PS X (.Expr (.Constant (.str x) j pos) pos') vO:=λ_ s σ H _ I h=>wpAny_Expr (Nk (show SP X _ _ .next { s with toks:=s.toks+1 } from#[σ,H,I.tok _,h])) I.quiet
noncomputable def Ee (te:TE):TS:=λD σ H=>te σ H λ_ H1=>D.nx σ H1
theorem zd (he:PE X e te)(hs:swapsWith e td pos.line X.env=pure false:=by rfl):PS X (.Expr e pos) (Ee te):=by
 intro pins s σ H D I h;exact wpAny_Expr_any (b9 (he pins s σ H _ I h) λv s1 #[x,H1,I1,r1,q1]=>#[σ,H1,I1,q1]) I.quiet hs
noncomputable def Gc (te:TE):TS:=λD σ H=>te σ H D.rt
theorem Cb (he:PE X e te):PS X (.Return (gV e) pos) (Gc te):=by
 intro pins s σ H D I h;exact wpAny_Return_some (b9 (he pins s σ H _ I h) λv s1 #[x,H1,I1,r1,q1]=>#[x,σ,H1,I1,r1,q1])
noncomputable def Ef:TS:=λD _ H=>D.rt .non H
theorem ze:PS X (.Return td pos) Ef:=λ_ _ σ H _ I h=>wpAny_Return_none #[.non,σ,H,I,rfl,h]
noncomputable def Gd (c:TT)(t u:TS):TS:=λD σ H=>c σ H λb H1=>if b=true then t D σ H1 else u D σ H1
theorem Eg {c:Iv}{a b:HF Ks}{tc:TT}(hc:PT X c tc)(ha:PSs X a t)(hb:PSs X b u):PS X (.If c a b pos) (Gd tc t u):=by
 intro pins s σ H D I h;refine wpAny_If (b9 (hc pins s σ H _ I h) λd s1 #[H1,I1,q1]=>?_)
 cases d with
 | true=>exact ha pins s1 σ H1 D I1 q1
 | false=>exact hb pins s1 σ H1 D I1 q1
end
noncomputable abbrev TG:=V->St->Hp->(St->Hp->Prop)->Prop
noncomputable abbrev Cc:=HF V->St->Hp->(St->Hp->Prop)->Prop
noncomputable def PG (X:Cx)(target:Iv)(t:TG):Prop:=
 ∀(pins:HF (HR×JE)) (s:HK) (σ:St) (H:Hp) (v:V) (u:HH) (Q:St->Hp->Prop),Inv X pins σ H s->RelV v u->t v σ H Q->
  wpAny (model X.prog X.w) X.A (assign target X.env u) (λ_ s'=>∃σ' H',Inv X pins σ' H' s'/\Q σ' H') X.xe s
noncomputable def Eh (X:Cx)(ts:HF Iv)(t:Cc):Prop:=
 ∀(pins:HF (HR×JE)) (s:HK) (σ:St) (H:Hp) (vs:HF V) (us:HF HH) (Q:St->Hp->Prop),Inv X pins σ H s->Vals vs us->t vs σ H Q->
  wpAny (model X.prog X.w) X.A (assignInOrder ((assignEach ts X.env).map (·.2)) us) (λ_ s'=>∃σ' H',Inv X pins σ' H' s'/\Q σ' H') X.xe s
noncomputable abbrev Cd:=V->V->V->Hp->(Hp->Prop)->Prop
noncomputable def Ce (X:Cx)(t:Cd):Prop:=
 ∀(pins:HF (HR×JE)) (s:HK) (σ:St) (H:Hp) (o i v:V) (ov iv u:HH) (Q:Hp->Prop),Inv X pins σ H s->RelV o ov->RelV i iv->RelV v u->t o i v H Q->
  wpAny (model X.prog X.w) X.A (setItem ov iv u) (λ_ s'=>∃H',Inv X pins σ H' s'/\Q H') X.xe s
section
variable{X:Cx}{pos:Kf}
noncomputable def Ei (i:HM):TG:=λv σ H Q=>Q (σ.set i (gV v)) H
theorem sy {i:HM}{x:Ik}(hN:X.N.Nodup)(hi:X.N[i]?=gV x)(hx:y4 X.env.scope x)(hf:X.fn x=true\/X.env.scope.names.lookup x=gV .local):PG X (.Name x pos) (Ei i):=by
 intro pins s σ H v u Q I r h;exact NB (ik I hN hi hx r (λs' I'=>#[_,H,I',h]) hf)
noncomputable def Ge:Cc:=λvs σ H Q=>vs=[]/\Q σ H
noncomputable def Ej (t:TG)(u:Cc):Cc:=λvs σ H Q=>∃v r,vs=v::r/\t v σ H λσ' H'=>u r σ' H' Q
theorem zf:Eh X [] Ge:=by
 intro pins s σ H vs us Q I r h;obtain⟨e,h⟩:=h;subst e;cases r;exact NC #[σ,H,I,h]
theorem vR {e:Iv}{es:HF Iv}{t:TG}{u:Cc}(h1:PG X e t)(h2:Eh X es u)
  (hs:(assignEach (e::es) X.env).map (·.2)=assign e X.env::(assignEach es X.env).map (·.2):=by rfl):Eh X (e::es) (Ej t u):=by
 intro pins s σ H vs us Q I r h;obtain⟨v,vr,e1,h⟩:=h;subst e1;cases r with
 | cons r rr=>
  rw[hs];refine LN (b9 (h1 pins s σ H _ _ _ I r h) λ_ s1 #[σ1,H1,I1,q1]=>?_)
  exact h2 pins s1 σ1 H1 _ _ Q I1 rr q1
noncomputable def Gf (K:HW)(n:HM)(t:Cc):TG:=λv σ H Q=>∃a xs,v=.ref a/\SqT K H a xs/\xs.length=n/\t xs σ H Q
theorem Cf {es:HF Iv}{k:HM}{t:Cc}{n:HM}(hc:X.calm=true)(h:Eh X es t)
  (hn:(assignEach es X.env).length=n:=by rfl) (hst:(assignEach es X.env).findIdx? (·.1)=td:=by rfl):PG X (.Tuple es k pos) (Gf X.K n t):=by
 intro pins s σ H v u Q I r hw;obtain⟨a,xs,e1,hq,hl,hw⟩:=hw;subst e1;cases r;obtain⟨its,rv,ht,hz⟩:=I.tuple hq;refine assign_Tuple_tuple (I.ok.hd hc) ht (by simp[hn,<- hl,rv.length]) hst λh' hx=>?_
 have I1:Inv X pins σ H { s with heap:=h' }:=I.kept (t':=s.toks) λb o e=>hx b o (ID (Io e)) e
 exact h pins _ σ H xs _ Q I1 (by simpa using rv) hw
noncomputable def Gg (to ti:TE)(t:Cd):TG:=λv σ H Q=>to σ H λo H1=>ti σ H1 λi H2=>t o i v H2 λH3=>Q σ H3
theorem Cg {o i:Iv}{to ti:TE}{t:Cd}(ho:PE X o to)(hi:PE X i ti)(hs:Ce X t)
  (ha:∀v,assign (.Subscript o i pos) X.env v=(do
   let ov <- holding [v] (eval o X.env)
   let iv <- holding [v,ov] (eval i X.env)
   standAt pos
   holding [v,ov,iv] (setItem ov iv v)
   release [v,ov,iv] []):=by intro _; rfl):PG X (.Subscript o i pos) (Gg to ti t):=by
 intro pins s σ H v u Q I r h;rw[ha];refine HG (JC (b9 (ho pins s σ H _ I h) λov s1 #[x,H1,I1,r1,q1]=>?_))
 refine HG (JC (b9 (hi pins s1 σ H1 _ I1 q1) λiv s2 #[y,H2,I2,r2,q2]=>?_))
 refine HG (Lx (HG (JC (b9 (hs pins s2 σ H2 x y v ov iv u _ I2 r1 r2 r q2) λ_ s3 #[H3,I3,q3]=>?_))))
 exact wpAny_release #[σ,H3,I3,q3]
noncomputable def Gh (te:TE)(g:TG):TS:=λD σ H=>te σ H λx H1=>g x σ H1 D.nx
theorem Ch {tg e:Iv}{te:TE}{g:TG}(he:PE X e te)(hg:PG X tg g)(hs:swapsWithSole [tg] e pos.line X.env=pure false:=by rfl)(hw:swappedStores [tg] e X.env=pure td:=by rfl)
  (h1:(assignEach [tg] X.env).map (·.2)=[assign tg X.env]:=by rfl):PS X (.Assign [tg] e pos) (Gh te g):=by
 intro pins s σ H D I h;refine wpAny_Assign_stores (b9 (he pins s σ H _ I h) λv s1 #[x,H1,I1,r1,q1]=>?_) hs hw
 rw[h1];exact b9 (hg pins s1 σ H1 x v _ I1 r1 q1) λ_ s2 q=>q
noncomputable def Gi (i j:HM)(ta:TA):TS:=λD σ H=>ta σ H λvs H1=>∃v w,vs=[v,w]/\D.nx ((σ.set i (gV v)).set j (gV w)) H1
theorem Ci {i j:HM}{x y:Ik}{a b:Iv}{ta:TA}{px py pt:Kf}{kt k2 pt2}(hc:X.calm=true)(hN:X.N.Nodup)(hi:X.N[i]?=gV x)(hj:X.N[j]?=gV y)(hij:i≠j)
  (hx:X.env.scope.names.lookup x=gV .local) (hy:X.env.scope.names.lookup y=gV .local) (ha:PA X [a,b] ta)
  (hw:swappedStores [.Tuple [.Name x px,.Name y py] kt pt] (.Tuple [a,b] k2 pt2) X.env=pure (gV [x,y]))
  (hs:swapsWithSole [.Tuple [.Name x px,.Name y py] kt pt] (.Tuple [a,b] k2 pt2) pos.line X.env=pure false:=by rfl) :
  PS X (.Assign [.Tuple [.Name x px,.Name y py] kt pt] (.Tuple [a,b] k2 pt2) pos) (Gi i j ta):=by
 intro pins s σ H D I h;rw[exec_Assign_arm];refine HG (Lx ?_);rw[hs];refine HG (HU ?_);rw[IH #v[]]
 refine HG (Tuple_ (b9 (ha _ pins s σ H _ I h) λus s1 #[vs,H1,I1,r1,q1]=>?_))
 obtain⟨v,w,e1,q1⟩:=q1;subst e1;obtain⟨u1,u2,rfl,rv,rw'⟩ : ∃u1 u2,us=[u1,u2]/\RelV v u1/\RelV w u2:=by
  cases r1 with
  | cons p q=>
   cases q with
   | cons p' q'=>
    cases q';exact#[_,_,rfl,p,p']
 refine Ja ?_ (by show 2<=sizeLine; decide)
 have I2:Inv X pins σ H1 { s1 with heap:=s1.heap.push { cls:=.type "tuple",data:=.seq [u1,u2].toArray } }:=I1.kept (t':=s1.toks) λb o e=>HP _ e
 rw[hw];refine HG (HU ?_);show wpAny (model X.prog X.w) X.A (do rule "assign.swapped-stores"; let items <- unpackItems (.ref s1.heap.objs.size) 2 td; assignInOrder [λv=>bindName X.env y v,λv=>bindName X.env x v] items.reverse; pure PV) _ _ _
 refine HG (Nl (HG (unpackItems_tuple (items:=[u1,u2].toArray) (I.ok.hd hc) (NZ s1.heap _) λh' hx'=>?_)))
 have I3:=I2.kept (h':=h') (t':=s1.toks) λb o e=>hx' b o (ID (Io e)) e
 show wpAny _ _ (assignInOrder [λv=>bindName X.env y v,λv=>bindName X.env x v] [u2,u1] >>= λ_=>pure PV) _ _ _
 refine HG (LN (Ov (ik I3 hN hj (.inl hy) rw' (λs2 I4=>?_) (.inr hy))))
 refine LN (Ov (ik I4 hN hi (.inl hx) rv (λs3 I5=>NC (HU ?_)) (.inr hx)))
 rw[List.set_comm _ _ (Ne.symm hij)]at I5;exact#[_,H1,I5,q1]
end
section
variable{X:Cx}{pos:Kf}
noncomputable def Cj (c:TT)(tb:TS):TS:=λD σ H=>∃W:HM->St->Hp->Prop,(∃m,W m σ H)/\∀m σ H,W m σ H->
 c σ H λb H1=>if b=true then ∃N:St->Hp->Prop,(∀σ' H',N σ' H'->∃m',m' < m/\W m' σ' H')/\tb { D with nx:=N,ct:=N,bk:=D.nx } σ H1 else D.nx σ H1
theorem vS {c:Iv}{body:HF Ks}{tc:TT}{tb:TS}(hp:M1 (model X.prog X.w) X.A X.env X.xe)(hc:PT X c tc)(hb:PSs X body tb):PS X (.While c body [] pos) (Cj tc tb):=by
 intro pins s σ H D I h;obtain⟨W,⟨m0,w0⟩,turn⟩:=h;refine wpAny_While (codeAny_whileLoop (λn s'=>∃σ' H',Inv X pins σ' H' s'/\W n σ' H') ?_ m0 #[σ,H,I,w0])
 rintro n s1 ⟨σ1,H1,I1,w1⟩;refine Kj hp (b9 (hc pins s1 σ1 H1 _ I1 (turn n σ1 H1 w1)) λb s2 #[H2,I2,q2]=>?_)
 cases b with
 | true=>
  obtain⟨N,hN,q2⟩:=q2;rw[Iw rfl];refine Kj hp (b9 (hb pins s2 σ1 H2 _ I2 q2) λf s3 q3=>?_)
  cases f with
  | next=>
   obtain⟨σ3,H3,I3,n3⟩:=q3;obtain⟨m',hm,w3⟩:=hN σ3 H3 n3;exact#[m',hm,σ3,H3,I3,w3]
  | cont=>
   obtain⟨σ3,H3,I3,n3⟩:=q3;obtain⟨m',hm,w3⟩:=hN σ3 H3 n3;exact#[m',hm,σ3,H3,I3,w3]
  | brk=>exact q3
  | ret v=>exact q3
 | false=>
  rw[IH Iu];exact Mx #[σ1,H2,I2,q2]
end
structure It where
 go:HM->Hp->Prop
 yld:HM->Hp->V->Hp->Prop
 stop:HM->Hp->Prop
noncomputable def iY (X:Cx)(pins:HF (HR×JE))(H:Hp)(b:HR):Prop:=
 H b=td/\b≠X.env.locals/\b∉X.fs/\(b∈X.ex\/X.s₀.heap.objs.size<=b)/\(∀x c,X.env.cells.lookup x=gV c->c≠b)/\∀p∈X.pn++pins,p.1≠b
theorem Inv.fpOk {X:Cx}{pins:HF (HR×JE)}{σ:St}{H H':Hp}{s:HK}{b:HR}(I:Inv X pins σ H s)(hb:s.heap.objs.size<=b)(hn:H' b=td):iY X pins H' b:=by
 refine#[hn,KF (IE I.lt hb),I.nofs hb,.inr (IS I.sz hb),λx c e z=>?_,λp hp z=>?_]
 ·obtain⟨v,q⟩:=I.cell x c e;exact absurd (IE q.lt (by rw[z]; exact hb)) (Ju _)
 ·exact absurd (IE (Io (I.pin p hp).1) (by rw[z]; exact hb)) (Ju _)
structure Turn (P:IC)(w:IP)(K:HW)(tg:Iv)(J:It)(fp:HF HR)(it:HR)(tn:HM->IZ->Prop):Prop where
 mem:it∈fp
 obj:∀i h,tn i h->∀b∈fp,∃o,h.get? b=gV o/\∀v,o.data≠.cell v
 keep:∀i h h',tn i h->(∀b∈fp,∀o,h.get? b=gV o->h'.get? b=gV o)->tn i h'
 item:∀(X:Cx),X.prog=P->X.w=w->X.K=K->X.calm=true->∀(i:HM) (pins:HF (HR×JE)) (s:HK) (σ:St) (H:Hp) (E:HH->HK->Prop),Inv X pins σ H s->(∀b∈fp,iY X pins H b)->tn i s.heap->J.go i H->
  wpAny (model P w) X.A (pyNext (.ref it)) (λr s1=>∃u,r=gV u/\
   wpAny (model P w) X.A (letOwnedTupleGo tg (.ref it) u) (λ_ s2=>∃x H',Inv X pins σ H' s2/\RelV x u/\J.yld i H x H'/\tn (i+1) s2.heap/\∀b∈fp,H' b=td) E s1) E s
 done:∀(X:Cx),X.prog=P->X.w=w->X.K=K->X.calm=true->∀(i:HM) (pins:HF (HR×JE)) (s:HK) (σ:St) (H:Hp) (E:HH->HK->Prop),Inv X pins σ H s->(∀b∈fp,iY X pins H b)->tn i s.heap->J.stop i H->
  wpAny (model P w) X.A (pyNext (.ref it)) (λr s1=>r=td/\Inv X pins σ H s1) E s
 self:∀(A:IL) (i:HM) (s:HK) (Q:HH->HK->Prop) (E:HH->HK->Prop),tn i s.heap->Q (.ref it) s->wpAny (model P w) A (pyIter (.ref it)) Q E s
noncomputable abbrev TI:=St->Hp->(It->Hp->Prop)->Prop
noncomputable def FW (X:Cx)(pins:HF (HR×JE))(σ:St)(tg:Iv)(R:It->Hp->Prop)(itv:HH)(s2:HK):Prop:=
 ∃(it:HR) (fp:HF HR) (tn:HM->IZ->Prop) (J:It) (H':Hp),itv=.ref it/\Inv X pins σ H' s2/\Turn X.prog X.w X.K tg J fp it tn/\tn 0 s2.heap/\(∀b∈fp,iY X pins H' b)/\R J H'
noncomputable def PI (X:Cx)(tg iter:Iv)(wi:TI):Prop:=
 ∀(pins:HF (HR×JE)) (s:HK) (σ:St) (H:Hp) (R:It->Hp->Prop),Inv X pins σ H s->wi σ H R->
  wpAny (model X.prog X.w) X.A (eval iter X.env) (λv s1=>wpAny (model X.prog X.w) X.A (pyIter v) (FW X pins σ tg R) X.xe s1) X.xe s
theorem sA {M:P2}{A:IL}{E:HH->HK->Prop}{s:HK}{tg:Iv}{it:HR}{u:HH}{o:JE}{n:Jr}{vs:IY HH}{Q:Unit->HK->Prop}(ho:s.heap.get? it=gV o)(hc:o.cls=.type n)(hd:o.data=.fields vs)
    (hn:["enumerate","zip","dict_itemiterator","dict_reverseitemiterator","odict_iterator","itertools.zip_longest","itertools.pairwise"].contains n=false) (hQ:Q () s):wpAny M A (letOwnedTupleGo tg (.ref it) u) Q E s:=by
  unfold letOwnedTupleGo;cases tg <;> first
    | exact HU hQ
    | (cases u <;> first
        | exact HU hQ
        | (refine HG (Nm ho ?_)
           rw[hc,hd];show wpAny M A (if (["enumerate","zip","dict_itemiterator","dict_reverseitemiterator","odict_iterator","itertools.zip_longest","itertools.pairwise"].contains n&&vs[0]?==gV (rawInt _))=true then _ else _) Q E s
           rw[IH (by intro h; rw[hn,Bool.false_and]at h; cases h)]
           exact HU hQ))
noncomputable def Gj (K:HW)(a:HR):It:=
 #[λi H=>∃xs x,SqL K H a xs/\xs[i]?=gV x,λi H x H'=>H'=H/\∀xs,SqL K H a xs->xs[i]?=gV x,λi H=>∃xs,SqL K H a xs/\xs.length<=i]
noncomputable def DS (K:HW)(a:HR):It:=
 #[λi H=>∃xs x,SqT K H a xs/\xs[i]?=gV x,λi H x H'=>H'=H/\∀xs,SqT K H a xs->xs[i]?=gV x,λi H=>∃xs,SqT K H a xs/\xs.length<=i]
noncomputable def Ek (lo:Ig)(n:HM):It:=#[λi _=>i < n,λi H x H'=>H'=H/\x=.int (lo+i),λi _=>n<=i]
theorem uu {P:IC}{w:IP}{K:HW}{tg:Iv}(a it:HR):Turn P w K tg (Gj K a) [it] it (λi h=>h.IsListIter it a i) where
 mem:=by simp
 obj:=λi h st b hb=>by
  have e:b=it:=by simpa using hb
  subst e;obtain⟨o,e,c,d⟩:=st;exact#[o,e,λv z=>by rw[d]at z; cases z]
 keep:=λi h h' st k=>st.at λo e=>k it (by simp) o e
 item:=by
  intro X hP hw hK hc i pins s σ H E I hf st hg;subst hP hw hK;obtain⟨xs,x,hq,hx⟩:=hg;obtain⟨its,rv,p,hz⟩:=I.list hq;obtain⟨u,hu,ru⟩:=rv.get hx;obtain⟨f0,f1,f2,f3,f4,f5⟩:=hf it (by simp)
  refine wpAny_pyNext_list_item st p.isList (x:=u) (by simpa using hu) λh' st' sb=>?_
  have I1:Inv X pins σ H { s with heap:=h' }:=I.turned (t':=s.toks) (λb o hb e=>(sb.2 b hb).trans e) f0 f1 f3 f4 f5
  obtain⟨o,e,c,d⟩:=id st';exact#[u,rfl,sA (s:={ s with heap:=h' }) e c d #v[] #[x,H,I1,ru,#[rfl,λys hy=>by rw[I.list_inj hy hq]; exact hx],st',λb hb=>(hf b hb).1]]
 done:=by
  intro X hP hw hK hc i pins s σ H E I hf st hg;subst hP hw hK;obtain⟨xs,hq,hx⟩:=hg;obtain⟨its,rv,p,hz⟩:=I.list hq;obtain⟨f0,f1,f2,f3,f4,f5⟩:=hf it (by simp)
  have hl:=rv.length;exact wpAny_pyNext_list_end (I.ok.hd hc) st p.isList (by simp; omega) λh' eb=>#[rfl,I.turned (t':=s.toks) (λb o hb e=>eb b o hb e) f0 f1 f3 f4 f5]
 self:=λ_ _ _ _ _ st h=>wpAny_pyIter_listiter st h
theorem q9 {P:IC}{w:IP}{K:HW}{tg:Iv}(a it:HR):Turn P w K tg (DS K a) [it] it (λi h=>h.IsTupleIter it a i) where
 mem:=by simp
 obj:=λi h st b hb=>by
  have e:b=it:=by simpa using hb
  subst e;obtain⟨o,e,c,d⟩:=st;exact#[o,e,λv z=>by rw[d]at z; cases z]
 keep:=λi h h' st k=>st.at λo e=>k it (by simp) o e
 item:=by
  intro X hP hw hK hc i pins s σ H E I hf st hg;subst hP hw hK;obtain⟨xs,x,hq,hx⟩:=hg;obtain⟨its,rv,p,hz⟩:=I.tuple hq;obtain⟨u,hu,ru⟩:=rv.get hx;obtain⟨f0,f1,f2,f3,f4,f5⟩:=hf it (by simp)
  refine wpAny_pyNext_tuple_item st (show s.heap.IsTuple a its.toArray from p) (x:=u) (by simpa using hu) λh' st' sb=>?_
  have I1:Inv X pins σ H { s with heap:=h' }:=I.turned (t':=s.toks) (λb o hb e=>(sb.2 b hb).trans e) f0 f1 f3 f4 f5
  obtain⟨o,e,c,d⟩:=id st';exact#[u,rfl,sA (s:={ s with heap:=h' }) e c d #v[] #[x,H,I1,ru,#[rfl,λys hy=>by rw[I.tuple_inj hy hq]; exact hx],st',λb hb=>(hf b hb).1]]
 done:=by
  intro X hP hw hK hc i pins s σ H E I hf st hg;subst hP hw hK;obtain⟨xs,hq,hx⟩:=hg;obtain⟨its,rv,p,hz⟩:=I.tuple hq;obtain⟨f0,f1,f2,f3,f4,f5⟩:=hf it (by simp)
  have hl:=rv.length;exact wpAny_pyNext_tuple_end (I.ok.hd hc) st (show s.heap.IsTuple a its.toArray from p) (by simp; omega) λh' eb=>#[rfl,I.turned (t':=s.toks) (λb o hb e=>eb b o hb e) f0 f1 f3 f4 f5]
 self:=λ_ _ _ _ _ st h=>wpAny_pyIter_tupleiter st h
theorem rc {P:IC}{w:IP}{K:HW}{tg:Iv}(it:HR)(lo:Ig)(n:HM):Turn P w K tg (Ek lo n) [it] it (λi h=>Pi h it (lo+(i:HM)*1) ((n:Ig) - (i:HM)) 1) where
 mem:=by simp
 obj:=λi h st b hb=>by
  have e:b=it:=by simpa using hb
  subst e;exact#[_,st,λv z=>by
   have z':Data.fields _=Data.cell v:=z;cases z']
 keep:=λi h h' st k=>k it (by simp) _ st
 item:=by
  intro X hP hw hK hc i pins s σ H E I hf st hg;subst hP hw hK;obtain⟨f0,f1,f2,f3,f4,f5⟩:=hf it (by simp)
  have W:=Walks.range (prog:=X.prog) (w:=X.w) (I.ok.hd hc) it lo 1 n;refine W.item i s _ _ hg st λv h' tk hv st' kk=>?_
  obtain⟨t,rfl⟩:=hv;have I1:Inv X pins σ H { s with heap:=h',toks:=tk }:=I.turned (λb o hb e=>kk b o (by simpa using hb) e) f0 f1 f3 f4 f5
  refine#[_,rfl,sA (s:={ s with heap:=h',toks:=tk }) (n:="range_iterator") st' rfl rfl #v[] #[.int (lo+i),H,I1,#[t,?_],#[rfl,rfl],st',λb hb=>(hf b hb).1]]
  rw[Int.mul_one]
 done:=by
  intro X hP hw hK hc i pins s σ H E I hf st hg;subst hP hw hK;obtain⟨f0,f1,f2,f3,f4,f5⟩:=hf it (by simp)
  exact wpAny_pyNext_range_end (I.ok.hd hc) st (by have:n<=i:=hg; omega) λh' eb=>#[rfl,I.turned (t':=s.toks) (λb o hb e=>eb b o hb e) f0 f1 f3 f4 f5]
 self:=λ_ _ _ _ _ st h=>wpAny_pyIter_rangeiter st h
section
variable{X:Cx}{tg:Iv}
theorem pq {pins:HF (HR×JE)}{σ:St}{H:Hp}{s:HK}{R:It->Hp->Prop}{E:HH->HK->Prop}{lo hi:Ig}{t u v:P7}{tk:HM}(I:Inv X pins σ H s)(h1 : -(2 ^ 62)<=lo)(h2:lo < 2 ^ 62)(h3 : -(2 ^ 62)<=hi)(h4:hi < 2 ^ 62)
  (q:R (Ek lo (hi - lo).toNat) H):wpAny (model X.prog X.w) X.A (pyIter (.ref s.heap.objs.size)) (FW X pins σ tg R) E { s with heap:=s.heap.push { cls:=.type "range",data:=.fields [.int lo t,.int hi u,.int 1 v].toArray },toks:=tk }:=by
 refine wpAny_pyIter_range (IsRange.new ..) (O6 h1 h2 h3 h4) ?_;have I1:Inv X pins σ H { s with heap:=s.heap.push { cls:=.type "range",data:=.fields [.int lo t,.int hi u,.int 1 v].toArray },toks:=tk }:=I.kept λb o e=>HP _ e
 refine#[(s.heap.push { cls:=.type "range",data:=.fields [.int lo t,.int hi u,.int 1 v].toArray }).objs.size,[(s.heap.push { cls:=.type "range",data:=.fields [.int lo t,.int hi u,.int 1 v].toArray }).objs.size],_,_,H,rfl,
  I1.kept (t':=tk) λb o e=>HP _ e,rc _ lo (hi - lo).toNat,?_,λb hb=>?_,q]
 ·have e1:lo+((0:HM):Ig)*1=lo:=by simp
  have e2:(((hi - lo).toNat:HM):Ig) - ((0:HM):Ig)=JO lo hi 1:=by rw[Na]; split <;> omega
  show Pi _ _ (lo+((0:HM):Ig)*1) ((((hi - lo).toNat:HM):Ig) - ((0:HM):Ig)) 1;rw[e1,e2];exact Iq _ rfl
 ·have e:b=(s.heap.push { cls:=.type "range",data:=.fields [.int lo t,.int hi u,.int 1 v].toArray }).objs.size:=by simpa using hb
  subst e;exact I1.fpOk (HZ _) (I1.hok.fresh (HZ _))
noncomputable def El (ta:TA):TI:=λσ H R=>ta σ H λvs H1=>∃j:Ig,vs=[.int j]/\-(2 ^ 62)<=j/\j < 2 ^ 62/\R (Ek 0 j.toNat) H1
noncomputable def iRng2 (ta:TA):TI:=λσ H R=>ta σ H λvs H1=>∃i j:Ig,vs=[.int i,.int j]/\(-(2 ^ 62)<=i/\i < 2 ^ 62/\-(2 ^ 62)<=j/\j < 2 ^ 62)/\R (Ek i (j - i).toNat) H1
theorem uw {a:Iv}{ta:TA}{p pos:Kf}(hg:Gl X "range")(hm:X.mg "range" = td)(ha:PA X [a] ta)(hs:starEach [a] X.env=[(false,eval a X.env)]:=by rfl):PI X tg (.Call (.Name "range" p) [a] [] pos) (El ta):=by
 intro pins s σ H R I h;refine Call_ (iX I hg hm boot_range (J5 (b9 (ha pos pins s σ H _ I h) λus s1 #[vs,H1,I1,r1,q1]=>?_) hs rfl))
 obtain⟨j,e,q1,q2,q⟩:=q1;subst e;cases r1 with
 | cons r rr=>
  cases rr;obtain⟨t,rfl⟩:=r;exact Pa (pq I1 ∅ ∅ q1 q2 (by simpa using q))
theorem uy {a b:Iv}{ta:TA}{p pos:Kf}(hg:Gl X "range")(hm:X.mg "range" = td)(ha:PA X [a,b] ta)(hs:starEach [a,b] X.env=[(false,eval a X.env),(false,eval b X.env)]:=by rfl)(hs2:starEach [b] X.env=[(false,eval b X.env)]:=by rfl) :
  PI X tg (.Call (.Name "range" p) [a,b] [] pos) (iRng2 ta):=by
 intro pins s σ H R I h;refine Call_ (iX I hg hm boot_range (J5 (b9 (ha pos pins s σ H _ I h) λus s1 #[vs,H1,I1,r1,q1]=>?_) (by rw[hs,hs2]) (by rw[hs2]; rfl)))
 obtain⟨i,j,e,⟨q1,q2,q3,q4⟩,q⟩:=q1;subst e;cases r1 with
 | cons r rr=>
  cases rr with
  | cons r' rr=>
   cases rr;obtain⟨t,rfl⟩:=r;obtain⟨t',rfl⟩:=r';exact call_range_2 (pq I1 q1 q2 q3 q4 q)
noncomputable def Gk (wi:TI)(g:TG)(tb:TS):TS:=λD σ H=>wi σ H λJ H1=>∃W:HM->HM->St->Hp->Prop,(∃m,W 0 m σ H1)/\∀i m σ H,W i m σ H->
 (J.stop i H/\D.nx σ H)\/(J.go i H/\∃N:St->Hp->Prop,(∀σ' H',N σ' H'->∃m',m' < m/\W (i+1) m' σ' H')/\∀x H',J.yld i H x H'->g x σ H' λσ2 H2=>tb { D with nx:=N,ct:=N,bk:=D.nx } σ2 H2)
noncomputable def iZ (fp:HF HR)(h:IZ):HF (HR×JE):=fp.filterMap λb=>(h.get? b).map λo=>(b,o)
theorem fD {fp:HF HR}{h:IZ}{b:HR}{o:JE}(hb:b∈fp)(e:h.get? b=gV o):(b,o)∈iZ fp h:=Nn.mpr #[b,hb,by rw[e]; rfl]
theorem uz {fp:HF HR}{h:IZ}{p:HR×JE}(hp:p∈iZ fp h):p.1∈fp/\h.get? p.1=gV p.2:=by
 obtain⟨b,hb,e⟩:=Nn.mp hp;cases q:h.get? b with
 | none=>rw[q]at e; cases e
 | some o=>
  rw[q]at e;have e':(b,o)=p:=Jn e;subst e';exact#[hb,q]
theorem Inv.pinned {pins:HF (HR×JE)}{σ:St}{H:Hp}{s:HK}{fp:HF HR}(I:Inv X pins σ H s)(hf:∀b∈fp,iY X pins H b)(ho:∀b∈fp,∃o,s.heap.get? b=gV o/\∀v,o.data≠.cell v):Inv X (pins++iZ fp s.heap) σ H s:=
 I.pins_of λp hp=>(IU.mp hp).elim (λz=>I.pin p (IG _ z)) λz=>by
  obtain⟨hb,e⟩:=uz z;obtain⟨f0,f1,f2,_⟩:=hf p.1 hb;obtain⟨o,e',d⟩:=ho p.1 hb;rw[e]at e'; cases e'
  exact#[e,f0,f1,f2,d]
theorem Inv.unpinned {pins pl:HF (HR×JE)}{σ:St}{H:Hp}{s:HK}(I:Inv X (pins++pl) σ H s):Inv X pins σ H s:=I.pins_of λp hp=>I.pin p (IG _ (JZ _ hp))
theorem Ck {iter:Iv}{body:HF Ks}{wi:TI}{g:TG}{tb:TS}{pos:Kf}(hp:M1 (model X.prog X.w) X.A X.env X.xe)(hc:X.calm=true)(hi:PI X tg iter wi)(hg:PG X tg g)(hb:PSs X body tb)
  (hs:∀x,foldedSetIterable iter X.env x=pure x:=by intro _; rfl):PS X (.For tg iter body [] pos) (Gk wi g tb):=by
 intro pins s σ H D I h;refine wpAny_For (b9 (hi pins s σ H _ I h) λv s1 h1=>b9 h1 λitv s2 h2=>?_) hs
 obtain⟨it,fp,tn,J,H2,e,I2,T,aW,f2,W,⟨m0,w0⟩,turn⟩:=h2;subst e;have stat:∀ {H':Hp},(∀b∈fp,H' b=td)->∀b∈fp,iY X pins H' b:=λhn b hb=>#[hn b hb,(f2 b hb).2]
 refine codeAny_forLoop_any (λn s'=>∃i σ' H',Inv X pins σ' H' s'/\tn i s'.heap/\(∀b∈fp,H' b=td)/\W i n σ' H') ?_ m0 #[0,σ,H2,I2,aW,λb hb=>(f2 b hb).1,w0]
 rintro n s3 ⟨i,σ3,H3,I3,st3,fr3,w3⟩;rcases turn i n σ3 H3 w3 with⟨stop,qn⟩|⟨go,N,hN,step⟩
 ·refine Kj hp (b9 (T.done X rfl rfl rfl hc i pins s3 σ3 H3 X.xe I3 (stat fr3) st3 stop) λr s4 #[hr,I4]=>?_)
  subst hr;exact Mx #[σ3,H3,I4,qn]
 ·refine Kj hp (b9 (T.item X rfl rfl rfl hc i pins s3 σ3 H3 X.xe I3 (stat fr3) st3 go) λr s4 #[u,hr,h4]=>?_)
  subst hr;refine Kj hp (b9 h4 λ_ s5 #[x,H5,I5,r5,y5,st5,fr5]=>?_)
  have I5':=I5.pinned (stat fr5) (T.obj _ _ st5);refine Kj hp (b9 (hg _ s5 σ3 H5 x u _ I5' r5 (step x H5 y5)) λ_ s6 #[σ6,H6,I6,q6]=>?_)
  refine Kj hp (b9 (hb _ s6 σ6 H6 _ I6 q6) λf s7 q7=>?_)
  have again:∀ {σ7:St} {H7:Hp},Inv X (pins++iZ fp s5.heap) σ7 H7 s7->N σ7 H7->∃m,m < n/\∃i σ' H',Inv X pins σ' H' s7/\tn i s7.heap/\(∀b∈fp,H' b=td)/\W i m σ' H':=λ{σ7 H7} I7 n7=>by
   obtain⟨m',hm,w7⟩:=hN σ7 H7 n7;refine#[m',hm,i+1,σ7,H7,I7.unpinned,T.keep _ _ _ st5 λb hb o e=>(I7.pin (b,o) (IG _ (IG _ (fD hb e)))).1,λb hb=>?_,w7]
   obtain⟨o,e,d⟩:=T.obj _ _ st5 b hb;exact(I7.pin (b,o) (IG _ (IG _ (fD hb e)))).2.1
  cases f with
  | next=>obtain⟨σ7,H7,I7,n7⟩:=q7; exact again I7 n7
  | cont=>obtain⟨σ7,H7,I7,n7⟩:=q7; exact again I7 n7
  | brk=>obtain⟨σ7,H7,I7,q7⟩:=q7; exact#[σ7,H7,I7.unpinned,q7]
  | ret v=>obtain⟨x7,σ7,H7,I7,r7,q7⟩:=q7; exact#[x7,σ7,H7,I7.unpinned,r7,q7]
end
theorem for_tup {K:HW}{a:HR}{xs:HF V}{g:TG}{tb:TS}{D:Ends}{σ:St}{H:Hp}(Pv:HM->St->Hp->Prop)(h0:Pv 0 σ H)(hl:∀i σ H,i<=xs.length->Pv i σ H->SqT K H a xs)
  (hs:∀i x σ H,xs[i]?=gV x->Pv i σ H->g x σ H λσ2 H2=>tb { D with nx:=Pv (i+1),ct:=Pv (i+1),bk:=D.nx } σ2 H2) (hd:∀σ H,Pv xs.length σ H->D.nx σ H) :
  ∃W:HM->HM->St->Hp->Prop,(∃m,W 0 m σ H)/\∀i m σ H,W i m σ H->
   ((DS K a).stop i H/\D.nx σ H)\/((DS K a).go i H/\∃N:St->Hp->Prop,(∀σ' H',N σ' H'->∃m',m' < m/\W (i+1) m' σ' H')/\∀x H',(DS K a).yld i H x H'->g x σ H' λσ2 H2=>tb { D with nx:=N,ct:=N,bk:=D.nx } σ2 H2):=by
 refine#[λi m σ H=>m=xs.length - i/\i<=xs.length/\Pv i σ H,#[xs.length,by simp,Ko _,h0],?_]
 rintro i m σ H ⟨rfl,hi,p⟩;have q:=hl i σ H hi p
 by_cases hlt:i < xs.length
 ·refine .inr #[#[xs,xs[i],q,by simp[hlt]],Pv (i+1),λσ' H' p'=>#[xs.length - (i+1),∅,rfl,hlt,p'],λx H' y=>?_]
  obtain⟨e,y⟩:=y;subst e;exact hs i x σ _ (y xs q) p
 ·have e:i=xs.length:=∅
  subst e;exact .inl #[#[xs,q,HZ _],hd σ H p]
noncomputable abbrev R2:=V->V->Hp->VK->Prop
noncomputable def OpR (X:Cx)(f:HH->HH->Ph HH)(r:R2):Prop:=
 ∀(pins:HF (HR×JE)) (s:HK) (σ:St) (H:Hp) (x y:V) (v u:HH) (Q:VK),Inv X pins σ H s->RelV x v->RelV y u->r x y H Q->
  wpAny (model X.prog X.w) X.A (f v u) (EP X pins σ Q) X.xe s
noncomputable def Gm (X:Cx)(f:HH->Ph HH)(r:V->Hp->VK->Prop):Prop:=
 ∀(pins:HF (HR×JE)) (s:HK) (σ:St) (H:Hp) (x:V) (v:HH) (Q:VK),Inv X pins σ H s->RelV x v->r x H Q->
  wpAny (model X.prog X.w) X.A (f v) (EP X pins σ Q) X.xe s
noncomputable def CallR (X:Cx)(f:HH)(r:HF V->Hp->VK->Prop):Prop:=
 ∀(pins:HF (HR×JE)) (s:HK) (σ:St) (H:Hp) (xs:HF V) (us:HF HH) (Q:VK),Inv X pins σ H s->Vals xs us->r xs H Q->
  wpAny (model X.prog X.w) X.A (call f us) (EP X pins σ Q) X.xe s
noncomputable def Gn (X:Cx)(r:V->Hp->(Iy->Hp->Prop)->Prop):Prop:=
 ∀(pins:HF (HR×JE)) (s:HK) (σ:St) (H:Hp) (x:V) (v:HH) (Q:Iy->Hp->Prop),Inv X pins σ H s->RelV x v->r x H Q->
  wpAny (model X.prog X.w) X.A (truthy v) (TP X pins σ Q) X.xe s
noncomputable def FX (r:R2)(ta tb:TE):TE:=λσ H Q=>ta σ H λx H1=>tb σ H1 λy H2=>r x y H2 Q
noncomputable def Hu (r:V->Hp->VK->Prop)(ta:TE):TE:=λσ H Q=>ta σ H λx H1=>r x H1 Q
noncomputable def rI (C:Ig->Ig->Prop)(g:Ig->Ig->V):R2:=λx y H Q=>∃i j,x=.int i/\y=.int j/\C i j/\Q (g i j) H
noncomputable def Bw (g:Ig->Ig->V):R2:=λx y H Q=>∃i j,x=.int i/\y=.int j/\Q (g i j) H
noncomputable def rU (g:Ig->V):V->Hp->VK->Prop:=λx H Q=>∃i,x=.int i/\Q (g i) H
section
variable{X:Cx}{a b c:Iv}{ta tb tc:TE}{pos:Kf}
theorem Cm (ha:PE X a ta)(hb:PE X b tb){pins:HF (HR×JE)}{s:HK}{σ:St}{H:Hp}{R:V->V->Hp->Prop}(I:Inv X pins σ H s)
  (h:ta σ H λx H1=>tb σ H1 λy H2=>R x y H2) {Q:HH->HK->Prop} {f:HH->HH->Ph HH}
  (hf:∀v u s2 x y H2,Inv X pins σ H2 s2->RelV x v->RelV y u->R x y H2->wpAny (model X.prog X.w) X.A (f v u) Q X.xe s2) :
  wpAny (model X.prog X.w) X.A (eval a X.env) (λv s₁=>wpAny (model X.prog X.w) X.A (eval b X.env) (λu s₂=>wpAny (model X.prog X.w) X.A (f v u) Q X.xe s₂) X.xe s₁) X.xe s:=by
 refine b9 (ha pins s σ H _ I h) λv s1 #[x,H1,I1,r1,q1]=>?_
 refine b9 (hb pins s1 σ H1 _ I1 q1) λu s2 #[y,H2,I2,r2,q2]=>?_
 exact hf v u s2 x y H2 I2 r1 r2 q2
theorem Em {op:ND}{r:R2}(ho:OpR X (binaryOp op) r)(ha:PE X a ta)(hb:PE X b tb):PE X (.BinOp a op b pos) (FX r ta tb):=by
 intro pins s σ H Q I h;exact wpAny_BinOp (Cm ha hb I h λv u s2 x y H2 I2 rx ry q=>ho pins s2 σ H2 x y v u Q I2 rx ry q)
theorem En {op:UnaryOp}{r:V->Hp->VK->Prop}(ho:Gm X (unaryOp op) r)(ha:PE X a ta):PE X (.UnaryOp op a pos) (Hu r ta):=by
 intro pins s σ H Q I h;exact UnaryOp_ (b9 (ha pins s σ H _ I h) λv s1 #[x,H1,I1,r1,q1]=>ho pins s1 σ H1 x v Q I1 r1 q1)
theorem FY {f:HH->HH->Ph HH}{C:Ig->Ig->Prop}{g:Ig->Ig->Ig}
  (rule:∀(i j:Ig) (t u:P7) (s:HK) (Q:HH->HK->Prop) (E:HH->HK->Prop),C i j->Q (.int (g i j) s.toks) { s with toks:=s.toks+1 }->wpAny (model X.prog X.w) X.A (f (.int i t) (.int j u)) Q E s) :
  OpR X f (rI C λi j=>.int (g i j)):=by
 intro pins s σ H x y v u Q I rx ry h;obtain⟨i,j,rfl,rfl,hc,q⟩:=h;obtain⟨t,rfl⟩:=rx;obtain⟨t',rfl⟩:=ry;exact rule i j t t' s _ _ hc #[.int (g i j),H,I.tok _,#[_,rfl],q]
theorem Eo {f:HH->HH->Ph HH}{g:Ig->Ig->Ig}
  (rule:∀(i j:Ig) (t u:P7) (s:HK) (Q:HH->HK->Prop) (E:HH->HK->Prop),Q (.int (g i j) s.toks) { s with toks:=s.toks+1 }->wpAny (model X.prog X.w) X.A (f (.int i t) (.int j u)) Q E s) :
  OpR X f (Bw λi j=>.int (g i j)):=by
 intro pins s σ H x y v u Q I rx ry h;obtain⟨i,j,rfl,rfl,q⟩:=h;obtain⟨t,rfl⟩:=rx;obtain⟨t',rfl⟩:=ry;exact rule i j t t' s _ _ #[.int (g i j),H,I.tok _,#[_,rfl],q]
theorem zh {f:HH->HH->Ph HH}{g:Ig->Ig->Iy}
  (rule:∀(i j:Ig) (t u:P7) (s:HK) (Q:HH->HK->Prop) (E:HH->HK->Prop),Q (.bool (g i j)) s->wpAny (model X.prog X.w) X.A (f (.int i t) (.int j u)) Q E s) :
  OpR X f (Bw λi j=>.bl (g i j)):=by
 intro pins s σ H x y v u Q I rx ry h;obtain⟨i,j,rfl,rfl,q⟩:=h;obtain⟨t,rfl⟩:=rx;obtain⟨t',rfl⟩:=ry;exact rule i j t t' s _ _ #[.bl (g i j),H,I,rfl,q]
noncomputable def Go (i j:Ig):Prop:=0 < j/\j < 1073741824
noncomputable def Gp (i j:Ig):Prop:=0<=j/\j<=1000000/\i.natAbs < 2 ^ 64
noncomputable def CMul (i j:Ig):Prop:=(-(2 ^ 64) < i/\i < 2 ^ 64)\/(-(2 ^ 64) < j/\j < 2 ^ 64)
theorem CMul.ok {i j:Ig}(h:CMul i j):IntMulOk i j:=by
 rcases h with⟨h1,h2⟩|⟨h1,h2⟩
 ·exact .of_left (OS h1 h2)
 ·exact .of_right (OS h1 h2)
theorem Cn:OpR X (binaryOp .Add) (Bw λi j=>.int (i+j)):=Eo λ_ _ _ _ _ _ _ q=>add_int q
theorem Co:OpR X (binaryOp .Sub) (Bw λi j=>.int (i - j)):=Eo λ_ _ _ _ _ _ _ q=>sub_int q
theorem Cp:OpR X (binaryOp .Mult) (rI CMul λi j=>.int (i*j)):=FY λ_ _ _ _ _ _ _ hc q=>mul_int q hc.ok
theorem zj:OpR X (binaryOp .FloorDiv) (rI Go λi j=>.int (i / j)):=FY λi j _ _ _ _ _ hc q=>by
 have h1:(0:Ig) < j:=hc.1;have h2:j < 1073741824:=hc.2;exact floordiv_int ∅ (by rw[Int.fdiv_eq_ediv_of_nonneg i ∅]; exact q) (.inl (PyProof.noPylong_small ∅))
theorem Cq:OpR X (binaryOp .Mod) (rI (λ_ j=>0 < j) λi j=>.int (i % j)):=FY λi j _ _ _ _ _ hc q=>by
 have h1:(0:Ig) < j:=hc;exact mod_int' ∅ (by rw[Int.fmod_eq_emod_of_nonneg i ∅]; exact q)
theorem Cr:OpR X (binaryOp .Pow) (rI Gp λi j=>.int (i ^ j.toNat)):=FY λ_ _ _ _ _ _ _ hc q=>pow_int_small hc.1 hc.2.1 hc.2.2 q
theorem Hv {f:HH->Ph HH}{g:Ig->Ig}
  (rule:∀(i:Ig) (t:P7) (s:HK) (Q:HH->HK->Prop) (E:HH->HK->Prop),Q (.int (g i) s.toks) { s with toks:=s.toks+1 }->wpAny (model X.prog X.w) X.A (f (.int i t)) Q E s) :
  Gm X f (rU λi=>.int (g i)):=by
 intro pins s σ H x v Q I rx h;obtain⟨i,rfl,q⟩:=h;obtain⟨t,rfl⟩:=rx;exact rule i t s _ _ #[.int (g i),H,I.tok _,#[_,rfl],q]
theorem Cs:Gm X (unaryOp .USub) (rU λi=>.int (-i)):=Hv λ_ _ _ _ _ q=>neg_int q
end
section
variable{X:Cx}{a b c:Iv}{ta tb tc:TE}{pos:Kf}
theorem vT {pins:HF (HR×JE)}{σ:St}{H:Hp}{s:HK}{Q:VK}{k k':Iy}(I:Inv X pins σ H s)(q:Q (.bl k) H)(e:k=k'):EP X pins σ Q (.bool k') s:=by
 subst e;exact#[.bl k,H,I,rfl,q]
theorem Er:OpR X (compareOp .Lt) (Bw λi j=>.bl (decide (i < j))):=zh λ_ _ _ _ _ _ _ q=>lt_int q
theorem Et:OpR X (compareOp .LtE) (Bw λi j=>.bl (decide (i<=j))):=zh λ_ _ _ _ _ _ _ q=>le_int q
theorem Eu:OpR X (compareOp .Gt) (Bw λi j=>.bl (decide (j < i))):=zh λ_ _ _ _ _ _ _ q=>gt_int q
theorem Ev:OpR X (compareOp .GtE) (Bw λi j=>.bl (decide (j<=i))):=zh λ_ _ _ _ _ _ _ q=>ge_int q
theorem Ct:OpR X (compareOp .Is) (λx y H Q=>y=.non/\Q (.bl (decide (x=.non))) H):=by
 intro pins s σ H x y v u Q I rx ry h;obtain⟨rfl,q⟩:=h;cases ry;refine is_none_gen (vT I q ?_);cases x <;> first
  | (cases rx; rfl)
  | (obtain⟨t,rfl⟩:=rx; rfl)
theorem zm:OpR X (compareOp .IsNot) (λx y H Q=>y=.non/\Q (.bl (!decide (x=.non))) H):=by
 intro pins s σ H x y v u Q I rx ry h;obtain⟨rfl,q⟩:=h;cases ry;refine isnot_none_gen (vT I q ?_);cases x <;> first
  | (cases rx; rfl)
  | (obtain⟨t,rfl⟩:=rx; rfl)
theorem zn {op:O7}{r:R2}(ho:OpR X (compareOp op) r)(ha:PE X a ta)(hb:PE X b tb)(hm:behindInMarks op b=false):PE X (.Compare a [op] [b] pos) (FX r ta tb):=by
 intro pins s σ H Q I h;exact wpAny_Compare1 (Cm ha hb I h λv u s2 x y H2 I2 rx ry q=>ho pins s2 σ H2 x y v u Q I2 rx ry q) hm
noncomputable def Ew (t:TE):TT:=λσ H Q=>t σ H λx H'=>∃k,x=.bl k/\Q k H'
theorem zo {op:O7}{r:R2}(ho:OpR X (compareOp op) r)(ha:PE X a ta)(hb:PE X b tb)(hm:behindInMarks op b=false):PT X (.Compare a [op] [b] pos) (Ew (FX r ta tb)):=by
 intro pins s σ H Q I h;refine wpAny_isTrue_Compare1 (b9 (ha pins s σ H _ I h) λv s1 #[x,H1,I1,r1,q1]=>b9 (hb pins s1 σ H1 _ I1 q1) λu s2 #[y,H2,I2,r2,q2]=>
  b9 (ho pins s2 σ H2 x y v u _ I2 r1 r2 q2) λc s3 #[z,H3,I3,r3,k,e,q3]=>?_) hm
 subst e;cases r3;exact J2 #[H3,I3,q3]
noncomputable def Gq (K:HW)(x:V)(H:Hp)(k:Iy):Prop:=
 match x with
 | .non=>k=false
 | .bl b=>k=b
 | .int i=>k=(i != 0)
 | .str y=>y.length<=sizeLine/\k=((y.length:Ig) != 0)
 | .byt y=>y.size<=sizeLine/\k=((y.size:Ig) != 0)
 | .ref p=>(∃xs,SqL K H p xs/\k = !xs.isEmpty)\/(∃xs,SqT K H p xs/\k = !xs.isEmpty)\/∃kvs,H p=gV (.dK kvs)/\k = !kvs.isEmpty
 | _=>Jq
theorem re {κ:Type}{kvs:HF (κ×V)}{vs:HF (κ×HH)}(r:KV kvs vs):(!vs.isEmpty) = !kvs.isEmpty:=by
 cases r <;> rfl
theorem kw {xs:HF V}{its:HF HH}(r:Vals xs its):(!its.toArray.isEmpty) = !xs.isEmpty:=by
 cases r <;> simp
theorem i3:(sizeLine:HM) < 2 ^ 63:=by rw[Je]; decide
theorem Cu:Gn X (λx H Q=>∃k,Gq X.K x H k/\Q k H):=by
 intro pins s σ H x v Q I rx h;obtain⟨k,e,q⟩:=h;have hl:=i3;have hs:sizeLine=16777216:=Je;cases x with
 | non=>
  cases rx;have e':k=false:=e;subst e';exact truthy_none #[H,I,q]
 | bl b=>
  cases rx;have e':k=b:=e;subst e';exact J2 #[H,I,q]
 | int i=>
  obtain⟨t,rfl⟩:=rx;have e':k=(i != 0):=e;subst e';exact PySem.P.truthy_int #[H,I,q]
 | str y=>
  obtain⟨t,rfl⟩:=rx;obtain⟨hy,e'⟩ : y.length<=sizeLine/\k=((y.length:Ig) != 0):=e;subst e';exact PySem.P.truthy_str ∅ #[H,I.tok _,q]
 | byt y=>
  obtain⟨t,rfl⟩:=rx;obtain⟨hy,e'⟩ : y.size<=sizeLine/\k=((y.size:Ig) != 0):=e;subst e';exact PySem.W.truthy_bytes ∅ #[H,I.tok _,q]
 | ref p=>
  cases rx;have e':(∃xs,SqL X.K H p xs/\k = !xs.isEmpty)\/(∃xs,SqT X.K H p xs/\k = !xs.isEmpty)\/∃kvs,H p=gV (.dK kvs)/\k = !kvs.isEmpty:=e;rcases e' with⟨xs,hx,e'⟩|⟨xs,hx,e'⟩|⟨kvs,hx,e'⟩
  ·subst e';obtain⟨its,r,pl,hz⟩:=I.list hx;have hlen:=r.length;exact wpAny_truthy_list pl.isList (by simp only[Ih]; omega) #[H,I.tok _,by rw[kw r]; exact q]
  ·subst e';obtain⟨its,r,pl,hz⟩:=I.tuple hx;have hlen:=r.length;exact truthy_tuple pl (by simp only[Ih]; omega) #[H,I.tok _,by rw[kw r]; exact q]
  ·subst e';obtain⟨hz,hS,vs,r,m⟩ : kvs.length<=sizeLine/\(p==sysModules)=false/\∃vs,KV kvs vs/\s.heap.DictOf (nv X.prog X.w) p vs:=I.hok p _ hx;have hlen:kvs.length=vs.length:=Mc r;exact wpAny_truthy_dict hS m ∅ #[H,I.tok _,by rw[re r]; exact q]
 | _=>exact(show Jq from e).elim
theorem rf:OpR X (binaryOp .Add) (λx y H Q=>∃i j,x=.str i/\y=.str j/\i.length+j.length<=sizeLine/\Q (.str (i++j)) H):=by
 intro pins s σ H x y v u Q I rx ry h;obtain⟨i,j,rfl,rfl,hz,q⟩:=h;obtain⟨t,rfl⟩:=rx;obtain⟨t',rfl⟩:=ry;exact add_str (λt' tk=>#[.str (i++j),H,I.tok _,#[_,rfl],q]) hz
theorem mv {x:V}{us:HF HH}(r:Vals [x] us):∃u,us=[u]/\RelV x u:=by
 cases r with
 | cons r1 r2=>cases r2; exact#[_,rfl,r1]
theorem mw:CallR X (.type "int") (λxs H Q=>(∃i,xs=[.int i]/\Q (.int i) H)\/∃k,xs=[.bl k]/\Q (.int (if k then 1 else 0)) H):=by
 intro pins s σ H xs us Q I r h;rcases h with⟨i,rfl,q⟩|⟨k,rfl,q⟩
 ·obtain⟨u,rfl,t,rfl⟩:=mv r;exact call_int_int #[.int i,H,I,#[_,rfl],q]
 ·obtain⟨u,rfl,r1⟩:=mv r;cases r1;exact call_int_bool #[.int (if k then 1 else 0),H,I.tok _,#[_,rfl],q]
noncomputable def Gr (K:HW)(x:V)(H:Hp)(n:HM):Prop:=
 match x with
 | .str y=>y.length<=sizeLine/\n=y.length
 | .byt y=>y.size<=sizeLine/\n=y.size
 | .ref p=>(∃xs,SqL K H p xs/\n=xs.length)\/∃xs,SqT K H p xs/\n=xs.length
 | _=>Jq
theorem kz:CallR X (.builtin "len") (λxs H Q=>∃x n,xs=[x]/\Gr X.K x H n/\Q (.int n) H):=by
 intro pins s σ H xs us Q I r h;obtain⟨x,n,rfl,e,q⟩:=h;obtain⟨u,rfl,rx⟩:=mv r;have hl:=i3;have hs:sizeLine=16777216:=Je;cases x with
 | str y=>
  obtain⟨t,rfl⟩:=rx;obtain⟨hy,e'⟩ : y.length<=sizeLine/\n=y.length:=e;subst e';exact len_str ∅ #[.int _,H,I.tok _,#[_,rfl],q]
 | byt y=>
  obtain⟨t,rfl⟩:=rx;obtain⟨hy,e'⟩ : y.size<=sizeLine/\n=y.size:=e;subst e';exact PySem.W.len_bytes ∅ #[.int _,H,I.tok _,#[_,rfl],q]
 | ref p=>
  cases rx;have e':(∃xs,SqL X.K H p xs/\n=xs.length)\/∃xs,SqT X.K H p xs/\n=xs.length:=e;rcases e' with⟨xs,hx,e'⟩|⟨xs,hx,e'⟩
  ·subst e';obtain⟨its,r',pl,hz⟩:=I.list hx;have hlen:=r'.length;exact Calls.call_len_list pl.isList (by simp only[Ih]; omega) #[.int xs.length,H,I.tok _,#[_,by simp only[Ih]; rw[hlen]],q]
  ·subst e';obtain⟨its,r',pl,hz⟩:=I.tuple hx;have hlen:=r'.length;exact len_tuple pl (by simp only[Ih]; omega) #[.int xs.length,H,I.tok _,#[_,by simp only[Ih]; rw[hlen]],q]
 | _=>exact(show Jq from e).elim
end
structure Room (k:HM)(A:IL):Prop where
 hd:A.handled=td
 dp:A.depth+3*k+5 < recursionLimit
 un:A.units+16*k+200 < cLine
theorem Room.deeper {k:HM}{A:IL}(r:Room (k+1) A)(env:NA):Room k (A.deeper env):=
 #[r.hd,by have:=r.dp; show A.depth+1+3*k+5 < _; omega,by have:=r.un; show A.units+3+16*k+200 < _; omega]
theorem Room.depth {k:HM}{A:IL}(r:Room k A):A.depth < recursionLimit:=by have:=r.dp; omega
noncomputable def Ex:TA:=λ_ H Q=>Q [] H
noncomputable def Ey (ta:TE)(tr:TA):TA:=λσ H Q=>ta σ H λx H1=>tr σ H1 λxs H2=>Q (x::xs) H2
section
variable{X:Cx}{e:Iv}{es:HF Iv}{te:TE}{t:TA}{pos:Kf}
theorem vU:PA X [] Ex:=λ_ _ _ _ H Q I h=>Calls.spliced_nil #[[],H,I,.nil,h]
theorem ny (ha:PE X e te)(hr:PA X es t)(hs:starEach (e::es) X.env=(false,eval e X.env)::starEach es X.env:=by rfl):PA X (e::es) (Ey te t):=by
 intro pos pins s σ H Q I h;rw[hs];show wpAny _ _ (spliced ((false,eval e X.env)::backTo pos (starEach es X.env))) _ _ s;refine Calls.spliced_cons (b9 (ha pins s σ H _ I h) λu s1 #[x,H1,I1,r1,q1]=>?_)
 exact b9 (hr pos pins s1 σ H1 _ I1 q1) λus s2 #[xs,H2,I2,r2,q2]=>#[x::xs,H2,I2,.cons r1 r2,q2]
noncomputable def Gs (t:TA):TE:=λσ H Q=>t σ H λxs H1=>xs.length<=sizeLine/\∀p,H1 p=td->Q (.ref p) (cp H1 p (.tup xs))
noncomputable def Gu (t:TA):TE:=λσ H Q=>t σ H λxs H1=>xs.length<=sizeLine/\∀p,H1 p=td->Q (.ref p) (cp H1 p (.lst xs))
theorem Cv {x1}(h:PA X es t):PE X (.Tuple es x1 pos) (Gs t):=by
 intro pins s σ H Q I hq;refine wpAny_Tuple_spliced (b9 (h pos pins s σ H _ I hq) λus s1 #[xs,H1,I1,r,z,q]=>#[by rw[<- r.length]; exact z,?_])
 have hf:H1 s1.heap.objs.size=td:=I1.hok.fresh (HZ _);refine#[.ref s1.heap.objs.size,cp H1 s1.heap.objs.size (.tup xs),I1.laid (t':=s1.toks) (λb u e=>HP _ e) (HZ _) ?_,rfl,q _ hf]
 exact#[z,us,r,#[_,Iq _ rfl,rfl,_,rfl]]
theorem Cw (h:PA X es t):PE X (.List es pos) (Gu t):=by
 intro pins s σ H Q I hq;refine wpAny_List_spliced (b9 (h pos pins s σ H _ I hq) λus s1 #[xs,H1,I1,r,z,q]=>#[by rw[<- r.length]; exact z,?_])
 have hf:H1 s1.heap.objs.size=td:=I1.hok.fresh (HZ _);refine#[.ref s1.heap.objs.size,cp H1 s1.heap.objs.size (.lst xs),I1.laid (t':=s1.toks) (λb u e=>HP _ e) (HZ _) ?_,rfl,q _ hf]
 exact#[z,us,0,r,Iq _ rfl]
end
noncomputable abbrev Sp:=HF V->Hp->VK->XK->Prop
noncomputable abbrev vV:=HF NA->Hp->HK->XK->HH->HK->Prop
structure Env0 (P:IC)(w:IP)(K:HW)(mg:Ik->HL HH)(base:IZ)(A:IL)(outer:HF NA)(s:HK)(H:Hp):Prop where
 frames:A.frames=gV outer
 mod:Mod K mg base
 bs:∀b o,base.get? b=gV o->s.heap.get? b=gV o/\H b=td
 bsz:base.objs.size<=s.heap.objs.size
 funs:s.heap.FunFrames base outer
 frf:∀b∈q8 outer,H b=td
 hok:HOk P w H s.heap
 bare:L8 s.gens
noncomputable def CE (outer:HF NA)(P:IC)(w:IP)(H:Hp)(s:HK)(Q:VK)(u:HH)(s':HK):Prop:=
 ∃v H',s'.os=s.os/\L8 s'.gens/\Un (q8 outer) [] H H' s.heap s'.heap/\HOk P w H' s'.heap/\RelV v u/\Q v H'
noncomputable def CR (CX:vV)(outer:HF NA)(P:IC)(w:IP)(H:Hp)(s:HK)(Q:VK)(E:XK)(r:N1)(s':HK):Prop:=
 match r with
 | .ok (.ret u)=>CE outer P w H s Q u s'
 | .ok _=>Jq
 | .error e=>CX outer H s E e s'
structure FnOk (P:IC)(w:IP)(K:HW)(mg:Ik->HL HH)(base:IZ)(CX:vV)(k:HM)(f:HR)(fd:Kd)(ps:HF Ik)(sp:Sp):Prop where
 len:∀vs H Q E,sp vs H Q E->vs.length=ps.length
 run:∀(A:IL) (outer:HF NA) (s:HK) (H:Hp) (args:Args) (us:HF HH) (vs:HF V) (Q:VK) (E:XK),Room k A->Env0 P w K mg base A outer s H->NE s fd args (ps.zip us)->Vals vs us->sp vs H Q E->
  codeAny (model P w) A (.call (.ref f) args) (CR CX outer P w H s Q E) s
section
variable{X:Cx}{pins:HF (HR×JE)}{σ:St}{H:Hp}{s s':HK}
theorem Inv.env0 (I:Inv X pins σ H s):Env0 X.prog X.w X.K X.mg X.base X.A X.stack s H:=
 #[I.ok.frames,I.ok.mod,I.bs,IS I.ok.bsz I.sz,I.stack,I.stkFree,I.hok,I.bare]
theorem Inv.after {Q:VK}{u:HH}(I:Inv X pins σ H s)(h:CE X.stack X.prog X.w H s Q u s'):EP X pins σ Q u s':=by
 obtain⟨v,H',os,bare,un,hok,r,q⟩:=h;obtain⟨hh,g,d,t,os'⟩:=s';obtain rfl:os'=s.os:=os;exact#[v,H',I.call (h':=hh) (g':=g) (d':=d) (t':=t) (ch:=[]) un hok bare (λb z=>absurd z (by simp)),r,q]
end
noncomputable def vW (sp:Sp)(dvs:HF V)(E:XK)(t:TA):TE:=λσ H Q=>t σ H λvs H1=>sp (vs++dvs) H1 Q E
noncomputable def Binds (K:HW)(fd:Kd)(ps:HF Ik)(ds:HF HH):Prop:=
 ∀(s:HK) (us:HF HH),K.In s.heap->(us++ds).length=ps.length->NE s fd #[us,[]] (ps.zip (us++ds))
theorem Binds.all {K:HW}{fd:Kd}{ps:HF Ik}(h:∀us:HF HH,us.length=ps.length->bindArgs fd #[us,[]]=pure (ps.zip us)):Binds K fd ps []:=λs us _ hl=>by
 rw[JJ]at hl ⊢;exact .of_eq (h us hl)
noncomputable def nz (CX:vV)(X:Cx)(E:XK):Prop:=∀(pins:HF (HR×JE)) (σ:St) (H:Hp) (s:HK) (e:HH) (s':HK),Inv X pins σ H s->CX X.stack H s E e s'->X.xe e s'
section
variable{X:Cx}{CX:vV}{k:HM}{f C:HR}{fd:Kd}{ps:HF Ik}{sp:Sp}{dvs:HF V}{ds:HF HH}{E:XK}{x m:Ik}{p pos apos:Kf}{e o:Iv}{es:HF Iv}{ta:TE}{t:TA}
theorem vX {pins:HF (HR×JE)}{σ:St}{H:Hp}{s:HK}{Q:VK}{us:HF HH}{vs:HF V}(F:FnOk X.prog X.w X.K X.mg X.base CX k f fd ps sp)(hr:Room k X.A)(hb:Binds X.K fd ps ds)(hd:Vals dvs ds)(hx:nz CX X E)
  (I:Inv X pins σ H s) (r:Vals vs us) (h:sp (vs++dvs) H Q E):wpAny (model X.prog X.w) X.A (call (.ref f) us) (EP X pins σ Q) X.xe s:=by
 have r2:Vals (vs++dvs) (us++ds):=r.append hd;have hl:(us++ds).length=ps.length:=by rw[<- r2.length]; exact F.len _ _ _ _ h
 refine wpAny_call (Mr (F.run X.A X.stack s H #[us,[]] (us++ds) (vs++dvs) Q E hr I.env0 (hb s us I.kIn hl) r2 h) λr s' hq=>?_)
 cases r with
 | error e=>exact hx pins σ H s e s' I hq
 | ok fl=>
  cases fl with
  | ret u=>exact I.after hq
  | next=>exact Jq.elim hq
  | brk=>exact Jq.elim hq
  | cont=>exact Jq.elim hq
theorem zp (F:FnOk X.prog X.w X.K X.mg X.base CX k f fd ps sp)(hr:Room k X.A)(hg:Gl X x)(hm:X.mg x=gV (.ref f))(hk:Jz X.K (.ref f)=true)(hb:Binds X.K fd ps ds)(hd:Vals dvs ds)(hx:nz CX X E)
  (ha:PA X (e::es) t) (hdb:(x==("__debug__" : Ik))=false:=by decide) (he:starEach (e::es) X.env=(false,eval e X.env)::starEach es X.env:=by rfl) (hpl:(backTo pos (starEach es X.env)).any (·.1)=false:=by rfl) :
  PE X (.Call (.Name x p) (e::es) [] pos) (vW sp dvs E t):=by
 intro pins s σ H Q I h;refine Lc (sx I hg hm ?_ hdb);refine PySem.W.callWith_K (h₀:=X.base) I.ok.mod.kin hk (b9 (ha pos pins s σ H _ I h) λus s1 #[vs,H1,I1,r,q]=>#[I1.kIn,?_]) he hpl
 exact vX F hr hb hd hx I1 r q
theorem vY (F:FnOk X.prog X.w X.K X.mg X.base CX k f fd ps sp)(hr:Room k X.A)(hg:Gl X x)(hm:X.mg x=gV (.ref f))(hk:Jz X.K (.ref f)=true)(hb:Binds X.K fd ps ds)(hd:Vals dvs ds)(hx:nz CX X E)
  (hdb:(x==("__debug__" : Ik))=false:=by decide):PE X (.Call (.Name x p) [] [] pos) (vW sp dvs E Ex):=by
 intro pins s σ H Q I h;refine Lc (sx I hg hm ?_ hdb);exact PySem.W.callWith_K0 I.kIn hk (vX (us:=[]) F hr hb hd hx I .nil h)
end
structure FnScope (N P:HF Ik)(sc:KL):Prop where
 kind:sc.kind=.function
 co:sc.isCoroutine=false
 gen:sc.isGenerator=false
 nd:N.Nodup
 pre:N.take P.length=P
 par:∀x∈P,sc.names.lookup x=gV .local\/sc.names.lookup x=gV .cell
 nofree:∀y∈sc.names,y.2≠.free
theorem mx {kindOf:Ik->HL JP}{x:Ik}:∀ {binds:HF (Ik×HH)} {m:Ik->HL HH},(∀v,(x,v)∉binds)->bindL kindOf binds m x=m x
 | [],_,_=>rfl
 | (n,v)::r,m,h=>by
  unfold bindL;rw[mx λw hw=>h w (Jk _ hw)]
  split
  ·have:x≠n:=by rintro rfl; exact h v JN
   simp[this]
  ·rfl
theorem my {kindOf:Ik->HL JP}{x:Ik}:∀ {binds:HF (Ik×HH)} {m:Ik->HL HH},(∀v,(x,v)∉binds)->bindC kindOf binds m x=m x
 | [],_,_=>rfl
 | (n,v)::r,m,h=>by
  unfold bindC;rw[my λw hw=>h w (Jk _ hw)]
  split
  ·rfl
  ·have:x≠n:=by rintro rfl; exact h v JN
   simp[this]
theorem mz {kindOf:Ik->HL JP}{x:Ik}{v:HH}:∀ {P:HF Ik} {vs:HF HH} {i:HM} {m:Ik->HL HH},P.Nodup->P[i]?=gV x->vs[i]?=gV v->kindOf x=gV .local->
  bindL kindOf (P.zip vs) m x=gV v
 | [],_,_,_,_,h,_,_=>by simp at h
 | _::_,[],_,_,_,_,h,_=>by simp at h
 | p::P,w::vs,0,m,nd,h1,h2,hk=>by
  simp at h1 h2; subst h1; subst h2
  show bindL kindOf ((p,w)::P.zip vs) m p=_;unfold bindL;rw[mx λv hv=>(JU.mp nd).1 (My hv).1,Iw hk]
  simp
 | p::P,w::vs,i+1,m,nd,h1,h2,hk=>by
  show bindL kindOf ((p,w)::P.zip vs) m x=_;unfold bindL;exact mz (i:=i) (JU.mp nd).2 (by simpa using h1) (by simpa using h2) hk
theorem mB {kindOf:Ik->HL JP}{x:Ik}{v:HH}:∀ {P:HF Ik} {vs:HF HH} {i:HM} {m:Ik->HL HH},P.Nodup->P[i]?=gV x->vs[i]?=gV v->kindOf x≠gV .local->
  bindC kindOf (P.zip vs) m x=gV v
 | [],_,_,_,_,h,_,_=>by simp at h
 | _::_,[],_,_,_,_,h,_=>by simp at h
 | p::P,w::vs,0,m,nd,h1,h2,hk=>by
  simp at h1 h2; subst h1; subst h2
  show bindC kindOf ((p,w)::P.zip vs) m p=_;unfold bindC;rw[my λv hv=>(JU.mp nd).1 (My hv).1,IH hk]
  simp
 | p::P,w::vs,i+1,m,nd,h1,h2,hk=>by
  show bindC kindOf ((p,w)::P.zip vs) m x=_;unfold bindC;exact mB (i:=i) (JU.mp nd).2 (by simpa using h1) (by simpa using h2) hk
noncomputable def fR (N:HF Ik)(vs:HF V):St:=vs.map gV++IJ (N.length - vs.length) td
noncomputable def rg (CX:vV)(P:IC)(w:IP)(K:HW)(mg:Ik->HL HH)(base:IZ)(N:HF Ik)(qual:Ik)(scope:KL)(f:HR)(cd:HH)(A:IL)(outer:HF NA)(s:HK)(H:Hp)(E:XK):Cx where
 prog:=P
 w:=w
 K:=K
 mg:=mg
 base:=base
 A:=A.deeper (envOfC qual scope s.heap.objs.size f cd)
 N:=N
 s₀:=s
 H₀:=H
 env:=envOfC qual scope s.heap.objs.size f cd
 outer:=outer
 stack:=envOfC qual scope s.heap.objs.size f cd::outer
 ex:=[]
 calm:=true
 fn:=λ_=>true
 pn:=[]
 xe:=λe s'=>wpAny (model P w) (A.deeper (envOfC qual scope s.heap.objs.size f cd)) (leaving (envOfC qual scope s.heap.objs.size f cd) e) (λ_ s''=>CX outer H s E e s'') (λe' s''=>CX outer H s E e' s'') s'
theorem pr {sc:KL}{n:HM}{x:Ik}(h:sc.names.lookup x=gV .cell):∃c,(cellsFrom n sc.names []).lookup x=gV c:=by
 have q:=Ms sc.names n [] (.inl h);exact Jc.mp q
theorem uA {CX:vV}{P:IC}{w:IP}{K:HW}{mg:Ik->HL HH}{base:IZ}{N ps:HF Ik}{qual:Ik}{scope:KL}{f:HR}{cd:HH}{A:IL}{outer:HF NA}{s s1:HK}{H:Hp}{E:XK}{us:HF HH}{vs:HF V}
  (S:FnScope N ps scope) (hd:A.handled=td) (e0:Env0 P w K mg base A outer s H) (hl:vs.length=ps.length) (r:Vals vs us)
  (x:InCallC s s.heap.objs.size (bindL (envOfC qual scope s.heap.objs.size f cd).kindOf (ps.zip us) λ_=>td) (cellsFrom (s.heap.objs.size+1) scope.names []) (bindC (envOfC qual scope s.heap.objs.size f cd).kindOf (ps.zip us) λ_=>td) s1) :
  Inv (rg CX P w K mg base N qual scope f cd A outer s H E) [] (fR N vs) H s1:=by
 have hpl:ps.length<=N.length:=by have:=congrArg Pj S.pre; rw[IN]at this; omega
 obtain⟨h1,tk,rfl,hk⟩:=x.done;have noA:∀b:HR,b∉(rg CX P w K mg base N qual scope f cd A outer s H E).ex:=λb z=>absurd (show b∈([]:HF HR)from z) (by simp)
 refine#[#[e0.mod,S.kind,rfl,rfl,HZ _,λy z c h1 h2=>?_,λy hy=>?_,λy c _ h=>?_,λ_=>hd,Around.frames_deeper e0.frames,.inr #[rfl,rfl],λb z=>absurd z (noA b),e0.bs,e0.bsz,λb _ _=>noA b,λb z=>absurd z (noA b),e0.funs,e0.frf],
  rfl,e0.bare,Un.kept hk,#[_,x.toInCall.ns,λi y v h1 h2 h3=>?_],λy c h=>#[_,x.cell y c h],e0.hok.fresh (HZ _),λy c h=>?_,λp hp=>absurd (show p∈([]:HF (HR×JE))from hp) (by simp),e0.hok.kept hk,?_]
 ·exact name_of_addr x.apart (Kw h1) (Kw h2)
 ·have hy:scope.names.lookup y=gV .cell\/scope.names.lookup y=gV .free:=hy;rcases hy with hy|hy
  ·exact pr hy
  ·exact absurd rfl (S.nofree _ (Kw hy))
 ·exact Lj (x.above y c (Kw h))
 ·have hi:i < vs.length:=by
   unfold fR at h2
   by_cases hi:i < vs.length
   ·exact hi
   ·rw[JS (by simpa using hi)]at h2
    rw[List.getElem?_replicate]at h2;split at h2 <;> cases h2
  have ha:vs[i]?=gV v:=by
   unfold fR at h2;rw[IQ (by simpa using hi),HS]at h2
   cases e:vs[i]? with
   | none=>rw[e]at h2; cases h2
   | some a=>rw[e]at h2; cases h2; rfl
  obtain⟨u,hu,rv⟩:=r.get ha;have hp:ps[i]?=gV y:=by
   rw[<- S.pre,Mf ∅]; exact h1
  have ndP:ps.Nodup:=by rw[<- S.pre]; exact S.nd.sublist (NF _ _)
  refine#[u,rv,?_];rcases S.par y (Ij hp)with k|k
  ·exact .inl #[k,mz ndP hp hu k]
  ·obtain⟨c,e⟩:=pr (n:=s.heap.objs.size+1) k;refine .inr #[.inl k,c,e,?_];have q:=x.cell y c e;rw[mB ndP hp hu (by show scope.names.lookup y≠_; rw[k]; decide)]at q
   exact q
 ·exact e0.hok.fresh (Lj (x.above y c (Kw h)))
 ·unfold fR;show _=N.length;rw[HQ,HI,Lq];omega
theorem Ez {CX:vV}{P:IC}{w:IP}{K:HW}{mg:Ik->HL HH}{base:IZ}{k:HM}{f:HR}{name qual:Ik}{params:Arguments}{body:HF Ks}{scope:KL}{dV kV doc pm cdv ct oc:HH}{an od:HL HR}
  {osl:IY (HL HH)} {N ps:HF Ik} {sp:Sp} (lk:K.lookup f=gV #[oc,od,.func (JY name qual params body scope dV kV doc pm an cdv ct),osl]) (hcd:KR K cdv qual=true) (S:FnScope N ps scope)
  (len:∀vs H Q E,sp vs H Q E->vs.length=ps.length)
  (hbody:∀(A:IL) (outer:HF NA) (s:HK) (H:Hp) (vs:HF V) (Q:VK) (E:XK),Room k (A.deeper (envOfC qual scope s.heap.objs.size f cdv))->sp vs H Q E->
   ∃t,PSs (rg CX P w K mg base N qual scope f cdv A outer s H E) body t/\t { nx:=λ_ H'=>Q .non H',rt:=Q } (fR N vs) H) :
  FnOk P w K mg base CX (k+1) f (JY name qual params body scope dV kV doc pm an cdv ct) ps sp:=by
 refine#[len,λA outer s H args us vs Q E hr e0 hb r hsp=>?_]
 have hl:=len _ _ _ _ hsp;have KX:K.In s.heap:=e0.mod.kin.keeps λb o e=>(e0.bs b o e).1
 have lim:s.heap.NoLimit:=e0.mod.nolimit.keeps λb o e=>(e0.bs b o e).1
 have hkind:∀y∈ps.zip us,scope.names.lookup y.1=gV .local\/(scope.names.lookup y.1=gV .cell/\((cellsFrom (s.heap.objs.size+1) scope.names []).lookup y.1).isSome=true):=λ#[n,v] hy=>by
  rcases S.par n (My hy).1 with q|q
  ·exact .inl q
  ·exact .inr #[q,Ms _ _ _ (.inl q)]
 refine codeAny_call_function hr.depth (KX _ _ lk) rfl S.co S.gen rfl (PySem.W.codeRec_of KX hcd) (hb _ _ _ _ ?_);refine wpAny_newFunctionEnv_cells S.kind hkind λenv he s1 x=>?_
 subst he;refine#[lim.keeps x.toInCall.keep,codeAny_func ?_];obtain⟨t,ht,hq⟩:=hbody A outer s H vs Q E (hr.deeper _) hsp;have I:Inv (rg CX P w K mg base N qual scope f cdv A outer s H E) [] (fR N vs) H s1:=uA S hr.hd e0 hl r x;refine JR (ht [] s1 (fR N vs) H _ I hq) (λfl s' hs=>?_) λe s' hs=>hs
 have fin:∀ {σ':St} {H':Hp} {v:V} {u:HH},Inv (rg CX P w K mg base N qual scope f cdv A outer s H E) [] σ' H' s'->RelV v u->Q v H'->CE outer P w H s Q u s':=
  λ{σ' H' v u} J rv q=>#[v,H',J.os,J.bare,J.base,J.hok,rv,q]
 cases fl with
 | ret u=>
  obtain⟨v,σ',H',J,rv,q⟩:=hs;exact fin J rv q
 | next=>
  obtain⟨σ',H',J,q⟩:=hs;exact fin (v:=V.non) (u:=Ji) J rfl q
 | brk=>
  obtain⟨_,_,_,q⟩:=hs;exact Jq.elim q
 | cont=>
  obtain⟨_,_,_,q⟩:=hs;exact Jq.elim q
section
variable{X:Cx}{x:Ik}{p pos:Kf}{e:Iv}{es:HF Iv}{t:TA}{id T:Jr}{r:HF V->Hp->VK->Prop}
noncomputable def Hk (r:HF V->Hp->VK->Prop)(t:TA):TE:=λσ H Q=>t σ H λvs H1=>r vs H1 Q
theorem pv (hc:CallR X (.builtin id) r)(hg:Gl X x)(hm:X.mg x=td)(hv:bootBuiltins x=gV (.builtin id))(ha:PA X (e::es) t)(hn:x≠"__name__":=by decide)(hdb:(x==("__debug__" : Ik))=false:=by decide)
  (he:starEach (e::es) X.env=(false,eval e X.env)::starEach es X.env:=by rfl) (hpl:(backTo pos (starEach es X.env)).any (·.1)=false:=by rfl):PE X (.Call (.Name x p) (e::es) [] pos) (Hk r t):=by
 intro pins s σ H Q I h;refine Lc (iX I hg hm hv ?_ hn hdb);exact N2 (b9 (ha pos pins s σ H _ I h) λus s1 #[vs,H1,I1,r1,q1]=>hc pins s1 σ H1 vs us Q I1 r1 q1) he hpl
theorem uB (hc:CallR X (.type T) r)(hg:Gl X x)(hm:X.mg x=td)(hv:bootBuiltins x=gV (.type T))(ha:PA X (e::es) t)(hn:x≠"__name__":=by decide)(hdb:(x==("__debug__" : Ik))=false:=by decide)
  (he:starEach (e::es) X.env=(false,eval e X.env)::starEach es X.env:=by rfl) (hpl:(backTo pos (starEach es X.env)).any (·.1)=false:=by rfl):PE X (.Call (.Name x p) (e::es) [] pos) (Hk r t):=by
 intro pins s σ H Q I h;refine Lc (iX I hg hm hv ?_ hn hdb);exact J5 (b9 (ha pos pins s σ H _ I h) λus s1 #[vs,H1,I1,r1,q1]=>hc pins s1 σ H1 vs us Q I1 r1 q1) he hpl
end
end L2
namespace HT
open PySem PyProof.Rows
section
open PySem.SeqAt
open PySem.AutoSeq1 (wpAny_loadPart')
open PySem.MeetsSeq PySem.MeetsSeq2 PySem.MeetsSeq3
end
section
variable{prog:IC}{w:IP}{A:IL}{E:HH->HK->Prop}{s:HK}
theorem zq {t b:HR}{vs ws:HF HH}{Q:HH->HK->Prop}(ht:Nz s.heap t vs.toArray)(hb:Nz s.heap b ws.toArray)(hv:vs≠[])
  (h1:ws=[]->Q (.ref t) s) (h2:ws≠[]->Q (.ref s.heap.objs.size) { s with heap:=s.heap.push { cls:=.type "tuple",data:=.seq (vs++ws).toArray } })
  (hsz:vs.length+ws.length<=sizeLine):wpAny (model prog w) A (binaryOp .Add (.ref t) (.ref b)) Q E s:=by
 obtain⟨⟨cls,dd,data,sl⟩,ho,hc,n,hd⟩:=id ht;obtain⟨⟨cls2,dd2,data2,sl2⟩,ho2,hc2,n2,hd2⟩:=id hb;simp only at hc hd hc2 hd2;subst hc hd hc2 hd2;have e:vs.toArray++ws.toArray=(vs++ws).toArray:=by simp
 by_cases hw:ws=[]
 ·exact NG #[_,ho,rfl] #[_,ho2,rfl] Ml Nb Lk Lg (K9 _ _)
   (tuple_addW1 t b vs.toArray ws.toArray n n2 dd dd2 sl sl2 (by simpa using hv) (by simp[hw])) #[ho,ho2,h1 hw]
 ·refine NG #[_,ho,rfl] #[_,ho2,rfl] Ml Nb Lk Lg (K9 _ _)
   (tuple_addW2 t b vs.toArray ws.toArray n n2 dd dd2 sl sl2 (by simpa using hv) (by simpa using hw) (by rw[Ih,Ih]; exact hsz)) #[ho,ho2,?_]
  rw[e];exact h2 hw
noncomputable def cN (n d:HM):HL Ig->HM
 | none=>d
 | some v=>if v < 0 then(v+(n:Ig)).toNat else min v.toNat n
theorem kA (n d:HM):cN n d td=d:=rfl
theorem sB (n d k:HM):cN n d (gV (k:Ig))=min k n:=by
 show(if (k:Ig) < 0 then((k:Ig)+(n:Ig)).toNat else min (k:Ig).toNat n)=min k n
 rw[IH ∅,HY]
theorem Cy (n d:HM)(hd:d<=n)(o:HL Ig):cN n d o<=n:=by
 cases o with
 | none=>exact hd
 | some v=>
  show(if v < 0 then(v+(n:Ig)).toNat else min v.toNat n)<=n
  by_cases hv:v < 0
  ·rw[Iw hv]; omega
  ·rw[IH hv]; exact Nat.min_le_right _ _
theorem sC (v:Ig)(n d:HM):(if v < 0 then max (v+(n:Ig)) 0 else min v (n:Ig))=((cN n d (gV v):HM):Ig):=by
 show(if v < 0 then max (v+(n:Ig)) 0 else min v (n:Ig))=(((if v < 0 then(v+(n:Ig)).toNat else min v.toNat n):HM):Ig)
 by_cases hv:v < 0
 ·simp only[Iw hv]; omega
 ·simp only[IH hv]; omega
theorem rh (lo hi:HL Ig)(n:HM):K1 lo hi 1 (n:Ig)=(((cN n 0 lo:HM):Ig),((cN n n hi:HM):Ig)):=by
 have h1:¬ ((1:Ig) < 0):=∅
 unfold K1;simp only[h1,Kq];refine P3 ?_ ?_
 ·cases lo with
  | none=>rfl
  | some v=>exact sC v n 0
 ·cases hi with
  | none=>rfl
  | some v=>exact sC v n n
theorem rj (i j:HM):Kh (i:Ig) (j:Ig) 1=j - i:=by
 unfold Kh;have h1:(1:Ig) > 0:=∅
 simp only[h1,KG,Int.ediv_one];split <;> omega
theorem kB {v:HH}{o:HL Ig}{Q:HL Ig->HK->Prop}(p:LO v o)(h:Q o s):wpAny (model prog w) A (Ol v) Q E s:=by
 cases p with
 | none=>exact Ow h
 | int i t=>exact slicePart_int h
theorem eW {sl:HR}{vl vu:HH}{lo hi:HL Ig}{n:HM}{Q:Ig×Ig×HM->HK->Prop}(hs:s.heap.IsSliceOf sl vl vu .none)(pl:LO vl lo)(pu:LO vu hi)
  (h:Q (((cN n 0 lo:HM):Ig),1,cN n n hi - cN n 0 lo) s):wpAny (model prog w) A (LP (.ref sl) (pure (n:Ig))) Q E s:=by
 obtain⟨os,hos,hcs,hds⟩:=id hs;unfold LP OO;refine HG (HG (J0 hos hds (x:=vl) rfl (HG (J0 hos hds (x:=vu) rfl (HG (J0 hos hds (x:=.none) rfl (HU ?_)))))));refine HG (Ow ?_);show wpAny _ _ (if ((1:Ig)==0)=true then _ else _) _ _ s
 rw[IH #v[]]
 refine HG (kB pl (HG (kB pu (HG (HU ?_)))));show wpAny _ _ (match K1 lo hi 1 (n:Ig)with|(lo,hi)=>pure (lo,(1:Ig),Kh lo hi 1)) _ _ s
 rw[rh lo hi n];show wpAny _ _ (pure (((cN n 0 lo:HM):Ig),(1:Ig),Kh ((cN n 0 lo:HM):Ig) ((cN n n hi:HM):Ig) 1)) _ _ s;rw[rj];exact HU h
theorem vZ (xs:IY HH)(i k:HM):((Im k).filterMap λ(m:HM)=>xs[((i:Ig)+(m:Ig)*1).toNat]?).toArray=((xs.toList.drop i).take k).toArray:=by
 have e:(λ(m:HM)=>xs[((i:Ig)+(m:Ig)*1).toNat]?)=λm=>xs[i+m]?:=by
  funext m
  have:((i:Ig)+(m:Ig)*1).toNat=i+m:=∅
  rw[this]
 rw[e];have:=pick_run xs i k;rw[List.filterMap_map]at this;have e2:((λx=>xs[x]?)∘λx=>i+x)=λm=>xs[i+m]?:=rfl
 rw[e2]at this;rw[this]
theorem im {t sl:HR}{items:IY HH}{vl vu:HH}{lo hi:HL Ig}{Q:HH->HK->Prop}(ht:Nz s.heap t items)(hs:s.heap.IsSliceOf sl vl vu .none)(pl:LO vl lo)(pu:LO vu hi)
  (hw:¬ (cN items.size 0 lo=0/\cN items.size items.size hi=items.size))
  (h:Q (.ref s.heap.objs.size) { s with heap:=s.heap.push { cls:=.type "tuple",data:=.seq ((items.toList.drop (cN items.size 0 lo)).take (cN items.size items.size hi - cN items.size 0 lo)).toArray } })
  (hsz:items.size<=sizeLine):wpAny (model prog w) A (getItem (.ref t) (.ref sl)) Q E s:=by
 have htake:sizeOk (.seq ((items.toList.drop (cN items.size 0 lo)).take (cN items.size items.size hi - cN items.size 0 lo)).toArray):=by
  show((items.toList.drop (cN items.size 0 lo)).take (cN items.size items.size hi - cN items.size 0 lo)).toArray.size<=sizeLine;rw[Ih,IN,Kz,IK];omega
 have hj:cN items.size items.size hi<=items.size:=Cy _ _ (HZ _) hi;obtain⟨os,hos,hcs,hds⟩:=id hs;have hTs:s.TypeIs (.ref sl) "slice":=#[os,hos,hcs];unfold getItem
 try with_reducible refine JC ?_
 first|refine HG (HU ?_)|skip
 refine HG (NH ht.typeIs #v[] ?_)
 refine HG (Jp (name:=J6 "__getitem__") ht.typeIs JV
  (Jv JV ht.typeIs M4 ?_ (No _ _)))
 show wpAny _ _ (KS (.ref t) >>= _) _ _ s;refine HG (OT ht ?_);refine HG (LI hTs ?_);rw[Iw #v[]]
 refine HG (eW hs pl pu ?_);have hno:¬ ((((cN items.size 0 lo:HM):Ig)==0&&(1:Ig)==1&&(cN items.size items.size hi - cN items.size 0 lo)==items.size)=true):=by
  intro q;rw[HN,HN]at q;have q1:((cN items.size 0 lo:HM):Ig)=0:=eq_of_beq q.1.1;have q2:cN items.size items.size hi - cN items.size 0 lo=items.size:=eq_of_beq q.2;exact hw #[∅,∅]
 show wpAny _ _ (if (((cN items.size 0 lo:HM):Ig)==0&&(1:Ig)==1&&(cN items.size items.size hi - cN items.size 0 lo)==items.size)=true then _ else _) _ _ s
 rw[IH hno,vZ]
 first
  | exact HG (m:=JH _) (Ja (HU #[_,rfl,HU h]) htake)
  | exact HG (m:=JH _) (Ja (HG (HU (HU #[_,rfl,HU h]))) htake)
  | exact HG (HG (m:=JH _) (Ja (HU (HU #[_,rfl,HU h])) htake))
  | exact HG (HG (m:=JH _) (Ja (HU #[_,rfl,HU h]) htake))
end
end HT
namespace L2
open PySem PySem.Spec PyProof.Rows
noncomputable abbrev TO:=St->Hp->(HL Ig->Hp->Prop)->Prop
noncomputable def PO (X:Cx)(e:HL Iv)(t:TO):Prop:=
 ∀(pins:HF (HR×JE)) (s:HK) (σ:St) (H:Hp) (Q:HL Ig->Hp->Prop),Inv X pins σ H s->t σ H Q->
  wpAny (model X.prog X.w) X.A (evalPart e X.env) (λu s'=>∃o H',Inv X pins σ H' s'/\LO u o/\Q o H') X.xe s
noncomputable def zr:TO:=λ_ H Q=>Q td H
noncomputable def EA (t:TE):TO:=λσ H Q=>t σ H λx H1=>∃i,x=.int i/\Q (gV i) H1
section
variable{X:Cx}{e:Iv}{te:TE}{lo hi:HL Iv}{tl th:TO}{pos p2:Kf}
theorem zt:PO X td zr:=by
 intro pins s σ H Q I h;rw[OU];exact HU #[td,H,I,.none,h]
theorem zu (h:PE X e te):PO X (gV e) (EA te):=by
 intro pins s σ H Q I hw;rw[evalPart_some];refine b9 (h pins s σ H _ I hw) λu s1 #[x,H1,I1,r1,q1]=>?_
 obtain⟨i,rfl,q⟩:=q1;obtain⟨t,rfl⟩:=r1;exact#[gV i,H1,I1,.int i t,q]
noncomputable def EB (X:Cx)(r:V->HL Ig->HL Ig->Hp->VK->Prop):Prop:=
 ∀(pins:HF (HR×JE)) (s:HK) (σ:St) (H:Hp) (x:V) (v vl vu:HH) (lo hi:HL Ig) (sl:HR) (Q:VK),Inv X pins σ H s->RelV x v->s.heap.IsSliceOf sl vl vu .none->LO vl lo->LO vu hi->r x lo hi H Q->
  ∃T id,typeLookup (.type T) "__getitem__" = pure (gV (.builtin id))/\s.TypeIs v T/\wpAny (model X.prog X.w) X.A (getItem v (.ref sl)) (EP X pins σ Q) X.xe s
noncomputable def Hw (r:V->HL Ig->HL Ig->Hp->VK->Prop)(te:TE)(tl th:TO):TE:=λσ H Q=>te σ H λx H1=>tl σ H1 λl H2=>th σ H2 λu H3=>r x l u H3 Q
theorem v6 {r:V->HL Ig->HL Ig->Hp->VK->Prop}(hr:EB X r)(he:PE X e te)(hl:PO X lo tl)(hu:PO X hi th):PE X (.Subscript e (.Slice lo hi td p2) pos) (Hw r te tl th):=by
 intro pins s σ H Q I h;refine Subscript_ (b9 (he pins s σ H _ I h) λv s1 #[x,H1,I1,r1,q1]=>?_)
 refine wpAny_Slice (b9 (hl pins s1 σ H1 _ I1 q1) λvl s2 #[l,H2,I2,pl,q2]=>b9 (hu pins s2 σ H2 _ I2 q2) λvu s3 #[u,H3,I3,pu,q3]=>?_)
 rw[OU];refine HU ?_;have I4:Inv X pins σ H3 { s3 with heap:=s3.heap.push { cls:=.type "slice",data:=.fields [vl,vu,.none].toArray } }:=I3.kept (t':=s3.toks) λb ob q=>HP _ q
 obtain⟨T,id,hT,ht,hg⟩:=hr pins { s3 with heap:=s3.heap.push { cls:=.type "slice",data:=.fields [vl,vu,.none].toArray } } σ H3 x v vl vu l u s3.heap.objs.size Q I4 r1 (PC ..) pl pu q3
 show wpAny (model X.prog X.w) X.A (subscriptTail e (.Slice lo hi td p2) v (.ref s3.heap.objs.size)) (EP X pins σ Q) X.xe { s3 with heap:=s3.heap.push { cls:=.type "slice",data:=.fields [vl,vu,.none].toArray } }
 exact tail_any (ops:=[.ref s3.heap.objs.size,v]) ht hT hg (by with_unfolding_all rfl)
noncomputable def kC (xs:HF V)(lo hi:HL Ig):HF V:=(xs.drop (HT.cN xs.length 0 lo)).take (HT.cN xs.length xs.length hi - HT.cN xs.length 0 lo)
theorem jK (xs:HF V)(lo hi:HL Ig):(kC xs lo hi).length<=xs.length:=by
 unfold kC;rw[IN,Kz];omega
noncomputable def Gv (K:HW):V->HL Ig->HL Ig->Hp->VK->Prop:=λx lo hi H Q=>∃a xs,x=.ref a/\SqT K H a xs/\
 ¬ (HT.cN xs.length 0 lo=0/\HT.cN xs.length xs.length hi=xs.length)/\∀p,H p=td->Q (.ref p) (cp H p (.tup (kC xs lo hi)))
theorem Cz:EB X (Gv X.K):=by
 intro pins s σ H x v vl vu lo hi sl Q I rx hs pl pu h;obtain⟨a,xs,rfl,hx,hw,q⟩:=h;cases rx;obtain⟨its,r,ht,hz⟩:=I.tuple hx;have hlen:its.toArray.size=xs.length:=by rw[Ih]; exact r.length.symm
 refine#["tuple",_,PyProof.Rows.slot_tuple_getitem.lookup,ht.typeIs,?_];refine HT.im ht hs pl pu (by rw[hlen]; exact hw) ?_ (by rw[hlen]; exact hz)
 rw[hlen];refine#[.ref s.heap.objs.size,_,I.laid (t':=s.toks) (o:=.tup (kC xs lo hi)) (λb ob q=>HP _ q) (HZ _) ?_,rfl,q _ (I.hok.fresh (HZ _))]
 exact#[IS (jK xs lo hi) hz,_,(r.drop (HT.cN xs.length 0 lo)).take (HT.cN xs.length xs.length hi - HT.cN xs.length 0 lo),NZ _ _]
theorem Vals.nil_iff {xs:HF V}{us:HF HH}(r:Vals xs us):us=[]↔xs=[]:=by
 cases r with
 | nil=>simp
 | cons _ _=>simp
end
noncomputable def sD (n:HM)(i:Ig):HL HM:=if 0<=i then(if i < n then gV i.toNat else td)else if -(n:Ig)<=i then gV (i+n).toNat else td
noncomputable def pz {α:Type}(xs:HF α)(i:Ig):HL α:=(sD xs.length i).bind λj=>xs[j]?
theorem sE {n:HM}{i:Ig}{j:HM}(h:sD n i=gV j):seqIndex? i n=gV j/\j < n/\-(n:Ig)<=i/\i < n:=by
 unfold sD at h
 by_cases h0:0<=i
 ·rw[Iw h0]at h
  by_cases h1:i < n
  ·rw[Iw h1]at h;have e:i.toNat=j:=Jn h;exact#[by rw[Oh h0 h1,e],∅,∅,h1]
  ·rw[IH h1]at h; cases h
 ·rw[IH h0]at h
  by_cases h1 : -(n:Ig)<=i
  ·rw[Iw h1]at h;have e:(i+n).toNat=j:=Jn h;exact#[by rw[NJ ∅ h1,e],∅,h1,∅]
  ·rw[IH h1]at h; cases h
theorem nA {α:Type}{xs:HF α}{i:Ig}{v:α}(h:pz xs i=gV v):∃j,seqIndex? i xs.length=gV j/\xs[j]?=gV v/\j < xs.length/\-(xs.length:Ig)<=i/\i < xs.length:=by
 unfold pz at h;cases e:sD xs.length i with
 | none=>rw[e]at h; cases h
 | some j=>
  rw[e]at h;obtain⟨h1,h2,h3,h4⟩:=sE e;exact#[j,h1,h,h2,h3,h4]
theorem atI_nat {α:Type}{xs:HF α}{j:HM}{v:α}(h:xs[j]?=gV v):pz xs (j:Ig)=gV v:=by
 have hj:j < xs.length:=(Ii.mp h).1;have e:sD xs.length (j:Ig)=gV j:=by
  unfold sD;rw[Iw ∅,Iw ∅]; simp
 unfold pz; rw[e]; exact h
noncomputable def nB (b:Iv):Prop:=∀o i,subscripted b false o i=operate [o,i] (getItem o i)
noncomputable def IxR (X:Cx)(r:R2):Prop:=
 ∀(value slice:Iv) (pins:HF (HR×JE)) (s:HK) (σ:St) (H:Hp) (x y:V) (v u:HH) (Q:VK),Inv X pins σ H s->RelV x v->RelV y u->r x y H Q->
  subscripted slice false v u=operate [v,u] (getItem v u)->wpAny (model X.prog X.w) X.A (subscriptTail value slice v u) (EP X pins σ Q) X.xe s
noncomputable def MtR (X:Cx)(id:Jr)(r:V->HF V->Hp->VK->Prop):Prop:=
 ∀(pins:HF (HR×JE)) (s:HK) (σ:St) (H:Hp) (x:V) (xs:HF V) (v:HH) (us:HF HH) (Q:VK),Inv X pins σ H s->RelV x v->Vals xs us->r x xs H Q->
  wpAny (model X.prog X.w) X.A (call (.builtin id) (v::us)) (EP X pins σ Q) X.xe s
section
variable{X:Cx}{a b:Iv}{ta tb:TE}{pos:Kf}
theorem EC {r:R2}(hr:IxR X r)(ha:PE X a ta)(hb:PE X b tb)(hs:nB b):PE X (.Subscript a b pos) (FX r ta tb):=by
 intro pins s σ H Q I h;exact Subscript_ (Cm ha hb I h λv u s2 x y H2 I2 rx ry q=>hr a b pins s2 σ H2 x y v u Q I2 rx ry q (hs _ _))
noncomputable def Gw (K:HW):R2:=λx y H Q=>∃p xs i v,x=.ref p/\y=.int i/\SqL K H p xs/\pz xs i=gV v/\Q v H
noncomputable def Gx (K:HW):R2:=λx y H Q=>∃p xs i v,x=.ref p/\y=.int i/\SqT K H p xs/\pz xs i=gV v/\Q v H
noncomputable def Gy:R2:=λx y H Q=>∃z i c,x=.str z/\y=.int i/\z.length<=sizeLine/\pz z.cps.toList i=gV c/\Q (.str #[[c].toArray]) H
theorem zv:IxR X (Gw X.K):=by
 intro value slice pins s σ H x y v u Q I rx ry h hs;obtain⟨p,xs,i,z,rfl,rfl,hq,he,q⟩:=h;cases rx;obtain⟨t,rfl⟩:=ry;obtain⟨its,r,pl,hz⟩:=I.list hq;obtain⟨j,h1,h2,h3,h4,h5⟩:=nA he;obtain⟨w,ew,rw'⟩:=r.get h2;have hl:=r.length;have hn:=i3;have fin:EP X pins σ Q w s:=#[z,H,I,rw',q]
 by_cases h0:0<=i
 ·have hj:i.toNat=j:=by
   rw[Oh h0 h5]at h1;exact Jn h1
  exact item_listR pl.isList h0 ∅ (by rw[hj]; simpa using ew) fin hs
 ·have hj:(i+(its.toArray.size:Ig)).toNat=j:=by
   rw[NJ ∅ h4]at h1
   rw[Ih,<- hl];exact Jn h1
  exact Ll (x:=w) pl.isList.typeIs slot_list_getitem.lookup
   (wpAny_getItem_list_neg (Q:=λr s'=>r=w/\EP X pins σ Q r s') pl.isList ∅ (by rw[Ih] <;> omega) ∅ (by rw[hj]; simpa using ew) #[rfl,fin]) hs
theorem CA:IxR X (Gx X.K):=by
 intro value slice pins s σ H x y v u Q I rx ry h hs;obtain⟨p,xs,i,z,rfl,rfl,hq,he,q⟩:=h;cases rx;obtain⟨t,rfl⟩:=ry;obtain⟨its,r,pl,hz⟩:=I.tuple hq;obtain⟨j,h1,h2,h3,h4,h5⟩:=nA he;obtain⟨w,ew,rw'⟩:=r.get h2;have hl:=r.length;have hn:=i3;have fin:EP X pins σ Q w s:=#[z,H,I,rw',q];exact Ll (x:=w) pl.typeIs slot_tuple_getitem.lookup
  (getItem_tuple (j:=j) (Q:=λr s'=>r=w/\EP X pins σ Q r s') pl ∅ ∅ (by rw[Ih,<- hl]; exact h1) (by simpa using ew) #[rfl,fin]) hs
theorem CB:IxR X Gy:=by
 intro value slice pins s σ H x y v u Q I rx ry h hs;obtain⟨z,i,c,rfl,rfl,hz,he,q⟩:=h;obtain⟨t,rfl⟩:=rx;obtain⟨t',rfl⟩:=ry;obtain⟨j,h1,h2,h3,h4,h5⟩:=nA he;have hl:z.cps.toList.length=z.length:=by simp[Str.length]
 rw[hl]at h1 h4 h5;have hn:=i3;exact tail_any (typeIs_str s z t) slot_str_getitem.lookup (getItem_str (c:=c) (by
  have e1:decide (i < -(2 ^ 63:Ig))=false:=IF ∅
  have e2:decide (i>=2 ^ 63)=false:=IF ∅
  rw[e1,e2,OV]) (by rw[h1]; simpa using h2) #[.str #[[c].toArray],H,I.tok _,#[_,rfl],q]) hs
theorem rm (its:HF HH)(n j:HM)(u:HH):JA (·.setIfInBounds j u) { cls:=.type "list",data:=.seq its.toArray n }={ cls:=.type "list",data:=.seq (its.set j u).toArray n }:=by
 simp[JA]
theorem Inv.lst {pins:HF (HR×JE)}{σ:St}{H:Hp}{s:HK}{p:HR}{xs:HF V}(I:Inv X pins σ H s)(h:H p=gV (.lst xs)) :
  ∃(its:HF HH) (n:HM),Vals xs its/\s.heap.get? p=gV { cls:=.type "list",data:=.seq its.toArray n }/\xs.length<=sizeLine:=by
 obtain⟨z,its,n,r,e⟩:=I.hok p _ h;exact#[its,n,r,e,z]
theorem Inv.lstUpd {pins:HF (HR×JE)}{σ:St}{H:Hp}{s:HK}{p:HR}{xs ys:HF V}{its its':HF HH}{n n':HM}{f:JE->JE}(I:Inv X pins σ H s)(h:H p=gV (.lst xs))
  (ho:s.heap.get? p=gV { cls:=.type "list",data:=.seq its.toArray n }) (hf:f { cls:=.type "list",data:=.seq its.toArray n }={ cls:=.type "list",data:=.seq its'.toArray n' }) (r:Vals ys its') (hz:ys.length<=sizeLine) (t:HM) :
  Inv X pins σ (cp H p (.lst ys)) { s with heap:=s.heap.update p f,toks:=t }:=by
 have e:(s.heap.update p f).get? p=gV { cls:=.type "list",data:=.seq its'.toArray n' }:=by
  rw[Kg f ho (by rw[hf] <;> rfl),hf]
 refine I.write (x:=p) (e:=p) (by rw[h]; trivial) (.inl rfl) (λb u hb q=>(Jj _ _ (Ne.symm hb)).trans q) #[_,e] ?_
 exact#[hz,its',n',r,e]
noncomputable def ED:V->V->V->Hp->(Hp->Prop)->Prop:=λo i v H Q=>∃p xs k j,o=.ref p/\i=.int k/\H p=gV (.lst xs)/\sD xs.length k=gV j/\Q (cp H p (.lst (xs.set j v)))
theorem v8:Ce X ED:=by
 intro pins s σ H o i v ov iv u Q I ro ri rv h;obtain⟨p,xs,k,j,rfl,rfl,hp,hj,q⟩:=h;cases ro;obtain⟨t,rfl⟩:=ri;obtain⟨its,n,r,ho,hz⟩:=I.lst hp;obtain⟨h1,h2,h3,h4⟩:=sE hj;have hl:=r.length;have hn:=i3;have I':Inv X pins σ (cp H p (.lst (xs.set j v))) { s with heap:=s.heap.update p (JA (·.setIfInBounds j u)) }:=
  I.lstUpd hp ho (rm its n j u) (r.set rv j) (by rw[Om]; exact hz) s.toks
 by_cases h0:0<=k
 ·have hk:k.toNat=j:=by
   rw[Oh h0 h4]at h1;exact Jn h1
  exact PySem.W.ki_setAt ho h0 ∅ (by rw[Ih,<- hl]; exact h4) (by rw[hk]; exact#[_,I',q])
 ·have hk:(k+(its.toArray.size:Ig)).toNat=j:=by
   rw[NJ ∅ h3]at h1
   rw[Ih,<- hl];exact Jn h1
  exact PySem.W.ki_setBack ho ∅ (by rw[Ih,<- hl]; exact h3) ∅ (by rw[hk]; exact#[_,I',q])
theorem nC (lo hi:HL Ig)(n:HM):(sliceBounds lo hi td n).1=((HT.cN n 0 lo:HM):Ig)/\(sliceBounds lo hi td n).2.1=((HT.cN n n hi:HM):Ig)/\(sliceBounds lo hi td n).2.2=1:=by
 refine#[?_,?_,rfl]
 ·cases lo with
  | none=>simp[sliceBounds,HT.cN]
  | some i=>
   simp only[sliceBounds,HT.cN,N3,show(1:Ig) > 0 by decide,KG]
   by_cases h:i < 0
   ·simp only[h,KG] <;> omega
   ·simp only[h,Kq] <;> omega
 ·cases hi with
  | none=>simp[sliceBounds,HT.cN]
  | some i=>
   simp only[sliceBounds,HT.cN,N3,show(1:Ig) > 0 by decide,KG]
   by_cases h:i < 0
   ·simp only[h,KG] <;> omega
   ·simp only[h,Kq] <;> omega
theorem lK (its:HF HH)(lo hi:HL Ig):slicePick its.toArray lo hi td=((its.drop (HT.cN its.length 0 lo)).take (HT.cN its.length its.length hi - HT.cN its.length 0 lo)).toArray:=by
 obtain⟨h1,h2,h3⟩:=nC lo hi its.toArray.size;unfold slicePick;rw[h1,h2,h3];simp only[sliceRange_one,pick_run,Ih] <;> rfl
noncomputable def Gz (K:HW):V->HL Ig->HL Ig->Hp->VK->Prop:=λx lo hi H Q=>∃a xs,x=.ref a/\SqL K H a xs/\∀p,H p=td->Q (.ref p) (cp H p (.lst (kC xs lo hi)))
theorem zw:EB X (Gz X.K):=by
 intro pins s σ H x v vl vu lo hi sl Q I rx hs pl pu h;obtain⟨a,xs,rfl,hx,q⟩:=h;cases rx;obtain⟨its,r,ht,hz⟩:=I.list hx;have hlen:=r.length;refine#["list",_,slot_list_getitem.lookup,ht.isList.typeIs,?_];refine wpAny_getItem_list_slice ht.isList hs pl pu .none (by simp) ?_ (by rw[Ih] <;> omega)
 rw[lK,<- hlen];refine#[.ref s.heap.objs.size,_,I.laid (t':=s.toks) (o:=.lst (kC xs lo hi)) (λb ob q=>HP _ q) (HZ _) ?_,rfl,q _ (I.hok.fresh (HZ _))]
 exact#[IS (jK xs lo hi) hz,_,0,(r.drop (HT.cN xs.length 0 lo)).take (HT.cN xs.length xs.length hi - HT.cN xs.length 0 lo),Iq _ rfl]
noncomputable def gQ:V->Iy
 | .non=>true
 | .bl _=>true
 | .int _=>true
 | .str _=>true
 | _=>false
noncomputable def zx:V->V->Iy
 | .non,.non=>true
 | .bl a,.bl b=>a==b
 | .bl a,.int b=>(if a then 1 else 0)==b
 | .int a,.bl b=>a==(if b then 1 else 0)
 | .int a,.int b=>a==b
 | .str a,.str b=>a==b
 | _,_=>false
theorem CC {A:IL}{s:HK}{y x:V}{u v:HH}(ry:RelV y u)(rx:RelV x v)(fy:gQ y=true)(fx:gQ x=true):Lu A s u v (zx y x):=by
 cases y with
 | non=>
  cases ry;cases x with
  | non=>cases rx; exact PZ _
  | bl b=>cases rx; exact Pk b
  | int b=>obtain⟨t,rfl⟩:=rx; exact Pq b t
  | str b=>obtain⟨t,rfl⟩:=rx; exact Pr b t
  | _=>exact absurd (show false=true from fx) Iu
 | bl a=>
  cases ry;cases x with
  | non=>cases rx; exact Pl a
  | bl b=>cases rx; exact Pn a b
  | int b=>obtain⟨t,rfl⟩:=rx; exact Ps a b t
  | str b=>obtain⟨t,rfl⟩:=rx; exact Pu a b t
  | _=>exact absurd (show false=true from fx) Iu
 | int a=>
  obtain⟨t',rfl⟩:=ry;cases x with
  | non=>cases rx; exact Pw a t'
  | bl b=>cases rx; exact Px a t' b
  | int b=>obtain⟨t,rfl⟩:=rx; exact PD a t' b t
  | str b=>obtain⟨t,rfl⟩:=rx; exact Nh a t' b t
  | _=>exact absurd (show false=true from fx) Iu
 | str a=>
  obtain⟨t',rfl⟩:=ry;cases x with
  | non=>cases rx; exact Py a t'
  | bl b=>cases rx; exact Pz a t' b
  | int b=>obtain⟨t,rfl⟩:=rx; exact Ni a t' b t
  | str b=>obtain⟨t,rfl⟩:=rx; exact PF a t' b t
  | _=>exact absurd (show false=true from fx) Iu
 | _=>exact absurd (show false=true from fy) Iu
noncomputable def rn (x:V)(u:HH):Iy:=match u with
 | .none=>zx .non x
 | .bool b=>zx (.bl b) x
 | .int i _=>zx (.int i) x
 | .str z _=>zx (.str z) x
 | _=>false
theorem wa {x y:V}{u:HH}(r:RelV y u)(f:gQ y=true):rn x u=zx y x:=by
 cases y with
 | non=>cases r; rfl
 | bl b=>cases r; rfl
 | int i=>obtain⟨t,rfl⟩:=r; rfl
 | str z=>obtain⟨t,rfl⟩:=r; rfl
 | _=>exact absurd (show false=true from f) Iu
theorem io {x:V}:∀ {xs:HF V} {us:HF HH},Vals xs us->xs.all gQ=true->us.any (rn x)=xs.any λy=>zx y x
 | _,_,.nil,_=>rfl
 | y::xs,u::us,.cons r t,f=>by
  rw[Jd,HN]at f;rw[Kt,Kt,wa r f.1,io t f.2]
theorem fS {A:IL}{s:HK}{x:V}{v:HH}(rx:RelV x v)(fx:gQ x=true):∀ {xs:HF V} {us:HF HH},Vals xs us->xs.all gQ=true->∀u∈us,Lu A s u v (rn x u)
 | _,_,.nil,_=>λu hu=>by cases hu
 | y::xs,u::us,.cons r t,f=>λu' hu=>by
  rw[Jd,HN]at f;rcases Iz.mp hu with rfl|hu
  ·rw[wa r f.1]; exact CC r rx f.1 fx
  ·exact fS rx fx t f.2 u' hu
noncomputable def FZ (x:V)(xs:HF V):Iy:=xs.any λy=>zx y x
noncomputable def GB (K:HW)(neg:Iy):R2:=λx y H Q=>∃p xs,y=.ref p/\(SqL K H p xs\/SqT K H p xs)/\gQ x=true/\xs.all gQ=true/\Q (.bl (if neg then !FZ x xs else FZ x xs)) H
theorem uC:OpR X (compareOp .In) (GB X.K false):=by
 intro pins s σ H x y v u Q I rx ry h;obtain⟨p,xs,rfl,hq,fx,fs,q⟩:=h;cases ry;rcases hq with hq|hq
 ·obtain⟨its,r,pl,hz⟩:=I.list hq;refine On (rn x) pl.isList (λw hw=>fS rx fx r fs w (by simpa using hw)) #[.bl _,H,I,rfl,?_]
  rw[show its.toArray.any (rn x)=its.any (rn x) by simp,io r fs]
  exact q
 ·obtain⟨its,r,pl,hz⟩:=I.tuple hq;refine N4 (rn x) pl (λw hw=>fS rx fx r fs w (by simpa using hw)) #[.bl _,H,I,rfl,?_]
  rw[show its.toArray.any (rn x)=its.any (rn x) by simp,io r fs]
  exact q
theorem nD:OpR X (compareOp .NotIn) (GB X.K true):=by
 intro pins s σ H x y v u Q I rx ry h;obtain⟨p,xs,rfl,hq,fx,fs,q⟩:=h;cases ry;rcases hq with hq|hq
 ·obtain⟨its,r,pl,hz⟩:=I.list hq;refine Np (rn x) pl.isList (λw hw=>fS rx fx r fs w (by simpa using hw)) #[.bl _,H,I,rfl,?_]
  rw[show its.toArray.any (rn x)=its.any (rn x) by simp,io r fs]
  exact q
 ·obtain⟨its,r,pl,hz⟩:=I.tuple hq;refine SeqAt.notIn_tupleAt (rn x) pl (λw hw=>fS rx fx r fs w (by simpa using hw)) #[.bl _,H,I,rfl,?_]
  rw[show its.toArray.any (rn x)=its.any (rn x) by simp,io r fs]
  exact q
theorem nE:CallR X (.type "list") (λxs H Q=>∃p ys,xs=[.ref p]/\(SqL X.K H p ys\/SqT X.K H p ys)/\∀l,H l=td->Q (.ref l) (cp H l (.lst ys))):=by
 intro pins s σ H xs us Q I r h;obtain⟨p,ys,rfl,hq,q⟩:=h;obtain⟨u,rfl,rx⟩:=mv r;cases rx;have fin:∀(its:HF HH),Vals ys its->ys.length<=sizeLine->∀(h':IZ) (c':HM),(∀b o',s.heap.get? b=gV o'->h'.get? b=gV o')->
   h'.get? s.heap.objs.size=gV { cls:=.type "list",dict:=td,data:=.seq its.toArray c',slots:=#[] }->EP X pins σ Q (.ref s.heap.objs.size) { s with heap:=h' }:=λits r' hz h' c' kp e=>
  #[.ref s.heap.objs.size,_,I.laid (t':=s.toks) kp (HZ _) (show ObjOk X.prog X.w _ h' _ (.lst ys)from#[hz,its,c',r',e]),rfl,q _ (I.hok.fresh (HZ _))]
 rcases hq with hq|hq
 ·obtain⟨its,r',pl,hz⟩:=I.list hq;have hlen:=r'.length;obtain⟨o,ho,hc,n,hd⟩:=pl.isList;exact OW p (.inl rfl) ho hc hd (λh' c' kp e=>fin its r' hz h' c' kp e) (by simp only[Ih] <;> omega)
 ·obtain⟨its,r',pl,hz⟩:=I.tuple hq;have hlen:=r'.length;obtain⟨o,ho,hc,n,hd⟩:=pl;exact OW p (.inr rfl) ho hc hd (λh' c' kp e=>fin its r' hz h' c' kp e) (by simp only[Ih] <;> omega)
theorem gR:CallR X (.type "tuple") (λxs H Q=>∃p ys,xs=[.ref p]/\((SqL X.K H p ys/\∀l,H l=td->Q (.ref l) (cp H l (.tup ys)))\/(SqT X.K H p ys/\Q (.ref p) H))):=by
 intro pins s σ H xs us Q I r h;obtain⟨p,ys,rfl,h⟩:=h;obtain⟨u,rfl,rx⟩:=mv r;cases rx;rcases h with⟨hq,q⟩|⟨hq,q⟩
 ·obtain⟨its,r',pl,hz⟩:=I.list hq;have hlen:=r'.length;refine call_tuple_list pl.isList (λh' kp=>?_) (by simp only[Ih] <;> omega)
  have I1:Inv X pins σ H { s with heap:=h' }:=I.kept (t':=s.toks) kp
  have I2:Inv X pins σ (cp H h'.objs.size (.tup ys)) { s with heap:=h'.push { cls:=.type "tuple",data:=.seq its.toArray } }:=
   I1.laid (t':=s.toks) (λb o e=>HP _ e) (HZ _) (show ObjOk X.prog X.w _ _ _ (.tup ys)from#[hz,its,r',NZ _ _])
  exact#[.ref h'.objs.size,_,I2,rfl,q _ (I1.hok.fresh (HZ _))]
 ·obtain⟨its,r',pl,hz⟩:=I.tuple hq;exact call_tuple_same pl #[.ref p,H,I,rfl,q]
noncomputable def GC (K:HW)(T:Jr)(x:V)(H:Hp):Prop:=match x with
 | .str _=>T = "str"
 | .int _=>T = "int"
 | .ref p=>(T = "list"/\∃xs,SqL K H p xs)\/(T = "tuple"/\∃o,K.lookup p=gV o/\o.cls=.type "tuple"/\o.dict=td)\/
   (T = "dict"/\((∃kvs,H p=gV (.dK kvs))\/∃kvs,H p=gV (.dT kvs)))\/(T = "set"/\∃S n,H p=gV (.set S n))
 | _=>Jq
theorem wb {pins:HF (HR×JE)}{σ:St}{H:Hp}{s:HK}{T:Jr}{x:V}{v:HH}(I:Inv X pins σ H s)(r:RelV x v)(ty:GC X.K T x H) :
  s.TypeIs v T/\∀a,v=.ref a->∃ob,s.heap.get? a=gV ob/\ob.dict=td:=by
 cases x with
 | str z=>
  obtain⟨t,rfl⟩:=r;cases(show T = "str" from ty)
  exact#[typeIs_str s z t,λ_ e=>nomatch e]
 | int i=>
  obtain⟨t,rfl⟩:=r;cases(show T = "int" from ty)
  exact#[Ox s i t,λ_ e=>nomatch e]
 | ref p=>
  cases r;rcases ty with⟨rfl,xs,hq⟩|⟨rfl,o,hk,hc,hd⟩|⟨rfl,hk⟩|⟨rfl,S,n,hk⟩
  ·obtain⟨its,_,pl,_⟩:=I.list hq;refine#[pl.isList.typeIs,λa e=>?_]
   cases e;obtain⟨o,n,e,c,hd,_⟩:=pl;exact#[o,e,hd]
  ·refine#[#[o,I.kIn p o hk,hc],λa e=>?_]
   cases e;exact#[o,I.kIn _ o hk,hd]
  ·have z:∃o,s.heap.get? p=gV o/\o.ExactDict:=by
    rcases hk with⟨kvs,hk⟩|⟨kvs,hk⟩
    ·obtain⟨_,_,_,_,o,_,_,e,ex,_⟩:=I.hok p _ hk;exact#[o,e,ex]
    ·obtain⟨_,_,_,_,o,_,_,e,ex,_⟩:=I.hok p _ hk;exact#[o,e,ex]
   obtain⟨o,e,ex⟩:=z;refine#[#[o,e,ex.1],λa e2=>?_]
   cases e2;exact#[o,e,ex.2.1]
  ·obtain⟨o,_,_,_,e,ex,_⟩:=I.hok p _ hk;refine#[#[o,e,ex.1],λa e2=>?_]
   cases e2;exact#[o,e,ex.2.1]
 | _=>exact Jq.elim ty
variable{o e:Iv}{es:HF Iv}{to:TE}{t:TA}{name:Ik}{apos cpos:Kf}{T id:Jr}{r:V->HF V->Hp->VK->Prop}
end
noncomputable def GD (X:Cx)(id:Jr)(r:V->HF V->Hp->VK->Prop):Prop:=
 ∀(pins:HF (HR×JE)) (s:HK) (σ:St) (H:Hp) (x:V) (xs:HF V) (v:HH) (us:HF HH) (Q:VK),Inv X pins σ H s->RelV x v->Vals xs us->r x xs H Q->
  wpAny (model X.prog X.w) X.A (call (.builtin id) (v::us)) (EP X pins σ Q) X.xe s
theorem Vals.one:∀ {x:V} {us:HF HH},Vals [x] us->∃u,us=[u]/\RelV x u
 | _,_,.cons r .nil=>#[_,rfl,r]
theorem Vals.eraseIdx:∀ {xs:HF V} {us:HF HH} (i:HM),Vals xs us->Vals (xs.eraseIdx i) (us.eraseIdx i)
 | _,_,_,.nil=>.nil
 | _,_,0,.cons _ t=>t
 | _,_,i+1,.cons r t=>.cons r (Vals.eraseIdx i t)
theorem Vals.rep {xs:HF V}{us:HF HH}(h:Vals xs us):∀k:HM,Vals (IJ k xs).flatten (IJ k us).flatten
 | 0=>.nil
 | k+1=>by
  rw[JD,JD,Kr,Kr];exact Vals.append h (Vals.rep h k)
theorem mC {α:Type}:∀(l:HF α) (i:HM),(l.eraseIdx i).length<=l.length
 | [],_=>HZ _
 | _::_,0=>KT _
 | _::r,i+1=>Lv (mC r i)
theorem mD (its:HF HH):∀(k:HM) (acc:HF HH),
  Oy (λx1 x2=>x1++x2) acc.toArray (IJ k its.toArray)=(acc++(IJ k its).flatten).toArray
 | 0,acc=>by simp
 | k+1,acc=>by
  have e:acc.toArray++its.toArray=(acc++its).toArray:=by simp
  have e2:(acc++its)++(IJ k its).flatten=acc++(IJ (k+1) its).flatten:=by
   rw[JD,Kr,KM]
  rw[<- e2,<- mD its k (acc++its),<- e,JD,List.foldl_cons]
section
variable{X:Cx}{pins:HF (HR×JE)}{σ:St}{H:Hp}{s:HK}{l b:HR}{xs ys zs:HF V}
theorem Inv.lset {its its':HF HH}{n:HM}{f:IY HH->IY HH}{t':HM}(I:Inv X pins σ H s)(hH:H l=gV (.lst xs))
  (e:s.heap.get? l=gV { cls:=.type "list",data:=.seq its.toArray n }) (hf:f its.toArray=its'.toArray) (hv:Vals ys its') (hz:ys.length<=sizeLine) :
  Inv X pins σ (cp H l (.lst ys)) { s with heap:=s.heap.update l (JA f),toks:=t' }:=by
 have q:=N5 e f;rw[hf]at q;refine I.write (x:=l) (e:=l) (by rw[hH]; exact trivial) (.inl rfl) (λb' u hb hu=>(Jj s.heap (JA f) (Ne.symm hb)).trans hu) #[_,q] ?_
 exact#[hz,its',_,hv,q]
theorem Inv.lnew {its:HF HH}{t':HM}(I:Inv X pins σ H s)(hv:Vals ys its)(hz:ys.length<=sizeLine) :
  Inv X pins σ (cp H s.heap.objs.size (.lst ys)) { s with heap:=s.heap.push { cls:=.type "list",data:=.seq its.toArray },toks:=t' }:=
 I.laid (λ_ _ q=>HP _ q) (HZ _) #[hz,its,0,hv,Iq _ rfl]
theorem Inv.fresh (I:Inv X pins σ H s):H s.heap.objs.size=td:=I.hok.fresh (HZ _)
theorem Inv.lstM (I:Inv X pins σ H s)(hH:H l=gV (.lst xs)):xs.length<=sizeLine/\∃(its:HF HH) (n:HM),Vals xs its/\xs.length=its.length/\s.heap.get? l=gV { cls:=.type "list",data:=.seq its.toArray n }:=by
 obtain⟨z,its,n,r,e⟩:=I.hok l _ hH;exact#[z,its,n,r,r.length,e]
theorem pA {n:HM}(h:n<=sizeLine):Ku n=false:=by
 unfold Ku;exact IF ∅
end
section
variable{X:Cx}
noncomputable def zy:V->HF V->Hp->VK->Prop:=λx vs H Q=>∃l xs y,x=.ref l/\vs=[y]/\H l=gV (.lst xs)/\xs.length < sizeLine/\Q .non (cp H l (.lst (xs++[y])))
theorem uD:GD X "list.append" zy:=by
 intro pins s σ H x vs v us Q I rx rv h;obtain⟨l,xs,y,rfl,rfl,hH,hz,q⟩:=h;cases rx;obtain⟨u,rfl,ru⟩:=rv.one;obtain⟨z,its,n,r,hl,e⟩:=I.lstM hH;refine LQ F.slot_list_append #[_,e,rfl] F.entry_list_append (F.args_list_append_2 _ _) (NK l its.toArray n u (by rw[Ih]; omega)) #[e,?_]
 refine#[.non,_,I.lset (its':=its++[u]) hH e (by simp) (r.append #v[ru]) ?_,rfl,q]
 rw[HQ,Jx];omega
noncomputable def zz:V->HF V->Hp->VK->Prop:=λx vs H Q=>∃l b xs zs,x=.ref l/\vs=[.ref b]/\H l=gV (.lst xs)/\H b=gV (.lst zs)/\xs.length+zs.length<=sizeLine/\Q .non (cp H l (.lst (xs++zs)))
theorem uE:GD X "list.extend" zz:=by
 intro pins s σ H x vs v us Q I rx rv h;obtain⟨l,b,xs,zs,rfl,rfl,hH,hB,hz,q⟩:=h;cases rx;obtain⟨u,rfl,ru⟩:=rv.one;cases ru;obtain⟨z,its,n,r,hl,e⟩:=I.lstM hH;obtain⟨z2,its2,n2,r2,hl2,e2⟩:=I.lstM hB;have hsz:its.toArray.size+its2.toArray.size<=sizeLine:=by rw[Ih,Ih]; omega
 have hlong:¬ (!its.toArray.isEmpty&&Ku (its.toArray.size+its2.toArray.size))=true:=by
  rw[pA hsz,Bool.and_false];exact Iu
 refine LQ F.slot_list_extend #[_,e,rfl] F.entry_list_extend (F.args_list_extend_2 _ _)
  (NL l its.toArray n b its2.toArray n2 hlong (by rw[Ih]; omega) ∅) #[e,e2,?_]
 refine#[.non,_,I.lset (its':=its++its2) hH e (by simp) (r.append r2) ?_,rfl,q]
 rw[HQ];omega
noncomputable def CD:V->HF V->Hp->VK->Prop:=λx vs H Q=>∃l xs i k y,x=.ref l/\vs=[.int i]/\H l=gV (.lst xs)/\-(2 ^ 63)<=i/\i < 2 ^ 63/\seqIndex? i xs.length=gV k/\xs[k]?=gV y/\Q y (cp H l (.lst (xs.eraseIdx k)))
theorem wc:GD X "list.pop" CD:=by
 intro pins s σ H x vs v us Q I rx rv h;obtain⟨l,xs,i,k,y,rfl,rfl,hH,h1,h2,hk,hy,q⟩:=h;cases rx;obtain⟨u,rfl,ru⟩:=rv.one;obtain⟨t,rfl⟩:=ru;obtain⟨z,its,n,r,hl,e⟩:=I.lstM hH;obtain⟨w,hw,rw'⟩:=r.get hy;refine LQ F.slot_list_pop #[_,e,rfl] F.entry_list_pop (F.args_list_pop_2 _ _)
  (Po l its.toArray n i t k w (Oz h1 h2) (by rw[Ih,<- hl]; exact hk) (by rw[<- JF]; exact hw) (by rw[Ih]; omega)) #[e,?_]
 refine#[y,_,I.lset (its':=its.eraseIdx k) hH e ?_ (r.eraseIdx k) ?_,rw',q]
 ·show its.toArray.eraseIdxIfInBounds k=(its.eraseIdx k).toArray;rw[List.eraseIdxIfInBounds_toArray]
 ·have:=mC xs k;omega
noncomputable def GF:R2:=λx y H Q=>∃l b xs zs,x=.ref l/\y=.ref b/\H l=gV (.lst xs)/\H b=gV (.lst zs)/\xs.length+zs.length<=sizeLine/\∀p,H p=td->Q (.ref p) (cp H p (.lst (xs++zs)))
theorem CF:OpR X (binaryOp .Add) GF:=by
 intro pins s σ H x y v u Q I rx ry h;obtain⟨l,b,xs,zs,rfl,rfl,hH,hB,hz,q⟩:=h;cases rx;cases ry;obtain⟨z,its,n,r,hl,e⟩:=I.lstM hH;obtain⟨z2,its2,n2,r2,hl2,e2⟩:=I.lstM hB;refine PySem.P.add_list e e2 ?_ (by rw[Ih,Ih]; omega)
 have ea:its.toArray++its2.toArray=(its++its2).toArray:=by simp
 rw[ea];exact#[.ref _,_,I.lnew (t':=s.toks) (r.append r2) (by rw[HQ]; omega),rfl,q _ I.fresh]
noncomputable def GH:R2:=λx y H Q=>∃l k xs,x=.ref l/\y=.int k/\H l=gV (.lst xs)/\-(2 ^ 63)<=k/\k < 2 ^ 63/\xs.length*k.toNat<=sizeLine/\
 ∀p,H p=td->Q (.ref p) (cp H p (.lst (IJ k.toNat xs).flatten))
theorem zA {α:Type}(xs:HF α)(k:HM):(IJ k xs).flatten.length=k*xs.length:=by
 induction k with
 | zero=>simp
 | succ k ih=>rw[JD,Kr,HQ,ih,Pb,Nat.add_comm]
theorem CG:OpR X (binaryOp .Mult) GH:=by
 intro pins s σ H x y v u Q I rx ry h;obtain⟨l,k,xs,rfl,rfl,hH,h1,h2,hz,q⟩:=h;cases rx;obtain⟨t,rfl⟩:=ry;obtain⟨z,its,n,r,hl,e⟩:=I.lstM hH;have hlen:its.toArray.size*k.toNat<=sizeLine:=by rw[Ih,<- hl]; exact hz
 have hcap:¬ its.toArray.size*k.toNat > (2 ^ 63 - 1) / 8:=by
  have:(sizeLine:HM)<=(2 ^ 63 - 1) / 8:=by decide
  omega
 have hfit:¬ (!OA k)=true:=by
  rw[Oz h1 h2];exact Iu
 have hlong:¬ Ku (its.toArray.size*k.toNat)=true:=by
  rw[pA hlen];exact Iu
 have hnew:Oy (λx1 x2=>x1++x2) #[] (IJ (if its.toArray.isEmpty=true then 0 else k.toNat) its.toArray)=(IJ k.toNat its).flatten.toArray:=by
  have f0:∀m:HM,Oy (λx1 x2=>x1++x2) #[] (IJ m its.toArray)=(IJ m its).flatten.toArray:=λm=>by
   have:=mD its m [];rw[List.nil_append]at this;exact this
  rw[f0];cases its with
  | nil=>simp
  | cons a r'=>rw[IH (by simp)]
 refine wpAny_binaryOp_repeat_ref (T:="list") (U:="int") #v[] #[_,e,rfl] (λs'=>Ox s' k t) noFill_list_mul F.fills_int_mul F.slot_int_rmul repeat_list F.slot_int_index.lookup
  (LQ F.slot_int_rmul (Ox s k t) F.entry_int_rmul (F.args_int_rmul_2 _ _) (int___rmul___int_list k t l its.toArray n)
   #[e,rfl,#[_,e,rfl],LQ F.slot_list_mul #[_,e,rfl] F.entry_list_mul (F.args_list_mul_2 _ _) (Nx l its.toArray n k t hfit hcap hlong) #[e,?_]])
 rw[hnew];exact#[.ref _,_,I.lnew (t':=s.toks) (r.rep k.toNat) (by rw[zA,Nat.mul_comm]; exact hz),rfl,q _ I.fresh]
end
section
variable{X:Cx}{pins:HF (HR×JE)}{σ:St}{H:Hp}{s:HK}{a:HR}{y v:V}{u r:HH}{o:HL V}{A:IL}{E:HH->HK->Prop}
theorem Inv.big (I:Inv X pins σ H s):sysModules < s.heap.objs.size:=by
 have h:mainGlobals < s.heap.objs.size:=(I.mod.glob.keeps I.bk).lt;exact Pc #v[] h
theorem nF {h':IZ}{t':HM}{ob:HO}(I:Inv X pins σ H s)(mu:D0 (H a))(hs:Kn a s.heap h')(he:∃q,h'.get? a=gV q)(new:ObjOk X.prog X.w (cp H a ob) h' a ob) :
  Inv X pins σ (cp H a ob) { s with heap:=h',toks:=t' }:=
 I.write (x:=a) (e:=a) mu (.inl rfl) (λb q hb z=>(hs.2 b hb).trans z) he new
end
noncomputable abbrev VV:HF (V×V)->HF (HH×HH)->Prop:=Mp λp q=>RelV p.1 q.1/\RelV p.2 q.2
end L2
namespace Att
open PySem PySem.W PySem.Calls PyProof.Rows
theorem jX {P:OB}{h:IZ}:∀(ns:HF Ig) (vs:HF HH),WellAll P h vs (ns.map WData.int)->Ot vs ns:=by
 intro ns
 induction ns with
 | nil=>
  intro vs w;rw[NM]at w;cases w;exact .nil
 | cons n ns ih=>
  intro vs w;rw[JI]at w;cases w with
  | cons a b=>
   cases a;exact .cons _ _ (ih _ b)
theorem uF {l:OpenLaw}{n:HM}(hn:l.most=gV n){P:OB}{h:IZ}{args:HF WData}{vals:HF HH}
  (hpre:l.row.toRowW.claim.pre args=true) (hwl:WellAll P h vals args) :
  ∃a vs ns,vals=[IV a]/\args=[WData.list (ns.map WData.int)]/\h.get? a=gV { cls:=.type "list",data:=.seq vs.toArray }/\Ot vs ns/\ns.length<=n:=by
 have hsh:WShape.hasAll [] args [.list .int]=true:=(pre_splitW hpre).1;have hc:l.pre.holds [] { args:=args }=true:=(pre_splitW hpre).2;obtain⟨d,r,rfl,h1,h2⟩:=hasAllW_cons hsh;obtain rfl:=hasAllW_nil h2;obtain⟨xs,rfl,h3⟩:=hasW_list h1;obtain⟨ns,rfl⟩:=items_int h3;have hlen:ns.length<=n:=by
  unfold OpenLaw.pre at hc;have h4:(WTm.not (.lt (.lit (.int (n:Ig))) (.len (.arg 0)))).holds [] { args:=[.list (ns.map .int)] }=true:=by
   have h4:=(holds_andW hc).1;rw[hn]at h4;exact h4
  have h5:=condW_of h4 (w_not (w_lt w_lit (w_len_list (w_arg rfl))));rw[HI]at h5;refine Nat.le_of_not_lt λq=>?_
  have q':(n:Ig) < ((ns.length:HM):Ig):=∅
  first
   | (rw[Jt q']at h5; exact absurd h5 #v[])
   | (simp at h5; omega)
 cases hwl with
 | cons w1 w2=>
  cases w2;cases w1 with
  | list ho hall=>exact#[_,_,ns,rfl,rfl,ho,jX ns _ hall,hlen]
theorem uG (l:OpenLaw)(args:HF WData):l.row.toRowW.claim.post args (.bool true) args=true:=
 postW_of (r:=l.row.toRowW) (X:=(true==true))
  (show WShape.has [] (.bool true) .bool=true by first|rfl|decide|simp[WShape.has,WShape.arms,WShape.armsAll])
  (show(WTm.eq .res (.lit (.bool true))).value [] { args:=args,res:=gV (.bool true),after:=args }=gV (.bool (true==true))from w_eq_bool (w_res rfl) w_lit) rfl
theorem attach_call {l:OpenLaw}{n:HM}{q:IC}{loose:HF Ik}{XP:(Ik->HL HH)->IZ->Prop}{YP:IP->IZ->Prop}{d:DefRec}
  (hn:l.most=gV n) (hdf:d.params.defaults=[])
  (call:∀(w:IP) (s₀ s₁:HK) (mg mb:Ik->HL HH) (fa:HR) (o:JE) (pm cd doc:HH) (a:HR) (vs:HF HH) (ns:HF Ig),
   Ground q loose [] XP w s₀ mg mb s₁.heap->YP w s₁.heap->
   s₁.heap.get? fa=gV o->o.data=.func (docDef d.name d.params d.body d.scope pm cd doc)->s₁.heap.CodeRec cd d.name->mg d.name=gV (.ref fa)->
   s₁.heap.get? a=gV { cls:=.type "list",data:=.seq vs.toArray }->Ot vs ns->ns.length<=n->s₁.gens=#[]->
   codeAny (model l.prog w) callerA (.call (.ref fa) #[[.ref a],[]]) (λr s'=>r=.ok (.ret (.bool true))/\OldK s₁.heap s'.heap/\s'.os=s₁.os/\L8 s'.gens) s₁) :
  WalkO q loose XP YP l.row.toRowW d [] (λf vs=>OC f vs):=by
 intro w s₀ s₁ mg mb G Y fa o pm cd doc dV kV ho hd hcd hD hmg hg args vals as hpre hlay hrd hwl hlo;obtain rfl:dV=.none:=Dflts.none hD hdf;obtain rfl:kV=.none:=Dflts.noKw hD;obtain⟨a,vs,ns,rfl,rfl,hobj,hints,hlen⟩:=uF hn hpre hwl;refine enter_call (Mr (call w s₀ s₁ mg mb fa o pm cd doc a vs ns G Y ho (fd_plain hd) hcd hmg hobj hints hlen hg) λr s' hq=>?_)
 obtain⟨rfl,h2,h3,h4⟩:=hq;exact#[.inl #[.bool true,.bool true,[],rfl,λ_=>rfl,.bool true,uG l _,λ_=>#[PP,λ_ hm=>(nomatch hm)]],h2,h3,h4]
end Att
namespace L2
open PySem PySem.Spec PyProof.Rows
theorem mE:∀ {vs:HF HH} {ns:HF Ig},Ot vs ns->Vals (ns.map V.int) vs
 | _,_,.nil=>.nil
 | _,_,.cons n t h=>.cons #[t,rfl] (mE h)
noncomputable def we (H:Hp):Prop:=∀b,H b=td\/∃o xs,H b=gV (.frz o (.lst xs))
theorem wf {P:IC}{w:IP}{K:HW}{mg mb:Ik->HL HH}{CX:vV}{k:HM}{fa a:HR}{fd:Kd}{x:Ik}{sp:Sp}{s₁:HK}{vs:HF HH}{ns:HF Ig}
  (KX:K.In s₁.heap) (hns:s₁.heap.Ns mainGlobals mg) (hb:s₁.heap.Ns builtinsNs mb) (hbb:∀x:Ik,x≠"__name__"->mb x=bootBuiltins x) (hlim:s₁.heap.NoLimit) (hg:s₁.gens=#[])
  (ha:s₁.heap.get? a=gV { cls:=.type "list",data:=.seq vs.toArray }) (hi:Ot vs ns) (hl:ns.length<=sizeLine) (hr:Room k callerA)
  (F:∀base:IZ,K.In base->base.Ns mainGlobals mg->FnOk P w K mg base CX k fa fd [x] sp) (hbind:∀(s:HK) (u:HH),NE s fd #[[u],[]] [(x,u)])
  (hsp:∀H:Hp,we H->SqL K H a (ns.map V.int)->sp [.ref a] H (λv _=>v=.bl true) λ_ _ _=>Jq)
  (hCX:∀H e s',CX [] H s₁ (λ_ _ _=>Jq) e s'->Jq) :
  codeAny (model P w) callerA (.call (.ref fa) #[[.ref a],[]]) (λr s'=>r=.ok (.ret (.bool true))/\OldK s₁.heap s'.heap/\s'.os=s₁.os/\L8 s'.gens) s₁:=by
 have rv:=mE hi;have lenV:=hi.length;have core:∀H:Hp,we H->SqL K H a (ns.map V.int)->HOk P w H s₁.heap->(∀b,H b≠td->b=a)->(H a≠td->K.lookup a=td)->
   codeAny (model P w) callerA (.call (.ref fa) #[[.ref a],[]]) (λr s'=>r=.ok (.ret (.bool true))/\OldK s₁.heap s'.heap/\s'.os=s₁.os/\L8 s'.gens) s₁:=by
  intro H hO hS hok hA hK;have base_of:∀ {b:HR} {o:JE},s₁.heap.get? b=gV o->H b=td->(nw s₁.heap H).get? b=gV o:=λe n=>vJ e n
  have noA:∀ {b:HR} {o:JE} {es:IY J3} {ep:HM},s₁.heap.get? b=gV o->o.data=.dict es ep->H b=td:=λ{b o es ep} e d=>by
   cases q:H b with
   | none=>rfl
   | some u=>
    have e':b=a:=hA b (by rw[q]; simp)
    subst e';rw[ha]at e; cases e
    have d':Data.seq vs.toArray _=Data.dict es ep:=d;cases d'
  have nsK:∀ {b:HR} {m:Ik->HL HH},s₁.heap.Ns b m->(nw s₁.heap H).Ns b m:=λ{b m} #[o,es,ep,e,d,r]=>#[o,es,ep,base_of e (noA e d),d,r]
  have hKb:K.In (nw s₁.heap H):=λb o e=>base_of (KX b o e) (by
   cases q:H b with
   | none=>rfl
   | some u=>
    have e':b=a:=hA b (by rw[q]; simp)
    subst e';rw[hK (by rw[q]; simp)]at e; cases e)
  have hM:Mod K mg (nw s₁.heap H):=#[hKb,nsK hns,#[mb,nsK hb,hbb],let ⟨mc,h1,h2⟩:=hlim; #[mc,nsK h1,h2]]
  have e0:Env0 P w K mg (nw s₁.heap H) callerA [] s₁ H:=#[rfl,hM,λb o e=>yY e,Nat.le_of_eq (ur _ _),trivial,λb hb=>absurd (show b∈([]:HF HR)from hb) (by simp),hok,.of_eq hg]
  refine Mr ((F _ hKb (nsK hns)).run callerA [] s₁ H #[[.ref a],[]] [.ref a] [.ref a] _ _ hr e0 (hbind s₁ (.ref a)) #v[rfl] (hsp H hO hS)) λr s' h=>?_
  cases r with
  | error e=>exact(hCX H e s' h).elim
  | ok fl=>
   cases fl with
   | next=>exact Jq.elim h
   | brk=>exact Jq.elim h
   | cont=>exact Jq.elim h
   | ret u=>
    obtain⟨v,H',os,bare,un,hok',r',q⟩:=h;have q':v=.bl true:=q;subst q';obtain rfl:u=KP true:=r';refine#[rfl,OldK.of_keep λb o e=>?_,os,bare]
    cases q:H b with
    | none=>exact un.keep b o e q (by intro z; exact absurd (show b∈([]:HF HR)from z) (by simp)) (by simp)
    | some u=>
     rcases hO b with z|⟨ob,xs,z⟩
     ·rw[q]at z; cases z
     ·have z2:=un.frzs b ob _ z;obtain⟨e1,_⟩:=hok b _ z;obtain⟨e2,_⟩:=hok' b _ z2;rw[e]at e1; cases e1
      exact e2
 cases hk:K.lookup a with
 | some o=>
  have e:=KX a o hk;rw[ha]at e;cases e;refine core (λ_=>td) (λ_=>.inl rfl) (.inr #[_,vs.toArray,_,hk,rfl,rfl,rfl,by rw[Ih,lenV]; exact hl,by simpa using rv]) (λb u z=>by have z':(td:HL HO)=gV u:=z; cases z') (λb z=>absurd rfl z) λz=>absurd rfl z
 | none=>
  refine core (λb=>if b=a then gV (.frz { cls:=.type "list",data:=.seq vs.toArray } (.lst (ns.map V.int)))else td) (λb=>?_) (.inl (.inr #[{ cls:=.type "list",data:=.seq vs.toArray },Iw rfl])) (λb u z=>?_) (λb z=>?_) λ_=>hk
  ·by_cases hb:b=a
   ·exact .inr #[_,_,Iw hb]
   ·exact .inl (IH hb)
  ·by_cases hb:b=a
   ·have z':=(Iw hb).symm.trans z;cases z';subst hb;exact#[ha,by rw[HI]; exact hl,vs,_,rv,ha]
   ·have z':=(IH hb).symm.trans z;cases z'
  ·by_cases hb:b=a
   ·exact hb
   ·exact absurd (IH hb) z
theorem zB {l:Mz}{n k:HM}{q:IC}{loose:HF Ik}{XP:(Ik->HL HH)->IZ->Prop}{YP:IP->IZ->Prop}{d:DefRec}{K:OB->HW}{CX:IP->vV}{sp:IP->Sp}{x:Ik}
  (hn:l.most=gV n) (hn2:n<=sizeLine) (hdf:d.params.defaults=[]) (hr:Room k callerA)
  (hY:∀(w:IP) (h:IZ),YP w h->(K w.params).In h)
  (F:∀(w:IP) (mg:Ik->HL HH) (fa:HR) (h:IZ),(K w.params).In h->h.Ns mainGlobals mg->mg d.name=gV (.ref fa)->
   ∃fd:Kd,(∀(s:HK) (u:HH),NE s fd #[[u],[]] [(x,u)])/\
    ∀base:IZ,(K w.params).In base->base.Ns mainGlobals mg->FnOk l.prog w (K w.params) mg base (CX w) k fa fd [x] (sp w))
  (hsp:∀(w:IP) (H:Hp) (a:HR) (ns:HF Ig),ns.length<=n->we H->SqL (K w.params) H a (ns.map V.int)->sp w [.ref a] H (λv _=>v=.bl true) λ_ _ _=>Jq)
  (hCX:∀(w:IP) (H:Hp) (s:HK) (e:HH) (s':HK),CX w [] H s (λ_ _ _=>Jq) e s'->Jq) :
  OX q loose XP YP l.row.toRowW d [] (λf vs=>OC f vs):=by
 refine Att.attach_call hn hdf λw s₀ s₁ mg mb fa o pm cd doc a vs ns G Y ho hd hcd hmg hobj hints hlen hg=>?_
 have KX:=hY w _ Y;obtain⟨fd,hb,hF⟩:=F w mg fa _ KX G.T.g hmg;exact wf KX G.T.g G.T.b G.T.builtins G.T.nolimit hg hobj hints (IS hlen hn2) hr hF hb (λH hO hS=>hsp w H a ns hlen hO hS) λH e s'=>hCX w H s₁ e s'
noncomputable def dS (s:Ks):Arguments:=match s with
 | .FunctionDef _ a _ _ _ _ _ _ _ _=>a
 | _=>{ posonlyargs:=[],args:=[],vararg:=td,kwonlyargs:=[],kw_defaults:=[],kwarg:=td,defaults:=[] }
noncomputable def c9 (s:Ks):HF Ks:=match s with
 | .FunctionDef _ _ b _ _ _ _ _ _ _=>b
 | _=>[]
noncomputable def ag (s:Ks):KL:=match s with
 | .FunctionDef _ _ _ _ _ _ sc _ _ _=>sc
 | _=>{ kind:=.function,names:=[],isGenerator:=false,isCoroutine:=false }
noncomputable abbrev vF:vV:=λ_ _ _ _ _ _=>Jq
noncomputable abbrev E0:XK:=λ_ _ _=>Jq
theorem Bx {X:Cx}:nz vF X E0:=λ_ _ _ _ _ _ _ h=>h.elim
structure Fun (K:HW)(x qual:Ik)(st:Ks)(f:HR)(fd:Kd):Prop where
 ex:∃(oc:HH) (od:HL HR) (kV doc pm:HH) (an:HL HR) (cdv ct:HH) (osl:IY (HL HH)),
  fd=JY x qual (dS st) (c9 st) (ag st) .none kV doc pm an cdv ct/\K.lookup f=gV #[oc,od,.func fd,osl]/\KR K cdv qual=true
 kp:Jz K (.ref f)=true
section
variable{P:IC}{w:IP}{K:HW}{mg:Ik->HL HH}{base:IZ}
theorem Fun.ok {x qual:Ik}{st:Ks}{f:HR}{fd:Kd}{N ps:HF Ik}{k:HM}{sp:Sp}(F:Fun K x qual st f fd)(S:FnScope N ps (ag st))(len:∀vs H Q E,sp vs H Q E->vs.length=ps.length)
  (hbody:∀(cdv:HH) (A:IL) (outer:HF NA) (s:HK) (H:Hp) (vs:HF V) (Q:VK) (E:XK),Room k (A.deeper (envOfC qual (ag st) s.heap.objs.size f cdv))->sp vs H Q E->
   ∃t,PSs (rg vF P w K mg base N qual (ag st) f cdv A outer s H E).nox (c9 st) t/\t { nx:=λ_ H'=>Q .non H',rt:=Q } (fR N vs) H):FnOk P w K mg base vF (k+1) f fd ps sp:=by
 obtain⟨oc,od,kV,doc,pm,an,cdv,ct,osl,rfl,lk,hcd⟩:=F.ex;refine Ez lk hcd S len λA outer s H vs Q E hr hsp=>?_
 obtain⟨t,h,q⟩:=hbody cdv A outer s H vs Q E hr hsp;exact#[t,h.nox,q]
theorem Fun.binds {x qual:Ik}{st:Ks}{f:HR}{fd:Kd}{ps:HF Ik}(F:Fun K x qual st f fd)
  (h:∀(kV doc pm:HH) (an:HL HR) (cdv ct:HH) (us:HF HH),us.length=ps.length->bindArgs (JY x qual (dS st) (c9 st) (ag st) .none kV doc pm an cdv ct) #[us,[]]=pure (ps.zip us)):Binds K fd ps []:=by
 obtain⟨oc,od,kV,doc,pm,an,cdv,ct,osl,rfl,lk,hcd⟩:=F.ex;exact .all (h kV doc pm an cdv ct)
theorem wg {x qual:Ik}{st:Ks}{f:HR}{oc:HH}{od an:HL HR}{osl:IY (HL HH)}{kV doc pm cdv ct:HH}(l:K.lookup f=gV #[oc,od,.func (JY x qual (dS st) (c9 st) (ag st) .none kV doc pm an cdv ct),osl])
  (c:KR K cdv qual=true) (k:Jz K (.ref f)=true):Fun K x qual st f (JY x qual (dS st) (c9 st) (ag st) .none kV doc pm an cdv ct):=#[#[oc,od,kV,doc,pm,an,cdv,ct,osl,rfl,l,c],k]
end
end L2
namespace Mi
open PySem PySem.Spec PyProof.Rows L2
inductive W where
 | non|bl (b:Iy)|int (i:Ig)|str (x:Ik)|tup (xs:HF W)|ref (i:HM)
inductive T where
 | int (i:Ig)|str (x:Ik)|tup (xs:HF T)
mutual
noncomputable def T.beq:T->T->Iy
 | .int i,.int j=>i==j
 | .str x,.str y=>x==y
 | .tup xs,.tup ys=>T.beqs xs ys
 | _,_=>false
noncomputable def T.beqs:HF T->HF T->Iy
 | [],[]=>true
 | x::xs,y::ys=>T.beq x y&&T.beqs xs ys
 | _,_=>false
end
mutual
theorem T.beq_iff:∀x y:T,T.beq x y=true↔x=y
 | .int i,.int j=>by simp[T.beq]
 | .str x,.str y=>by simp[T.beq]
 | .tup xs,.tup ys=>by simp[T.beq,T.beqs_iff xs ys]
 | .int _,.str _|.int _,.tup _|.str _,.int _|.str _,.tup _|.tup _,.int _|.tup _,.str _=>by simp[T.beq]
theorem T.beqs_iff:∀xs ys:HF T,T.beqs xs ys=true↔xs=ys
 | [],[]=>by simp[T.beqs]
 | x::xs,y::ys=>by simp[T.beqs,T.beq_iff x y,T.beqs_iff xs ys]
 | [],_::_|_::_,[]=>by simp[T.beqs]
end
noncomputable instance:KO T:=λx y=>decidable_of_iff (T.beq x y=true) (T.beq_iff x y)
mutual
noncomputable def T.w:T->W
 | .int i=>.int i
 | .str x=>.str x
 | .tup xs=>.tup (T.ws xs)
noncomputable def T.ws:HF T->HF W
 | []=>[]
 | x::xs=>T.w x::T.ws xs
end
mutual
noncomputable def W.t:W->HL T
 | .int i=>gV (.int i)
 | .str x=>gV (.str x)
 | .tup xs=>(W.ts xs).map .tup
 | _=>td
noncomputable def W.ts:HF W->HL (HF T)
 | []=>gV []
 | x::xs=>match W.t x,W.ts xs with
  | some y,gV ys=>gV (y::ys)
  | _,_=>td
end
mutual
theorem W.t_w:∀ {w:W} {k:T},W.t w=gV k->k.w=w
 | .int i,_,h=>by cases h; rfl
 | .str x,_,h=>by cases h; rfl
 | .tup xs,_,h=>by
  simp only[W.t,HJ]at h;obtain⟨ks,h1,h2⟩:=h;subst h2;simp only[T.w,W.ts_w h1]
 | .non,_,h|.bl _,_,h|.ref _,_,h=>by cases h
theorem W.ts_w:∀ {ws:HF W} {ks:HF T},W.ts ws=gV ks->T.ws ks=ws
 | [],_,h=>by cases h; rfl
 | w::ws,_,h=>by
  simp only[W.ts]at h;split at h
  ·rename_i y ys h1 h2;cases h;simp only[T.ws,W.t_w h1,W.ts_w h2]
  ·cases h
end
mutual
theorem T.w_t:∀k:T,W.t k.w=gV k
 | .int _=>rfl
 | .str _=>rfl
 | .tup xs=>by simp only[T.w,W.t,T.ws_ts xs,IR]
theorem T.ws_ts:∀ks:HF T,W.ts (T.ws ks)=gV ks
 | []=>rfl
 | x::xs=>by simp only[T.ws,W.ts,T.w_t x,T.ws_ts xs]
end
mutual
noncomputable def T.depth:T->HM
 | .tup xs=>T.depths xs+1
 | _=>0
noncomputable def T.depths:HF T->HM
 | []=>0
 | x::xs=>max (T.depth x) (T.depths xs)
end
mutual
noncomputable def T.draws:T->HM
 | .tup xs=>T.drawss xs+1
 | _=>1
noncomputable def T.drawss:HF T->HM
 | []=>0
 | x::xs=>T.draws x+T.drawss xs
end
mutual
noncomputable def pB (wd:IP):T->Ig
 | .int i=>hashInt i
 | .str x=>hashStr wd x
 | .tup xs=>reduceHash (LZ (kD wd xs))
noncomputable def kD (wd:IP):HF T->HF Ig
 | []=>[]
 | x::xs=>pB wd x::kD wd xs
end
noncomputable def T.isTup:T->Iy
 | .tup _=>true
 | _=>false
noncomputable def bC:HM:=6
inductive O where
 | lst (xs:HF W)
 | fro (xs:HF W)
 | rng (lo hi:Ig)
 | dic (kvs:HF (T×W))
 | frd (kvs:HF (T×W))
noncomputable abbrev aa:=HF O
noncomputable abbrev Fm:=HF (HL W)
section
variable (K:HW) (A:HF HR) (H:Hp)
mutual
inductive Rel:W->V->Prop
 | non:Rel .non .non
 | bl {b:Iy}:Rel (.bl b) (.bl b)
 | int {i:Ig}:Rel (.int i) (.int i)
 | str {x:Ik}:Rel (.str x) (.str x)
 | tup {ws:HF W} {a:HR} {vs:HF V}:SqT K H a vs->RelL ws vs->Rel (.tup ws) (.ref a)
 | ref {i:HM} {a:HR}:A[i]?=gV a->Rel (.ref i) (.ref a)
inductive RelL:HF W->HF V->Prop
 | nil:RelL [] []
 | cons {w:W} {v:V} {ws:HF W} {vs:HF V}:Rel w v->RelL ws vs->RelL (w::ws) (v::vs)
end
end
section
variable{K:HW}{A A' A'':HF HR}{H H' H'':Hp}
structure Ext (K:HW)(A:HF HR)(H:Hp)(A':HF HR)(H':Hp):Prop where
 ad:∀(i:HM) (a:HR),A[i]?=gV a->A'[i]?=gV a
 tp:∀(a:HR) (vs:HF V),SqT K H a vs->SqT K H' a vs
 fz:∀(a:HR) (o:JE) (u:HO),H a=gV (.frz o u)->H' a=gV (.frz o u)
theorem Ext.refl:Ext K A H A H:=#[λ_ _ h=>h,λ_ _ h=>h,λ_ _ _ h=>h]
theorem Ext.trans (e:Ext K A H A' H')(f:Ext K A' H' A'' H''):Ext K A H A'' H'':=#[λi a h=>f.ad i a (e.ad i a h),λa vs h=>f.tp a vs (e.tp a vs h),λa o u h=>f.fz a o u (e.fz a o u h)]
mutual
theorem Rel.mono (e:Ext K A H A' H'):∀ {w:W} {v:V},Rel K A H w v->Rel K A' H' w v
 | _,_,.non=>.non
 | _,_,.bl=>.bl
 | _,_,.int=>.int
 | _,_,.str=>.str
 | _,_,.tup h r=>.tup (e.tp _ _ h) (RelL.mono e r)
 | _,_,.ref h=>.ref (e.ad _ _ h)
theorem RelL.mono (e:Ext K A H A' H'):∀ {ws:HF W} {vs:HF V},RelL K A H ws vs->RelL K A' H' ws vs
 | _,_,.nil=>.nil
 | _,_,.cons r t=>.cons (Rel.mono e r) (RelL.mono e t)
end
theorem RelL.length:∀ {ws:HF W} {vs:HF V},RelL K A H ws vs->ws.length=vs.length
 | _,_,.nil=>rfl
 | _,_,.cons _ t=>by simp[RelL.length t]
theorem RelL.get:∀ {ws:HF W} {vs:HF V} {i:HM} {w:W},RelL K A H ws vs->ws[i]?=gV w->∃v,vs[i]?=gV v/\Rel K A H w v
 | _,_,_,_,.nil,e=>by simp at e
 | _,_,0,_,.cons r _,e=>by simp at e; subst e; exact#[_,rfl,r]
 | _,_,i+1,w,.cons _ t,e=>by
  obtain⟨u,h1,h2⟩:=RelL.get (i:=i) (w:=w) t (by simpa using e)
  exact#[u,by simpa using h1,h2]
theorem RelL.append:∀ {xs ys:HF W} {us ws:HF V},RelL K A H xs us->RelL K A H ys ws->RelL K A H (xs++ys) (us++ws)
 | _,_,_,_,.nil,s=>s
 | _,_,_,_,.cons r t,s=>.cons r (RelL.append t s)
theorem RelL.take:∀ {xs:HF W} {us:HF V} (n:HM),RelL K A H xs us->RelL K A H (xs.take n) (us.take n)
 | _,_,0,_=>.nil
 | _,_,_+1,.nil=>.nil
 | _,_,n+1,.cons r t=>.cons r (RelL.take n t)
theorem RelL.drop:∀ {xs:HF W} {us:HF V} (n:HM),RelL K A H xs us->RelL K A H (xs.drop n) (us.drop n)
 | _,_,0,r=>r
 | _,_,_+1,.nil=>.nil
 | _,_,n+1,.cons _ t=>RelL.drop n t
theorem RelL.set {x:W}{u:V}(r:Rel K A H x u):∀ {xs:HF W} {us:HF V} (i:HM),RelL K A H xs us->RelL K A H (xs.set i x) (us.set i u)
 | _,_,_,.nil=>.nil
 | _,_,0,.cons _ t=>.cons r t
 | _,_,i+1,.cons q t=>.cons q (RelL.set r i t)
theorem RelL.rep {xs:HF W}{us:HF V}(h:RelL K A H xs us):∀k:HM,RelL K A H (IJ k xs).flatten (IJ k us).flatten
 | 0=>.nil
 | k+1=>by
  rw[JD,JD,Kr,Kr];exact RelL.append h (RelL.rep h k)
theorem RelL.eraseIdx:∀ {xs:HF W} {us:HF V} (i:HM),RelL K A H xs us->RelL K A H (xs.eraseIdx i) (us.eraseIdx i)
 | _,_,_,.nil=>.nil
 | _,_,0,.cons _ t=>t
 | _,_,i+1,.cons r t=>.cons r (RelL.eraseIdx i t)
noncomputable def FroL (K:HW)(H:Hp)(a:HR)(vs:HF V):Prop:=
 (∃o,H a=gV (.frz o (.lst vs)))\/
  ∃(o:JE) (its:IY HH) (n:HM),K.lookup a=gV o/\o.cls=.type "list"/\o.dict=td/\o.data=.seq its n/\its.size<=sizeLine/\Vals vs its.toList
theorem FroL.sq {a:HR}{vs:HF V}(h:FroL K H a vs):SqL K H a vs:=by
 rcases h with⟨o,h⟩|h
 ·exact .inl (.inr #[o,h])
 ·exact .inr h
noncomputable def wj (wd:IP)(x:T×HR×HH):J3:=#[pB wd x.1,.ref x.2.1,x.2.2]
noncomputable def DicAt (wd:IP)(a:HR)(xs:HF (T×HR×HH))(h:IZ):Prop:=
 xs.length<=sizeLine/\(a==sysModules)=false/\(xs.map (·.1)).Nodup/\∃o es ep,h.get? a=gV o/\o.ExactDict/\o.data=.dict es ep/\es.toList=xs.map (wj wd)
noncomputable def d8 (wd:IP)(a:HR)(xs:HF (T×HR×HH)):HO:=.ext (DicAt wd a xs)
noncomputable def KRel (K:HW)(A:HF HR)(H:Hp):HF (T×W)->HF (T×HR×HH)->Prop:=
 Mp λ(p:T×W) (q:T×HR×HH)=>p.1=q.1/\p.1.isTup=true/\p.1.depth<=bC/\Rel K A H p.1.w (.ref q.2.1)/\∃v,Rel K A H p.2 v/\RelV v q.2.2
theorem KRel.mono (e:Ext K A H A' H'){kvs:HF (T×W)}{xs:HF (T×HR×HH)}(h:KRel K A H kvs xs):KRel K A' H' kvs xs:=
 Paired.mapP h λ_ _ #[h1,h2,h3,h4,v,h5,h6]=>#[h1,h2,h3,h4.mono e,v,h5.mono e,h6]
variable{wd:IP}
noncomputable def ObjRel (wd:IP)(K:HW)(A:HF HR)(H:Hp)(a:HR):O->Prop
 | .lst ws=>∃vs,H a=gV (.lst vs)/\RelL K A H ws vs
 | .fro ws=>∃vs,FroL K H a vs/\RelL K A H ws vs
 | .rng lo hi=>H a=gV (.rng lo hi)
 | .dic kvs=>∃xs,H a=gV (d8 wd a xs)/\KRel K A H kvs xs
 | .frd kvs=>∃o xs,H a=gV (.frz o (d8 wd a xs))/\KRel K A H kvs xs
noncomputable def O.mut:O->Iy
 | .fro _=>false
 | .rng _ _=>false
 | .frd _=>false
 | _=>true
structure StoreOk (wd:IP)(K:HW)(A:HF HR)(H:Hp)(S:aa):Prop where
 len:A.length=S.length
 nd:∀(i j:HM) (a:HR) (o u:O),S[i]?=gV o->o.mut=true->S[j]?=gV u->u.mut=true->A[i]?=gV a->A[j]?=gV a->i=j
 obj:∀(i:HM) (o:O) (a:HR),S[i]?=gV o->A[i]?=gV a->ObjRel wd K A H a o
noncomputable def EnvRel (K:HW)(A:HF HR)(H:Hp)(ρ:Fm)(σ:L2.St):Prop:=
 ρ.length=σ.length/\∀(i:HM) (w:W),ρ[i]?=gV (gV w)->∃v,σ[i]?=gV (gV v)/\Rel K A H w v
theorem EnvRel.mono {ρ:Fm}{σ:L2.St}(e:Ext K A H A' H')(h:EnvRel K A H ρ σ):EnvRel K A' H' ρ σ:=
 #[h.1,λi w q=>let ⟨v,a,b⟩:=h.2 i w q; #[v,a,b.mono e]]
theorem EnvRel.set {ρ:Fm}{σ:L2.St}{w:W}{v:V}(h:EnvRel K A H ρ σ)(r:Rel K A H w v)(i:HM):EnvRel K A H (ρ.set i (gV w)) (σ.set i (gV v)):=by
 refine#[by simp[h.1],λj w' q=>?_]
 rw[JT]at q ⊢
 by_cases e:i=j
 ·subst e;rw[Iw rfl]at q ⊢
  by_cases hl:i < ρ.length
  ·rw[Iw hl]at q;rw[Iw (h.1 ▸ hl)];cases q;exact#[v,rfl,r]
  ·rw[IH hl]at q; cases q
 ·rw[IH e]at q ⊢;exact h.2 j w' q
noncomputable def Wr (H:Hp)(p:HR):Prop:=H p=td\/(∃xs,H p=gV (.lst xs))\/(∃φ,H p=gV (.ext φ))\/∃ks,H p=gV (.dK ks)
theorem Wr.lst {p:HR}{xs:HF V}(h:H p=gV (.lst xs)):Wr H p:=.inr (.inl #[xs,h])
theorem Wr.ext {p:HR}{φ:IZ->Prop}(h:H p=gV (.ext φ)):Wr H p:=.inr (.inr (.inl #[φ,h]))
theorem Wr.ne_tup {p a:HR}{xs:HF V}(hp:Wr H p)(h:H a=gV (.tup xs)):a≠p:=by
 intro e; subst e
 rcases hp with q|⟨xs,q⟩|⟨φ,q⟩|⟨ks,q⟩ <;> (rw[h]at q; cases q)
theorem Wr.ne_frz {p a:HR}{o:JE}{u:HO}(hp:Wr H p)(h:H a=gV (.frz o u)):a≠p:=by
 intro e; subst e
 rcases hp with q|⟨xs,q⟩|⟨φ,q⟩|⟨ks,q⟩ <;> (rw[h]at q; cases q)
theorem Wr.ne_rng {p a:HR}{lo hi:Ig}(hp:Wr H p)(h:H a=gV (.rng lo hi)):a≠p:=by
 intro e; subst e
 rcases hp with q|⟨xs,q⟩|⟨φ,q⟩|⟨ks,q⟩ <;> (rw[h]at q; cases q)
theorem sF {p:HR}{o:HO}(hp:Wr H p){a:HR}{vs:HF V}(h:SqT K H a vs):SqT K (cp H p o) a vs:=by
 rcases h with(h|⟨o',h⟩)|h
 ·exact .inl (.inl (by rw[aV (hp.ne_tup h)]; exact h))
 ·exact .inl (.inr #[o',by rw[aV (hp.ne_frz h)]; exact h])
 ·exact .inr h
theorem wm {p:HR}{o:HO}(hp:Wr H p){a:HR}{vs:HF V}(h:FroL K H a vs):FroL K (cp H p o) a vs:=by
 rcases h with⟨o',h⟩|h
 ·exact .inl #[o',by rw[aV (hp.ne_frz h)]; exact h]
 ·exact .inr h
theorem dC {p:HR}{o:HO}(hp:Wr H p):Ext K A H A (cp H p o):=#[λ_ _ h=>h,λ_ _ h=>sF hp h,λ_ _ _ h=>by rw[aV (hp.ne_frz h)]; exact h]
theorem ec {p:HR}{o:HO}(hp:H p=td):Ext K A H (A++[p]) (cp H p o):=
 #[λi a h=>by rw[IQ (Ii.mp h).1]; exact h,λ_ _ h=>sF (.inl hp) h,λ_ _ _ h=>by rw[aV (Wr.ne_frz (.inl hp) h)]; exact h]
theorem ObjRel.keep {p a:HR}{o:HO}{b:O}(hp:Wr H p)(hne:b.mut=true->a≠p)(e:Ext K A H A' (cp H p o))(h:ObjRel wd K A H a b):ObjRel wd K A' (cp H p o) a b:=by
 cases b with
 | lst ws=>
  obtain⟨vs,q,r⟩:=h;exact#[vs,by rw[aV (hne rfl)]; exact q,r.mono e]
 | fro ws=>
  obtain⟨vs,q,r⟩:=h;exact#[vs,wm hp q,r.mono e]
 | rng lo hi=>
  have h:H a=gV (.rng lo hi):=h;show cp H p o a=gV (.rng lo hi);rw[aV (hp.ne_rng h)];exact h
 | dic kvs=>
  obtain⟨xs,q,r⟩:=h;exact#[xs,by rw[aV (hne rfl)]; exact q,r.mono e]
 | frd kvs=>
  obtain⟨ob,xs,q,r⟩:=h;exact#[ob,xs,by rw[aV (hp.ne_frz q)]; exact q,r.mono e]
theorem ObjRel.there {a:HR}{b:O}(h:ObjRel wd K A H a b)(hm:b.mut=true):H a≠td:=by
 cases b with
 | lst ws=>obtain⟨vs,q,r⟩:=h; rw[q]; intro z; cases z
 | fro ws=>cases hm
 | rng lo hi=>cases hm
 | dic kvs=>obtain⟨vs,q,r⟩:=h; rw[q]; intro z; cases z
 | frd ws=>cases hm
theorem ObjRel.wr {a:HR}{b:O}(h:ObjRel wd K A H a b)(hm:b.mut=true):Wr H a:=by
 cases b with
 | lst ws=>obtain⟨vs,q,r⟩:=h; exact .lst q
 | fro ws=>cases hm
 | rng lo hi=>cases hm
 | dic kvs=>obtain⟨vs,q,r⟩:=h; exact .ext q
 | frd ws=>cases hm
theorem StoreOk.lay {S:aa}{p:HR}{o:HO}(h:StoreOk wd K A H S)(hp:H p=td):StoreOk wd K A (cp H p o) S:=
 #[h.len,h.nd,λi b a e ea=>(h.obj i b a e ea).keep (.inl hp) (λhm z=>(h.obj i b a e ea).there hm (z ▸ hp)) (dC (.inl hp))]
theorem StoreOk.pushO {S:aa}{p:HR}{n:O}{u:HO}(h:StoreOk wd K A H S)(hp:H p=td)(r:ObjRel wd K (A++[p]) (cp H p u) p n):StoreOk wd K (A++[p]) (cp H p u) (S++[n]):=by
 have ex:Ext K A H (A++[p]) (cp H p u):=ec hp;have old:∀ {i:HM} {o:O} {a:HR},(S++[n])[i]?=gV o->(A++[p])[i]?=gV a->i < S.length->S[i]?=gV o/\A[i]?=gV a:=λ{i o a} e ea hl=>by
  rw[IQ hl]at e;rw[IQ (h.len ▸ hl)]at ea;exact#[e,ea]
 have new:∀ {i:HM} {o:O} {a:HR},(S++[n])[i]?=gV o->(A++[p])[i]?=gV a->¬ i < S.length->i=S.length/\o=n/\a=p:=λ{i o a} e ea hl=>by
  have hi:i=S.length:=by
   have:=(Ii.mp e).1;simp at this;omega
  subst hi;simp at e;rw[<- h.len]at ea;simp at ea;exact#[rfl,e.symm,ea.symm]
 refine#[by simp[h.len],λi j a o u e1 m1 e2 m2 a1 a2=>?_,λi o a e ea=>?_]
 ·by_cases hi:i < S.length <;> by_cases hj:j < S.length
  ·obtain⟨x1,y1⟩:=old e1 a1 hi;obtain⟨x2,y2⟩:=old e2 a2 hj;exact h.nd i j a o u x1 m1 x2 m2 y1 y2
  ·obtain⟨x1,y1⟩:=old e1 a1 hi;obtain⟨_,_,z⟩:=new e2 a2 hj;subst z;exact absurd hp ((h.obj i o a x1 y1).there m1)
  ·obtain⟨x2,y2⟩:=old e2 a2 hj;obtain⟨_,_,z⟩:=new e1 a1 hi;subst z;exact absurd hp ((h.obj j u a x2 y2).there m2)
  ·rw[(new e1 a1 hi).1,(new e2 a2 hj).1]
 ·by_cases hi:i < S.length
  ·obtain⟨x1,y1⟩:=old e ea hi;exact(h.obj i o a x1 y1).keep (.inl hp) (λhm z=>(h.obj i o a x1 y1).there hm (z ▸ hp)) ex
  ·obtain⟨_,rfl,rfl⟩:=new e ea hi;exact r
theorem StoreOk.push {S:aa}{p:HR}{ws:HF W}{vs:HF V}(h:StoreOk wd K A H S)(hp:H p=td)(r:RelL K A H ws vs):StoreOk wd K (A++[p]) (cp H p (.lst vs)) (S++[.lst ws]):=
 h.pushO hp #[vs,bD,r.mono (ec hp)]
theorem StoreOk.writeO {S:aa}{i:HM}{p:HR}{o0 n:O}{u:HO}(h:StoreOk wd K A H S)(e:S[i]?=gV o0)(m0:o0.mut=true)(ea:A[i]?=gV p)(r:ObjRel wd K A (cp H p u) p n) :
  StoreOk wd K A (cp H p u) (S.set i n)/\Ext K A H A (cp H p u):=by
 have hw:Wr H p:=(h.obj i _ p e ea).wr m0;have ex:Ext K A H A (cp H p u):=dC hw;have hl:i < S.length:=(Ii.mp e).1;refine#[#[by simp[h.len],λj k a o u e1 m1 e2 m2 a1 a2=>?_,λj o a e1 a1=>?_],ex]
 ·have get:∀ {j:HM} {o:O},(S.set i n)[j]?=gV o->o.mut=true->∃o',S[j]?=gV o'/\o'.mut=true:=λ{j o} q m=>by
   rw[JT]at q
   by_cases z:i=j
   ·subst z; exact#[_,e,m0]
   ·rw[IH z]at q; exact#[o,q,m]
  obtain⟨o',x1,m1'⟩:=get e1 m1;obtain⟨u',x2,m2'⟩:=get e2 m2;exact h.nd j k a o' u' x1 m1' x2 m2' a1 a2
 ·rw[JT]at e1
  by_cases z:i=j
  ·subst z;rw[Iw rfl,Iw hl]at e1;cases e1;rw[ea]at a1; cases a1
   exact r
  ·rw[IH z]at e1;exact(h.obj j o a e1 a1).keep hw (λhm q=>z (h.nd i j p _ o e m0 e1 hm ea (q ▸ a1))) ex
theorem StoreOk.write {S:aa}{i:HM}{p:HR}{ws:HF W}{us:HF V}{ws0:HF W}(h:StoreOk wd K A H S)(e:S[i]?=gV (.lst ws0))(ea:A[i]?=gV p)(r:RelL K A H ws us) :
  StoreOk wd K A (cp H p (.lst us)) (S.set i (.lst ws))/\Ext K A H A (cp H p (.lst us)):=
 h.writeO e rfl ea #[us,bD,r.mono (dC ((h.obj i _ p e ea).wr rfl))]
end
noncomputable def g8 (S:aa)(i:HM):HL (HF W):=match S[i]? with
 | some (.lst xs)=>gV xs
 | some (.fro xs)=>gV xs
 | _=>td
noncomputable def pj (S:aa)(i:HM):HL (HF W):=match S[i]? with
 | some (.lst xs)=>gV xs
 | _=>td
noncomputable def lL (S:aa)(xs:HF W):HL (W×aa):=if xs.length<=sizeLine then gV (.ref S.length,S++[.lst xs])else td
noncomputable def rq (S:aa)(xs:HF W):HL (W×aa):=if xs.length<=sizeLine then gV (.tup xs,S)else td
noncomputable def zC (j:Ig):Iy:=decide (0 < j)&&decide (j < 1073741824)
noncomputable def uH (i j:Ig):Iy:=(decide (-(2 ^ 64) < i)&&decide (i < 2 ^ 64))||(decide (-(2 ^ 64) < j)&&decide (j < 2 ^ 64))
noncomputable def EE (i j:Ig):Iy:=decide (0<=j)&&decide (j<=1000000)&&decide (i.natAbs < 2 ^ 64)
inductive BOp where|add|sub|mul|fdiv|mod|pow
 deriving KO
noncomputable def yU (c:Ig->Ig->Iy)(f:Ig->Ig->Ig)(x y:W)(S:aa):HL (W×aa):=match x,y with
 | .int i,.int j=>if c i j then gV (.int (f i j),S)else td
 | _,_=>td
noncomputable def wn (x y:W)(S:aa):HL (W×aa):=match x with
 | .int i=>match y with
  | .int j=>gV (.int (i+j),S)
  | _=>td
 | .str x=>match y with
  | .str y=>if x.length+y.length<=sizeLine then gV (.str (x++y),S)else td
  | _=>td
 | .tup xs=>match y with
  | .tup ys=>rq S (xs++ys)
  | _=>td
 | .ref i=>match y with
  | .ref j=>match pj S i,pj S j with
   | some xs,gV ys=>lL S (xs++ys)
   | _,_=>td
  | _=>td
 | _=>td
noncomputable def zD (x y:W)(S:aa):HL (W×aa):=match x with
 | .str x=>match y with
  | .int k=>if k < 2 ^ 24/\-(2 ^ 24)<=k/\x.length*k.toNat<=sizeLine then gV (.str (P8 x k),S)else td
  | _=>td
 | .ref i=>match y with
  | .int k=>match pj S i with
   | some xs=>if k < 2 ^ 24/\-(2 ^ 24)<=k/\xs.length*k.toNat<=sizeLine then lL S (IJ k.toNat xs).flatten else td
   | none=>td
  | _=>td
 | x=>yU uH (· * ·) x y S
noncomputable def ip:BOp->W->W->aa->HL (W×aa)
 | .add,x,y,S=>wn x y S
 | .sub,x,y,S=>yU (λ_ _=>true) (· - ·) x y S
 | .mul,x,y,S=>zD x y S
 | .fdiv,x,y,S=>yU (λ_ j=>zC j) (· / ·) x y S
 | .mod,x,y,S=>yU (λ_ j=>decide (0 < j)) (· % ·) x y S
 | .pow,x,y,S=>yU EE (λi j=>i ^ j.toNat) x y S
noncomputable def BOp.py:BOp->ND
 | .add=>.Add|.sub=>.Sub|.mul=>.Mult|.fdiv=>.FloorDiv|.mod=>.Mod|.pow=>.Pow
section
variable (X:Cx)
noncomputable def dQ (pins:HF (HR×JE))(σ:L2.St)(A:HF HR)(H:Hp)(S':aa)(w:W)(u:HH)(s':HK):Prop:=
 ∃v H' A',Inv X pins σ H' s'/\RelV v u/\Ext X.K A H A' H'/\StoreOk X.w X.K A' H' S'/\Rel X.K A' H' w v
noncomputable abbrev FE:=Fm->aa->HL (W×aa)
noncomputable def LOp (f:HH->HH->Ph HH)(g:W->W->aa->HL (W×aa)):Prop:=
 ∀(pins:HF (HR×JE)) (s:HK) (σ:L2.St) (H:Hp) (A:HF HR) (S:aa) (x y:W) (a b:V) (u v:HH) (w:W) (S':aa),Inv X pins σ H s->StoreOk X.w X.K A H S->
  Rel X.K A H x a->RelV a u->Rel X.K A H y b->RelV b v->g x y S=gV (w,S')->wpAny (model X.prog X.w) X.A (f u v) (dQ X pins σ A H S' w) X.xe s
end
section
variable{X:Cx}
theorem kE {S:aa}{i:HM}{xs:HF W}(h:pj S i=gV xs):S[i]?=gV (.lst xs):=by
 unfold pj at h;split at h
 ·cases h; assumption
 ·cases h
theorem eP {A:HF HR}{H:Hp}{S:aa}{i:HM}{xs:HF W}{a:HR}(so:StoreOk X.w X.K A H S)(h:pj S i=gV xs)(ea:A[i]?=gV a):∃vs,H a=gV (.lst vs)/\RelL X.K A H xs vs:=
 so.obj i _ a (kE h) ea
theorem cW {A:HF HR}{H:Hp}{S:aa}{i:HM}{xs:HF W}{a:HR}(so:StoreOk X.w X.K A H S)(h:g8 S i=gV xs)(ea:A[i]?=gV a):∃vs,SqL X.K H a vs/\RelL X.K A H xs vs:=by
 unfold g8 at h;split at h
 ·cases h;obtain⟨vs,q,r⟩:=so.obj i _ a (by assumption) ea
  exact#[vs,.of q,r]
 ·cases h;obtain⟨vs,q,r⟩:=so.obj i _ a (by assumption) ea
  exact#[vs,q.sq,r]
 ·cases h
theorem ke {S S':aa}{xs:HF W}{w:W}(h:lL S xs=gV (w,S')):xs.length<=sizeLine/\w=.ref S.length/\S'=S++[.lst xs]:=by
 unfold lL at h;split at h
 ·cases h; exact#[by assumption,rfl,rfl]
 ·cases h
theorem sG {S S':aa}{xs:HF W}{w:W}(h:rq S xs=gV (w,S')):xs.length<=sizeLine/\w=.tup xs/\S'=S:=by
 unfold rq at h;split at h
 ·cases h; exact#[by assumption,rfl,rfl]
 ·cases h
theorem zE {A:HF HR}{H:Hp}{S:aa}{ws:HF W}{vs:HF V}{Q:VK}{p:HR}(so:StoreOk X.w X.K A H S)(r:RelL X.K A H ws vs)(hp:H p=td)
  (q:∀v H' A',Ext X.K A H A' H'->StoreOk X.w X.K A' H' (S++[.lst ws])->Rel X.K A' H' (.ref S.length) v->Q v H'):Q (.ref p) (cp H p (.lst vs)):=
 q _ _ (A++[p]) (ec hp) (so.push hp r) (.ref (by rw[<- so.len]; simp))
theorem zF {A:HF HR}{H:Hp}{S:aa}{ws:HF W}{vs:HF V}{Q:VK}{p:HR}(so:StoreOk X.w X.K A H S)(r:RelL X.K A H ws vs)(hp:H p=td)
  (q:∀v H' A',Ext X.K A H A' H'->StoreOk X.w X.K A' H' S->Rel X.K A' H' (.tup ws) v->Q v H'):Q (.ref p) (cp H p (.tup vs)):=
 q _ _ A (dC (.inl hp)) (so.lay hp) (.tup (.of bD) (r.mono (dC (.inl hp))))
noncomputable def EF (K:HW):R2:=λx y H Q=>∃a b xs ys,x=.ref a/\y=.ref b/\SqT K H a xs/\SqT K H b ys/\xs.length+ys.length<=sizeLine/\
 (xs=[]->Q (.ref b) H)/\(ys=[]->Q (.ref a) H)/\(∀p,H p=td->Q (.ref p) (cp H p (.tup (xs++ys))))
theorem zG:OpR X (binaryOp .Add) (EF X.K):=by
 intro pins s σ H x y v u Q I rx ry h;obtain⟨a,b,xs,ys,rfl,rfl,ha,hb,hz,q0,q1,q2⟩:=h;cases rx;cases ry;obtain⟨its,r1,p1,_⟩:=I.tuple ha;obtain⟨its2,r2,p2,_⟩:=I.tuple hb
 by_cases hx:xs=[]
 ·obtain⟨⟨cls,dd,data,sl⟩,ho,hc,n,hd⟩:=id p1;obtain⟨⟨cls2,dd2,data2,sl2⟩,ho2,hc2,n2,hd2⟩:=id p2;simp only at hc hd hc2 hd2;subst hc hd hc2 hd2;exact NG #[_,ho,rfl] #[_,ho2,rfl] Ml Nb Lk Lg (K9 _ _)
   (tuple_addW0 a b its.toArray its2.toArray n n2 dd dd2 sl sl2 (by simp[r1.nil_iff.mpr hx])) #[ho,ho2,#[.ref b,H,I,rfl,q0 hx]]
 ·refine HT.zq p1 p2 (λz=>hx (r1.nil_iff.mp z)) (λz=>#[.ref a,H,I,rfl,q1 (r2.nil_iff.mp z)]) (λz=>?_) (by rw[<- r1.length,<- r2.length]; exact hz)
  refine#[.ref s.heap.objs.size,_,I.laid (t':=s.toks) (o:=.tup (xs++ys)) (λb ob q=>HP _ q) (HZ _) ?_,rfl,q2 _ (I.hok.fresh (HZ _))]
  exact#[by rw[HQ]; exact hz,_,r1.append r2,NZ _ _]
theorem RelL.nil_iff {K:HW}{A:HF HR}{H:Hp}{ws:HF W}{vs:HF V}(r:RelL K A H ws vs):vs=[]↔ws=[]:=by
 cases r <;> simp
theorem rs:OpR X (binaryOp .Mult) (λx y H Q=>∃z k,x=.str z/\y=.int k/\MulOk z k/\Q (.str (P8 z k)) H):=by
 intro pins s σ H x y v u Q I rx ry h;obtain⟨z,k,rfl,rfl,ok,q⟩:=h;obtain⟨t,rfl⟩:=rx;obtain⟨t',rfl⟩:=ry;exact SB.mul ok λt2 k2=>#[.str _,H,I.tok _,#[_,rfl],q]
theorem wo {x:Ik}{k:Ig}(h1:k < 16777216)(h2 : -16777216<=k)(h3:x.length*k.toNat<=sizeLine):MulOk x k:=by
 have hs:sizeLine=16777216:=Je;rw[hs]at h3;refine#[?_,λa b=>?_,λ_ _=>?_]
 ·rw[Bool.or_eq_false_iff];exact#[IF ∅,IF ∅]
 ·have hk:0 < k:=∅
  have e:(x.length:Ig)*k=((x.length*k.toNat:HM):Ig):=by
   rw[Int.natCast_mul,M5 ∅]
  intro hgt;have h4:(2 ^ 63 - 1:Ig) < (x.length:Ig)*k:=(Int.ediv_lt_iff_lt_mul hk).mp hgt;rw[e]at h4;generalize x.length*k.toNat=z at h3 h4;omega
 ·unfold OP;rw[hs];exact IF ∅
noncomputable def EndV (wd:IP)(K:HW)(A:HF HR)(H:Hp)(S':aa)(w:W):VK:=λv H'=>∃A',Ext K A H A' H'/\StoreOk wd K A' H' S'/\Rel K A' H' w v
theorem EndV.here {A:HF HR}{H:Hp}{S:aa}{w:W}{v:V}(so:StoreOk X.w X.K A H S)(r:Rel X.K A H w v):EndV X.w X.K A H S w v H:=#[A,.refl,so,r]
theorem EndV.lst {A:HF HR}{H:Hp}{S:aa}{ws:HF W}{vs:HF V}{p:HR}(so:StoreOk X.w X.K A H S)(r:RelL X.K A H ws vs)(hp:H p=td):EndV X.w X.K A H (S++[.lst ws]) (.ref S.length) (.ref p) (cp H p (.lst vs)):=
 zE (Q:=EndV X.w X.K A H (S++[.lst ws]) (.ref S.length)) so r hp λv H' A' a b c=>#[A',a,b,c]
theorem EndV.tup {A:HF HR}{H:Hp}{S:aa}{ws:HF W}{vs:HF V}{p:HR}(so:StoreOk X.w X.K A H S)(r:RelL X.K A H ws vs)(hp:H p=td):EndV X.w X.K A H S (.tup ws) (.ref p) (cp H p (.tup vs)):=
 zF (Q:=EndV X.w X.K A H S (.tup ws)) so r hp λv H' A' a b c=>#[A',a,b,c]
theorem EP.post {pins:HF (HR×JE)}{σ:L2.St}{A:HF HR}{H:Hp}{S':aa}{w:W}{u:HH}{s':HK}(h:EP X pins σ (EndV X.w X.K A H S' w) u s'):dQ X pins σ A H S' w u s':=by
 obtain⟨v,H',I',r,A',x,y,z⟩:=h;exact#[v,H',A',I',r,x,y,z]
theorem OpR.go {f:HH->HH->Ph HH}{r:R2}(h:OpR X f r){pins:HF (HR×JE)}{σ:L2.St}{A:HF HR}{H:Hp}{S':aa}{w:W}{s:HK}{a b:V}{u v:HH}(I:Inv X pins σ H s)(ru:RelV a u)(rv:RelV b v)
  (q:r a b H (EndV X.w X.K A H S' w)):wpAny (model X.prog X.w) X.A (f u v) (dQ X pins σ A H S' w) X.xe s:=b9 (h pins s σ H a b u v _ I ru rv q) λ_ _=>EP.post
theorem zH:LOp X (binaryOp .Add) (ip .add):=by
 intro pins s σ H A S x y a b u v w S' I so rx ru ry rv e;cases rx with
 | int=>cases ry with
  | int=>cases e; exact OpR.go Cn I ru rv #[_,_,rfl,rfl,.here so .int]
  | _=>cases e
 | str=>cases ry with
  | str=>
   simp only[ip,wn]at e;split at e
   ·cases e; exact OpR.go rf I ru rv #[_,_,rfl,rfl,by assumption,.here so .str]
   ·cases e
  | _=>cases e
 | tup h1 r1=>cases ry with
  | tup h2 r2=>
   obtain⟨hl,rfl,rfl⟩:=sG (show rq S _=_ from e)
   rw[HQ,r1.length,r2.length]at hl;refine OpR.go zG I ru rv #[_,_,_,_,rfl,rfl,h1,h2,hl,λz=>?_,λz=>?_,λp hp=>.tup so (r1.append r2) hp]
   ·have z':=r1.nil_iff.mp z;subst z';exact .here so (.tup h2 r2)
   ·have z':=r2.nil_iff.mp z;subst z';rw[JJ];exact .here so (.tup h1 r1)
  | _=>cases e
 | ref h1=>cases ry with
  | ref h2=>
   simp only[ip,wn]at e;split at e
   ·obtain⟨hl,rfl,rfl⟩:=ke e;obtain⟨vs,q1,r1⟩:=eP so (by assumption) h1
    obtain⟨us,q2,r2⟩:=eP so (by assumption) h2
    rw[HQ,r1.length,r2.length]at hl;exact OpR.go CF I ru rv #[_,_,_,_,rfl,rfl,q1,q2,hl,λp hp=>.lst so (r1.append r2) hp]
   ·cases e
  | _=>cases e
 | _=>cases e
theorem pE {f:HH->HH->Ph HH}{c:Ig->Ig->Iy}{g:Ig->Ig->Ig}{r:R2}(h:OpR X f r)(hr:∀i j H Q,c i j=true->Q (.int (g i j)) H->r (.int i) (.int j) H Q):LOp X f (yU c g):=by
 intro pins s σ H A S x y a b u v w S' I so rx ru ry rv e;cases rx with
 | int=>cases ry with
  | int=>
   unfold yU at e;dsimp only at e;split at e
   ·cases e; exact OpR.go h I ru rv (hr _ _ _ _ (by assumption) (.here so .int))
   ·cases e
  | _=>cases e
 | _=>cases e
theorem zI:LOp X (binaryOp .Sub) (ip .sub):=pE Co λ_ _ _ _ _ q=>#[_,_,rfl,rfl,q]
theorem zJ {i j:Ig}(h:uH i j=true):CMul i j:=by
 unfold uH at h;rw[J4,HN,HN,Ix,Ix,Ix,Ix]at h;exact h
theorem zK:LOp X (binaryOp .Mult) (ip .mul):=by
 have hI:LOp X (binaryOp .Mult) (yU uH (· * ·)):=pE Cp λ_ _ _ _ h q=>#[_,_,rfl,rfl,zJ h,q]
 intro pins s σ H A S x y a b u v w S' I so rx ru ry rv e;cases x with
 | str z=>
  cases rx with
  | str=>cases ry with
   | int=>
    simp only[ip,zD]at e;split at e
    ·rename_i hc;cases e; exact OpR.go rs I ru rv #[_,_,rfl,rfl,wo ∅ ∅ hc.2.2,.here so .str]
    ·cases e
   | _=>cases e
 | ref z=>
  cases rx with
  | ref h1=>cases ry with
   | int=>
    simp only[ip,zD]at e;split at e
    ·split at e
     ·rename_i hc;obtain⟨hl,rfl,rfl⟩:=ke e;obtain⟨vs,q1,r1⟩:=eP so (by assumption) h1
      rw[r1.length]at hc;exact OpR.go CG I ru rv #[_,_,_,rfl,rfl,q1,∅,∅,hc.2.2,λp hp=>.lst so (r1.rep _) hp]
     ·cases e
    ·cases e
   | _=>cases e
 | _=>exact hI _ _ _ _ _ _ _ _ _ _ _ _ _ _ I so rx ru ry rv e
theorem wp:LOp X (binaryOp .FloorDiv) (ip .fdiv):=pE zj λ_ _ _ _ h q=>#[_,_,rfl,rfl,by
 unfold zC at h;rw[HN,Ix,Ix]at h;exact h,q]
theorem zL:LOp X (binaryOp .Mod) (ip .mod):=pE Cq λ_ _ _ _ h q=>#[_,_,rfl,rfl,Jg h,q]
theorem zM:LOp X (binaryOp .Pow) (ip .pow):=pE Cr λ_ _ _ _ h q=>#[_,_,rfl,rfl,by
 unfold EE at h;rw[HN,HN,Ix,Ix,Ix]at h;exact#[h.1.1,h.1.2,h.2],q]
theorem sH (o:BOp):LOp X (binaryOp o.py) (ip o):=by
 cases o
 ·exact zH
 ·exact zI
 ·exact zK
 ·exact wp
 ·exact zL
 ·exact zM
end
noncomputable def jY (f:W->W->HL Iy):HF W->HF W->HL Iy
 | [],[]=>gV true
 | [],_::_=>gV false
 | _::_,[]=>gV false
 | x::xs,y::ys=>match f x y,jY f xs ys with
  | some a,gV b=>gV (a&&b)
  | _,_=>td
noncomputable def b2 (b:Iy):Ig:=if b then 1 else 0
noncomputable def jL (S:aa):HM->W->W->HL Iy
 | _,.non,y=>match y with
  | .non=>gV true
  | _=>td
 | _,.bl a,y=>match y with
  | .bl b=>gV (a==b)
  | _=>td
 | _,.int a,y=>match y with
  | .int b=>gV (a==b)
  | _=>td
 | _,.str a,y=>match y with
  | .str b=>gV (a==b)
  | _=>td
 | 0,_,_=>td
 | d+1,.tup xs,y=>match y with
  | .tup ys=>jY (jL S d) xs ys
  | _=>td
 | d+1,.ref i,y=>match y with
  | .ref j=>match pj S i,pj S j with
   | some xs,gV ys=>if xs.length=ys.length then jY (jL S d) xs ys else gV false
   | _,_=>td
  | _=>td
section
variable{X:Cx}{pins:HF (HR×JE)}{σ:L2.St}{H:Hp}{s:HK}{A:HF HR}{S:aa}
noncomputable def RU (K:HW)(A:HF HR)(H:Hp)(w:W)(u:HH):Prop:=∃v,Rel K A H w v/\RelV v u
theorem sI {ws:HF W}{vs:HF V}{us:HF HH}(r:RelL X.K A H ws vs)(q:Vals vs us):∀(j:HM) (h1:j < ws.length) (h2:j < us.length),RU X.K A H ws[j] us[j]:=by
 induction ws generalizing vs us with
 | nil=>intro j h1; simp at h1
 | cons w ws ih=>
  cases r with
  | cons r1 rr=>
   cases q with
   | cons q1 qq=>
    intro j h1 h2;cases j with
    | zero=>exact#[_,r1,q1]
    | succ j=>exact ih rr qq j (by simpa using h1) (by simpa using h2)
theorem wq {ws:HF W}{u:HH}(I:Inv X pins σ H s)(h:RU X.K A H (.tup ws) u):∃a its,u=.ref a/\Nz s.heap a its/\its.size=ws.length/\ws.length<=sizeLine/\∀(j:HM) (h1:j < ws.length) (h2:j < its.size),RU X.K A H ws[j] its[j]:=by
 obtain⟨v,r,q⟩:=h;cases r with
 | tup sq rl=>
  obtain⟨its,rv,ht,hz⟩:=I.tuple sq;refine#[_,its.toArray,q,ht,by rw[Ih,<- rv.length,rl.length],by rw[rl.length]; exact hz,λj h1 h2=>?_]
  have:=sI rl rv j h1 (by simpa using h2)
  simpa using this
theorem wt {i:HM}{ws:HF W}{u:HH}(I:Inv X pins σ H s)(so:StoreOk X.w X.K A H S)(e:pj S i=gV ws)(h:RU X.K A H (.ref i) u):∃a its,u=.ref a/\A[i]?=gV a/\s.heap.IsList a its/\its.size=ws.length/\ws.length<=sizeLine/\∀(j:HM) (h1:j < ws.length) (h2:j < its.size),RU X.K A H ws[j] its[j]:=by
 obtain⟨v,r,q⟩:=h;cases r with
 | ref ea=>
  obtain⟨vs,hq,rl⟩:=eP so e ea;obtain⟨its,rv,ht,hz⟩:=I.list (.of hq);refine#[_,its.toArray,q,ea,ht.isList,by rw[Ih,<- rv.length,rl.length],by rw[rl.length]; exact hz,λj h1 h2=>?_]
  have:=sI rl rv j h1 (by simpa using h2)
  simpa using this
theorem kF {f:W->W->HL Iy}:∀ {xs ys:HF W} {k:Iy},jY f xs ys=gV k->∃e:HM->Iy,(∀(j:HM) (h1:j < xs.length) (h2:j < ys.length),f xs[j] ys[j]=gV (e j))/\
  k=((Im (min xs.length ys.length)).all e&&xs.length==ys.length)
 | [],[],k,h=>#[λ_=>true,λj h1=>by simp at h1,by cases h; rfl]
 | [],_::_,k,h=>#[λ_=>true,λj h1=>by simp at h1,by cases h; simp]
 | _::_,[],k,h=>#[λ_=>true,λj h1 h2=>by simp at h2,by cases h; simp]
 | x::xs,y::ys,k,h=>by
  simp only[jY]at h;split at h
  ·rename_i a b ha hb;cases h;obtain⟨e,h1,h2⟩:=kF hb;refine#[λj=>match j with|0=>a|j+1=>e j,λj hj1 hj2=>?_,?_]
   ·cases j with
    | zero=>exact ha
    | succ j=>exact h1 j (by simpa using hj1) (by simpa using hj2)
   ·subst h2;simp only[IW,Nat.add_min_add_right,Mt,Jd,Pd,Bool.and_assoc];congr 2;simp
  ·cases h
theorem zN (I:Inv X pins σ H s)(so:StoreOk X.w X.K A H S):∀(d:HM) {x y:W} {v:V} {k:Iy},Rel X.K A H x v->Rel X.K A H y v->jL S d x y=gV k->k=true:=by
 intro d
 induction d with
 | zero=>
  intro x y v k rx ry e;cases rx with
  | non=>cases ry; cases e; rfl
  | bl=>cases ry; cases e; exact Jh _
  | int=>cases ry; cases e; exact Jh _
  | str=>cases ry; cases e; exact Jh _
  | tup _ _=>cases e
  | ref _=>cases e
 | succ d ih=>
  have lists:∀ {xs ys:HF W} {vs:HF V} {k:Iy},RelL X.K A H xs vs->RelL X.K A H ys vs->jY (jL S d) xs ys=gV k->k=true:=by
   intro xs
   induction xs with
   | nil=>
    intro ys vs k r1 r2 e;cases r1; cases r2; cases e; rfl
   | cons x xs ihx=>
    intro ys vs k r1 r2 e;cases r1 with
    | cons p1 q1=>
     cases r2 with
     | cons p2 q2=>
      simp only[jY]at e;split at e
      ·rename_i a b ha hb;cases e;rw[ih p1 p2 ha,ihx q1 q2 hb];rfl
      ·cases e
  intro x y v k rx ry e;cases rx with
  | non=>cases ry; cases e; rfl
  | bl=>cases ry; cases e; exact Jh _
  | int=>cases ry; cases e; exact Jh _
  | str=>cases ry; cases e; exact Jh _
  | tup h1 r1=>
   cases ry with
   | tup h2 r2=>
    rw[I.tuple_inj h1 h2]at r1;exact lists r1 r2 e
   | ref ea=>cases e
  | ref ea=>
   cases ry with
   | tup h2 r2=>cases e
   | ref eb=>
    simp only[jL]at e;split at e
    ·rename_i xs ys hx hy;have:=so.nd _ _ _ _ _ (kE hx) rfl (kE hy) rfl ea eb;subst this;rw[hx]at hy; cases hy
     rw[Iw rfl]at e;obtain⟨vs,q,r⟩:=eP so hx ea;exact lists r r e
    ·cases e
theorem bQ (A:IL):A.in1.units=A.units+1:=rfl
noncomputable abbrev DT (B:IL)(s:HK)(u v:HH)(k:Iy):Prop:=SeqAt.RcAt B s u v k/\SeqAt.RcNeAt B s u v (!k)/\Lu B s u v k
open SeqAt in
theorem By (I:Inv X pins σ H s)(so:StoreOk X.w X.K A H S):∀(d:HM) (B:IL) {x y:W} {u v:HH} {k:Iy},B.units+d < cLine->RU X.K A H x u->RU X.K A H y v->jL S d x y=gV k->DT B s u v k:=by
 have non:∀ {B:IL} {y:W} {u v:HH} {k:Iy} {d:HM},RU X.K A H .non u->RU X.K A H y v->jL S d .non y=gV k->DT B s u v k:=by
  intro B y u v k d ⟨_,rx,ra⟩ ⟨_,ry,rb⟩ e;cases rx;cases(show u=Ji from ra)
  cases y with
  | non=>
   have e:gV (true)=gV k:=by cases d <;> exact e
   cases e;cases ry;cases(show v=Ji from rb)
   exact#[.none_none,.none_none,.same _]
  | _=>cases d <;> cases e
 have bl:∀ {B:IL} {b:Iy} {y:W} {u v:HH} {k:Iy} {d:HM},RU X.K A H (.bl b) u->RU X.K A H y v->jL S d (.bl b) y=gV k->DT B s u v k:=by
  intro B b y u v k d ⟨_,rx,ra⟩ ⟨_,ry,rb⟩ e;cases rx;cases(show u=KP _ from ra)
  cases y with
  | bl c=>
   have e:gV (b==c)=gV k:=by cases d <;> exact e
   cases e;cases ry;cases(show v=KP _ from rb)
   exact#[.bool_bool _ _,.bool_bool _ _,.bool_bool _ _]
  | _=>cases d <;> cases e
 have int:∀ {B:IL} {b:Ig} {y:W} {u v:HH} {k:Iy} {d:HM},RU X.K A H (.int b) u->RU X.K A H y v->jL S d (.int b) y=gV k->DT B s u v k:=by
  intro B b y u v k d ⟨_,rx,ra⟩ ⟨_,ry,rb⟩ e;cases rx;obtain⟨t0,rfl⟩ : ∃t,u=Mk _ t:=ra;cases y with
  | int c=>
   have e:gV (b==c)=gV k:=by cases d <;> exact e
   cases e;cases ry;obtain⟨t,rfl⟩ : ∃t,v=Mk _ t:=rb;exact#[.int_int _ _ _ _,.int_int _ _ _ _,.int_int _ _ _ _]
  | _=>cases d <;> cases e
 have str:∀ {B:IL} {b:Ik} {y:W} {u v:HH} {k:Iy} {d:HM},RU X.K A H (.str b) u->RU X.K A H y v->jL S d (.str b) y=gV k->DT B s u v k:=by
  intro B b y u v k d ⟨_,rx,ra⟩ ⟨_,ry,rb⟩ e;cases rx;obtain⟨t0,rfl⟩ : ∃t,u=Ls _ t:=ra;cases y with
  | str c=>
   have e:gV (b==c)=gV k:=by cases d <;> exact e
   cases e;cases ry;obtain⟨t,rfl⟩ : ∃t,v=Ls _ t:=rb;exact#[.str_str _ _ _ _,.str_str _ _ _ _,.str_str _ _ _ _]
  | _=>cases d <;> cases e
 intro d
 induction d with
 | zero=>
  intro B x y u v k hu rx ry e;cases x with
  | non=>exact non rx ry e
  | bl b=>exact bl rx ry e
  | int b=>exact int rx ry e
  | str b=>exact str rx ry e
  | _=>cases e
 | succ d ih=>
  intro B x y u v k hu rx ry e;have hu0:B.units < cLine:=∅
  have hu1:B.in1.units+d < cLine:=by rw[bQ]; omega
  have rx0:=rx;have ry0:=ry;have fin:∀ {a b:HR},u=.ref a->v=.ref b->RcAt B s u v k->RcNeAt B s u v (!k)->DT B s u v k:=by
   intro a b ea eb h1 h2;subst ea eb;refine#[h1,h2,?_]
   by_cases hab:a=b
   ·subst hab;obtain⟨v1,q1,z1⟩:=rx0;obtain⟨v2,q2,z2⟩:=ry0;have e12:v1=v2:=z1.inj z2;subst e12;have:=zN I so (d+1) q1 q2 e;subst this;exact EqAt.same _
   ·exact EqAt.of_refs hab h1
  cases x with
  | non=>exact non rx ry e
  | bl b=>exact bl rx ry e
  | int b=>exact int rx ry e
  | str b=>exact str rx ry e
  | tup xs=>
   cases y with
   | tup ys=>
    obtain⟨a,its,rfl,ht,hs,_,hi⟩:=wq I rx;obtain⟨b,its2,rfl,ht2,hs2,_,hi2⟩:=wq I ry;obtain⟨f,h1,h2⟩:=kF (show jY (jL S d) xs ys=gV k from e)
    have he:∀j (h1:j < its.size) (h2:j < its2.size),EqAt B.in1 s its[j] its2[j] (f j):=λj j1 j2=>
     (ih B.in1 hu1 (hi j (hs ▸ j1) j1) (hi2 j (hs2 ▸ j2) j2) (h1 j (hs ▸ j1) (hs2 ▸ j2))).2.2
    rw[<- hs,<- hs2]at h2;subst h2;exact fin rfl rfl (RcAt.tuples ht ht2 hu0 he) (RcNeAt.tuples ht ht2 hu0 he)
   | _=>cases e
  | ref i=>
   cases y with
   | ref j=>
    simp only[jL]at e;split at e
    ·rename_i ws ws2 hw hw2;obtain⟨a,its,rfl,_,hl,hs,_,hi⟩:=wt I so hw rx;obtain⟨b,its2,rfl,_,hl2,hs2,_,hi2⟩:=wt I so hw2 ry;split at e
     ·rename_i hlen;obtain⟨f,h1,h2⟩:=kF e;have he:∀j (h1:j < its.size) (h2:j < its2.size),EqAt B.in1 s its[j] its2[j] (f j):=λj j1 j2=>
       (ih B.in1 hu1 (hi j (hs ▸ j1) j1) (hi2 j (hs2 ▸ j2) j2) (h1 j (hs ▸ j1) (hs2 ▸ j2))).2.2
      have hk:k=(Im its.size).all f:=by rw[h2,hs,hlen]; simp
      subst hk;exact fin rfl rfl (RcAt.lists hl hl2 (by rw[hs,hs2,hlen]) hu0 he) (RcNeAt.lists hl hl2 (by rw[hs,hs2,hlen]) hu0 he)
     ·rename_i hlen;cases e;have hb:(its.size != its2.size)=true:=by rw[hs,hs2]; simpa using hlen
      exact fin rfl rfl (RcAt.lists_lengths hl hl2 hb hu0) (RcNeAt.lists_lengths hl hl2 hb hu0)
    ·cases e
   | _=>cases e
end
noncomputable def Bz (fe fl:W->W->HL Iy):HF W->HF W->HL Iy
 | [],[]=>gV false
 | [],_::_=>gV true
 | _::_,[]=>gV false
 | x::xs,y::ys=>match fe x y with
  | some true=>Bz fe fl xs ys
  | some false=>fl x y
  | none=>td
noncomputable def Hx (S:aa):HM->W->W->HL Iy
 | _,.int a,.int b=>gV (decide (a < b))
 | _,.str a,.str b=>gV (decide (a.cps.toList < b.cps.toList))
 | d+1,.tup xs,.tup ys=>Bz (jL S d) (Hx S d) xs ys
 | _,_,_=>td
noncomputable def LtAt (B:IL)(s:HK)(u v:HH)(k:Iy):Prop:=
 ∀(prog:IC) (w:IP) (E:HH->HK->Prop) (Q:HH->HK->Prop),Q (.bool k) s->wpAny (model prog w) B (richCompare .Lt u v) Q E s
inductive LexR (B:IL)(s:HK):HF HH->HF HH->Iy->Prop
 | nn:LexR B s [] [] false
 | nc {v:HH} {vs:HF HH}:LexR B s [] (v::vs) true
 | cn {v:HH} {vs:HF HH}:LexR B s (v::vs) [] false
 | eq {u v:HH} {us vs:HF HH} {k:Iy}:Lu B s u v true->LexR B s us vs k->LexR B s (u::us) (v::vs) k
 | ne {u v:HH} {us vs:HF HH} {k:Iy}:Lu B s u v false->LtAt B s u v k->LexR B s (u::us) (v::vs) k
section
open PySem.SeqAt
open PySem.AutoSeq1 (wpAny_loadPart')
open PySem.MeetsSeq PySem.MeetsSeq2 PySem.MeetsSeq3
theorem nG (l b:HR)(items items2:IY HH)(n n2:HM)(dd dd2:HL HR)(sl sl2:IY (HL HH))(k:Iy) :
  Meets (M2.«tuple.__lt__» #[[.ref l,.ref b],[]])
   (λB R s=>s.heap.get? l=gV { cls:=.type "tuple",dict:=dd,data:=.seq items n,slots:=sl }/\s.heap.get? b=gV { cls:=.type "tuple",dict:=dd2,data:=.seq items2 n2,slots:=sl2 }/\
    LexR B.in1 s items.toList items2.toList k/\R (.ok (.ret (.bool k))) s):=
 .of_wp λprog w A R s h=>by
  obtain⟨hp,g,d,tk,os⟩:=s; obtain⟨hl,hb,hx,h⟩:=h
  have f2:=OY;have z1:items.toList.length=items.size:=by simp
  have z2:items2.toList.length=items2.size:=by simp
  wp_walk using LD hl,LD hb,N6 _ (λdh b s'=>b.1=td/\s'=#[hp,g,d,tk,os]/\∃(vs ws:HF HH),dh=vs.zip ws/\
   LexR A.in1 #[hp,g,d,tk,os] vs ws k/\vs.length+items2.size=ws.length+items.size) _
  case turn=>
   rintro⟨y,x⟩ dh b s' ⟨hb',rfl,vs,ws,hz,hlx,hlen⟩;cases hlx with
   | nn=>rw[NN]at hz; cases hz
   | nc=>rw[NN]at hz; cases hz
   | cn=>rw[List.zip_nil_right]at hz; cases hz
   | eq he hr=>
    rw[KH]at hz;injection hz with hyx hrest
    injection hyx with hy hx
    subst hy hx;simp only[IW]at hlen;refine HG (he prog w _ _ ?_)
    wp_walk
    exact#[rfl,rfl,_,_,hrest,hr,∅]
   | ne he hr=>
    rw[KH]at hz;injection hz with hyx hrest
    injection hyx with hy hx
    subst hy hx;refine HG (he prog w _ _ ?_);have hri:=hr prog w
    wp_walk using hri
    exact#[_,rfl,by simpa using h]
  case fin=>
   rintro⟨b1,b2⟩ s' ⟨hb',rfl,vs,ws,hz,hlx,hlen⟩;simp only at hb';subst hb';have hv:k=decide (items.size < items2.size):=by
    cases hlx with
    | nn=>simp only[JK]at hlen; exact(IF ∅).symm
    | nc=>simp only[JK,IW]at hlen; exact(Jt ∅).symm
    | cn=>simp only[JK,IW]at hlen; exact(IF ∅).symm
    | eq _ _=>rw[KH]at hz; cases hz
    | ne _ _=>rw[KH]at hz; cases hz
   subst hv
   wp_walk
   exact#[_,rfl,by simpa [NW]using h]
  case h=>
   exact#[rfl,rfl,items.toList,items2.toList,rfl,hx,∅]
end
theorem LtAt.tuples {B:IL}{s:HK}{l b:HR}{items items2:IY HH}{k:Iy}(hl:Nz s.heap l items)(hb:Nz s.heap b items2)(hu:B.units < cLine)(hx:LexR B.in1 s items.toList items2.toList k) :
  LtAt B s (.ref l) (.ref b) k:=λprog w E Q h=>by
 obtain⟨⟨cls,dd,data,sl⟩,ho,hc,n,hd⟩:=id hl;obtain⟨⟨cls2,dd2,data2,sl2⟩,ho2,hc2,n2,hd2⟩:=id hb;simp only at hc hd hc2 hd2;subst hc hd hc2 hd2;exact richCompare_meets_room (op:=.Lt) #[_,ho,rfl] #[_,ho2,rfl] PySem.F.slot_tuple_lt PySem.F.entry_tuple_lt (PySem.F.args_tuple_lt_2 _ _) (nG l b items items2 n n2 dd dd2 sl sl2 k)
  #[ho,ho2,hx,show KP k≠Value.notImplemented/\Q (.bool k) s from#[(λx=>nomatch x),h]] hu
inductive COp where|eq|ne|lt|le|gt|ge|isin|notin|is|isnot
 deriving KO
noncomputable def COp.py:COp->O7
 | .eq=>.Eq|.ne=>.NotEq|.lt=>.Lt|.le=>.LtE|.gt=>.Gt|.ge=>.GtE|.isin=>.In|.notin=>.NotIn|.is=>.Is|.isnot=>.IsNot
noncomputable def cv:W->Iy
 | .non=>true
 | .bl _=>true
 | .int _=>true
 | .str _=>true
 | _=>false
noncomputable def yV:W->W->Iy
 | .non,.non=>true
 | .bl a,.bl b=>a==b
 | .bl a,.int b=>b2 a==b
 | .int a,.bl b=>a==b2 b
 | .int a,.int b=>a==b
 | .str a,.str b=>a==b
 | _,_=>false
noncomputable def fL (S:aa):W->HL (HF W)
 | .tup xs=>gV xs
 | .ref i=>g8 S i
 | _=>td
noncomputable abbrev g9:HM:=20
noncomputable def BA (x y:W)(S:aa):HL Iy:=match fL S y with
 | some ys=>if cv x&&ys.all cv then gV (ys.any λz=>yV z x)else td
 | none=>td
noncomputable def wu:W->Iy
 | .non=>true
 | _=>false
noncomputable def ww (f:Ig->Ig->Iy):W->W->HL Iy
 | .int i,.int j=>gV (f i j)
 | _,_=>td
noncomputable def DU:COp->W->W->aa->HL Iy
 | .eq,x,y,S=>jL S g9 x y
 | .ne,x,y,S=>(jL S g9 x y).map (!·)
 | .lt,x,y,_=>ww (λi j=>decide (i < j)) x y
 | .le,x,y,_=>ww (λi j=>decide (i<=j)) x y
 | .gt,x,y,_=>ww (λi j=>decide (j < i)) x y
 | .ge,x,y,_=>ww (λi j=>decide (j<=i)) x y
 | .isin,x,y,S=>BA x y S
 | .notin,x,y,S=>(BA x y S).map (!·)
 | .is,x,y,_=>if wu y then gV (wu x)else td
 | .isnot,x,y,_=>if wu y then gV (!wu x)else td
noncomputable def iq (o:COp)(x y:W)(S:aa):HL (W×aa):=(DU o x y S).map λk=>(.bl k,S)
section
variable{X:Cx}
theorem sJ {pins:HF (HR×JE)}{σ:L2.St}{H:Hp}{s:HK}{A:HF HR}{S:aa}{k:Iy}(I:Inv X pins σ H s)(so:StoreOk X.w X.K A H S):dQ X pins σ A H S (.bl k) (.bool k) s:=
 #[.bl k,H,A,I,rfl,.refl,so,.bl]
theorem zO {o:COp}{x y w:W}{S S':aa}(h:iq o x y S=gV (w,S')):∃k,DU o x y S=gV k/\w=.bl k/\S'=S:=by
 unfold iq at h;rw[HJ]at h;obtain⟨k,h1,h2⟩:=h;cases h2;exact#[k,h1,rfl,rfl]
theorem pG {A:HF HR}{H:Hp}{w:W}{v:V}(r:Rel X.K A H w v)(f:cv w=true):gQ v=true:=by
 cases r <;> first|rfl|cases f
theorem mF {A:HF HR}{H:Hp}:∀ {ws:HF W} {vs:HF V},RelL X.K A H ws vs->ws.all cv=true->vs.all gQ=true
 | _,_,.nil,_=>rfl
 | _,_,.cons r t,f=>by
  rw[Jd,HN]at f ⊢;exact#[pG r f.1,mF t f.2]
theorem zP {A:HF HR}{H:Hp}{x y:W}{u v:V}(r:Rel X.K A H x u)(q:Rel X.K A H y v)(fx:cv x=true)(fy:cv y=true):zx u v=yV x y:=by
 cases r <;> cases q <;> first|rfl|cases fx|cases fy
theorem sK {A:HF HR}{H:Hp}{y:W}{v:V}(q:Rel X.K A H y v)(fy:cv y=true):∀ {ws:HF W} {vs:HF V},RelL X.K A H ws vs->ws.all cv=true->FZ v vs=ws.any λz=>yV z y
 | _,_,.nil,_=>rfl
 | _,_,.cons r t,f=>by
  rw[Jd,HN]at f;have:=sK q fy t f.2;unfold FZ at this ⊢;rw[Kt,Kt,zP r q f.1 fy,this]
theorem nH {pins:HF (HR×JE)}{σ:L2.St}{H:Hp}{s:HK}{A:HF HR}{S:aa}{y:W}{b:V}{ys:HF W}(so:StoreOk X.w X.K A H S)(r:Rel X.K A H y b)(e:fL S y=gV ys):∃p vs,b=.ref p/\(SqL X.K H p vs\/SqT X.K H p vs)/\RelL X.K A H ys vs:=by
 cases r with
 | tup h1 r1=>cases e; exact#[_,_,rfl,.inr h1,r1]
 | ref ea=>
  obtain⟨vs,h1,r1⟩:=cW so e ea;exact#[_,vs,rfl,.inl h1,r1]
 | _=>cases e
theorem wx {neg:Iy}{o:O7}(ho:OpR X (compareOp o) (GB X.K neg)){pins:HF (HR×JE)}{σ:L2.St}{H:Hp}{s:HK}{A:HF HR}{S:aa}{x y:W}{a b:V}{u v:HH}{ys:HF W}(I:Inv X pins σ H s)(so:StoreOk X.w X.K A H S)
  (rx:Rel X.K A H x a) (ru:RelV a u) (ry:Rel X.K A H y b) (rv:RelV b v) (e:fL S y=gV ys) (f:(cv x&&ys.all cv)=true) :
  wpAny (model X.prog X.w) X.A (compareOp o u v) (dQ X pins σ A H S (.bl (if neg then !ys.any λz=>yV z x else ys.any λz=>yV z x))) X.xe s:=by
 obtain⟨p,vs,rfl,hq,rl⟩:=nH (pins:=pins) (σ:=σ) (s:=s) so ry e;rw[HN]at f;refine OpR.go ho I ru rv #[p,vs,rfl,hq,pG rx f.1,mF rl f.2,?_];rw[sK rx f.1 rl f.2];exact .here so .bl
theorem zQ (hu:X.A.units+g9 < cLine)(o:COp):LOp X (compareOp o.py) (iq o):=by
 intro pins s σ H A S x y a b u v w S' I so rx ru ry rv e;obtain⟨k,ek,e1,e2⟩:=zO e;subst e1;subst e2;clear e
 rename aa=>S
 have twoI:∀ {f:Ig->Ig->Iy},ww f x y=gV k->∃i j,x=.int i/\y=.int j/\k=f i j:=by
  intro f h;cases x with
  | int i=>cases y with
   | int j=>cases h; exact#[i,j,rfl,rfl,rfl]
   | _=>cases h
  | _=>cases h
 have hu1:X.A.units+1 < cLine:=by have:g9=20:=rfl; omega
 have ofSq:∀ {c:Iy},BA x y S=gV c->(∃ys,fL S y=gV ys/\(cv x&&ys.all cv)=true/\c=ys.any λz=>yV z x):=by
  intro c h;unfold BA at h;split at h
  ·split at h
   ·cases h; exact#[_,by assumption,by assumption,rfl]
   ·cases h
  ·cases h
 have ofN:∀ {c:Iy},(if wu y then gV c else td)=gV k->y=.non/\k=c:=by
  intro c h;cases y with
  | non=>cases h; exact#[rfl,rfl]
  | _=>cases h
 cases o with
 | eq=>exact(By I so g9 X.A hu #[a,rx,ru] #[b,ry,rv] ek).1 _ _ _ _ (sJ I so)
 | ne=>
  obtain⟨k',h1,rfl⟩:=HJ.mp ek;exact(By I so g9 X.A hu #[a,rx,ru] #[b,ry,rv] h1).2.1 _ _ _ _ (sJ I so)
 | lt=>
  obtain⟨i,j,rfl,rfl,rfl⟩:=twoI ek;cases rx; cases ry
  exact OpR.go Er I ru rv #[_,_,rfl,rfl,.here so .bl]
 | le=>
  obtain⟨i,j,rfl,rfl,rfl⟩:=twoI ek;cases rx; cases ry
  exact OpR.go Et I ru rv #[_,_,rfl,rfl,.here so .bl]
 | gt=>
  obtain⟨i,j,rfl,rfl,rfl⟩:=twoI ek;cases rx; cases ry
  exact OpR.go Eu I ru rv #[_,_,rfl,rfl,.here so .bl]
 | ge=>
  obtain⟨i,j,rfl,rfl,rfl⟩:=twoI ek;cases rx; cases ry
  exact OpR.go Ev I ru rv #[_,_,rfl,rfl,.here so .bl]
 | isin=>
  obtain⟨ys,h1,h2,rfl⟩:=ofSq ek;exact wx (neg:=false) uC I so rx ru ry rv h1 h2
 | notin=>
  obtain⟨c,h,rfl⟩:=HJ.mp ek;obtain⟨ys,h1,h2,rfl⟩:=ofSq h;exact wx (neg:=true) nD I so rx ru ry rv h1 h2
 | is=>
  obtain⟨rfl,rfl⟩:=ofN ek;cases ry;refine OpR.go Ct I ru rv #[rfl,?_];cases rx <;> exact .here so .bl
 | isnot=>
  obtain⟨rfl,rfl⟩:=ofN ek;cases ry;refine OpR.go zm I ru rv #[rfl,?_];cases rx <;> exact .here so .bl
end
end Mi
namespace HT
open PySem PyProof.Rows
section
variable{prog:IC}{w:IP}{A:IL}{E:HH->HK->Prop}{s:HK}
theorem gD {t sl:HR}{items:IY HH}{vl vu:HH}{lo hi:HL Ig}{Q:HH->HK->Prop}(ht:Nz s.heap t items)(hs:s.heap.IsSliceOf sl vl vu .none)(pl:LO vl lo)(pu:LO vu hi)
  (hw:cN items.size 0 lo=0/\cN items.size items.size hi=items.size) (h:Q (.ref t) s):wpAny (model prog w) A (getItem (.ref t) (.ref sl)) Q E s:=by
 obtain⟨os,hos,hcs,hds⟩:=id hs;have hTs:s.TypeIs (.ref sl) "slice":=#[os,hos,hcs];unfold getItem
 try with_reducible refine JC ?_
 first|refine HG (HU ?_)|skip
 refine HG (NH ht.typeIs #v[] ?_)
 refine HG (Jp (name:=J6 "__getitem__") ht.typeIs JV
  (Jv JV ht.typeIs M4 ?_ (No _ _)))
 show wpAny _ _ (KS (.ref t) >>= _) _ _ s;refine HG (OT ht ?_);refine HG (LI hTs ?_);rw[Iw #v[]]
 refine HG (eW hs pl pu ?_);have hyes:((((cN items.size 0 lo:HM):Ig)==0&&(1:Ig)==1&&(cN items.size items.size hi - cN items.size 0 lo)==items.size)=true):=by
  rw[hw.1,hw.2];simp
 show wpAny _ _ (if (((cN items.size 0 lo:HM):Ig)==0&&(1:Ig)==1&&(cN items.size items.size hi - cN items.size 0 lo)==items.size)=true then _ else _) _ _ s
 rw[Iw hyes];unfold OE;refine HG (HG (LI ht.typeIs (HU ?_)));rw[Iw #v[]]
 exact HG (Nl (HG (HU (HU #[_,rfl,HU h]))))
end
end HT
namespace Mi
open PySem PySem.Spec PyProof.Rows L2
noncomputable def uI (x y:W)(S:aa):HL (W×aa):=match x,y with
 | .tup xs,.int i=>(pz xs i).map λw=>(w,S)
 | .ref r,.int i=>match g8 S r with
  | some xs=>(pz xs i).map λw=>(w,S)
  | none=>td
 | .str x,.int i=>if x.length<=sizeLine then(pz x.cps.toList i).map λc=>(.str #[[c].toArray],S)else td
 | _,_=>td
noncomputable def iu (xs:HF W)(lo hi:HL Ig):HF W:=(xs.drop (HT.cN xs.length 0 lo)).take (HT.cN xs.length xs.length hi - HT.cN xs.length 0 lo)
noncomputable def nI (x:W)(lo hi:HL Ig)(S:aa):HL (W×aa):=match x with
 | .tup xs=>gV (.tup (iu xs lo hi),S)
 | .ref r=>match g8 S r with
  | some xs=>gV (.ref S.length,S++[.lst (iu xs lo hi)])
  | none=>td
 | _=>td
noncomputable def uJ (o i v:W)(S:aa):HL aa:=match o,i with
 | .ref r,.int k=>match pj S r with
  | some xs=>match sD xs.length k with
   | some j=>gV (S.set r (.lst (xs.set j v)))
   | none=>td
  | none=>td
 | _,_=>td
section
variable (X:Cx)
noncomputable def LIx (g:W->W->aa->HL (W×aa)):Prop:=
 ∀(value slice:Iv) (pins:HF (HR×JE)) (s:HK) (σ:L2.St) (H:Hp) (A:HF HR) (S:aa) (x y:W) (a b:V) (u v:HH) (w:W) (S':aa),Inv X pins σ H s->StoreOk X.w X.K A H S->
  Rel X.K A H x a->RelV a u->Rel X.K A H y b->RelV b v->g x y S=gV (w,S')->subscripted slice false u v=operate [u,v] (getItem u v)->wpAny (model X.prog X.w) X.A (subscriptTail value slice u v) (dQ X pins σ A H S' w) X.xe s
noncomputable def LSl (g:W->HL Ig->HL Ig->aa->HL (W×aa)):Prop:=
 ∀(pins:HF (HR×JE)) (s:HK) (σ:L2.St) (H:Hp) (A:HF HR) (S:aa) (x:W) (a:V) (v vl vu:HH) (lo hi:HL Ig) (sl:HR) (w:W) (S':aa),Inv X pins σ H s->StoreOk X.w X.K A H S->
  Rel X.K A H x a->RelV a v->s.heap.IsSliceOf sl vl vu .none->LO vl lo->LO vu hi->g x lo hi S=gV (w,S')->
  ∃T id,typeLookup (.type T) "__getitem__" = pure (gV (.builtin id))/\s.TypeIs v T/\wpAny (model X.prog X.w) X.A (getItem v (.ref sl)) (dQ X pins σ A H S' w) X.xe s
noncomputable def LSet (g:W->W->W->aa->HL aa):Prop:=
 ∀(pins:HF (HR×JE)) (s:HK) (σ:L2.St) (H:Hp) (A:HF HR) (S:aa) (o i x:W) (ao ai ax:V) (uo ui ux:HH) (S':aa),Inv X pins σ H s->StoreOk X.w X.K A H S->
  Rel X.K A H o ao->RelV ao uo->Rel X.K A H i ai->RelV ai ui->Rel X.K A H x ax->RelV ax ux->g o i x S=gV S'->
  wpAny (model X.prog X.w) X.A (setItem uo ui ux) (λ_ s'=>∃H' A',Inv X pins σ H' s'/\Ext X.K A H A' H'/\StoreOk X.w X.K A' H' S') X.xe s
noncomputable def LCall (f:HH)(g:HF W->aa->HL (W×aa)):Prop:=
 ∀(pins:HF (HR×JE)) (s:HK) (σ:L2.St) (H:Hp) (A:HF HR) (S:aa) (xs:HF W) (vs:HF V) (us:HF HH) (w:W) (S':aa),Inv X pins σ H s->StoreOk X.w X.K A H S->
  RelL X.K A H xs vs->Vals vs us->g xs S=gV (w,S')->wpAny (model X.prog X.w) X.A (call f us) (dQ X pins σ A H S' w) X.xe s
noncomputable def LMeth (id:Jr)(g:W->HF W->aa->HL (W×aa)):Prop:=
 ∀(pins:HF (HR×JE)) (s:HK) (σ:L2.St) (H:Hp) (A:HF HR) (S:aa) (x:W) (a:V) (u:HH) (xs:HF W) (vs:HF V) (us:HF HH) (w:W) (S':aa),Inv X pins σ H s->StoreOk X.w X.K A H S->
  Rel X.K A H x a->RelV a u->RelL X.K A H xs vs->Vals vs us->g x xs S=gV (w,S')->wpAny (model X.prog X.w) X.A (call (.builtin id) (u::us)) (dQ X pins σ A H S' w) X.xe s
end
section
variable{X:Cx}{pins:HF (HR×JE)}{σ:L2.St}{H:Hp}{s:HK}{A:HF HR}{S:aa}
theorem IxR.go {r:R2}(h:IxR X r){S':aa}{w:W}{a b:V}{u v:HH}{value slice:Iv}(I:Inv X pins σ H s)(ru:RelV a u)(rv:RelV b v)(q:r a b H (EndV X.w X.K A H S' w))(hs:subscripted slice false u v=operate [u,v] (getItem u v)) :
  wpAny (model X.prog X.w) X.A (subscriptTail value slice u v) (dQ X pins σ A H S' w) X.xe s:=b9 (h value slice pins s σ H a b u v _ I ru rv q hs) λ_ _=>EP.post
theorem CallR.go {f:HH}{r:HF V->Hp->VK->Prop}(h:CallR X f r){S':aa}{w:W}{vs:HF V}{us:HF HH}(I:Inv X pins σ H s)(rv:Vals vs us)(q:r vs H (EndV X.w X.K A H S' w)) :
  wpAny (model X.prog X.w) X.A (call f us) (dQ X pins σ A H S' w) X.xe s:=b9 (h pins s σ H vs us _ I rv q) λ_ _=>EP.post
theorem MtR.go {id:Jr}{r:V->HF V->Hp->VK->Prop}(h:MtR X id r){S':aa}{w:W}{a:V}{u:HH}{vs:HF V}{us:HF HH}(I:Inv X pins σ H s)(ru:RelV a u)(rv:Vals vs us)(q:r a vs H (EndV X.w X.K A H S' w)) :
  wpAny (model X.prog X.w) X.A (call (.builtin id) (u::us)) (dQ X pins σ A H S' w) X.xe s:=b9 (h pins s σ H a vs u us _ I ru rv q) λ_ _=>EP.post
theorem sL {xs:HF W}{vs:HF V}{i:Ig}{w:W}(r:RelL X.K A H xs vs)(e:pz xs i=gV w):∃v,pz vs i=gV v/\Rel X.K A H w v:=by
 unfold pz at e ⊢;rw[r.length]at e;cases q:sD vs.length i with
 | none=>rw[q]at e; cases e
 | some j=>
  rw[q]at e;obtain⟨v,h1,h2⟩:=r.get (show xs[j]?=gV w from e)
  exact#[v,h1,h2]
theorem Hy (hu:X.A.units+10 < cLine):LIx X uI:=by
 intro value slice pins s σ H A S x y a b u v w S' I so rx ru ry rv e hs;cases rx with
 | tup h1 r1=>cases ry with
  | int=>
   simp only[uI,HJ]at e;obtain⟨w',e1,e2⟩:=e;cases e2;obtain⟨z,h2,r2⟩:=sL r1 e1;exact IxR.go CA I ru rv #[_,_,_,_,rfl,rfl,h1,h2,.here so r2] hs
  | _=>cases e
 | ref ea=>cases ry with
  | int=>
   simp only[uI]at e;split at e
   ·rename_i ws hw;rw[HJ]at e;obtain⟨w',e1,e2⟩:=e;cases e2;obtain⟨vs,h1,r1⟩:=cW so hw ea;obtain⟨z,h2,r2⟩:=sL r1 e1;exact IxR.go zv I ru rv #[_,_,_,_,rfl,rfl,h1,h2,.here so r2] hs
   ·cases e
  | _=>cases e
 | str=>cases ry with
  | int=>
   simp only[uI]at e;split at e
   ·rw[HJ]at e;obtain⟨c,e1,e2⟩:=e;cases e2;exact IxR.go CB I ru rv #[_,_,_,rfl,rfl,by assumption,e1,.here so .str] hs
   ·cases e
  | _=>cases e
 | _=>cases ry <;> cases e
theorem nJ {xs:HF W}{vs:HF V}{lo hi:HL Ig}(r:RelL X.K A H xs vs):RelL X.K A H (iu xs lo hi) (kC vs lo hi):=by
 unfold iu kC;rw[r.length];exact(r.drop _).take _
theorem zR:EB X (λx lo hi H Q=>∃a xs,x=.ref a/\SqT X.K H a xs/\(kC xs lo hi=xs->Q (.ref a) H)/\∀p,H p=td->Q (.ref p) (cp H p (.tup (kC xs lo hi)))):=by
 intro pins s σ H x v vl vu lo hi sl Q I rx hs pl pu h;obtain⟨a,xs,rfl,hx,q0,q⟩:=h
 by_cases hw:(HT.cN xs.length 0 lo=0/\HT.cN xs.length xs.length hi=xs.length)
 ·cases rx;obtain⟨its,r,ht,hz⟩:=I.tuple hx;have hlen:its.toArray.size=xs.length:=by rw[Ih]; exact r.length.symm
  refine#["tuple",_,PyProof.Rows.slot_tuple_getitem.lookup,ht.typeIs,?_];refine HT.gD ht hs pl pu (by rw[hlen]; exact hw) #[.ref a,H,I,rfl,q0 ?_]
  unfold kC;rw[hw.1,hw.2];simp
 ·exact Cz pins s σ H (.ref a) v vl vu lo hi sl Q I rx hs pl pu #[a,xs,rfl,hx,hw,q]
theorem Hz:LSl X nI:=by
 intro pins s σ H A S x a v vl vu lo hi sl w S' I so rx rv hs pl pu e;cases rx with
 | tup h1 r1=>
  cases e;obtain⟨T,id,z1,z2,z3⟩:=zR pins s σ H _ v vl vu lo hi sl (EndV X.w X.K A H S (.tup (iu _ lo hi))) I rv hs pl pu #[_,_,rfl,h1,λq=>.here so (.tup h1 (by have:=nJ (lo:=lo) (hi:=hi) r1; rw[q]at this; exact this)),λp hp=>.tup so (nJ r1) hp]
  exact#[T,id,z1,z2,b9 z3 λ_ _=>EP.post]
 | ref ea=>
  simp only[nI]at e;split at e
  ·rename_i ws hw;cases e;obtain⟨vs,h1,r1⟩:=cW so hw ea;obtain⟨T,id,z1,z2,z3⟩:=zw pins s σ H _ v vl vu lo hi sl (EndV X.w X.K A H (S++[.lst (iu ws lo hi)]) (.ref S.length)) I rv hs pl pu #[_,_,rfl,h1,λp hp=>.lst so (nJ r1) hp]
   exact#[T,id,z1,z2,b9 z3 λ_ _=>EP.post]
  ·cases e
 | _=>cases e
theorem lset (hu:X.A.units+10 < cLine):LSet X uJ:=by
 intro pins s σ H A S o i x ao ai ax uo ui ux S' I so ro ruo ri rui rx rux e;cases ro with
 | ref ea=>cases ri with
  | int=>
   simp only[uJ]at e;split at e
   ·rename_i ws hw;split at e
    ·rename_i j hj;cases e;obtain⟨vs,h1,r1⟩:=eP so hw ea;rw[r1.length]at hj;obtain⟨so',ex⟩:=so.write (kE hw) ea (r1.set rx j);exact b9 (v8 pins s σ H _ _ _ uo ui ux (λH'=>H'=cp H _ (.lst (vs.set j ax))) I ruo rui rux #[_,_,_,_,rfl,rfl,h1,hj,rfl]) λ_ s' #[H',I',e']=>#[_,A,e' ▸ I',ex,so']
    ·cases e
   ·cases e
  | _=>cases e
 | _=>cases ri <;> cases e
noncomputable def rz (xs:HF W)(S:aa):HL (W×aa):=match xs with
 | [.tup ys]=>gV (.int ys.length,S)
 | [.str y]=>if y.length<=sizeLine then gV (.int y.length,S)else td
 | [.ref i]=>(g8 S i).map λys=>(.int ys.length,S)
 | _=>td
theorem uK:LCall X (.builtin "len") rz:=by
 intro pins s σ H A S xs vs us w S' I so rl rv e;cases rl with
 | nil=>cases e
 | cons r t=>
  cases t with
  | cons _ _=>cases r <;> cases e
  | nil=>
   cases r with
   | tup h1 r1=>cases e; rw[r1.length]; exact CallR.go kz I rv #[_,_,rfl,.inr #[_,h1,rfl],.here so .int]
   | str=>
    simp only[rz]at e;split at e
    ·cases e; exact CallR.go kz I rv #[_,_,rfl,#[by assumption,rfl],.here so .int]
    ·cases e
   | ref ea=>
    simp only[rz,HJ]at e;obtain⟨ws,hw,e2⟩:=e;cases e2;obtain⟨vs',h1,r1⟩:=cW so hw ea;rw[r1.length];exact CallR.go kz I rv #[_,_,rfl,.inl #[_,h1,rfl],.here so .int]
   | _=>cases e
noncomputable def iw (xs:HF W)(S:aa):HL (W×aa):=match xs with
 | [x]=>match fL S x with
  | some ys=>gV (.ref S.length,S++[.lst ys])
  | none=>td
 | _=>td
theorem hG:LCall X (.type "list") iw:=by
 intro pins s σ H A S xs vs us w S' I so rl rv e;cases rl with
 | nil=>cases e
 | cons r t=>
  cases t with
  | cons _ _=>cases e
  | nil=>
   simp only[iw]at e;split at e
   ·rename_i ys hy;cases e;obtain⟨p,vs',rfl,hq,r1⟩:=nH (pins:=pins) (σ:=σ) (s:=s) so r hy;exact CallR.go nE I rv #[p,vs',rfl,hq,λl hl=>.lst so r1 hl]
   ·cases e
noncomputable def kG (xs:HF W)(S:aa):HL (W×aa):=match xs with
 | [.tup ys]=>gV (.tup ys,S)
 | [.ref i]=>match g8 S i with
  | some ys=>gV (.tup ys,S)
  | none=>td
 | _=>td
theorem jM:LCall X (.type "tuple") kG:=by
 intro pins s σ H A S xs vs us w S' I so rl rv e;cases rl with
 | nil=>cases e
 | cons r t=>
  cases t with
  | cons _ _=>cases r <;> cases e
  | nil=>
   cases r with
   | tup h1 r1=>cases e; exact CallR.go gR I rv #[_,_,rfl,.inr #[h1,.here so (.tup h1 r1)]]
   | ref ea=>
    simp only[kG]at e;split at e
    ·rename_i ys hy;cases e;obtain⟨vs',h1,r1⟩:=cW so hy ea;exact CallR.go gR I rv #[_,_,rfl,.inl #[h1,λl hl=>.tup so r1 hl]]
    ·cases e
   | _=>cases e
noncomputable def EG (xs:HF W)(S:aa):HL (W×aa):=match xs with
 | [.int i]=>gV (.int i,S)
 | [.bl b]=>gV (.int (if b then 1 else 0),S)
 | _=>td
theorem uL:LCall X (.type "int") EG:=by
 intro pins s σ H A S xs vs us w S' I so rl rv e;cases rl with
 | nil=>cases e
 | cons r t=>
  cases t with
  | cons _ _=>cases r <;> cases e
  | nil=>
   cases r with
   | int=>cases e; exact CallR.go mw I rv (.inl #[_,rfl,.here so .int])
   | bl=>cases e; exact CallR.go mw I rv (.inr #[_,rfl,.here so .int])
   | _=>cases e
noncomputable def iy (x:W)(xs:HF W)(S:aa):HL (W×aa):=match x,xs with
 | .ref i,[y]=>match pj S i with
  | some ys=>if ys.length < sizeLine then gV (.non,S.set i (.lst (ys++[y])))else td
  | none=>td
 | _,_=>td
theorem i4 {i:HM}{p:HR}{ws ws0:HF W}{us:HF V}(so:StoreOk X.w X.K A H S)(e:pj S i=gV ws0)(ea:A[i]?=gV p)(r:RelL X.K A H ws us){w:W}{v:V}(rw':Rel X.K A H w v) :
  EndV X.w X.K A H (S.set i (.lst ws)) w v (cp H p (.lst us)):=by
 obtain⟨so',ex⟩:=so.write (kE e) ea r;exact#[A,ex,so',rw'.mono ex]
theorem nK:LMeth X "list.append" iy:=by
 intro pins s σ H A S x a u xs vs us w S' I so rx ru rl rv e;cases rx with
 | ref ea=>
  cases rl with
  | nil=>cases e
  | cons r t=>
   cases t with
   | cons _ _=>cases e
   | nil=>
    simp only[iy]at e;split at e
    ·rename_i ys hy;split at e
     ·rename_i hl;cases e;obtain⟨vs',h1,r1⟩:=eP so hy ea;rw[r1.length]at hl;exact MtR.go uD I ru rv #[_,_,_,rfl,rfl,h1,hl,i4 so hy ea (r1.append #v[r]) .non]
     ·cases e
    ·cases e
 | _=>cases e
noncomputable def kg (x:W)(xs:HF W)(S:aa):HL (W×aa):=match x,xs with
 | .ref i,[.ref j]=>match pj S i,pj S j with
  | some ys,gV zs=>if ys.length+zs.length<=sizeLine then gV (.non,S.set i (.lst (ys++zs)))else td
  | _,_=>td
 | _,_=>td
theorem nL:LMeth X "list.extend" kg:=by
 intro pins s σ H A S x a u xs vs us w S' I so rx ru rl rv e;cases rx with
 | ref ea=>
  cases rl with
  | nil=>cases e
  | cons r t=>
   cases t with
   | cons _ _=>cases r <;> cases e
   | nil=>
    cases r with
    | ref eb=>
     simp only[kg]at e;split at e
     ·rename_i ys zs hy hz;split at e
      ·rename_i hl;cases e;obtain⟨vs',h1,r1⟩:=eP so hy ea;obtain⟨vs2,h2,r2⟩:=eP so hz eb;rw[r1.length,r2.length]at hl;exact MtR.go uE I ru rv #[_,_,_,_,rfl,rfl,h1,h2,hl,i4 so hy ea (r1.append r2) .non]
      ·cases e
     ·cases e
    | _=>cases e
 | _=>cases e
noncomputable def CH (x:W)(xs:HF W)(S:aa):HL (W×aa):=match x,xs with
 | .ref i,[.int k]=>match pj S i with
  | some ys=>if -(2 ^ 63)<=k/\k < 2 ^ 63 then match seqIndex? k ys.length with
   | some j=>match ys[j]? with
    | some y=>gV (y,S.set i (.lst (ys.eraseIdx j)))
    | none=>td
   | none=>td
   else td
  | none=>td
 | _,_=>td
theorem uM:LMeth X "list.pop" CH:=by
 intro pins s σ H A S x a u xs vs us w S' I so rx ru rl rv e;cases rx with
 | ref ea=>
  cases rl with
  | nil=>cases e
  | cons r t=>
   cases t with
   | cons _ _=>cases r <;> cases e
   | nil=>
    cases r with
    | int=>
     simp only[CH]at e;split at e
     ·rename_i ys hy;split at e
      ·rename_i hk;split at e
       ·rename_i j hj;split at e
        ·rename_i y hyj;cases e;obtain⟨vs',h1,r1⟩:=eP so hy ea;obtain⟨v',h2,r2⟩:=r1.get hyj;rw[r1.length]at hj;exact MtR.go wc I ru rv #[_,_,_,_,_,rfl,rfl,h1,hk.1,hk.2,hj,h2,i4 so hy ea (r1.eraseIdx j) r2]
        ·cases e
       ·cases e
      ·cases e
     ·cases e
    | _=>cases e
 | _=>cases e
noncomputable def nM:HF W->HL (HF Ik)
 | []=>gV []
 | .str x::xs=>(nM xs).map (x :: ·)
 | _::_=>td
noncomputable def wy (x:W)(xs:HF W)(S:aa):HL (W×aa):=match x,xs with
 | .str x,[y]=>match fL S y with
  | some ys=>match nM ys with
   | some zs=>if (zs.map (·.length)).sum+zs.length*x.length<=16777216 then gV (.str (Txt.join x zs),S)else td
   | none=>td
  | none=>td
 | _,_=>td
theorem kH:∀ {ws:HF W} {vs:HF V} {us:HF HH} {zs:HF Ik},RelL X.K A H ws vs->Vals vs us->nM ws=gV zs->StrsAre us zs
 | _,_,_,zs,.nil,.nil,e=>by cases e; exact .nil
 | _,_,_,zs,.cons r t,.cons q p,e=>by
  cases r with
  | str=>
   simp only[nM,HJ]at e;obtain⟨z,e1,e2⟩:=e;subst e2;obtain⟨tk,rfl⟩ : ∃t,_=Ls _ t:=q;exact .cons _ tk (kH t p e1)
  | _=>cases e
theorem rA:LMeth X "str.join" wy:=by
 intro pins s σ H A S x a u xs vs us w S' I so rx ru rl rv e;cases rx with
 | str=>
  cases rl with
  | nil=>cases e
  | cons r t=>
   cases t with
   | cons _ _=>cases e
   | nil=>
    simp only[wy]at e;split at e
    ·rename_i ys hy;split at e
     ·rename_i zs hz;split at e
      ·rename_i hl;cases e;obtain⟨p,vs',rfl,hq,r1⟩:=nH (pins:=pins) (σ:=σ) (s:=s) so r hy;obtain⟨t0,rfl⟩ : ∃t,u=Ls _ t:=ru;obtain⟨u1,rfl,ru1⟩:=mv rv;have ru1':u1=IV p:=ru1;subst ru1';rcases hq with hq|hq
       ·obtain⟨its,rr,pl,hz'⟩:=I.list hq;exact join_list pl.isList (by simpa using kH r1 rr hz) hl λt' k=>#[.str _,H,A,I.tok _,#[_,rfl],.refl,so,.str]
       ·obtain⟨its,rr,pl,hz'⟩:=I.tuple hq;exact join_tuple pl (by simpa using kH r1 rr hz) hl λt' k=>#[.str _,H,A,I.tok _,#[_,rfl],.refl,so,.str]
      ·cases e
     ·cases e
    ·cases e
 | _=>cases e
noncomputable def eQ (S:aa):W->HL Iy
 | .non=>gV false
 | .bl b=>gV b
 | .int i=>gV (i != 0)
 | .str y=>if y.length<=sizeLine then gV ((y.length:Ig) != 0)else td
 | .tup xs=>gV (!xs.isEmpty)
 | .ref i=>(g8 S i).map λxs=>!xs.isEmpty
theorem jN {ws:HF W}{vs:HF V}(r:RelL X.K A H ws vs):(!ws.isEmpty) = !vs.isEmpty:=by cases r <;> rfl
theorem GJ {x:W}{a:V}{u:HH}{k:Iy}{Q:Iy->HK->Prop}(I:Inv X pins σ H s)(so:StoreOk X.w X.K A H S)(rx:Rel X.K A H x a)(ru:RelV a u)(e:eQ S x=gV k)(hq:∀s',Inv X pins σ H s'->Q k s') :
  wpAny (model X.prog X.w) X.A (truthy u) Q X.xe s:=by
 refine b9 (Cu pins s σ H a u (λb H'=>b=k/\H'=H) I ru #[k,?_,rfl,rfl]) λb s' #[H',I',e1,e2]=>?_
 ·cases rx with
  | non=>cases e; rfl
  | bl=>cases e; rfl
  | int=>cases e; rfl
  | str=>
   simp only[eQ]at e;split at e
   ·cases e; exact#[by assumption,rfl]
   ·cases e
  | tup h1 r1=>cases e; exact .inr (.inl #[_,h1,jN r1])
  | ref ea=>
   simp only[eQ,HJ]at e;obtain⟨ws,hw,e2⟩:=e;subst e2;obtain⟨vs,h1,r1⟩:=cW so hw ea;exact .inl #[_,h1,jN r1]
 ·subst e1 e2;exact hq s' I'
end
noncomputable def zS (S:aa)(i:HM):HL (Ig×Ig):=match S[i]? with
 | some (.rng lo hi)=>gV (lo,hi)
 | _=>td
noncomputable def rB (xs:HF W)(S:aa):HL (W×aa):=match xs with
 | [.int j]=>if -(2 ^ 62)<=j/\j < 2 ^ 62 then gV (.ref S.length,S++[.rng 0 j])else td
 | _=>td
noncomputable def EH (lo:Ig)(n:HM):HF W:=(Im n).map λ(k:HM)=>.int (lo+(k:Ig))
noncomputable def mG (xs:HF W)(S:aa):HL (W×aa):=match xs with
 | [.ref i]=>match zS S i with
  | some (lo,hi)=>if -(2 ^ 62)<=lo/\lo < 2 ^ 62/\-(2 ^ 62)<=hi/\hi < 2 ^ 62/\(hi - lo).toNat<=sizeLine then gV (.ref S.length,S++[.lst (EH lo (hi - lo).toNat)])else td
  | none=>iw [.ref i] S
 | xs=>iw xs S
section
variable{X:Cx}{pins:HF (HR×JE)}{σ:L2.St}{H:Hp}{s:HK}{A:HF HR}{S:aa}
theorem Inv.drawn (I:Inv X pins σ H s)(d:P1):Inv X pins σ H { s with drawn:=d }:=#[I.ok,I.os,I.bare,I.base,I.loc,I.cell,I.free,I.freeC,I.pin,I.hok,I.len]
theorem pH {h':IZ}{tk:HM}{dr:P1}{D:HR}{n:O}{u:HO}(I:Inv X pins σ H s)(so:StoreOk X.w X.K A H S)(hk:∀b o,s.heap.get? b=gV o->h'.get? b=gV o)(hD:s.heap.objs.size<=D)(new:ObjOk X.prog X.w (cp H D u) h' D u)
  (r:H D=td->ObjRel X.w X.K (A++[D]) (cp H D u) D n):dQ X pins σ A H (S++[n]) (.ref S.length) (.ref D) { s with heap:=h',toks:=tk,drawn:=dr }:=by
 have hn:H D=td:=I.hok.fresh hD;refine#[.ref D,_,A++[D],Mi.Inv.drawn (I.laid (a:=D) (o:=u) (t':=tk) hk hD new) dr,rfl,ec hn,so.pushO hn (r hn),.ref ?_];rw[<- so.len]; simp
theorem nN:∀ {vs:HF V} {us:HF HH},vs.length=us.length->(∀(i:HM) v u,vs[i]?=gV v->us[i]?=gV u->L2.RelV v u)->Vals vs us
 | [],[],_,_=>.nil
 | v::vs,u::us,hl,h=>.cons (h 0 v u rfl rfl) (nN (by simpa using hl) λi v u a b=>h (i+1) v u (by simpa using a) (by simpa using b))
 | [],_::_,hl,_=>by cases hl
 | _::_,[],hl,_=>by cases hl
theorem nO {K:HW}{lo:Ig}:∀(l:HF HM),RelL K A H (l.map λ(k:HM)=>W.int (lo+(k:Ig))) (l.map λ(k:HM)=>V.int (lo+(k:Ig)))
 | []=>.nil
 | _::l=>.cons .int (nO l)
theorem sM {xs:HF W}{vs:HF V}{us:HF HH}{i:HM}(rl:RelL X.K A H [.ref i] vs)(rv:Vals vs us):∃a,A[i]?=gV a/\us=[.ref a]:=by
 cases rl with
 | cons r t=>
  cases t;cases r with
  | @ref _ a ea=>
   cases rv with
   | cons ru rv=>
    cases rv;obtain rfl:_=IV a:=ru;exact#[a,ea,rfl]
theorem pI:LCall X (.type "range") rB:=by
 intro pins s σ H A S xs vs us w S' I so rl rv e;unfold rB at e;split at e
 ·rename_i j;split at e
  ·rename_i hb;cases e;cases rl with
   | cons r t=>
    cases t;cases r;cases rv with
    | cons ru rv=>
     cases rv;obtain⟨tk,rfl⟩:=ru;exact Pa (pH (dr:=s.drawn) (u:=.rng 0 j) I so (λb o e=>HP _ e) (HZ _) #[_,_,_,Iq _ rfl] λ_=>bD)
  ·cases e
 ·cases e
theorem pJ (hh:X.A.handled=td):LCall X (.type "list") mG:=by
 intro pins s σ H A S xs vs us w S' I so rl rv e;unfold mG at e;split at e
 ·rename_i i;split at e
  ·rename_i lo hi hr;split at e
   ·rename_i hb;cases e;obtain⟨a,ea,rfl⟩:=sM (xs:=[]) rl rv;obtain⟨b1,b2,b3,b4,b5⟩:=hb;have hH:H a=gV (.rng lo hi):=by
     unfold zS at hr;split at hr
     ·rename_i hx; cases hr; exact so.obj i _ a hx ea
     ·cases hr
    obtain⟨t,u,v,ho⟩:=I.hok a _ hH;have hn:JO lo hi 1=((hi - lo).toNat:HM):=by rw[Na]; split <;> omega
    refine call_list_range hh ho (O6 b1 b2 b3 b4) hn b5 λh' tk acc c hk hD hacc=>?_
    have hv:Vals ((Im (hi - lo).toNat).map λ(k:HM)=>V.int (lo+(k:Ig))) acc.toList:=by
     refine nN (by rw[HI,IM,IK,hacc.1]) λi v u e1 e2=>?_
     rw[HS,HJ]at e1;obtain⟨k,e1,rfl⟩:=e1;obtain⟨hk,rfl⟩:=Ii.mp e1;obtain⟨t,rfl⟩:=hacc.2 i u (by rw[<- JF]; exact e2)
     exact#[t,by simp]
    refine pH (dr:=s.drawn) (u:=.lst ((Im (hi - lo).toNat).map λ(k:HM)=>V.int (lo+(k:Ig)))) I so hk (HZ _) #[by simpa using b5,acc.toList,c,hv,by simpa using hD] λhn=>#[_,bD,?_]
    exact nO _
   ·cases e
  ·exact hG pins s σ H A S _ vs us w S' I so rl rv e
 ·exact hG pins s σ H A S _ vs us w S' I so rl rv e
end
mutual
inductive IsT (h:IZ):T->HH->Prop
 | int {i:Ig} {t:P7}:IsT h (.int i) (.int i t)
 | str {x:Ik} {t:P7}:IsT h (.str x) (.str x t)
 | tup {ks:HF T} {a:HR} {o:JE} {items:IY HH} {n:HM}:h.get? a=gV o->o.cls=.type "tuple"->o.data=.seq items n->IsTs h ks items.toList->IsT h (.tup ks) (.ref a)
inductive IsTs (h:IZ):HF T->HF HH->Prop
 | nil:IsTs h [] []
 | cons {k:T} {v:HH} {ks:HF T} {vs:HF HH}:IsT h k v->IsTs h ks vs->IsTs h (k::ks) (v::vs)
end
mutual
theorem IsT.inj {h:IZ}:∀ {x y:T} {v:HH},IsT h x v->IsT h y v->x=y
 | _,_,_,.int,h2=>by cases h2; rfl
 | _,_,_,.str,h2=>by cases h2; rfl
 | _,_,_,.tup a1 _ d1 t1,h2=>by
  cases h2 with
  | tup a2 _ d2 t2=>
   rw[a1]at a2; cases a2
   rw[d1]at d2; cases d2
   rw[IsTs.inj t1 t2]
theorem IsTs.inj {h:IZ}:∀ {x y:HF T} {v:HF HH},IsTs h x v->IsTs h y v->x=y
 | _,_,_,.nil,h2=>by cases h2; rfl
 | _,_,_,.cons a b,h2=>by
  cases h2 with
  | cons c d=>rw[IsT.inj a c,IsTs.inj b d]
end
mutual
theorem IsT.keeps {h h':IZ}{d:HR}{o:JE}{es:IY J3}{ep:HM}(ho:h.get? d=gV o)(hd:o.data=.dict es ep)(hs:Kn d h h'):∀ {x:T} {v:HH},IsT h x v->IsT h' x v
 | _,_,.int=>.int
 | _,_,.str=>.str
 | _,_,.tup (a:=a) a1 c1 d1 t1=>by
  have hne:a≠d:=by
   rintro rfl;rw[a1]at ho; cases ho
   rw[d1]at hd; cases hd
  exact .tup ((hs.2 a hne).trans a1) c1 d1 (IsTs.keeps ho hd hs t1)
theorem IsTs.keeps {h h':IZ}{d:HR}{o:JE}{es:IY J3}{ep:HM}(ho:h.get? d=gV o)(hd:o.data=.dict es ep)(hs:Kn d h h'):∀ {x:HF T} {v:HF HH},IsTs h x v->IsTs h' x v
 | _,_,.nil=>.nil
 | _,_,.cons a b=>.cons (IsT.keeps ho hd hs a) (IsTs.keeps ho hd hs b)
end
theorem IsTs.length {h:IZ}:∀ {x:HF T} {v:HF HH},IsTs h x v->x.length=v.length
 | _,_,.nil=>rfl
 | _,_,.cons _ b=>by simp[IsTs.length b]
theorem IsTs.get {h:IZ}:∀ {x:HF T} {v:HF HH},IsTs h x v->∀(j:HM) (h1:j < x.length) (h2:j < v.length),IsT h x[j] v[j]
 | _,_,.cons a _,0,_,_=>a
 | _,_,.cons _ b,j+1,h1,h2=>IsTs.get b j (by simpa using h1) (by simpa using h2)
theorem ee:∀ {ks:HF T} (j:HM) (h:j < ks.length),(ks[j]).depth<=T.depths ks
 | k::ks,0,_=>by simp only[T.depths,List.getElem_cons_zero]; omega
 | k::ks,j+1,h=>by
  have:=ee (ks:=ks) j (by simpa using h)
  simp only[T.depths,List.getElem_cons_succ]; omega
section
variable{prog:IC}{w:IP}{E:HH->HK->Prop}
mutual
theorem pK:∀(k:T) (v:HH) (A:IL) (s:HK) (Q:Ig->HK->Prop),IsT s.heap k v->A.units+k.depth < cLine->Q (pB w k) { s with toks:=s.toks+k.draws }->wpAny (model prog w) A (pyHash v) Q E s
 | .int i,_,A,s,Q,x,_,h=>by cases x; exact NX h
 | .str y,_,A,s,Q,x,_,h=>by cases x; exact NY h
 | .tup ks,_,A,s,Q,x,hu,h=>by
  cases x with
  | @tup _ a o items n hg hc hd hw=>
   simp only[T.depth]at hu;refine PySem.W.pyHash_slot (T:="tuple") #[_,hg,hc] F.slot_tuple_hash F.entry_tuple_hash (F.args_tuple_hash_1 _) (beq_builtin_none _) (.inr ∅) ?_
   show wpAny _ _ (KS (.ref a) >>= _) _ _ s;refine HG (wpAny_tupleItemsOf hg hd ?_);refine HG ?_;rw[<- Nq];refine kI ks items.toList A.in1 s #[] _ hw (by rw[bQ]; omega) λb hb=>?_
   show wpAny _ _ (retInt (LZ b.toList)) _ _ _;rw[hb];refine HG (Oi (HU #[_,_,rfl,?_]))
   simpa [T.draws,OZ,pB]using h
theorem kI:∀(ks:HF T) (vs:HF HH) (A:IL) (s:HK) (b:IY Ig) (Q:IY Ig->HK->Prop),IsTs s.heap ks vs->A.units+T.depths ks < cLine->
  (∀b',b'.toList=b.toList++kD w ks->Q b' { s with toks:=s.toks+T.drawss ks })->
  wpAny (model prog w) A (forIn vs b λx r=>do let h <- pyHash x; pure Nr; pure (JL (r.push h))) Q E s
 | [],_,A,s,b,Q,x,_,h=>by cases x; exact HU (h b (by simp[kD]))
 | k::ks,_,A,s,b,Q,x,hu,h=>by
  cases x with
  | cons x1 x2=>
   simp only[T.depths]at hu;rw[MA];refine HG (HG (pK k _ A s _ x1 ∅ ?_))
   refine HG (HU (HU ?_));refine kI ks _ A _ _ Q x2 ∅ λb' hb=>?_
   have:=h b' (by simp[hb,kD])
   simpa [T.drawss,OZ]using this
end
open SeqAt in
theorem uN:∀(d:HM) (x y:T) (u v:HH) (B:IL) (s:HK),x.depth<=d->IsT s.heap x u->IsT s.heap y v->B.units+d < cLine->B.units+y.depth < cLine->EqAt B s u v (decide (x=y))
 | d,.int i,y,_,_,B,s,_,h1,h2,hu,hv=>by
  cases h1;cases h2 with
  | int=>
   rename_i j t2;have:decide (T.int i=T.int j)=(i==j):=by by_cases e:i=j <;> simp[e]
   rw[this]; exact .int_int _ _ _ _
  | str=>rw[IF (by simp)]; exact .int_str _ _ _ _
  | tup a c dd t=>rw[IF (by simp)]; exact .int_tuple _ _ #[_,a,c,_,dd] (by simp only[T.depth]at hv; omega)
 | d,.str z,y,_,_,B,s,_,h1,h2,hu,hv=>by
  cases h1;cases h2 with
  | int=>rw[IF (by simp)]; exact .str_int _ _ _ _
  | str=>
   rename_i z2 t2;have:decide (T.str z=T.str z2)=(z==z2):=by by_cases e:z=z2 <;> simp[e]
   rw[this]; exact .str_str _ _ _ _
  | tup a c dd t=>rw[IF (by simp)]; exact .str_tuple _ _ #[_,a,c,_,dd] (by simp only[T.depth]at hv; omega)
 | 0,.tup ks,y,_,_,B,s,hd,h1,h2,hu,hv=>by simp[T.depth]at hd
 | d+1,.tup ks,y,_,_,B,s,hd,h1,h2,hu,hv=>by
  have h1':=h1;cases h1 with
  | @tup _ a o items n a1 c1 d1 t1=>
   have hT:s.heap.IsTuple a items:=#[_,a1,c1,_,d1];simp only[T.depth]at hd;cases h2 with
   | int=>rw[IF (by simp)]; exact .tuple_int _ _ hT ∅
   | str=>rw[IF (by simp)]; exact .tuple_str _ _ hT ∅
   | @tup ks2 b o2 items2 n2 a2 c2 d2 t2=>
    have hT2:s.heap.IsTuple b items2:=#[_,a2,c2,_,d2]
    by_cases hab:a=b
    ·subst hab;have:T.tup ks=T.tup ks2:=h1'.inj (.tup a2 c2 d2 t2);rw[Jt this];exact EqAt.same _
    ·refine EqAt.of_refs hab ?_;simp only[T.depth]at hv;have l1:items.size=ks.length:=by rw[<- IK,t1.length]
     have l2:items2.size=ks2.length:=by rw[<- IK,t2.length]
     let e:HM->Iy:=λj=>if h:j < ks.length/\j < ks2.length then decide (ks[j]'h.1=ks2[j]'h.2)else true
     have he:∀j (h1:j < items.size) (h2:j < items2.size),EqAt B.in1 s items[j] items2[j] (e j):=λj j1 j2=>by
      have g1:=t1.get j (l1 ▸ j1) (by simpa using j1)
      have g2:=t2.get j (l2 ▸ j2) (by simpa using j2)
      have q1:=ee (ks:=ks) j (l1 ▸ j1);have q2:=ee (ks:=ks2) j (l2 ▸ j2);have:=uN d _ _ _ _ B.in1 s ∅ g1 g2 (by rw[bQ]; omega) (by rw[bQ]; omega)
      show EqAt B.in1 s items[j] items2[j] (if h:j < ks.length/\j < ks2.length then decide (ks[j]'h.1=ks2[j]'h.2)else true)
      rw[PQ #[l1 ▸ j1,l2 ▸ j2]]
      simpa using this
     have:=RcAt.tuples hT hT2 ∅ he
     have hk:((Im (min items.size items2.size)).all e&&items.size==items2.size)=decide (T.tup ks=T.tup ks2):=by
      rw[l1,l2]
      by_cases hl:ks.length=ks2.length
      ·by_cases hq:ks=ks2
       ·subst hq;simp only[LJ,Jh,Nc,decide_true,IB,IT];intro j hj;show(if h:j < ks.length/\j < ks.length then decide (ks[j]'h.1=ks[j]'h.2)else true)=true
        rw[PQ #[hj,hj]]; simp
       ·rw[IF (by simpa using hq)]
        have:∃j,∃h:j < ks.length,ks[j]≠ks2[j]'(hl ▸ h):=by
         apply L0;intro hn;exact hq (KY hl λj h1 h2=>L0 λz=>hn #[j,h1,z])
        obtain⟨j,hj,hne⟩:=this;rw[MK];left;rw[List.all_eq_false];refine#[j,by rw[IT,<- hl,LJ]; exact hj,?_]
        show ¬ (if h:j < ks.length/\j < ks2.length then decide (ks[j]'h.1=ks2[j]'h.2)else true)=true
        rw[PQ #[hj,hl ▸ hj]]
        simpa using hne
      ·rw[IF (by simp; intro z; exact hl (by rw[z])),MK]
       right
       simpa using hl
     rw[hk]at this;exact this
theorem mH {n:HM}{v:HH}(h:∀a,v≠.ref a):eqIsQuiet n v=pure true:=by
 cases v with
 | ref a=>exact absurd rfl (h a)
 | _=>first|rfl|simp[eqIsQuiet]|(unfold eqIsQuiet; rfl)
theorem sN:∀(d:HM) (k:T) (v:HH) (A:IL) (s:HK) (Q:Iy->HK->Prop),k.depth<=d->IsT s.heap k v->Q true s->wpAny (model prog w) A (eqIsQuiet d v) Q E s
 | d,.int i,_,A,s,Q,_,x,h=>by cases x; rw[mH (λa=>by simp)]; exact HU h
 | d,.str i,_,A,s,Q,_,x,h=>by cases x; rw[mH (λa=>by simp)]; exact HU h
 | 0,.tup ks,_,A,s,Q,hd,x,h=>by simp[T.depth]at hd
 | d+1,.tup ks,_,A,s,Q,hd,x,h=>by
  cases x with
  | @tup _ a o items n ho hc hdt hi=>
   simp only[T.depth]at hd;have hT:s.TypeIs (.ref a) "tuple":=#[_,ho,hc];unfold eqIsQuiet;refine HG (wpAny_specialOf hT F.slot_tuple_eq.lookup ?_);show wpAny _ _ (isInstance (.ref a) (.type "tuple") >>= _) _ _ s;refine HG (Mm hT isSubtype_tuple_tuple ?_);simp only[Nd,Js,Kq];refine HG (KU ho hdt ?_);refine HG ?_;show wpAny _ _ (forIn items _ _) _ _ s;rw[<- Nq];refine N6 _ (λdh r s'=>r.1=td/\s'=s/\∃kk,IsTs s.heap kk dh/\T.depths kk<=d) _ ?_ ?_ _ _ #[rfl,rfl,ks,hi,∅]
   ·rintro v dh r s' ⟨hr,rfl,kk,hall,hdk⟩;cases hall with
    | cons q1 q2=>
     simp only[T.depths]at hdk;refine HG (sN d _ v _ _ _ ∅ q1 ?_)
     simp only[Nd,Js,Kq];exact HU #[rfl,rfl,_,q2,∅]
   ·rintro⟨r1,r2⟩ s' ⟨hr,rfl,_⟩;simp only at hr;subst hr;exact HU h
end
noncomputable def da (prog:IC)(w:IP):HeapKind prog w T where
 is:=λh k a=>IsT h k (.ref a)/\k.depth<=bC
 hash:=pB w
 draws:=T.draws
 room:=λA=>A.units+bC < cLine
 inj:=λhx hy=>hx.1.inj hy.1
 keeps:=λx ho hd hs=>#[x.1.keeps ho hd hs,x.2]
 pyHash:=λhu hk h=>pK _ _ _ _ _ hk.1 (by have:=hk.2; omega) h
 eqBool:=λhu hx hy h=>uN bC _ _ _ _ _ _ hx.2 hx.1 hy.1 hu (by have:=hy.2; omega) _ _ _ _ h
 quiet:=λhk h=>sN 8 _ _ _ _ _ (by have:=hk.2; unfold bC at this; omega) hk.1 h
mutual
noncomputable def kJ:T->Iy
 | .int _=>true
 | .str _=>false
 | .tup xs=>eH xs
noncomputable def eH:HF T->Iy
 | []=>true
 | x::xs=>kJ x&&eH xs
end
noncomputable def jZ (S:aa)(i:HM):HL (HF (T×W)):=match S[i]? with
 | some (.dic kvs)=>gV kvs
 | some (.frd kvs)=>gV kvs
 | _=>td
noncomputable def nP (S:aa)(i:HM):HL (HF (T×W)):=match S[i]? with
 | some (.dic kvs)=>gV kvs
 | _=>td
noncomputable def cr (kvs:HF (T×W))(k:T):HL W:=(kvs.find? λp=>decide (p.1=k)).map (·.2)
noncomputable def eE (kvs:HF (T×W))(k:T)(v:W):HF (T×W):=
 if (kvs.any λp=>decide (p.1=k))=true then kvs.map (λp=>if p.1=k then(p.1,v)else p)else kvs++[(k,v)]
noncomputable def gE (w:W):HL T:=match W.t w with
 | some k=>if k.isTup=true/\k.depth<=bC then gV k else td
 | none=>td
theorem d6 {w:W}{k:T}(h:gE w=gV k):k.w=w/\k.isTup=true/\k.depth<=bC:=by
 unfold gE at h;split at h
 ·rename_i k' hk;split at h
  ·rename_i hc;cases h;exact#[W.t_w hk,hc.1,hc.2]
  ·cases h
 ·cases h
theorem c7 (kvs:HF (T×W))(k:T)(v:W):(eE kvs k v).length<=kvs.length+1:=by
 unfold eE;split
 ·rw[HI]; omega
 ·rw[HQ,IW,JK]; omega
section
variable{X:Cx}{pins:HF (HR×JE)}{σ:L2.St}{H:Hp}{s:HK}{A:HF HR}{S:aa}
mutual
theorem nQ (I:Inv X pins σ H s):∀(k:T) {v:V} {u:HH},Rel X.K A H k.w v->RelV v u->IsT s.heap k u
 | .int i,_,_,r,q=>by
  cases r;obtain⟨t,rfl⟩ : ∃t,_=Mk _ t:=q;exact .int
 | .str x,_,_,r,q=>by
  cases r;obtain⟨t,rfl⟩ : ∃t,_=Ls _ t:=q;exact .str
 | .tup ks,_,_,r,q=>by
  simp only[T.w]at r;cases r with
  | tup sq rl=>
   obtain⟨its,rv,⟨o,h1,h2,n,h3⟩,hz⟩:=I.tuple sq;obtain rfl:_=IV _:=q;exact .tup h1 h2 h3 (gq I ks rl (by simpa using rv))
theorem gq (I:Inv X pins σ H s):∀(ks:HF T) {vs:HF V} {us:HF HH},RelL X.K A H (T.ws ks) vs->Vals vs us->IsTs s.heap ks us
 | [],_,_,r,q=>by
  simp only[T.ws]at r;cases r; cases q; exact .nil
 | k::ks,_,_,r,q=>by
  simp only[T.ws]at r;cases r with
  | cons r1 r2=>
   cases q with
   | cons q1 q2=>exact .cons (nQ I k r1 q1) (gq I ks r2 q2)
end
theorem i5 (I:Inv X pins σ H s){k:T}{b:HR}(r:Rel X.K A H k.w (.ref b))(hd:k.depth<=bC):(da X.prog X.w).is s.heap k b:=#[nQ I k r rfl,hd]
theorem iz {w:W}{k:T}{v:V}{u:HH}(hk:gE w=gV k)(r:Rel X.K A H w v)(q:RelV v u):∃b,v=.ref b/\u=.ref b/\Rel X.K A H k.w (.ref b):=by
 obtain⟨h1,h2,h3⟩:=d6 hk;subst h1;cases k with
 | tup ks=>
  simp only[T.w]at r;cases r with
  | tup a b=>exact#[_,rfl,q,by simp only[T.w]; exact .tup a b]
 | _=>cases h2
theorem KRel.is {kvs:HF (T×W)}{xs:HF (T×HR×HH)}(I:Inv X pins σ H s)(r:KRel X.K A H kvs xs):∀x∈xs,(da X.prog X.w).is s.heap x.1 x.2.1:=by
 unfold KRel at r
 induction r with
 | nil=>intro x hx; exact nomatch hx
 | @cons p q ps qs h t ih=>
  intro x hx;rcases Iz.mp hx with e|hx
  ·subst e;obtain⟨h1,h2,h3,h4,_⟩:=h;rw[h1]at h3 h4;exact i5 I h4 h3
  ·exact ih x hx
theorem KRel.length {kvs:HF (T×W)}{xs:HF (T×HR×HH)}(r:KRel X.K A H kvs xs):kvs.length=xs.length:=Mc r
theorem KRel.val {kvs:HF (T×W)}{xs:HF (T×HR×HH)}(r:KRel X.K A H kvs xs)(k:T) :
  (∀w,cr kvs k=gV w->∃p v,atKey xs k=gV p/\Rel X.K A H w v/\RelV v p.2)/\(cr kvs k=td->atKey xs k=td):=by
 unfold KRel at r
 induction r with
 | nil=>exact#[λw h=>(nomatch h),λ_=>rfl]
 | @cons p q ps qs h t ih=>
  obtain⟨h1,_,_,_,v,h5,h6⟩:=h
  by_cases e:p.1=k
  ·have e':q.1=k:=h1.symm.trans e;have a1:cr (p::ps) k=gV p.2:=by simp[cr,KI,e]
   have a2:atKey (q::qs) k=gV q.2:=by simp[atKey,KI,e']
   rw[a1,a2];exact#[λw hw=>(by cases hw; exact#[_,v,rfl,h5,h6]),λh=>nomatch h]
  ·have e':¬ q.1=k:=λz=>e (h1.trans z)
   have a1:cr (p::ps) k=cr ps k:=by simp[cr,KI,e]
   have a2:atKey (q::qs) k=atKey qs k:=by simp[atKey,KI,e']
   rw[a1,a2];exact ih
theorem KRel.repl {kvs:HF (T×W)}{xs:HF (T×HR×HH)}(r:KRel X.K A H kvs xs)(k:T){w:W}{v:V}{u:HH}(rw':Rel X.K A H w v)(rv:RelV v u) :
  KRel X.K A H (kvs.map λp=>if p.1=k then(p.1,w)else p) (xs.map (putAt k u)):=by
 unfold KRel at r ⊢
 induction r with
 | nil=>exact .nil
 | @cons p q ps qs h t ih=>
  rw[JI,JI];refine .cons ?_ ih;obtain⟨h1,h2,h3,h4,h5⟩:=h;unfold putAt
  by_cases e:p.1=k
  ·rw[Iw e,Iw (h1.symm.trans e)]; exact#[h1,h2,h3,h4,v,rw',rv]
  ·rw[IH e,IH (λz=>e (h1.trans z))]; exact#[h1,h2,h3,h4,h5]
theorem pL (k:T):∀kvs:HF (T×W),(kvs.any λp=>decide (p.1=k))=(cr kvs k).isSome
 | []=>rfl
 | p::r=>by
  rw[Kt]
  by_cases e:p.1=k
  ·have a1:cr (p::r) k=gV p.2:=by simp[cr,KI,e]
   rw[a1,Jt e]; rfl
  ·have a1:cr (p::r) k=cr r k:=by simp[cr,KI,e]
   rw[a1,IF e,Nf]; exact pL k r
theorem KRel.put {kvs:HF (T×W)}{xs:HF (T×HR×HH)}(r:KRel X.K A H kvs xs){k:T}{b:HR}{w:W}{v:V}{u:HH}(h1:k.isTup=true)(h2:k.depth<=bC)(h3:Rel X.K A H k.w (.ref b))(rw':Rel X.K A H w v)(rv:RelV v u) :
  KRel X.K A H (eE kvs k w) (storedH xs k b u):=by
 have e:(kvs.any λp=>decide (p.1=k))=(atKey xs k).isSome:=by
  rw[pL];cases q:cr kvs k with
  | none=>rw[(r.val k).2 q]; rfl
  | some x=>obtain⟨p,_,h,_⟩:=(r.val k).1 x q; rw[h]; rfl
 unfold eE storedH;rw[e]
 by_cases q:(atKey xs k).isSome=true
 ·rw[Iw q,Iw q]; exact r.repl k rw' rv
 ·rw[IH q,IH q]; exact Paired.snoc r #[rfl,h1,h2,h3,v,rw',rv]
theorem DicAt.of {h:IZ}{a:HR}{xs:HF (T×HR×HH)}(hz:xs.length<=sizeLine)(hs:(a==sysModules)=false)(d:h.DictOfH (da X.prog X.w) a xs):DicAt X.w a xs h:=
 let ⟨o,es,ep,h1,h2,h3,h4,_,h6⟩:=d; #[hz,hs,h6,o,es,ep,h1,h2,h3,h4]
theorem DicAt.stay {wd:IP}{h h':IZ}{a:HR}{xs:HF (T×HR×HH)}(d:DicAt wd a xs h)(k:∀o,h.get? a=gV o->h'.get? a=gV o):DicAt wd a xs h':=
 let ⟨h0,hs,hn,o,es,ep,h1,h2⟩:=d; #[h0,hs,hn,o,es,ep,k _ h1,h2]
theorem DicAt.ok {P:IC}{h:IZ}{wd:IP}{a:HR}{xs:HF (T×HR×HH)}(d:DicAt wd a xs h):ObjOk P wd H h a (d8 wd a xs):=
 #[d,let ⟨_,_,_,o,_,_,h1,_⟩:=d; #[o,h1],λ_ _ p k=>p.stay k]
theorem cQ {a:HR}{xs:HF (T×HR×HH)}(I:Inv X pins σ H s)(e:Rd H a (d8 X.w a xs)):DicAt X.w a xs s.heap:=(show ObjOk X.prog X.w H s.heap a (d8 X.w a xs)from e.ok I.hok).1
theorem DicAt.dict {kvs:HF (T×W)}{a:HR}{xs:HF (T×HR×HH)}(d:DicAt X.w a xs s.heap)(I:Inv X pins σ H s)(r:KRel X.K A H kvs xs):s.heap.DictOfH (da X.prog X.w) a xs:=
 let ⟨_,_,hn,o,es,ep,h1,h2,h3,h4⟩:=d; #[o,es,ep,h1,h2,h3,h4,r.is I,hn]
theorem fT {i:HM}{kvs:HF (T×W)}{a:HR}(so:StoreOk X.w X.K A H S)(e:jZ S i=gV kvs)(ea:A[i]?=gV a):∃xs,Rd H a (d8 X.w a xs)/\KRel X.K A H kvs xs:=by
 unfold jZ at e;split at e
 ·rename_i k h;cases e;obtain⟨xs,q,r⟩:=so.obj i _ a h ea;exact#[xs,.inl q,r]
 ·rename_i k h;cases e;obtain⟨o,xs,q,r⟩:=so.obj i _ a h ea;exact#[xs,.inr #[o,q],r]
 ·cases e
theorem iA {i:HM}{kvs:HF (T×W)}(e:nP S i=gV kvs):S[i]?=gV (.dic kvs):=by
 unfold nP at e;split at e
 ·rename_i h; cases e; exact h
 ·cases e
theorem sO {i:HM}{kvs:HF (T×W)}{a:HR}(so:StoreOk X.w X.K A H S)(e:nP S i=gV kvs)(ea:A[i]?=gV a):∃xs,H a=gV (d8 X.w a xs)/\KRel X.K A H kvs xs:=
 so.obj i _ a (iA e) ea
theorem pM {B:IL}(hu:B.units+10 < cLine):(da X.prog X.w).room B.in1:=by
 show B.in1.units+bC < cLine;rw[bQ]; unfold bC; omega
noncomputable def lM (x y:W)(S:aa):HL (W×aa):=match x,y with
 | .ref r,.tup ks=>match jZ S r,gE (.tup ks)with
  | some kvs,gV k=>(cr kvs k).map λw=>(w,S)
  | _,_=>td
 | x,y=>uI x y S
theorem GK (hu:X.A.units+10 < cLine):LIx X lM:=by
 intro value slice pins s σ H A S x y a b u v w S' I so rx ru ry rv e hs
 by_cases hxy:∃r ks,x=.ref r/\y=.tup ks
 ·obtain⟨r,ks,rfl,rfl⟩:=hxy;simp only[lM]at e;split at e
  ·rename_i kvs k hk1 hk2;rw[HJ]at e;obtain⟨w',e1,e2⟩:=e;cases e2;cases rx with
   | ref ea=>
    obtain⟨xs,rd,kr⟩:=fT so hk1 ea;have d:=cQ I rd;have dd:=d.dict I kr;obtain⟨bk,rfl,rfl,rk⟩:=iz hk2 ry rv;obtain⟨p,vv,h1,h2,h3⟩:=(kr.val k).1 _ e1;obtain rfl:u=IV _:=ru;refine Ll (x:=p.2) dd.typeIs slot_dict_getitem.lookup
     (wpAny_getItem_heap (Q:=λr s'=>r=p.2/\dQ X pins σ A H S w r s') (pM hu) (i5 I rk (d6 hk2).2.2) dd h1 #[rfl,vv,H,A,I.tok _,h3,.refl,so,h2]) hs
  ·cases e
 ·have:lM x y S=uI x y S:=by
   cases x <;> cases y <;> first|rfl|exact absurd #[_,_,rfl,rfl] hxy
  rw[this]at e;exact Hy hu value slice pins s σ H A S x y a b u v w S' I so rx ru ry rv e hs
noncomputable def iB (o i v:W)(S:aa):HL aa:=match o,i with
 | .ref r,.tup ks=>match nP S r,gE (.tup ks)with
  | some kvs,gV k=>if kvs.length < sizeLine then gV (S.set r (.dic (eE kvs k v)))else td
  | _,_=>td
 | o,i=>uJ o i v S
theorem EI (hu:X.A.units+10 < cLine):LSet X iB:=by
 intro pins s σ H A S o i x ao ai ax uo ui ux S' I so ro ruo ri rui rx rux e
 by_cases hxy:∃r ks,o=.ref r/\i=.tup ks
 ·obtain⟨r,ks,rfl,rfl⟩:=hxy;simp only[iB]at e;split at e
  ·rename_i kvs k hk1 hk2;split at e
   ·rename_i hl;cases e;cases ro with
    | ref ea=>
     obtain⟨xs,hH,kr⟩:=sO so hk1 ea;have d:=cQ I (.inl hH);have dd:=d.dict I kr;obtain⟨bk,rfl,rfl,rk⟩:=iz hk2 ri rui;obtain⟨q1,q2,q3⟩:=d6 hk2;obtain rfl:uo=IV _:=ruo;have hz:xs.length<=sizeLine:=by rw[<- kr.length]; omega
     refine wpAny_setItem_heap (hsz:=hz) (pM hu) (i5 I rk q3) dd λh' dd' hs=>?_
     have kr':=kr.put q2 q3 rk rx rux;have hz':(storedH xs k bk ux).length<=sizeLine:=by
      rw[<- kr'.length];have:=c7 kvs k x;omega
     have dn:DicAt X.w _ (storedH xs k bk ux) h':=.of hz' d.2.1 dd';obtain⟨so',ex⟩:=so.writeO (iA hk1) rfl ea (u:=d8 X.w _ (storedH xs k bk ux)) (n:=.dic (eE kvs k x)) #[_,bD,kr'.mono (dC (.ext hH))];exact#[_,A,nF I (by rw[hH]; exact Lw) hs (let ⟨q,_,_,hq,_⟩:=dd'; #[q,hq]) dn.ok,ex,so']
   ·cases e
  ·cases e
 ·have:iB o i x S=uJ o i x S:=by
   cases o <;> cases i <;> first|rfl|exact absurd #[_,_,rfl,rfl] hxy
  rw[this]at e;exact lset hu pins s σ H A S o i x ao ai ax uo ui ux S' I so ro ruo ri rui rx rux e
noncomputable def sP (x:W)(xs:HF W)(S:aa):HL (W×aa):=match x,xs with
 | .ref r,[y,z]=>match jZ S r,gE y with
  | some kvs,gV k=>gV ((cr kvs k).getD z,S)
  | _,_=>td
 | _,_=>td
theorem rC (hu:X.A.units+10 < cLine):LMeth X "dict.get" sP:=by
 intro pins s σ H A S x a u xs vs us w S' I so rx ru rl rv e;cases rx with
 | ref ea=>
  cases rl with
  | nil=>cases e
  | cons r1 t1=>
   cases t1 with
   | nil=>cases e
   | cons r2 t2=>
    cases t2 with
    | cons _ _=>cases e
    | nil=>
     simp only[sP]at e;split at e
     ·rename_i kvs k hk1 hk2;cases e;obtain⟨xs,rd,kr⟩:=fT so hk1 ea;have d:=cQ I rd;have dd:=d.dict I kr;cases rv with
      | cons v1 rv2=>
       cases rv2 with
       | cons v2 rv3=>
        cases rv3;obtain⟨bk,rfl,rfl,rk⟩:=iz hk2 r1 v1;obtain rfl:u=IV _:=ru;refine call_meetsIn ML dd.typeIs PySem.F.entry_dict_get (PySem.F.args_dict_get_3 _ _ _) (meetsH_dict_get_default (da X.prog X.w) _ bk d.2.1 _) #[pM hu,k,xs,i5 I rk (d6 hk2).2.2,dd,?_];cases q:cr kvs k with
        | none=>
         rw[(kr.val k).2 q];exact#[_,H,A,I.tok _,v2,.refl,so,r2]
        | some w'=>
         obtain⟨p,vv,h1,h2,h3⟩:=(kr.val k).1 _ q;rw[h1];exact#[vv,H,A,I.tok _,h3,.refl,so,h2]
     ·cases e
 | _=>cases e
noncomputable def F0 (x:W)(i:HM)(S:aa):HL Iy:=match W.t x,g8 S i with
 | some k,gV ys=>match W.ts ys with
  | some ks=>if k.depth<=bC/\T.depths ks<=bC then gV (decide (k∈ks))else td
  | none=>td
 | _,_=>td
noncomputable def wz (x:W)(ys:HF W):HL Iy:=match W.t x,W.ts ys with
 | some k,gV ks=>if k.depth<=bC/\T.depths ks<=bC then gV (decide (k∈ks))else td
 | _,_=>td
theorem nR {h:IZ}:∀ {ks:HF T} {vs:HF HH},IsTs h ks vs->∀v∈vs,∃k∈ks,IsT h k v
 | _,_,.cons a b,v,hv=>by
  rcases Iz.mp hv with rfl|hv
  ·exact#[_,.head _,a]
  ·obtain⟨k,hk,q⟩:=nR b v hv;exact#[k,.tail _ hk,q]
noncomputable def yW (h:IZ)(k:T)(v:HH):Iy:=@decide (IsT h k v) (O8 _)
theorem rD {h:IZ}{k k':T}{v:HH}(x:IsT h k' v):yW h k v=decide (k'=k):=by
 unfold yW
 by_cases e:k'=k
 ·subst e; simp[x]
 ·have:¬ IsT h k v:=λy=>e (x.inj y)
  simp[e,this]
theorem nS {h:IZ}{k:T}:∀ {ks:HF T} {vs:HF HH},IsTs h ks vs->vs.any (yW h k)=decide (k∈ks)
 | _,_,.nil=>by simp
 | _,_,.cons (k:=k') a b=>by
  rw[Kt,rD a,nS b]
  by_cases e:k'=k
  ·simp[e]
  ·have:¬ k=k':=λz=>e z.symm
   simp[e,this]
theorem kK:∀ {ks:HF T} {k:T},k∈ks->k.depth<=T.depths ks
 | x::ks,k,h=>by
  simp only[T.depths];rcases Iz.mp h with rfl|h
  ·omega
  ·have:=kK h; omega
theorem wD {x:W}{i:HM}{a b:V}{u v:HH}{c:Iy}(hu:X.A.units+10 < cLine)(I:Inv X pins σ H s)(so:StoreOk X.w X.K A H S)(rx:Rel X.K A H x a)(ru:RelV a u)(ry:Rel X.K A H (.ref i) b)(rv:RelV b v)(e:F0 x i S=gV c) :
  ∃l its k ks,v=.ref l/\s.heap.IsList l its/\(∀y,y∈its->Lu X.A.in1 s y u (yW s.heap k y))/\its.any (yW s.heap k)=c/\c=decide (k∈(ks:HF T)):=by
 unfold F0 at e;split at e
 ·rename_i k ys h1 h2;split at e
  ·rename_i ks h3;split at e
   ·rename_i h4;cases e;cases ry with
    | ref ea=>
     obtain⟨vs,g1,g2⟩:=cW so h2 ea;obtain⟨its,rv',p,_⟩:=I.list g1;obtain rfl:v=IV _:=rv;have hT:IsTs s.heap ks its:=gq I ks ((W.ts_w h3).symm ▸ g2) rv';have hk:IsT s.heap k u:=nQ I k ((W.t_w h1).symm ▸ rx) ru;refine#[_,its.toArray,k,ks,rfl,p.isList,λy hy=>?_,by rw[N7]; exact nS hT,rfl]
     obtain⟨k',hk',q⟩:=nR hT y (by simpa using hy)
     rw[rD q];have:=kK hk';have kl:bC=6:=rfl;exact uN bC k' k _ _ _ _ ∅ q hk (by rw[bQ]; omega) (by rw[bQ]; omega)
   ·cases e
  ·cases e
 ·cases e
theorem zT {x:W}{ys:HF W}{a b:V}{u v:HH}{c:Iy}(hu:X.A.units+10 < cLine)(I:Inv X pins σ H s)(rx:Rel X.K A H x a)(ru:RelV a u)(ry:Rel X.K A H (.tup ys) b)(rv:RelV b v)(e:wz x ys=gV c) :
  ∃l its k,v=.ref l/\s.heap.IsTuple l its/\(∀y,y∈its->Lu X.A.in1 s y u (yW s.heap k y))/\its.any (yW s.heap k)=c:=by
 unfold wz at e;split at e
 ·rename_i k ks h1 h3;split at e
  ·rename_i h4;cases e;cases ry with
   | @tup _ l vs g1 g2=>
    obtain⟨its,rv',p,_⟩:=I.tuple g1;obtain rfl:v=IV _:=rv;have hT:IsTs s.heap ks its:=gq I ks ((W.ts_w h3).symm ▸ g2) rv';have hk:IsT s.heap k u:=nQ I k ((W.t_w h1).symm ▸ rx) ru;refine#[_,its.toArray,k,rfl,p,λy hy=>?_,by rw[N7]; exact nS hT]
    obtain⟨k',hk',q⟩:=nR hT y (by simpa using hy)
    rw[rD q];have:=kK hk';have kl:bC=6:=rfl;exact uN bC k' k _ _ _ _ ∅ q hk (by rw[bQ]; omega) (by rw[bQ]; omega)
  ·cases e
 ·cases e
noncomputable def ce (o:COp)(x y:W)(S:aa):HL (W×aa):=match o,y with
 | .isin,.ref i=>match jZ S i with
  | some kvs=>(gE x).map λk=>(.bl (cr kvs k).isSome,S)
  | none=>match x with
   | .tup xs=>(F0 (.tup xs) i S).map λb=>(.bl (b),S)
   | x=>iq .isin x (.ref i) S
 | .notin,.ref i=>match jZ S i with
  | some kvs=>(gE x).map λk=>(.bl (!(cr kvs k).isSome),S)
  | none=>match x with
   | .tup xs=>(F0 (.tup xs) i S).map λb=>(.bl (!b),S)
   | x=>iq .notin x (.ref i) S
 | .isin,.tup ys=>match x with
  | .tup xs=>(wz (.tup xs) ys).map λb=>(.bl b,S)
  | x=>iq .isin x (.tup ys) S
 | o,y=>iq o x y S
theorem pN (hu:X.A.units+g9 < cLine)(o:COp):LOp X (compareOp o.py) (ce o):=by
 intro pins s σ H A S x y a b u v w S' I so rx ru ry rv e;have get:∀ {i:HM} {kvs:HF (T×W)} {k:T},y=.ref i->jZ S i=gV kvs->gE x=gV k->∃d c xs,v=.ref d/\u=.ref c/\(d==sysModules)=false/\(da X.prog X.w).is s.heap k c/\s.heap.DictOfH (da X.prog X.w) d xs/\(cr kvs k).isSome=(atKey xs k).isSome:=by
  intro i kvs k hy hk1 hk2;subst hy;cases ry with
  | ref ea=>
   obtain⟨xs,rd,kr⟩:=fT so hk1 ea;have d:=cQ I rd;obtain⟨bk,rfl,rfl,rk⟩:=iz hk2 rx ru;obtain rfl:v=IV _:=rv;refine#[_,bk,xs,rfl,rfl,d.2.1,i5 I rk (d6 hk2).2.2,d.dict I kr,?_];cases q:cr kvs k with
   | none=>rw[(kr.val k).2 q]; rfl
   | some w'=>obtain⟨p,_,h1,_⟩:=(kr.val k).1 _ q; rw[h1]; rfl
 have old:iq o x y S=gV (w,S')->wpAny (model X.prog X.w) X.A (compareOp o.py u v) (dQ X pins σ A H S' w) X.xe s:=λh=>zQ hu o pins s σ H A S x y a b u v w S' I so rx ru ry rv h
 have hu':X.A.units+10 < cLine:=by have:g9=20:=rfl; omega
 unfold ce at e;split at e
 ·split at e
  ·rename_i kvs hk1;rw[HJ]at e;obtain⟨k,hk2,e2⟩:=e;cases e2;obtain⟨d,c,xs,rfl,rfl,q1,q2,q3,q4⟩:=get rfl hk1 hk2;rw[q4];exact wpAny_in_heap (pM hu') q2 q1 q3 #[.bl _,H,A,I.tok _,rfl,.refl,so,.bl]
  ·split at e
   ·rw[HJ]at e;obtain⟨c,hc,e⟩:=e;cases e;obtain⟨l,its,k,ks,rfl,p1,p2,p3,_⟩:=wD hu' I so rx ru ry rv hc;refine On (yW s.heap k) p1 p2 ?_;rw[p3];exact#[.bl _,H,A,I,rfl,.refl,so,.bl]
   ·exact old e
 ·split at e
  ·rename_i kvs hk1;rw[HJ]at e;obtain⟨k,hk2,e2⟩:=e;cases e2;obtain⟨d,c,xs,rfl,rfl,q1,q2,q3,q4⟩:=get rfl hk1 hk2;rw[q4];exact wpAny_notIn_heap (pM hu') q2 q1 q3 #[.bl _,H,A,I.tok _,rfl,.refl,so,.bl]
  ·split at e
   ·rw[HJ]at e;obtain⟨c,hc,e⟩:=e;cases e;obtain⟨l,its,k,ks,rfl,p1,p2,p3,_⟩:=wD hu' I so rx ru ry rv hc;refine Np (yW s.heap k) p1 p2 ?_;rw[p3];exact#[.bl _,H,A,I,rfl,.refl,so,.bl]
   ·exact old e
 ·split at e
  ·rw[HJ]at e;obtain⟨c,hc,e⟩:=e;cases e;obtain⟨l,its,k,rfl,p1,p2,p3⟩:=zT hu' I rx ru ry rv hc;refine N4 (yW s.heap k) p1 p2 ?_;rw[p3];exact#[.bl _,H,A,I,rfl,.refl,so,.bl]
  ·exact old e
 ·exact old e
end
noncomputable def RawD (d:HR)(es:IY J3)(ep:HM)(h:IZ):Prop:=∃o,h.get? d=gV o/\o.ExactDict/\o.data=.dict es ep
theorem RawD.at {d:HR}{es:IY J3}{ep:HM}{h h':IZ}(x:RawD d es ep h)(e:∀o,h.get? d=gV o->h'.get? d=gV o):RawD d es ep h':=let ⟨o,ho,r⟩:=x; #[o,e _ ho,r]
theorem RawD.lt {d:HR}{es:IY J3}{ep:HM}{h:IZ}(x:RawD d es ep h):d < h.objs.size:=let ⟨_,ho,_⟩:=x; Io ho
theorem RawD.type {d:HR}{es:IY J3}{ep:HM}{s:HK}(x:RawD d es ep s.heap):s.TypeIs (.ref d) "dict":=let ⟨o,ho,hc,_⟩:=x; #[o,ho,hc.1]
section
variable{prog:IC}{w:IP}{A:IL}{E:HH->HK->Prop}{s:HK}{it d:HR}{i ep:HM}{es:IY J3}
theorem pO {Q:HH->HK->Prop}(hd:(d==sysModules)=false)(hm:RawD d es ep s.heap)
  (hQ:Q (.ref s.heap.objs.size) { s with heap:=s.heap.push { cls:=.type "dict_keyiterator",data:=.fields [.ref d,.int 0 0,.int es.size 0,.int ep 0].toArray } }):wpAny (model prog w) A (pyIter (.ref d)) Q E s:=by
 have hT:=hm.type;obtain⟨o,ho,hc,hdat⟩:=id hm;refine wpAny_pyIter_slot hT F.slot_dict_iter (Jv F.slot_dict_iter hT F.entry_dict_iter ?_ (F.args_dict_iter_1 _));unfold M2.«dict.__iter__» OQ;refine HG (HG (wpAny_notOrdered_dict hT ?_));show wpAny _ _ (pure (IV d)) _ _ s;refine HU ?_;show wpAny _ _ (MM d >>= _) _ _ s;unfold MM;rw[IH (by rw[hd]; exact Iu)]
 refine HG (HU (HG (Lm ho hdat (HG (MB ho hdat ?_)))));refine HG (Ja (HU #[_,rfl,"dict_keyiterator",_,#[_,Iq _ rfl,rfl],F.slot_dict_keyiterator_next.lookup,?_]))
 simpa [rawInt]using hQ
theorem pP {Q:HL HH->HK->Prop}(hit:s.heap.IsKeyIter it d i es.size ep)(hm:RawD d es ep s.heap)(hi:i < es.size)
  (hQ:∀h',h'.IsKeyIter it d (i+1) es.size ep->Kn it s.heap h'->Q (gV es[i].key) { s with heap:=h' }):wpAny (model prog w) A (pyNext (.ref it)) Q E s:=by
 obtain⟨o,ho,hc,hd⟩:=id hit;obtain⟨od,hod,hcd,hdd⟩:=id hm;unfold pyNext;refine HG (Mg (Jp (name:=J6 "__next__") hit.typeIs F.slot_dict_keyiterator_next
  (Jv F.slot_dict_keyiterator_next hit.typeIs F.entry_dict_keyiterator_next ?_ (F.args_dict_keyiterator_next_1 _))))
 refine HG (HU (HG (HG ?_)))
 first|refine HG (J1 hit.typeIs (HU ?_))|refine HG (Kv hit.typeIs (HU ?_))
 refine HG (OF ho hd ?_);have hown:LF "dict_keyiterator" = false:=by decide
 simp only[hown,Js,Kq];show wpAny _ _ (if (IV d==Ji)=true then _ else _) _ _ s
 rw[IH (show ¬ ((IV d==Ji)=true)from Iu)]
 refine HG (HU (HG (Lm hod hdd ?_)));rw[IH (by simp)]
 refine HG (HU (HG (MB hod hdd ?_)));rw[IH (by simp)]
 refine HU ?_;simp only[show ¬ ((i:Ig) < 0)from by omega,Kq,HY,L1 hi]
 refine HG ?_
 first|refine HG (J1 hit.typeIs (HU ?_))|refine HG (Kv hit.typeIs (HU ?_))
 refine HG (MN hit.typeIs ?_);show wpAny _ _ (setField (.ref it) 1 (rawInt ((i:Ig)+1)) >>= _) _ _ s;refine HG (LR ho hd (by simp) ?_)
 have hit':(s.heap.update it (O0 (·.setIfInBounds 1 (rawInt ((i:Ig)+1))))).IsKeyIter it d (i+1) es.size ep:=
  #[_,Kg _ ho (MO (Ld hd _)),(NO ..).trans hc,by rw[Ld hd]; simp[rawInt]]
 refine HG (JC ?_);refine HG (MN (s:={ s with heap:=s.heap.update it (O0 (·.setIfInBounds 1 (rawInt ((i:Ig)+1)))) }) hit'.typeIs ?_)
 show wpAny _ _ (pure es[i].key) _ _ _;exact HU (HU #[_,rfl,HU (hQ _ hit' (K6 ..))])
theorem sQ {Q:HL HH->HK->Prop}(hh:A.handled=td)(hit:s.heap.IsKeyIter it d i es.size ep)(hm:RawD d es ep s.heap)(hge:es.size<=i)
  (hQ:∀h',MT it s.heap h'->Q td { s with heap:=h' }):wpAny (model prog w) A (pyNext (.ref it)) Q E s:=by
 obtain⟨o,ho,hc,hd⟩:=id hit;obtain⟨od,hod,hcd,hdd⟩:=id hm;unfold pyNext;refine HG (Mg (Jp (name:=J6 "__next__") hit.typeIs F.slot_dict_keyiterator_next
  (Jv F.slot_dict_keyiterator_next hit.typeIs F.entry_dict_keyiterator_next ?_ (F.args_dict_keyiterator_next_1 _))))
 refine HG (HU (HG (HG ?_)))
 first|refine HG (J1 hit.typeIs (HU ?_))|refine HG (Kv hit.typeIs (HU ?_))
 refine HG (OF ho hd ?_);have hown:LF "dict_keyiterator" = false:=by decide
 simp only[hown,Js,Kq];show wpAny _ _ (if (IV d==Ji)=true then _ else _) _ _ s
 rw[IH (show ¬ ((IV d==Ji)=true)from Iu)]
 refine HG (HU (HG (Lm hod hdd ?_)));rw[IH (by simp)]
 refine HG (HU (HG (MB hod hdd ?_)));rw[IH (by simp)]
 refine HU ?_;simp only[show ¬ ((i:Ig) < 0)from by omega,Kq,HY,Array.getElem?_eq_none hge]
 refine HG ?_
 first|refine HG (J1 hit.typeIs (HU ?_))|refine HG (Kv hit.typeIs (HU ?_))
 show wpAny _ _ (setField (.ref it) 0 .none >>= _) _ _ s;refine HG (LR ho hd (by simp) ?_)
 show wpAny _ _ (newExc (.type "StopIteration") [] >>= _) _ _ _;refine HG ?_;simp only[newExc,newTuple];refine HG (Ja ?_ (by size_fits))
 refine HG (m:=firstArgMember _ _) (MU (a:=Ji) (by first|rfl|(simp only[firstArgMember]; rfl)) ?_)
 refine Ja ?_ (by size_fits)
 simp only[raiseNew];refine HG (O1 ?_);rw[show A.in1.handled=td from hh]
 refine HG (HU (Pp ?_));refine HG (Mm (T:="StopIteration") (b:=true) #[_,Iq _ rfl,rfl] OG ?_);exact HU (hQ _ (((K6 ..).extBut.push _).push _))
theorem uO (hh:A.handled=td)(I d:HR)(hne:d≠I)(es:IY J3)(ep:HM) :
  P4 prog w A I [I,d] [I] es.size (λi v=>∃e,es[i]?=gV e/\e.key=v) (λi h=>h.IsKeyIter I d i es.size ep/\RawD d es ep h) where
 sub:=λb hb=>by simp at hb; simp[hb]
 frame:=λ_ _ _ st hk=>#[st.1.at λo e=>hk I (by simp) o e,st.2.at λo e=>hk d (by simp) o e]
 item:=λi s Q E hi st hQ=>
  pP st.1 st.2 hi λh' hit' hs'=>hQ _ h' s.toks #[es[i],by simp[hi],rfl] #[hit',st.2.at λo e=>(hs'.2 d hne).trans e] λb o hb e=>hs'.extBut b o (λh=>hb (by simp[h])) e
 done:=λs Q E st hQ=>sQ hh st.1 st.2 (HZ _) λh' he'=>hQ h' s.toks λb o hb e=>he' b o (λh=>hb (by simp[h])) e
 self:=λ_ _ _ _ st hQ=>MV st.1 hQ
theorem sR (lo:(d==sysModules)=false):MW prog w "dict" d d es.size (λi v=>∃e,es[i]?=gV e/\e.key=v) (RawD d es ep) where
 type:=λ_ hm=>hm.type
 there:=λ_ hm=>#[hm.lt,hm.lt]
 keep:=λ_ _ hm hk=>hm.at λo e=>hk d (.inl rfl) o e
 notList:=by decide
 notTuple:=by decide
 hint:=λ_ _ _ _ hm hq=>PySem.W.kdl_hint_dict hm.type hq
 iter:=λ_ _ hh hm=>#[_,_,(λ_ _ hq=>pO lo hm hq),uO hh _ d (ID hm.lt) es ep,#[#[_,Iq _ rfl,rfl,rfl],hm.at λo e=>HP _ e]]
theorem wF {T:Jr}{r d S:HR}{n:HM}{P:HM->HH->Prop}{OK:IZ->Prop}{R:N1->HK->Prop}(K:MW prog w T r d n P OK)(hh:A.handled=td)(hok:OK s.heap)(hn:n<=sizeLine)(hSr:S≠r)(hSd:S≠d)
  (hS:s.heap.get? S=gV { cls:=.type "list",data:=.seq #[] 0 })
  (hR:∀h' tk acc' c',(∀b o,b≠S->s.heap.get? b=gV o->h'.get? b=gV o)->h'.get? S=gV { cls:=.type "list",dict:=td,data:=.seq acc' c',slots:=#[] }->Mu P acc' n->R (.ok (.ret (.ref S))) { s with heap:=h',toks:=tk }) :
  codeAny (model prog w) A (.builtin "list.__iadd__" #[[.ref S,.ref r],[]]) R s:=by
 refine JM F.entry_list_iadd ?_;rw[JB F.plain_list_iadd _];show wpAny _ A.in1 (J7 (.ref S) (.ref r) (.ref S)) _ _ _;exact PySem.W.kdl_extend K hh hok S hSr hSd _ 0 hS hR hn
theorem pQ {T:Jr}{r d:HR}{n:HM}{P:HM->HH->Prop}{OK:IZ->Prop}{Q:HF HH->HK->Prop}(K:MW prog w T r d n P OK)(hh:A.handled=td)(hok:OK s.heap)(hn:n<=sizeLine)
  (hQ:∀h' tk acc,(∀b o,s.heap.get? b=gV o->h'.get? b=gV o)->s.heap.objs.size<=h'.objs.size->Mu P acc n->Q acc.toList { s with heap:=h',toks:=tk }):wpAny (model prog w) A (collect (.ref r)) Q E s:=by
 unfold collect;refine HG (MX (JM F.entry_proto_collect ?_));rw[JB F.plain_proto_collect _];show wpAny _ A.in1 (newList [] >>= λl=>again (.builtin "list.__iadd__" #[[l,.ref r],[]])) _ _ s
 refine HG (Ja ?_);have hlt:=K.there _ hok;refine HU #[KJ F.plain_list_iadd _,wF (s:={ s with heap:=s.heap.push { cls:=.type "list",data:=.seq ([]:HF HH).toArray } }) K hh (K.keep _ _ hok λb _ o e=>HP _ e) hn (KF hlt.1) (KF hlt.2) (Iq _ rfl) λh' tk acc' c' hk hS' hacc=>?_]
 show wpAny (model prog w) A (do
   let o <- load s.heap.objs.size
   match o.data with
   | .seq xs _=>pure xs.toList
   | _=>unsupported "internal:collect") Q E { s with heap:=h',toks:=tk }
 refine HG (Nm hS' ?_);exact HU (hQ h' tk acc' (λb o e=>hk b o (ID (Io e)) (HP _ e)) (Lj (Io hS')) hacc)
end
mutual
noncomputable def gF:T->T->HL Iy
 | .int a,.int b=>gV (decide (a < b))
 | .str a,.str b=>gV (decide (a.cps.toList < b.cps.toList))
 | .tup xs,.tup ys=>di xs ys
 | _,_=>td
noncomputable def di:HF T->HF T->HL Iy
 | [],[]=>gV false
 | [],_::_=>gV true
 | _::_,[]=>gV false
 | x::xs,y::ys=>if x=y then di xs ys else gF x y
end
mutual
theorem IsT.kept {h h':IZ}(hk:∀b o,o.cls=.type "tuple"->h.get? b=gV o->h'.get? b=gV o):∀ {x:T} {v:HH},IsT h x v->IsT h' x v
 | _,_,.int=>.int
 | _,_,.str=>.str
 | _,_,.tup a1 c1 d1 t1=>.tup (hk _ _ c1 a1) c1 d1 (IsTs.kept hk t1)
theorem IsTs.kept {h h':IZ}(hk:∀b o,o.cls=.type "tuple"->h.get? b=gV o->h'.get? b=gV o):∀ {x:HF T} {v:HF HH},IsTs h x v->IsTs h' x v
 | _,_,.nil=>.nil
 | _,_,.cons a b=>.cons (IsT.kept hk a) (IsTs.kept hk b)
end
theorem EJ {B:IL}{s:HK}{d:HM}(hu:B.units+d < cLine)(hl:∀(x y:T) (u v:HH) (k:Iy),x.depth<=d->y.depth<=d->IsT s.heap x u->IsT s.heap y v->gF x y=gV k->LtAt B s u v k) :
  ∀(xs ys:HF T) (us vs:HF HH) (k:Iy),T.depths xs<=d->T.depths ys<=d->IsTs s.heap xs us->IsTs s.heap ys vs->di xs ys=gV k->LexR B s us vs k
 | [],[],_,_,k,_,_,h1,h2,e=>by cases h1; cases h2; cases e; exact .nn
 | [],y::ys,_,_,k,_,_,h1,h2,e=>by cases h1; cases h2; cases e; exact .nc
 | x::xs,[],_,_,k,_,_,h1,h2,e=>by cases h1; cases h2; cases e; exact .cn
 | x::xs,y::ys,_,_,k,d1,d2,h1,h2,e=>by
  simp only[T.depths]at d1 d2;cases h1 with
  | cons p1 q1=>
   cases h2 with
   | cons p2 q2=>
    have he:=uN d x y _ _ B s ∅ p1 p2 hu ∅
    simp only[di]at e
    by_cases hxy:x=y
    ·rw[Iw hxy]at e;rw[Jt hxy]at he;exact .eq he (EJ hu hl xs ys _ _ k ∅ ∅ q1 q2 e)
    ·rw[IH hxy]at e;rw[IF hxy]at he;exact .ne he (hl x y _ _ k ∅ ∅ p1 p2 e)
theorem EK:∀(d:HM) (x y:T) (u v:HH) (B:IL) (s:HK) (k:Iy),x.depth<=d->y.depth<=d->IsT s.heap x u->IsT s.heap y v->B.units+d < cLine->gF x y=gV k->LtAt B s u v k:=by
 intro d
 induction d with
 | zero=>
  intro x y u v B s k d1 d2 h1 h2 hu e;cases h1 with
  | int=>cases h2 with
   | int=>cases e; exact λprog w E Q h=>(M6 h:wpAny (model prog w) B (compareOp .Lt _ _) Q E s)
   | _=>cases e
  | str=>cases h2 with
   | str=>cases e; exact λprog w E Q h=>(lt_str h:wpAny (model prog w) B (compareOp .Lt _ _) Q E s)
   | _=>cases e
  | tup _ _ _ _=>simp[T.depth]at d1
 | succ d ih=>
  intro x y u v B s k d1 d2 h1 h2 hu e;cases h1 with
  | int=>cases h2 with
   | int=>cases e; exact λprog w E Q h=>(M6 h:wpAny (model prog w) B (compareOp .Lt _ _) Q E s)
   | _=>cases e
  | str=>cases h2 with
   | str=>cases e; exact λprog w E Q h=>(lt_str h:wpAny (model prog w) B (compareOp .Lt _ _) Q E s)
   | _=>cases e
  | tup a1 c1 e1 t1=>cases h2 with
   | tup a2 c2 e2 t2=>
    simp only[T.depth]at d1 d2;have hu1:B.in1.units+d < cLine:=by rw[bQ]; omega
    exact LtAt.tuples #[_,a1,c1,_,e1] #[_,a2,c2,_,e2] ∅ (EJ hu1 (λx y u v k q1 q2 q3 q4 q5=>ih x y u v B.in1 s k q1 q2 q3 q4 hu1 q5) _ _ _ _ k ∅ ∅ t1 t2 e)
   | _=>cases e
section
variable{prog:IC}{w:IP}{A:IL}{R:N1->HK->Prop}{I S:HR}{fp wr:HF HR}{n:HM}{P:HM->HH->Prop}{St:HM->IZ->Prop}{Ok:IZ->Prop}{bt:HM->HM->Iy}
noncomputable def wH (prog:IC)(w:IP)(A:IL)(P:HM->HH->Prop)(Ok:IZ->Prop)(bt:HM->HM->Iy):Prop:=
 ∀i j vi vj (s:HK) (Q:HH->HK->Prop) (E:HH->HK->Prop),Ok s.heap->P i vi->P j vj->Q (.bool (bt i j)) s->wpAny (model prog w) A (richCompare .Lt vi vj) Q E s
theorem wI (W:P4 prog w A.in1 I fp wr n P St)(hcmp:wH prog w A.in1 P Ok bt)(hSf:S∉fp)(hok:∀h h',Ok h->(∀b o,b∉wr->b≠S->h.get? b=gV o->h'.get? b=gV o)->Ok h') :
  ∀(k j:HM) (s:HK) (vb:HH) (c:HM),n - (j+1)=k->j < n->St (j+1) s.heap->P (argBest bt j) vb->Ok s.heap->s.heap.get? S=gV { cls:=.type "list",dict:=td,data:=.seq [vb,vb].toArray c,slots:=#[] }->
  (∀v h' tk,P (argBest bt (n - 1)) v->(∀b o,b∉wr->b≠S->s.heap.get? b=gV o->h'.get? b=gV o)->R (.ok (.ret v)) { s with heap:=h',toks:=tk })->
  codeAny (model prog w) A (.builtin "min.loop" #[[.ref I,.none,.ref S],[]]) R s:=by
 have hSw:S∉wr:=λh=>hSf (W.sub _ h)
 have hname:(toString "min" ++ toString ".loop" : Jr) = "min.loop":=by decide
 intro k
 induction k with
 | zero=>
  intro j s vb c hk hj hst hPb hO hS hR;have hin:j+1=n:=∅
  refine JM F.entry_min_loop ?_;rw[JB F.plain_min_loop _];show wpAny _ A.in1 (seqItems? (.ref S) >>= _) _ _ s;refine HG (KU hS rfl ?_);show wpAny _ A.in1 (tryCatch (pyNext (.ref I)) _ >>= _) _ _ s;refine HG (LS (W.done s _ _ (hin ▸ hst) λh' tk hk'=>?_))
  have hS':=hk' S _ hSw hS;show wpAny _ A.in1 (updateSeq S (λ_=>#[]) >>= _) _ _ _
  refine HG (MC hS' rfl (HG (LA (HU ?_))));have e:j=n - 1:=∅
  exact hR vb _ tk (e ▸ hPb) λb o hbw hbS e=>(Jj _ _ (Ne.symm hbS)).trans (hk' b o hbw e)
 | succ k ih=>
  intro j s vb c hk hj hst hPb hO hS hR;have hlt:j+1 < n:=∅
  refine JM F.entry_min_loop ?_;rw[JB F.plain_min_loop _];show wpAny _ A.in1 (seqItems? (.ref S) >>= _) _ _ s;refine HG (KU hS rfl ?_);show wpAny _ A.in1 (tryCatch (pyNext (.ref I)) _ >>= _) _ _ s;refine HG (LS (W.item (j+1) s _ _ hlt hst λv h' tk hP hst' hk'=>?_))
  have hS':=hk' S _ hSw hS;have hO':Ok h':=hok _ _ hO λb o hb _ e=>hk' b o hb e
  show wpAny _ A.in1 (tryCatch (holding [v,v] (richCompare .Lt v vb >>= _)) _ >>= _) _ _ _;refine HG (LS (JC (HG (hcmp (j+1) (argBest bt j) v vb _ _ _ hO' hP hPb ?_))));refine HG (JC (J2 ?_));refine HG (LA (HU ?_));cases hb:bt (j+1) (argBest bt j)with
  | true=>
   simp only[KG];refine HG (MC hS' rfl (HG (LA ?_)));rw[hname];refine HU #[KJ F.plain_min_loop _,ih (j+1) _ v _ ∅ hlt (W.frame _ _ _ hst' λb hbf o e=>?_) (by simp only[argBest,hb,KG]; exact hP) (hok _ _ hO' λb o _ hbS e=>(Jj _ _ (Ne.symm hbS)).trans e) (Kg _ hS' rfl)
    λv' h'' tk'' hP' hk''=>?_]
   ·exact(Jj _ _ (λh:S=b=>hSf (by rw[h]; exact hbf))).trans e
   ·exact hR v' h'' tk'' hP' λb o hbw hbS e=>hk'' b o hbw hbS ((Jj _ _ (Ne.symm hbS)).trans (hk' b o hbw e))
  | false=>
   simp only[Js,Kq];refine HG (LA ?_);rw[hname];refine HU #[KJ F.plain_min_loop _,ih (j+1) _ vb c ∅ hlt hst' (by simp only[argBest,hb,Js,Kq]; exact hPb) hO' hS' λv' h'' tk'' hP' hk''=>?_]
   exact hR v' h'' tk'' hP' λb o hbw hbS e=>hk'' b o hbw hbS (hk' b o hbw e)
theorem uP (W:P4 prog w A.in1 I fp wr n P St)(hcmp:wH prog w A.in1 P Ok bt)(hSf:S∉fp)(hok:∀h h',Ok h->(∀b o,b∉wr->b≠S->h.get? b=gV o->h'.get? b=gV o)->Ok h')(hn:0 < n){s:HK}{c:HM}(hst:St 0 s.heap)(hO:Ok s.heap)
  (hS:s.heap.get? S=gV { cls:=.type "list",dict:=td,data:=.seq #[] c,slots:=#[] })
  (hR:∀v h' tk,P (argBest bt (n - 1)) v->(∀b o,b∉wr->b≠S->s.heap.get? b=gV o->h'.get? b=gV o)->R (.ok (.ret v)) { s with heap:=h',toks:=tk }) :
  codeAny (model prog w) A (.builtin "min.loop" #[[.ref I,.none,.ref S],[]]) R s:=by
 have hSw:S∉wr:=λh=>hSf (W.sub _ h)
 have hname:(toString "min" ++ toString ".loop" : Jr) = "min.loop":=by decide
 refine JM F.entry_min_loop ?_;rw[JB F.plain_min_loop _];show wpAny _ A.in1 (seqItems? (.ref S) >>= _) _ _ s;refine HG (KU hS rfl ?_);show wpAny _ A.in1 (tryCatch (pyNext (.ref I)) _ >>= _) _ _ s;refine HG (LS (W.item 0 s _ _ hn hst λv h' tk hP hst' hk'=>?_))
 have hS':=hk' S _ hSw hS;show wpAny _ A.in1 (updateSeq S (λ_=>[v,v].toArray) >>= _) _ _ _
 refine HG (MC hS' rfl ?_);rw[hname];have hO':Ok h':=hok _ _ hO λb o hb _ e=>hk' b o hb e
 refine HU #[KJ F.plain_min_loop _,wI W hcmp hSf hok _ 0 _ v _ rfl hn (W.frame _ _ _ hst' λb hbf o e=>?_) hP (hok _ _ hO' λb o _ hbS e=>(Jj _ _ (Ne.symm hbS)).trans e) (Kg _ hS' rfl) λv' h'' tk'' hP' hk''=>?_]
 ·exact(Jj _ _ (λh:S=b=>hSf (by rw[h]; exact hbf))).trans e
 ·exact hR v' h'' tk'' hP' λb o hbw hbS e=>hk'' b o hbw hbS ((Jj _ _ (Ne.symm hbS)).trans (hk' b o hbw e))
end
section
variable{prog:IC}{w:IP}{A:IL}{E:HH->HK->Prop}{s:HK}
theorem wJ {l:HR}{items:IY HH}{bt:HM->HM->Iy}{Q:HH->HK->Prop}(hh:A.handled=td)(hl:s.heap.IsList l items)(hn:0 < items.size)
  (hcmp:wH prog w A.in1 (λi v=>items[i]?=gV v) (λh=>∀b o,s.heap.get? b=gV o->h.get? b=gV o) bt)
  (hQ:∀v h' tk,items[argBest bt (items.size - 1)]?=gV v->(∀b o,s.heap.get? b=gV o->h'.get? b=gV o)->Q v { s with heap:=h',toks:=tk }) :
  wpAny (model prog w) A (call (.builtin "min") [.ref l]) Q E s:=by
 have hname:(toString "min" ++ toString ".loop" : Jr) = "min.loop":=by decide
 refine call_function_tree F.kind_min F.plain_min F.entry_min (F.args_min1 _) ?_;show wpAny _ A.in1 (LK "min" ["key","default"] 0 #[[],[]] >>= _) _ _ s;refine HG (MU (show LK "min" ["key","default"] 0 #[[],[]]=pure [td,td]from rfl) ?_)
 refine HG (HU ?_);refine HG (L9 hl ?_);refine HG (Ja ?_);rw[hname];have hlt:l < s.heap.objs.size:=let ⟨_,ho,_⟩:=hl; Io ho
 have hne:l≠s.heap.objs.size:=ID hlt;have W:=PH (prog:=prog) (w:=w) (A:=A.in1) hh s.heap.objs.size l hne items;have hsz:∀o:JE,(s.heap.push o).objs.size=s.heap.objs.size+1:=λo=>by simp[Heap.push]
 refine HU #[KJ F.plain_min_loop _,uP (A:=A) (Ok:=λh=>∀b o,s.heap.get? b=gV o->h.get? b=gV o) W hcmp (λhm=>?_) (λh h' ho hk b o e=>?_) hn #[?_,?_] (λb o e=>HP _ (HP _ e)) (Iq _ rfl) λv h' tk hv hk=>?_]
 ·rcases Iz.mp hm with e|hm
  ·exact absurd (show(s.heap.push _).objs.size=s.heap.objs.size from e) (by rw[hsz]; exact Nat.succ_ne_self _)
  ·have e:(s.heap.push _).objs.size=l:=Ip.mp hm;rw[hsz]at e;exact absurd hlt (by rw[<- e]; exact OH.mpr (KT _))
 ·have hb:=Io e;refine hk b o (λz=>?_) (λz=>?_) (ho b o e)
  ·rw[Ip.mp z]at hb; exact Ju _ hb
  ·have z':b=(s.heap.push _).objs.size:=z;rw[hsz]at z';rw[z']at hb;exact absurd hb (OH.mpr (KT _))
 ·exact#[_,HP _ (Iq _ rfl),rfl,rfl]
 ·obtain⟨o,ho,hc⟩:=hl;exact#[o,HP _ (HP _ ho),hc]
 ·refine hQ v h' tk hv λb o e=>hk b o (λz=>?_) (λz=>?_) (HP _ (HP _ e))
  ·have hb:=Io e;rw[Ip.mp z]at hb; exact Ju _ hb
  ·have hb:=Io e;have z':b=(s.heap.push _).objs.size:=z;rw[hsz]at z';rw[z']at hb;exact absurd hb (OH.mpr (KT _))
end
open PySem.W (KasT kas_sort kas_ask kas_cmp kas_item kas_asc kas_desc kas_tail3 kas_descPart kas_count kas_place kas_bin kas_rev)
noncomputable def nT {α:Type}(lt:HM->HM->Iy):KasT α->α
 | .ret a=>a
 | .ask i j k=>nT lt (k (lt i j))
noncomputable def OkK {α:Type}(n:HM)(P:α->Prop):KasT α->Prop
 | .ret a=>P a
 | .ask i j k=>i < n/\j < n/\∀b,OkK n P (k b)
theorem pR {α:Type}{n:HM}{P:α->Prop}{lt:HM->HM->Iy}:∀(t:KasT α),OkK n P t->P (nT lt t)
 | .ret _,h=>h
 | .ask i j k,h=>pR (k (lt i j)) (h.2.2 _)
theorem nU {α:Type}{n:HM}{P:α->Prop}{lt:HM->HM->Iy}{t:KasT α}(h:OkK n P t):P (nT lt t):=pR t h
theorem OkK.bind {α β:Type}{n:HM}{P:α->Prop}{P':β->Prop}{f:α->KasT β}:∀ {t:KasT α},OkK n P t->(∀a,P a->OkK n P' (f a))->OkK n P' (t.bind f)
 | .ret a,h,hf=>hf a h
 | .ask _ _ _,h,hf=>#[h.1,h.2.1,λb=>OkK.bind (h.2.2 b) hf]
theorem mI {α:Type}{n:HM}{P:α->Prop}{lt:HM->HM->Iy}{cmp:HM->HM->(Iy->HK->Prop)->HK->Prop}{Q:α->HK->Prop}{s:HK}(hc:∀i j,i < n->j < n->∀C:Iy->HK->Prop,C (lt i j) s->cmp i j C s) :
  ∀ {t:KasT α},OkK n P t->Q (nT lt t) s->t.kasWp cmp Q s
 | .ret _,_,h=>h
 | .ask i j k,h,hq=>hc i j h.1 h.2.1 _ (mI hc (h.2.2 _) hq)
noncomputable def Pm (n:HM)(p:IY HM):Prop:=p.toList.Perm (Im n)
theorem Pm.size {n:HM}{p:IY HM}(h:Pm n p):p.size=n:=by rw[<- IK,h.length_eq,IM]
theorem Pm.lt {n:HM}{p:IY HM}(h:Pm n p)(hn:0 < n)(i:HM):p.getD i 0 < n:=by
 by_cases hi:i < p.size
 ·have e:p.getD i 0=p[i]:=by simp[PJ,hi]
  rw[e];have:p[i]∈p.toList:=by simp
  exact IT.mp (h.mem_iff.mp this)
 ·have e:p.getD i 0=0:=by simp[PJ,hi]
  rw[e]; exact hn
theorem Pm.rev {n:HM}{p:IY HM}(h:Pm n p)(i j:HM):Pm n (kas_rev p i j):=(LU.mp (mirror_perm p i j _)).trans h
theorem Pm.bub {n:HM}{p:IY HM}(h:Pm n p)(i j:HM):Pm n (bubble p i j):=(LU.mp (bubble_perm p i j)).trans h
section
variable{n:HM}(hn:0 < n)
include hn
theorem rE {p:IY HM}(h:Pm n p):∀(f m:HM),OkK n (λ_=>Ny) (kas_asc p f m)
 | 0,_=>trivial
 | f+1,m=>#[h.lt hn _,h.lt hn _,λb=>by
  show OkK n _ (if b=true then _ else _)
  split
  ·trivial
  ·exact rE h f (m+1)]
theorem kh:∀(f:HM) (p:IY HM) (m q:HM),Pm n p->OkK n (λr=>Pm n r.1) (kas_desc f p m q)
 | 0,p,m,q,h=>h
 | f+1,p,m,q,h=>#[h.lt hn _,h.lt hn _,λb=>by
  show OkK n _ (if b=true then _ else _)
  split
  ·split
   ·exact kh f _ _ _ (h.rev _ _)
   ·exact kh f _ _ _ h
  ·refine#[h.lt hn _,h.lt hn _,λc=>?_]
   show OkK n _ (if c=true then _ else _)
   split
   ·exact h
   ·exact kh f _ _ _ h]
theorem sS {p:IY HM}(h:Pm n p)(m k:HM):OkK n (λr=>Pm n r.2) (kas_tail3 m k p):=by
 unfold kas_tail3;exact OkK.bind (rE hn (h.rev 0 m) _ _) λa _=>h.rev 0 m
theorem jO {p:IY HM}(h:Pm n p)(m k:HM):OkK n (λr=>Pm n r.2) (kas_descPart m k p):=by
 unfold kas_descPart;refine OkK.bind (kh hn _ _ _ _ h) λr hr=>?_
 split
 ·exact sS hn (hr.rev _ _) _ _
 ·exact sS hn hr _ _
theorem wK {p:IY HM}(h:Pm n p)(k:HM):OkK n (λr=>Pm n r.2) (kas_count k p):=by
 unfold kas_count;refine OkK.bind (rE hn h _ _) λm _=>?_
 split
 ·exact h
 ·split
  ·refine#[h.lt hn _,h.lt hn _,λc=>?_]
   show OkK n _ (if c=true then _ else _)
   split
   ·exact h
   ·exact jO hn (h.rev _ _) _ _
  ·exact jO hn h _ _
theorem kL {p:IY HM}(h:Pm n p)(k:HM):∀(f l r:HM),OkK n (λ_=>Ny) (kas_place p k f l r)
 | 0,_,_=>trivial
 | f+1,l,r=>by
  unfold kas_place;split
  ·trivial
  ·refine#[h.lt hn _,h.lt hn _,λc=>?_]
   show OkK n _ (if c=true then _ else _)
   split
   ·exact kL h k f _ _
   ·exact kL h k f _ _
theorem wL:∀(f:HM) (p:IY HM) (k:HM),Pm n p->OkK n (Pm n) (kas_bin f p k)
 | 0,p,k,h=>h
 | f+1,p,k,h=>by
  unfold kas_bin;exact OkK.bind (kL hn h k _ _ _) λl _=>wL f _ _ (h.bub _ _)
theorem ki:OkK n (Pm n) (kas_sort n):=by
 unfold kas_sort;refine OkK.bind (wK hn (by unfold Pm; simp) _) λr hr=>?_
 split
 ·exact wL hn _ _ _ hr
 ·exact hr
end
section
variable{prog:IC}{w:IP}{A:IL}{E:HH->HK->Prop}{s:HK}{vs:HF HH}
noncomputable def eX (lt:HM->HM->Iy){β:Type}(d:β)(vs:HF β):HF β:=if vs.length < 2 then vs else(nT lt (kas_sort vs.length)).toList.map λi=>vs.getD i d
theorem pS {lt:HM->HM->Iy}{β:Type}{d:β}{vs:HF β}:(eX lt d vs).length=vs.length:=by
 unfold eX;split
 ·rfl
 ·rw[HI,IK,(nU (lt:=lt) (ki (n:=vs.length) ∅)).size]
theorem uQ {a:HR}{n:HM}{lt:HM->HM->Iy}{κ:Mn}{P:PySem.Fin->HK->Prop}(ho:s.heap.get? a=gV (seqObj "list" vs.toArray n))(h64:vs.length < 64)
  (hkind:2<=vs.length->∀h',(∀b o,b≠a->s.heap.get? b=gV o->h'.get? b=gV o)->∀Q:Mn->HK->Prop,Q κ { s with heap:=h' }->wpAny (model prog w) A (keyKind' vs.toArray) Q (λ_ _=>Jq) { s with heap:=h' })
  (hlt:2<=vs.length->∀h',(∀b o,b≠a->s.heap.get? b=gV o->h'.get? b=gV o)->∀i j,i < vs.length->j < vs.length->∀Q:Iy->HK->Prop,Q (lt i j) { s with heap:=h' }->
   wpAny (model prog w) A (keyLt' κ (vs.getD i Ji) (vs.getD j Ji)) Q (λ_ _=>Jq) { s with heap:=h' })
  (h:∀h' c,(∀b o,b≠a->s.heap.get? b=gV o->h'.get? b=gV o)->h'.get? a=gV (seqObj "list" (eX lt Ji vs).toArray c)->P (.done (.ret .none)) { s with heap:=h' }) :
  wpAny (model prog w) A (M2.«list.sort» #[[.ref a],[]]) P E s:=by
 have ha:a < s.heap.objs.size:=Io ho;obtain⟨e1,ho1⟩ : ∃e1,(s.heap.update a (JA λ_=>(#[]:IY HH))).get? a=gV (seqObj "list" #[] e1):=#[_,MD ho λ_=>#[]]
 have keep:∀b o,b≠a->s.heap.get? b=gV o->(((s.heap.update a (JA λ_=>(#[]:IY HH))).push (seqObj "tuple" vs.toArray 0)).push (seqObj "list" #[] 0)).get? b=gV o:=λb o hb e=>
  HP _ (HP _ ((K7 _ _ _ _ hb).trans e))
 have ho3:(((s.heap.update a (JA λ_=>(#[]:IY HH))).push (seqObj "tuple" vs.toArray 0)).push (seqObj "list" #[] 0)).get? a=gV (seqObj "list" #[] e1):=HP _ (HP _ ho1)
 have fin:∀(out:HF HH),out.length=vs.length->out=eX lt Ji vs->P (.done (.ret .none)) { s with heap:=(((s.heap.update a (JA λ_=>(#[]:IY HH))).push (seqObj "tuple" vs.toArray 0)).push (seqObj "list" #[] 0)).update a (JA λ_=>out.toArray) }:=λout hl e=>by
  obtain⟨c2,hc2⟩ : ∃c2,((((s.heap.update a (JA λ_=>(#[]:IY HH))).push (seqObj "tuple" vs.toArray 0)).push (seqObj "list" #[] 0)).update a (JA λ_=>out.toArray)).get? a=gV (seqObj "list" out.toArray c2):=#[_,MD ho3 λ_=>out.toArray]
  exact h _ c2 (λb o hb q=>(K7 _ _ _ _ hb).trans (keep b o hb q)) (e ▸ hc2)
 rw[list_sort_plain];refine HG (NP ho rfl ?_);refine HG (Mh ho rfl ?_ (by rw[Ih,Je]; omega) (Ko _))
 refine HG (Oj ho1 rfl ?_);refine HG (OI ?_ (by show vs.length<=_; rw[Je]; omega))
 refine HG (Ng ?_ (Ko _));refine JC ?_;show wpAny (model prog w) A _ P E { s with heap:=((s.heap.update a (JA λ_=>(#[]:IY HH))).push (seqObj "tuple" vs.toArray 0)).push (seqObj "list" #[] 0) }
 dsimp only
 by_cases h2:vs.length < 2
 ·rw[Iw (by rw[Ih]; exact h2),Iw (by rw[Ih]; exact h2)]
  refine HG (HU (HG ?_));rw[StateT.run_pure];refine HU ?_;dsimp only;refine HG (Oj ho3 rfl ?_);have hs:((arrOf (SortSt.mk' general' (vs.toArray.zip vs.toArray) #[] 7 td)).map (·.2))=vs.toArray:=by
   show(vs.toArray.zip vs.toArray).map (·.2)=vs.toArray
   apply Array.toList_inj.mp;rw[Array.toList_map,Array.toList_zip];exact List.map_snd_zip (HZ _)
  rw[hs];refine HG (Mh ho3 rfl ?_ (Ko _) (by rw[Ih,Je]; omega))
  simp only[NQ,Js,Kq];exact HU (fin vs rfl (by unfold eX; rw[Iw h2]))
 ·have hn2:¬ vs.toArray.size < 2:=by rw[Ih]; exact h2
  have h2':2<=vs.length:=∅
  rw[IH hn2,IH hn2];refine HG (JR (hkind h2' _ keep (λ(k:Mn) (s':HK)=>k=κ/\s'={ s with heap:=((s.heap.update a (JA λ_=>(#[]:IY HH))).push (seqObj "tuple" vs.toArray 0)).push (seqObj "list" #[] 0) }) #[rfl,rfl]) ?_ λ_ _ x=>x.elim)
  rintro _ _ ⟨rfl,rfl⟩;refine HG (JR (PySem.W.kat_run (Q:=λst' s'=>∃p:IY HM,p.size=vs.length/\arrOf st'=p.map (kas_item (vs.toArray.zip vs.toArray))/\failedOf st'=td/\p=nT lt (kas_sort vs.length)/\s'={ s with heap:=((s.heap.update a (JA λ_=>(#[]:IY HH))).push (seqObj "tuple" vs.toArray 0)).push (seqObj "list" #[] 0) })
   (G:=λp s'=>p=nT lt (kas_sort vs.length)/\s'={ s with heap:=((s.heap.update a (JA λ_=>(#[]:IY HH))).push (seqObj "tuple" vs.toArray 0)).push (seqObj "list" #[] 0) }) rfl h2' h64 (λp' st' s' a1 a2 a3 a4=>#[p',a1,a2,a3,a4])
   (mI (lt:=lt) (λi j hi hj C hC=>hlt h2' _ keep i j hi hj C hC) (ki (n:=vs.length) ∅) #[rfl,rfl])) ?_ λ_ _ e=>e)
  rintro⟨⟨⟩,st'⟩ s' ⟨p,hp,har,hf,ep,rfl⟩;dsimp only;have hout:=PySem.W.kat_snds rfl har;have hsz:(p.toList.map λi=>vs.getD i Ji).length=vs.length:=by rw[HI,IK,hp]
  rw[hout];refine HG (Oj ho3 rfl ?_);refine HG (Mh ho3 rfl ?_ (Ko _) (by rw[Ih,hsz,Je]; omega))
  rw[hf];simp only[NQ,Js,Kq];exact HU (fin _ hsz (by unfold eX; rw[IH h2,ep]))
theorem uR {x:HH}{lt:HM->HM->Iy}{κ:Mn}{Q:HH->HK->Prop}(h64:vs.length < 64)
  (hcol:∀Q':HF HH->HK->Prop,(∀h' tk,(∀b o,s.heap.get? b=gV o->h'.get? b=gV o)->s.heap.objs.size<=h'.objs.size->Q' vs { s with heap:=h',toks:=tk })->wpAny (model prog w) A.in1 (collect x) Q' E s)
  (hkind:2<=vs.length->∀h' tk,(∀b o,s.heap.get? b=gV o->h'.get? b=gV o)->∀Q:Mn->HK->Prop,Q κ { s with heap:=h',toks:=tk }->wpAny (model prog w) A.in1.in1 (keyKind' vs.toArray) Q (λ_ _=>Jq) { s with heap:=h',toks:=tk })
  (hlt:2<=vs.length->∀h' tk,(∀b o,s.heap.get? b=gV o->h'.get? b=gV o)->∀i j,i < vs.length->j < vs.length->∀Q:Iy->HK->Prop,Q (lt i j) { s with heap:=h',toks:=tk }->
   wpAny (model prog w) A.in1.in1 (keyLt' κ (vs.getD i Ji) (vs.getD j Ji)) Q (λ_ _=>Jq) { s with heap:=h',toks:=tk })
  (h:∀D h' tk c,(∀b o,s.heap.get? b=gV o->h'.get? b=gV o)->s.heap.objs.size<=D->h'.get? D=gV (seqObj "list" (eX lt Ji vs).toArray c)->Q (.ref D) { s with heap:=h',toks:=tk }) :
  wpAny (model prog w) A (call (.builtin "sorted") [x]) Q E s:=by
 refine L3 kind_sorted plain_sorted entry_sorted (args_sorted1 _) ?_;unfold M2.«sorted»;refine HG (m:=checkCount "sorted" 1 1 _) (HU ?_);refine HG (hcol _ λh1 tk1 hk1 hle=>?_)
 refine HG (Ng ?_ (by rw[Je]; omega))
 have hoL:(h1.push (seqObj "list" vs.toArray 0)).get? h1.objs.size=gV (seqObj "list" vs.toArray 0):=Iq _ rfl;have kp:∀b o,s.heap.get? b=gV o->(h1.push (seqObj "list" vs.toArray 0)).get? b=gV o:=λb o e=>HP _ (hk1 b o e)
 have hne:∀b o,s.heap.get? b=gV o->b≠h1.objs.size:=λb o e=>ID (IE (Io e) hle)
 show wpAny _ _ _ _ _ { s with heap:=h1.push (seqObj "list" vs.toArray 0),toks:=tk1 }
 refine HG (JC (Jv slot_list_sort #[_,hoL,rfl] entry_list_sort ?_ (args_list_sort _)));refine uQ (s:={ s with heap:=h1.push (seqObj "list" vs.toArray 0),toks:=tk1 }) (lt:=lt) (κ:=κ) hoL h64 (λh2 h' hk Q hq=>hkind h2 h' tk1 (λb o e=>hk b o (hne b o e) (kp b o e)) Q hq)
  (λh2 h' hk i j hi hj Q hq=>hlt h2 h' tk1 (λb o e=>hk b o (hne b o e) (kp b o e)) i j hi hj Q hq) λh' c hk hD=>?_
 exact#[_,rfl,HU #[_,rfl,h _ h' tk1 c (λb o e=>hk b o (hne b o e) (kp b o e)) hle hD]]
end
end Mi
namespace Mi
open PySem PySem.Spec PyProof.Rows L2
noncomputable def fM:T->Jr
 | .int _=>"int"|.str _=>"str"|.tup _=>"tuple"
noncomputable def bU:T->HL T
 | .tup (x::_)=>gV x
 | _=>td
noncomputable def zU (ks:HF T):HL HM:=
 if ks.all (λk=>fM k == "int")then gV 0
 else if ks.all (λk=>fM k == "str")then gV 1
 else if ks.all (λk=>(bU k).any λf=>fM f == "int")then gV 2
 else if ks.all (λk=>(bU k).any λf=>fM f == "str")then gV 3
 else if ks.all (λk=>(bU k).any λf=>fM f == "tuple")then gV 4
 else td
noncomputable def wM:HM->Mn
 | 0=>oneType'|1=>oneType'|2=>tuples' true|3=>tuples' true|_=>tuples' false
noncomputable def fU (ks:HF T):Iy:=ks.all λx=>ks.all λy=>(gF x y).isSome
noncomputable def uS (ks:HF T)(i j:HM):Iy:=(gF (ks.getD i (.int 0)) (ks.getD j (.int 0))).getD false
theorem rF {ks:HF T}(h:fU ks=true){i j:HM}(hi:i < ks.length)(hj:j < ks.length):gF (ks[i]) (ks[j])=gV (uS ks i j):=by
 unfold fU at h;rw[IB]at h;have h1:=h ks[i] (IX hi);rw[IB]at h1;have h2:=h1 ks[j] (IX hj);unfold uS;rw[show ks.getD i (.int 0)=ks[i] by simp[hi],show ks.getD j (.int 0)=ks[j] by simp[hj]]
 obtain⟨b,hb⟩:=Jc.mp h2;rw[hb]; rfl
noncomputable def Hl (c:HM)(x y:T):Prop:=match c with|0=>fM x = "int"/\fM y = "int"|1=>fM x = "str"/\fM y = "str"|2=>∃f g,bU x=gV f/\bU y=gV g/\fM f = "int"/\fM g = "int"|3=>∃f g,bU x=gV f/\bU y=gV g/\fM f = "str"/\fM g = "str"|_=>∃f g,bU x=gV f/\bU y=gV g
section
variable{prog:IC}{w:IP}{A:IL}{E:HH->HK->Prop}{s:HK}
theorem sT {h:IZ}{k:T}{v:HH}(x:IsT h k v):O2 (model prog w) h (typeOf v) (.type (fM k)):=by
 cases x with
 | int=>exact .now
 | str=>exact .now
 | tup a c d t=>exact c ▸ ((PX a).andThen .now:O2 (model prog w) h (typeOf (.ref _)) _)
theorem IsTs.mem {h:IZ}:∀ {ks:HF T} {vs:HF HH},IsTs h ks vs->∀v∈vs,∃k∈ks,IsT h k v
 | _,_,.cons a b,v,hv=>by
  rcases Iz.mp hv with rfl|hv
  ·exact#[_,.head _,a]
  ·obtain⟨k,hk,q⟩:=IsTs.mem b v hv;exact#[k,.tail _ hk,q]
theorem mJ {h:IZ}{p:T->Iy}:∀ {ks:HF T} {vs:HF HH},IsTs h ks vs->ks.all (λk=>(bU k).any p)=true->∃fs,PySem.W.KatTups h vs fs/\fs.length=vs.length/\∀v∈fs,∃k,p k=true/\IsT h k v
 | _,_,.nil,_=>#[[],.nil,rfl,λv hv=>nomatch hv]
 | k::ks,_,.cons a b,hp=>by
  rw[Jd,HN]at hp;obtain⟨fs,h1,h2,h3⟩:=mJ b hp.2;cases a with
  | int=>simp[bU]at hp
  | str=>simp[bU]at hp
  | @tup kk ad o items n a1 c1 d1 t1=>
   cases kk with
   | nil=>simp[bU]at hp
   | cons x xs=>
    have hx:p x=true:=by simpa [bU]using hp.1
    generalize hit:items.toList=its at t1;cases t1 with
    | @cons _ u _ us q1 q2=>
     refine#[u::fs,.cons a1 c1 d1 (by rw[<- JF,hit]; rfl) h1,by simp[h2],λv hv=>?_]
     rcases Iz.mp hv with rfl|hv
     ·exact#[x,hx,q1]
     ·exact h3 v hv
theorem CI {ks:HF T}{vs:HF HH}{c:HM}{Q:Mn->HK->Prop}(h:IsTs s.heap ks vs)(h2:2<=vs.length)(hc:zU ks=gV c)(hq:Q (wM c) s):wpAny (model prog w) A (keyKind' vs.toArray) Q E s:=by
 have one:∀ty:Jr,(KQ ty != KQ "tuple")=true->ks.all (λk=>fM k==ty)=true->Q oneType' s->wpAny (model prog w) A (keyKind' vs.toArray) Q E s:=λty hty hall hq=>
  PySem.W.kas_kind (T:=.type ty) h2 (λv hv=>by
   obtain⟨k,hk,x⟩:=h.mem v hv;have:=eq_of_beq (IB.mp hall k hk);exact this ▸ sT x) hty (by simp) hq
 have tup:∀ty:Jr,ks.all (λk=>(bU k).any λf=>fM f==ty)=true->Q (tuples' (KQ ty != KQ "tuple")) s->wpAny (model prog w) A (keyKind' vs.toArray) Q E s:=λty hall hq=>by
  obtain⟨fs,h1,h3,h4⟩:=mJ h hall;exact PySem.W.kat_kind (T:=.type ty) h1 ∅ (λv hv=>by
   obtain⟨k,hk,x⟩:=h4 v hv;have:=eq_of_beq hk;exact this ▸ sT x) (by simp) hq
 unfold zU at hc;split at hc
 ·cases hc; exact one "int" #v[] (by assumption) hq
 ·split at hc
  ·cases hc; exact one "str" #v[] (by assumption) hq
  ·split at hc
   ·cases hc; exact tup "int" (by assumption) hq
   ·split at hc
    ·cases hc; exact tup "str" (by assumption) hq
    ·split at hc
     ·cases hc; exact tup "tuple" (by assumption) hq
     ·cases hc
theorem pT {b:Iy}{Q:Iy->HK->Prop}{d:HM}(hu:A.units+d < cLine):∀(xs ys:HF T) (us vs:HF HH) (i:HM) (k:Iy),T.depths xs<=d->T.depths ys<=d->IsTs s.heap xs us->IsTs s.heap ys vs->di xs ys=gV k->
  (b=true->i=0->∀x y,xs.head?=gV x->ys.head?=gV y->(fM x = "int"/\fM y = "int")\/(fM x = "str"/\fM y = "str"))->Q k s->PySem.W.KatLex prog w A b (decide (us.length < vs.length)) Q (us.zip vs) i s
 | [],[],_,_,i,k,_,_,h1,h2,e,hb,hq=>by cases h1; cases h2; cases e; exact ME (by simpa using hq)
 | [],y::ys,_,_,i,k,_,_,h1,h2,e,hb,hq=>by cases h1; cases h2; cases e; exact ME (by simpa using hq)
 | x::xs,[],_,_,i,k,_,_,h1,h2,e,hb,hq=>by cases h1; cases h2; cases e; exact ME (by simpa using hq)
 | x::xs,y::ys,_,_,i,k,d1,d2,h1,h2,e,hb,hq=>by
  simp only[T.depths]at d1 d2;cases h1 with
  | @cons _ u _ us p1 q1=>
   cases h2 with
   | @cons _ v _ vs p2 q2=>
    have he:=uN d x y _ _ A s ∅ p1 p2 hu ∅
    rw[KH];refine PySem.W.kat_cons (he prog w _ _ ?_);simp only[di]at e;have hlen:decide ((u::us).length < (v::vs).length)=decide (us.length < vs.length):=by simp
    rw[hlen]
    by_cases hxy:x=y
    ·rw[Iw hxy]at e;rw[Jt hxy];exact PySem.W.kat_yes (pT hu xs ys us vs (i+1) k ∅ ∅ q1 q2 e (λ_ z=>absurd z (Nat.succ_ne_zero _)) hq)
    ·rw[IH hxy]at e;rw[IF hxy];refine PySem.W.kat_no ?_
     by_cases hb0:b=true/\i=0
     ·obtain⟨rfl,rfl⟩:=hb0;rcases hb rfl rfl x y rfl rfl with⟨hx,hy⟩|⟨hx,hy⟩
      ·cases p1 with
       | int=>cases p2 with
        | int=>cases e; exact oneLt_int hq
        | _=>exact absurd hy (by simp[fM])
       | _=>exact absurd hx (by simp[fM])
      ·cases p1 with
       | str=>cases p2 with
        | str=>cases e; exact oneLt_str hq
        | _=>exact absurd hy (by simp[fM])
       | _=>exact absurd hx (by simp[fM])
     ·have hf:(b&&i==0)=false:=by
       cases b with
       | false=>rfl
       | true=>
        have:i≠0:=λz=>hb0 #[rfl,z]
        simpa using this
      rw[hf];exact PySem.W.kat_one _ _ ((EK d x y _ _ A s k ∅ ∅ p1 p2 hu e) prog w _ _ hq)
theorem zV {c d:HM}{x y:T}{u v:HH}{k:Iy}{Q:Iy->HK->Prop}(hu:A.units+d < cLine)(d1:x.depth<=d)(d2:y.depth<=d)(h1:IsT s.heap x u)(h2:IsT s.heap y v)(e:gF x y=gV k)
  (hc:Hl c x y)
  (hq:Q k s):wpAny (model prog w) A (keyLt' (wM c) u v) Q E s:=by
 have tup:∀b:Iy,(∃f g,bU x=gV f/\bU y=gV g/\(b=true->(fM f = "int"/\fM g = "int")\/(fM f = "str"/\fM g = "str")))->wpAny (model prog w) A (keyLt' (tuples' b) u v) Q E s:=by
  rintro b ⟨f,g,hf,hg,hb⟩;cases h1 with
  | int=>cases hf
  | str=>cases hf
  | @tup xs a o items n a1 c1 e1 t1=>
   cases h2 with
   | int=>cases hg
   | str=>cases hg
   | @tup ys a' o' items' n' a2 c2 e2 t2=>
    simp only[T.depth]at d1 d2;refine PySem.W.kat_lt a1 e1 a2 e2 ?_;have:=pT (prog:=prog) (w:=w) (b:=b) (Q:=Q) hu xs ys items.toList items'.toList 0 k ∅ ∅ t1 t2 e (λhb' _ p q hp hq'=>by
     cases xs with
     | nil=>cases hp
     | cons x0 xs=>cases ys with
      | nil=>cases hq'
      | cons y0 ys=>cases hp; cases hq'; cases hf; cases hg; exact hb hb') hq
    simpa using this
 match c,hc with
 | 0,#[hx,hy]=>
  cases h1 with
  | int=>cases h2 with
   | int=>cases e; exact PySem.W.kat_lt_int hq
   | _=>exact absurd hy (by simp[fM])
  | _=>exact absurd hx (by simp[fM])
 | 1,#[hx,hy]=>
  cases h1 with
  | str=>cases h2 with
   | str=>cases e; exact PySem.W.kas_lt_str hq
   | _=>exact absurd hy (by simp[fM])
  | _=>exact absurd hx (by simp[fM])
 | 2,#[f,g,h1',h2',h3,h4]=>exact tup true #[f,g,h1',h2',λ_=>.inl #[h3,h4]]
 | 3,#[f,g,h1',h2',h3,h4]=>exact tup true #[f,g,h1',h2',λ_=>.inr #[h3,h4]]
 | n+4,#[f,g,h1',h2']=>exact tup false #[f,g,h1',h2',λz=>nomatch z]
end
theorem zW {ks:HF T}{c:HM}(h:zU ks=gV c){x y:T}(hx:x∈ks)(hy:y∈ks) :
  Hl c x y:=by
 have one:∀ {ty:Jr},ks.all (λk=>fM k==ty)=true->fM x=ty/\fM y=ty:=λha=>#[eq_of_beq (IB.mp ha x hx),eq_of_beq (IB.mp ha y hy)]
 have fst:∀ {ty:Jr},ks.all (λk=>(bU k).any λf=>fM f==ty)=true->∃f g,bU x=gV f/\bU y=gV g/\fM f=ty/\fM g=ty:=λ{ty} ha=>by
  have h1:=IB.mp ha x hx;have h2:=IB.mp ha y hy;cases e1:bU x with
  | none=>rw[e1]at h1; cases h1
  | some f=>
   cases e2:bU y with
   | none=>rw[e2]at h2; cases h2
   | some g=>
    rw[e1]at h1; rw[e2]at h2
    exact#[f,g,rfl,rfl,eq_of_beq (by simpa using h1),eq_of_beq (by simpa using h2)]
 unfold zU at h;split at h
 ·cases h; exact one (by assumption)
 ·split at h
  ·cases h; exact one (by assumption)
  ·split at h
   ·cases h; exact fst (by assumption)
   ·split at h
    ·cases h; exact fst (by assumption)
    ·split at h
     ·cases h;obtain⟨f,g,h1,h2,_⟩:=fst (by assumption)
      exact#[f,g,h1,h2]
     ·cases h
noncomputable def eh (S:aa):W->HL (HF W)
 | .tup xs=>gV xs
 | .ref i=>match g8 S i with
  | some xs=>gV xs
  | none=>(jZ S i).map λkvs=>kvs.map λp=>p.1.w
 | _=>td
noncomputable def eI:HM:=8
noncomputable def nV (ks:HF T):Iy:=decide (ks.length < 64)&&decide (T.depths ks<=eI)&&(decide (ks.length < 2)||((zU ks).isSome&&fU ks))
noncomputable def iC (xs:HF W)(S:aa):HL (W×aa):=match xs with
 | [x]=>match eh S x with
  | some ws=>match W.ts ws with
   | some ks=>if nV ks then gV (.ref S.length,S++[.lst (eX (uS ks) .non ws)])else td
   | none=>td
  | none=>td
 | _=>td
noncomputable def mK (xs:HF W)(S:aa):HL (W×aa):=match xs with
 | [.ref i]=>match jZ S i with
  | some kvs=>gV (.ref S.length,S++[.lst (kvs.map λp=>p.1.w)])
  | none=>iw [.ref i] S
 | xs=>iw xs S
noncomputable def rG (xs:HF W)(S:aa):HL (W×aa):=match xs with
 | [.ref i]=>match jZ S i with
  | some kvs=>gV (.int kvs.length,S)
  | none=>rz [.ref i] S
 | xs=>rz xs S
noncomputable def hJ (ks:HF T):HM:=argBest (uS ks) (ks.length - 1)
noncomputable def zX (xs:HF W)(S:aa):HL (W×aa):=match xs with
 | [.ref i]=>match g8 S i with
  | some ws=>match W.ts ws with
   | some ks=>if T.depths ks<=eI/\fU ks=true then(ws[hJ ks]?).map λw=>(w,S)else td
   | none=>td
  | none=>td
 | _=>td
noncomputable def hW:HF W->HL (HF Iy)
 | []=>gV []
 | .bl b::ws=>(hW ws).map (b :: ·)
 | _::_=>td
noncomputable def CJ (xs:HF W)(S:aa):HL (W×aa):=match xs with
 | [.ref i]=>match g8 S i with
  | some ws=>(hW ws).map λbs=>(.bl (bs.all id),S)
  | none=>td
 | _=>td
section
variable{X:Cx}{pins:HF (HR×JE)}{σ:L2.St}{H:Hp}{s:HK}{A:HF HR}{S:aa}
theorem RelL.pick {K:HW}{ws:HF W}{vs:HF V}(r:RelL K A H ws vs)(d:W)(d':V):∀(is:HF HM),(∀i∈is,i < ws.length)->RelL K A H (is.map λi=>ws.getD i d) (is.map λi=>vs.getD i d')
 | [],_=>.nil
 | i::is,h=>by
  have hi:=h i (.head _);obtain⟨v,h1,h2⟩:=r.get (Ic hi);refine .cons ?_ (RelL.pick r d d' is λj hj=>h j (.tail _ hj))
  have e1:ws.getD i d=ws[i]:=by simp[hi]
  have e2:vs.getD i d'=v:=by simp[h1]
  show Rel K A H (ws.getD i d) (vs.getD i d');rw[e1,e2]; exact h2
theorem Vals.pick {vs:HF V}{us:HF HH}(r:Vals vs us)(d:V)(d':HH):∀(is:HF HM),(∀i∈is,i < vs.length)->Vals (is.map λi=>vs.getD i d) (is.map λi=>us.getD i d')
 | [],_=>.nil
 | i::is,h=>by
  have hi:=h i (.head _);obtain⟨v,h1,h2⟩:=L2.Vals.get r (Ic hi);refine .cons ?_ (Vals.pick r d d' is λj hj=>h j (.tail _ hj))
  have e1:vs.getD i d=vs[i]:=by simp[hi]
  have e2:us.getD i d'=v:=by simp[h1]
  show L2.RelV (vs.getD i d) (us.getD i d');rw[e1,e2]; exact h2
theorem nW {n:HM}{lt:HM->HM->Iy}(hn:0 < n):∀i∈(nT lt (N8 n)).toList,i < n:=λi hi=>IT.mp ((nU (lt:=lt) (ki hn)).mem_iff.mp hi)
theorem wQ {K:HW}{lt:HM->HM->Iy}{ws:HF W}{vs:HF V}(r:RelL K A H ws vs):RelL K A H (eX lt .non ws) (eX lt .non vs):=by
 unfold eX;rw[r.length];split
 ·exact r
 ·exact r.pick _ _ _ λi hi=>by rw[r.length]; exact nW ∅ i hi
theorem uT {lt:HM->HM->Iy}{vs:HF V}{us:HF HH}(r:Vals vs us):Vals (eX lt .non vs) (eX lt .none us):=by
 unfold eX;rw[L2.Vals.length r];split
 ·exact r
 ·exact Vals.pick r _ _ _ λi hi=>by rw[L2.Vals.length r]; exact nW ∅ i hi
theorem pU {prog:IC}{w:IP}{B:IL}{E:HH->HK->Prop}{l:HR}{vs:HF HH}{Q:HF HH->HK->Prop}(hl:Nz s.heap l vs.toArray)(hsz:vs.length<=sizeLine)
  (h:∀h' tk,(∀b o,s.heap.get? b=gV o->h'.get? b=gV o)->s.heap.objs.size<=h'.objs.size->Q vs { s with heap:=h',toks:=tk }):wpAny (model prog w) B (collect (.ref l)) Q E s:=by
 obtain⟨o,ho,hc,n,hd⟩:=id hl;unfold collect;refine HG (MX (JM entry_proto_collect' ?_));show wpAny _ _ (do again (.builtin "list.__iadd__" #[[<- newList [],.ref l],[]])) _ _ s
 refine HG (Ng (HU #[Code.quiet_builtin _ (by decide +kernel),JM entry_list_iadd' ?_]))
 show wpAny _ _ (J7 (.ref s.heap.objs.size) (.ref l) (.ref s.heap.objs.size)) _ _ { s with heap:=s.heap.push (seqObj "list" #[] 0) }
 unfold J7;have ho':(s.heap.push (seqObj "list" #[] 0)).get? l=gV o:=HP _ ho;refine HG (LI (T:="tuple") #[o,ho',hc] ?_);have ht:(KQ "tuple" == KQ "tuple")=true:=by rfl
 rw[Iw (by rw[ht]; simp)]
 refine HG (NP ho' hd ?_);refine HG (NP (xs:=#[]) (n:=0) (Iq _ rfl) rfl ?_);rw[IH (by simp)]
 refine HG (Mh (xs:=#[]) (n:=0) (Iq _ rfl) rfl ?_ (Ko _) (by show(#[]++vs.toArray).size<=sizeLine+1; simp only[Array.size_append,Ih,JK]; omega))
 refine HU ?_;show wpAny (model prog w) B (do
   let o <- load s.heap.objs.size
   match o.data with
   | .seq xs _=>pure xs.toList
   | _=>unsupported "internal:collect") Q E { s with heap:=(s.heap.push (seqObj "list" #[] 0)).update s.heap.objs.size (JA (· ++ vs.toArray)) }
 refine HG (Nm (MD (Iq _ rfl) _) ?_);show wpAny _ _ (pure ((#[]:IY HH)++vs.toArray).toList) Q E _;rw[show((#[]:IY HH)++vs.toArray).toList=vs by simp]
 refine HU (h _ s.toks (λb o' e=>(K7 _ _ _ _ (ID (Io e))).trans (HP _ e)) ?_)
 rw[N9,size_push'];exact KT _
theorem DicAt.raw {wd:IP}{a:HR}{xs:HF (T×HR×HH)}{h:IZ}(d:DicAt wd a xs h):∃es ep,RawD a es ep h/\es.toList=xs.map (wj wd):=
 let ⟨_,_,_,o,es,ep,h1,h2,h3,h4⟩:=d; #[es,ep,#[o,h1,h2,h3],h4]
theorem KRel.keysL {kvs:HF (T×W)}{xs:HF (T×HR×HH)}(r:KRel X.K A H kvs xs):RelL X.K A H (kvs.map λp=>p.1.w) (xs.map λq=>V.ref q.2.1):=by
 unfold KRel at r
 induction r with
 | nil=>exact .nil
 | cons h t ih=>exact .cons h.2.2.2.1 ih
theorem mL (xs:HF (T×HR×HH)):Vals (xs.map λq=>V.ref q.2.1) (xs.map λq=>IV q.2.1):=by
 induction xs with
 | nil=>exact .nil
 | cons x xs ih=>exact .cons rfl ih
theorem kM {wd:IP}{es:IY J3}{xs:HF (T×HR×HH)}(he:es.toList=xs.map (wj wd)){acc:IY HH}(ha:Mu (λi v=>∃e,es[i]?=gV e/\e.key=v) acc es.size):acc.toList=xs.map λq=>IV q.2.1:=by
 have hl:es.size=xs.length:=by rw[<- IK,he,HI]
 apply KY
 ·rw[IK,ha.1,HI,hl]
 ·intro i h1 h2;rw[IK]at h1;obtain⟨e,q1,q2⟩:=ha.2 i acc[i] (by simp[h1])
  rw[<- JF,he,HS]at q1;rw[HI]at h2;rw[Ic h2]at q1;simp only[IR,II]at q1;subst q1;rw[List.getElem_map,Array.getElem_toList];exact q2.symm
theorem uU {x:W}{a:V}{u:HH}{ws:HF W}(hh:X.A.handled=td)(I:Inv X pins σ H s)(so:StoreOk X.w X.K A H S)(rx:Rel X.K A H x a)(ru:RelV a u)(e:eh S x=gV ws):∃vs us,RelL X.K A H ws vs/\Vals vs us/\us.length<=sizeLine/\
  ∀(B:IL) (hB:B.handled=td) (E:HH->HK->Prop) (Q':HF HH->HK->Prop),(∀h' tk,(∀b o,s.heap.get? b=gV o->h'.get? b=gV o)->s.heap.objs.size<=h'.objs.size->Q' us { s with heap:=h',toks:=tk })->wpAny (model X.prog X.w) B (collect u) Q' E s:=by
 cases rx with
 | tup h1 r1=>
  cases e;obtain⟨its,rv,ht,hz⟩:=I.tuple h1;obtain rfl:u=IV _:=ru;exact#[_,its,r1,rv,by rw[<- L2.Vals.length rv]; exact hz,λB hB E Q' h=>pU ht (by rw[<- L2.Vals.length rv]; exact hz) h]
 | ref ea=>
  simp only[eh]at e;split at e
  ·rename_i xs hx;cases e;obtain⟨vs,h1,r1⟩:=cW so hx ea;obtain⟨its,rv,p,hz⟩:=I.list h1;obtain rfl:u=IV _:=ru;refine#[_,its,r1,rv,by rw[<- L2.Vals.length rv]; exact hz,λB hB E Q' h=>collect_list p.isList (h _ s.toks (λb o' e=>(K7 _ _ _ _ (ID (Io e))).trans (HP _ e)) ?_) (by rw[<- L2.Vals.length rv]; exact hz)]
   rw[N9,size_push'];exact KT _
  ·rw[HJ]at e;obtain⟨kvs,hk,rfl⟩:=e;obtain⟨xs,rd,kr⟩:=fT so hk ea;have d:=cQ I rd;obtain⟨es,ep,raw,he⟩:=d.raw;obtain rfl:u=IV _:=ru;have hl:es.size=xs.length:=by rw[<- IK,he,HI]
   refine#[_,_,kr.keysL,mL xs,by rw[HI]; exact d.1,λB hB E Q' h=>pQ (sR d.2.1) hB raw (by rw[hl]; exact d.1) λh' tk acc hk' hle ha=>?_]
   rw[kM he ha];exact h h' tk hk' hle
 | _=>cases e
theorem mM {h':IZ}{tk c:HM}{D:HR}{ws:HF W}{vs:HF V}{us:HF HH}(I:Inv X pins σ H s)(so:StoreOk X.w X.K A H S)(r:RelL X.K A H ws vs)(rv:Vals vs us)(hz:us.length<=sizeLine)(hk:∀b o,s.heap.get? b=gV o->h'.get? b=gV o)(hD:s.heap.objs.size<=D)
  (ho:h'.get? D=gV { cls:=.type "list",data:=.seq us.toArray c }):dQ X pins σ A H (S++[.lst ws]) (.ref S.length) (.ref D) { s with heap:=h',toks:=tk }:=by
 have hn:H D=td:=I.hok.fresh hD;refine#[.ref D,_,A++[D],I.laid (a:=D) (o:=.lst vs) (t':=tk) hk hD #[by rw[L2.Vals.length rv]; exact hz,us,c,rv,ho],rfl,ec hn,so.push hn r,.ref ?_]
 rw[<- so.len]; simp
theorem nX (hh:X.A.handled=td)(hu:X.A.units+12 < cLine):LCall X (.builtin "sorted") iC:=by
 intro pins s σ H A S xs vs us w S' I so rl rv e;cases rl with
 | nil=>cases e
 | cons r t=>
  cases t with
  | cons _ _=>cases e
  | nil=>
   cases rv with
   | cons ru rv2=>
    cases rv2;simp only[iC]at e;split at e
    ·rename_i ws hw;split at e
     ·rename_i ks hk;split at e
      ·rename_i hok;cases e;obtain⟨vs',us',r1,rv1,hz,hcol⟩:=uU hh I so r ru hw;simp only[nV,HN,Ix]at hok;obtain⟨⟨h64,hd⟩,hok⟩:=hok;have hws:T.ws ks=ws:=W.ts_w hk;have hT:IsTs s.heap ks us':=gq I ks (hws ▸ r1) rv1;have hl:us'.length=ks.length:=hT.length.symm;have sk:2<=us'.length->(zU ks).isSome=true/\fU ks=true:=λh2=>by
        rcases J4 _ _ ▸ hok with h|h
        ·simp only[Ix]at h; omega
        ·simpa using h
       refine uR (vs:=us') (lt:=uS ks) (κ:=wM ((zU ks).getD 0)) ∅ (λQ' hQ'=>hcol X.A.in1 hh _ Q' hQ') (λh2 h' tk hk' Q hq=>?_) (λh2 h' tk hk' i j hi hj Q hq=>?_) λD h' tk c hk' hD ho=>?_
       ·obtain⟨q1,q2⟩:=sk h2;obtain⟨c,hc⟩:=Jc.mp q1;rw[hc]at hq;exact CI (s:={ s with heap:=h',toks:=tk }) (hT.kept λb o _ e=>hk' b o e) h2 hc hq
       ·obtain⟨q1,q2⟩:=sk h2;obtain⟨c,hc⟩:=Jc.mp q1;rw[hc];have hi':i < ks.length:=∅
        have hj':j < ks.length:=∅
        have g:=(hT.kept (h':=h') λb o _ e=>hk' b o e)
        have e1:us'.getD i Ji=us'[i]:=by simp[hi]
        have e2:us'.getD j Ji=us'[j]:=by simp[hj]
        rw[e1,e2];have b1:=ee (ks:=ks) i hi';have b2:=ee (ks:=ks) j hj';exact zV (s:={ s with heap:=h',toks:=tk }) (d:=eI) (c:=c) (by rw[bQ,bQ]; unfold eI; omega) ∅ ∅ (g.get i hi' hi) (g.get j hj' hj) (rF q2 hi' hj') (zW hc (IX hi') (IX hj')) hq
       ·exact mM I so (wQ r1) (uT rv1) (by rw[pS]; exact hz) hk' hD ho
      ·cases e
     ·cases e
    ·cases e
theorem pV (hh:X.A.handled=td):LCall X (.type "list") mK:=by
 intro pins s σ H A S xs vs us w S' I so rl rv e
 by_cases hd:∃i kvs,xs=[.ref i]/\jZ S i=gV kvs
 ·obtain⟨i,kvs,rfl,hk⟩:=hd;simp only[mK,hk]at e;cases e;cases rl with
  | cons r t=>
   cases t;cases rv with
   | cons ru rv2=>
    cases rv2;cases r with
    | ref ea=>
     obtain⟨xs,rd,kr⟩:=fT so hk ea;have d:=cQ I rd;obtain⟨es,ep,raw,he⟩:=d.raw;obtain rfl:_=IV _:=ru;have hl:es.size=xs.length:=by rw[<- IK,he,HI]
     refine PySem.W.kdl_call (sR d.2.1) hh raw (by rw[hl]; exact d.1) λh' tk acc' c' hk' hD ha=>?_
     have ea':=kM he ha;refine mM (us:=acc'.toList) I so kr.keysL (ea' ▸ mL xs) (by rw[ea',HI]; exact d.1) hk' (HZ _) (c:=c') ?_
     simpa using hD
 ·have:mK xs S=iw xs S:=by
   unfold mK;split
   ·rename_i i;split
    ·rename_i kvs hk;exact absurd #[i,kvs,rfl,hk] hd
    ·rfl
   ·rfl
  rw[this]at e;exact hG pins s σ H A S xs vs us w S' I so rl rv e
end
open PySem.W (KasT kas_sort kas_asc kas_desc kas_tail3 kas_descPart kas_count kas_place kas_bin kas_rev)
noncomputable def gt (p:IY HM)(i:HM):HM:=p.getD i 0
end Mi
namespace Mi
open PySem PySem.Spec PyProof.Rows L2
mutual
theorem rH:∀x y:T,kJ x=true->gF x y=gV true->gF y x=gV false
 | .int a,.int b,_,h=>by
  simp only[gF,II,Ix]at h;simp only[gF,II,Mo];omega
 | .str _,_,h,_=>by cases h
 | .tup xs,.tup ys,hn,h=>nY xs ys hn h
 | .int _,.str _,_,h|.int _,.tup _,_,h|.tup _,.int _,_,h|.tup _,.str _,_,h=>by cases h
theorem nY:∀xs ys:HF T,eH xs=true->di xs ys=gV true->di ys xs=gV false
 | [],[],_,h=>by cases h
 | [],_::_,_,_=>rfl
 | _::_,[],_,h=>by cases h
 | x::xs,y::ys,hn,h=>by
  simp only[eH,HN]at hn;simp only[di]at h ⊢
  by_cases e:x=y
  ·rw[Iw e]at h;rw[Iw e.symm];exact nY xs ys hn.2 h
  ·rw[IH e]at h;rw[IH (Ne.symm e)];exact rH x y hn.1 h
end
mutual
theorem rJ:∀x y:T,kJ x=true->x≠y->gF y x=gV false->gF x y=gV true
 | .int a,.int b,_,hne,h=>by
  simp only[gF,II,Mo]at h;simp only[gF,II,Ix];have:a≠b:=λe=>hne (e ▸ rfl)
  omega
 | .str _,_,h,_,_=>by cases h
 | .tup xs,.tup ys,hn,hne,h=>sU xs ys hn (λe=>hne (e ▸ rfl)) h
 | .int _,.str _,_,_,h|.int _,.tup _,_,_,h|.tup _,.int _,_,_,h|.tup _,.str _,_,_,h=>by cases h
theorem sU:∀xs ys:HF T,eH xs=true->xs≠ys->di ys xs=gV false->di xs ys=gV true
 | [],[],_,h,_=>absurd rfl h
 | [],_::_,_,_,_=>rfl
 | _::_,[],_,_,h=>by cases h
 | x::xs,y::ys,hn,hne,h=>by
  simp only[eH,HN]at hn;simp only[di]at h ⊢
  by_cases e:x=y
  ·rw[Iw e.symm]at h;rw[Iw e];exact sU xs ys hn.2 (λz=>hne (by rw[e,z])) h
  ·rw[IH (Ne.symm e)]at h;rw[IH e];exact rJ x y hn.1 e h
end
mutual
theorem wR:∀x y z:T,kJ x=true->kJ y=true->gF x y=gV true->gF y z=gV true->gF x z=gV true
 | .int a,.int b,.int c,_,_,h,h'=>by
  simp only[gF,II,Ix]at h h' ⊢;omega
 | .tup xs,.tup ys,.tup zs,hn,hn',h,h'=>sV xs ys zs hn hn' h h'
 | .str _,_,_,h,_,_,_=>by cases h
 | .int _,.str _,_,_,_,h,_|.int _,.tup _,_,_,_,h,_|.tup _,.int _,_,_,_,h,_|.tup _,.str _,_,_,_,h,_=>by cases h
 | .int _,.int _,.str _,_,_,_,h|.int _,.int _,.tup _,_,_,_,h|.tup _,.tup _,.int _,_,_,_,h|.tup _,.tup _,.str _,_,_,_,h=>by cases h
theorem sV:∀xs ys zs:HF T,eH xs=true->eH ys=true->di xs ys=gV true->di ys zs=gV true->di xs zs=gV true
 | [],[],_,_,_,h,_=>by cases h
 | _::_,[],_,_,_,h,_=>by cases h
 | _,_::_,[],_,_,_,h=>by cases h
 | [],_::_,_::_,_,_,_,_=>rfl
 | x::xs,y::ys,z::zs,hn,hn',h,h'=>by
  simp only[eH,HN]at hn hn';simp only[di]at h h' ⊢
  by_cases e:x=y
  ·subst e;rw[Iw rfl]at h
   by_cases e':x=z
   ·rw[Iw e']at h' ⊢;exact sV xs ys zs hn.2 hn'.2 h h'
   ·rw[IH e']at h' ⊢;exact h'
  ·rw[IH e]at h
   by_cases e':y=z
   ·subst e';rw[IH e];exact h
   ·rw[IH e']at h';have t:=wR x y z hn.1 hn'.1 h h';have e2:x≠z:=λe2=>by
     subst e2;have:=rH x x hn.1 t;rw[t]at this; cases this
    rw[IH e2];exact t
end
theorem wW {α:Type}{lt:HM->HM->Iy}{d:α}{xs:HF α}:(eX lt d xs).Perm xs:=by
 unfold eX;split
 ·exact .refl _
 ·have p:Pm xs.length (nT lt (N8 xs.length)):=nU (ki ∅)
  refine(P5 _ p).trans ?_;have:(Im xs.length).map (λi=>xs.getD i d)=xs:=by
   apply KY
   ·simp
   ·intro k h1 h2; simp[h2]
  rw[this]
noncomputable def kN (xs:HF W)(S:aa):HL (W×aa):=match xs with
 | [.ref i]=>match zS S i with
  | some (lo,hi)=>if -(2 ^ 62)<=lo/\lo < 2 ^ 62/\-(2 ^ 62)<=hi/\hi < 2 ^ 62/\(hi - lo).toNat<=sizeLine then gV (.tup (EH lo (hi - lo).toNat),S)else td
  | none=>kG [.ref i] S
 | xs=>kG xs S
section
variable{prog:IC}{w:IP}{A:IL}{E:HH->HK->Prop}{s:HK}
theorem lN {Q:HF HH->HK->Prop}{r:HR}{a b c:Ig}{t u v:P7}{n:HM}(hh:A.handled=td)(hr:PR s.heap r a b c t u v)(hsmall:LH a b c=true)
  (hn:JO a b c=n) (hlen:n<=2 ^ 24)
  (hQ:∀h' tk (acc:IY HH),(∀b o,s.heap.get? b=gV o->h'.get? b=gV o)->s.heap.objs.size<=h'.objs.size->Mu (λi v=>∃t,v=.int (a+i*c) t) acc n->Q acc.toList { s with heap:=h',toks:=tk }):wpAny (model prog w) A (collect (.ref r)) Q E s:=by
 unfold collect;refine HG (MX (JM F.entry_proto_collect ?_));rw[JB F.plain_proto_collect _];show wpAny _ A.in1 (newList [] >>= λl=>again (.builtin "list.__iadd__" #[[l,.ref r],[]])) _ _ s
 refine HG (Ja ?_);refine HU #[KJ F.plain_list_iadd _,JM F.entry_list_iadd ?_];rw[JB F.plain_list_iadd _];show wpAny _ A.in1 (J7 (.ref s.heap.objs.size) (.ref r) (.ref s.heap.objs.size)) _ _ _;have hS:(s.heap.push { cls:=.type "list",data:=.seq ([]:HF HH).toArray }).get? s.heap.objs.size=gV { cls:=.type "list",data:=.seq #[] 0 }:=Iq _ rfl;have fin':∀s',(∃h' tk acc c',s'={ s with heap:=h',toks:=tk }/\(∀b o,s.heap.get? b=gV o->h'.get? b=gV o)/\h'.get? s.heap.objs.size=gV { cls:=.type "list",dict:=td,data:=.seq acc c',slots:=#[] }/\Mu (λi v=>∃t,v=.int (a+i*c) t) acc n)->wpAny (model prog w) A (do
   let o <- load s.heap.objs.size
   match o.data with
   | .seq xs _=>pure xs.toList
   | _=>unsupported "internal:collect") Q E s':=by
  rintro s' ⟨h',tk,acc,c',rfl,hk,hS',hacc⟩;exact HG (Nm hS' (HU (hQ h' tk acc hk (Lj (Io hS')) hacc)))
 refine JR (wpAny_extend_range (A:=A) (s:={ s with heap:=s.heap.push { cls:=.type "list",data:=.seq ([]:HF HH).toArray } }) (R:=λr s'=>r=.ok (.ret (.ref s.heap.objs.size))/\∃h' tk acc c',s'={ s with heap:=h',toks:=tk }/\(∀b o,s.heap.get? b=gV o->h'.get? b=gV o)/\h'.get? s.heap.objs.size=gV { cls:=.type "list",dict:=td,data:=.seq acc c',slots:=#[] }/\Mu (λi v=>∃t,v=.int (a+i*c) t) acc n) hh (HP _ hr) hsmall hn hlen _ _ 0 hS λh' tk acc' c' hk hS' hacc=>#[rfl,h',tk,acc',c',rfl,λb o e=>hk b o (ID (Io e)) (HP _ e),hS',hacc]) (λfin s' h=>?_) (λe s' h=>?_)
 ·cases fin with
  | done f=>
   obtain⟨e,h⟩:=h;cases e;exact fin' s' h
  | again c'=>exact#[h.1,Mr h.2 λr s'' hr=>by obtain⟨rfl,hr⟩:=hr; exact fin' s'' hr]
 ·exact absurd h.1 (by simp)
theorem i6 {Q₁:HH->HK->Prop}{r:HR}{a b c:Ig}{t u v:P7}{n:HM}(hh:A.handled=td)(hr:PR s.heap r a b c t u v)(hsmall:LH a b c=true)
  (hn:JO a b c=n) (hlen:n<=2 ^ 24)
  (h:∀(h':IZ) (tk:HM) (acc:IY HH),(∀b o,s.heap.get? b=gV o->h'.get? b=gV o)->s.heap.objs.size<=h'.objs.size->Mu (λi v=>∃t,v=.int (a+i*c) t) acc n->Q₁ (.ref h'.objs.size) { s with heap:=h'.push { cls:=.type "tuple",data:=.seq acc },toks:=tk }) :
  codeAny (model prog w) A (.call (.builtin "tuple.__new__") #[[.type "tuple",.ref r],[]]) (wants Q₁ E) s:=by
 refine codeAny_of_tree ?_;show wpAny _ A.in1 (do checkBuiltinCall "tuple.__new__" #[[.type "tuple",.ref r],[]]; again (.builtin "tuple.__new__" #[[.type "tuple",.ref r],[]])) _ _ s
 refine HG (MU (F.newCall_tuple_1 _) (HU #[KJ F.plain_tuple_new _,JM F.entry_tuple_new ?_]));rw[JB F.plain_tuple_new _];have hsub:=PySem.sub_tuple_self;have hinit:=PySem.init_tuple_lookup;have hmh:=PySem.madeHere_tuple;have hTI:s.TypeIs (.ref r) "range":=#[_,hr,rfl];have hh1:A.in1.handled=td:=by simp[hh]
 wp_walk using LI hTI,lN (A:=A.in1) hh1 hr hsmall hn hlen
 intro h' tk acc hk hle hacc;show wpAny _ _ (JH acc.toList.toArray >>= λv=>ret v) _ _ _
 unfold JH;refine HG (Ja ?_ (by show acc.toList.toArray.size<=sizeLine; simp only[Array.toArray_toList]; rw[hacc.1,Je]; omega))
 refine HU ?_;have e:acc.toList.toArray=acc:=by simp
 rw[e];exact h h' tk acc hk hle hacc
theorem i7 {Q:HH->HK->Prop}{r:HR}{a b c:Ig}{t u v:P7}{n:HM}(hh:A.handled=td)(hr:PR s.heap r a b c t u v)(hsmall:LH a b c=true)
  (hn:JO a b c=n) (hlen:n<=2 ^ 24)
  (hQ:∀(h':IZ) (tk:HM) (acc:IY HH),(∀b o,s.heap.get? b=gV o->h'.get? b=gV o)->s.heap.objs.size<=h'.objs.size->Mu (λi v=>∃t,v=.int (a+i*c) t) acc n->Q (.ref h'.objs.size) { s with heap:=h'.push { cls:=.type "tuple",data:=.seq acc },toks:=tk }) :
  wpAny (model prog w) A (call (.type "tuple") [.ref r]) Q E s:=by
 refine callType_codes (Q₁:=λobj s₁=>s₁.TypeIs obj "tuple"/\Q obj s₁) F.called_tuple (F.typeCall_tuple_1 _) F.entry_object_init
  (i6 (by simp[hh]) hr hsmall hn hlen λh' tk acc hk hle hacc=>#[#[_,Iq _ rfl,rfl],hQ h' tk acc hk hle hacc]) λobj s₁ h₁=>?_
 exact#[h₁.1,F.args_object_init_2 obj _,object_init_meets F.called_tuple.init.lookup F.called_tuple.made #v[] prog w A.in1 _ s₁ #[h₁.1,rfl,h₁.2]]
end
section
variable{X:Cx}{pins:HF (HR×JE)}{σ:L2.St}{H:Hp}{s:HK}{A:HF HR}{S:aa}
theorem nZ (hh:X.A.handled=td):LCall X (.type "tuple") kN:=by
 intro pins s σ H A S xs vs us w S' I so rl rv e;unfold kN at e;split at e
 ·rename_i i;split at e
  ·rename_i lo hi hr;split at e
   ·rename_i hb;cases e;obtain⟨a,ea,rfl⟩:=sM (xs:=[]) rl rv;obtain⟨b1,b2,b3,b4,b5⟩:=hb;have hH:H a=gV (.rng lo hi):=by
     unfold zS at hr;split at hr
     ·rename_i hx; cases hr; exact so.obj i _ a hx ea
     ·cases hr
    obtain⟨t,u,v,ho⟩:=I.hok a _ hH;have hn:JO lo hi 1=((hi - lo).toNat:HM):=by rw[Na]; split <;> omega
    refine i7 hh ho (O6 b1 b2 b3 b4) hn b5 λh' tk acc hk hle hacc=>?_
    have hv:Vals ((Im (hi - lo).toNat).map λ(k:HM)=>V.int (lo+(k:Ig))) acc.toList:=by
     refine nN (by rw[HI,IM,IK,hacc.1]) λi v u e1 e2=>?_
     rw[HS,HJ]at e1;obtain⟨k,e1,rfl⟩:=e1;obtain⟨hk,rfl⟩:=Ii.mp e1;obtain⟨t,rfl⟩:=hacc.2 i u (by rw[<- JF]; exact e2)
     exact#[t,by simp]
    have hnn:H h'.objs.size=td:=I.hok.fresh hle;refine#[.ref h'.objs.size,_,A,I.laid (a:=h'.objs.size) (o:=.tup ((Im (hi - lo).toNat).map λ(k:HM)=>V.int (lo+(k:Ig)))) (t':=tk) (λb o e=>HP _ (hk b o e)) hle #[by simpa using b5,acc.toList,hv,?_],rfl,dC (.inl hnn),so.lay hnn,.tup (.inl (.inl bD)) (nO _)]
    exact#[_,Iq _ rfl,rfl,0,by simp]
   ·cases e
  ·exact jM pins s σ H A S _ vs us w S' I so rl rv e
 ·exact jM pins s σ H A S _ vs us w S' I so rl rv e
end
section
variable{X:Cx}{pins:HF (HR×JE)}{σ:L2.St}{H:Hp}{s:HK}{A:HF HR}{S:aa}
theorem uV (hh:X.A.handled=td)(hu:X.A.units+12 < cLine):LCall X (.builtin "min") zX:=by
 intro pins s σ H A S xs vs us w S' I so rl rv e;cases rl with
 | nil=>cases e
 | cons r t=>
  cases t with
  | cons _ _=>cases r <;> cases e
  | nil=>
   cases rv with
   | cons ru rv2=>
    cases rv2;cases r with
    | ref ea=>
     simp only[zX]at e;split at e
     ·rename_i ws hw;split at e
      ·rename_i ks hk;split at e
       ·rename_i hc;rw[HJ]at e;obtain⟨w',e1,e2⟩:=e;cases e2;obtain⟨vs',h1,r1⟩:=cW so hw ea;obtain⟨its,rv1,p,hz⟩:=I.list h1;obtain rfl:_=IV _:=ru;have hws:T.ws ks=ws:=W.ts_w hk;have hT:IsTs s.heap ks its:=gq I ks (hws ▸ r1) rv1;have hl:its.length=ks.length:=hT.length.symm;have hlw:ws.length=ks.length:=by rw[r1.length,L2.Vals.length rv1,hl]
        have hn:0 < ks.length:=by
         have:=(Ii.mp e1).1;omega
        refine wJ (items:=its.toArray) (bt:=uS ks) hh p.isList (by simpa [hl]using hn) (λi j vi vj s' Q E hk' hi hj hq=>?_) λv h' tk hv hk'=>?_
        ·have hi':i < ks.length:=by
          have:=(Ke.mp hi).1
          simpa [hl]using this
         have hj':j < ks.length:=by
          have:=(Ke.mp hj).1
          simpa [hl]using this
         have g:=hT.kept (h':=s'.heap) λb o _ e=>hk' b o e
         have e1:vi=its[i]'∅:=by
          have:=(Ke.mp hi).2
          simpa using this.symm
         have e2:vj=its[j]'∅:=by
          have:=(Ke.mp hj).2
          simpa using this.symm
         subst e1 e2;have b1:=ee (ks:=ks) i hi';have b2:=ee (ks:=ks) j hj';exact EK eI _ _ _ _ X.A.in1 s' _ ∅ ∅ (g.get i hi' ∅) (g.get j hj' ∅) (by rw[bQ]; unfold eI; omega) (rF hc.2 hi' hj') X.prog X.w _ _ hq
        ·have hv':its[hJ ks]?=gV v:=by
          have:its.toArray.size=ks.length:=by simpa using hl
          rw[this]at hv
          simpa [hJ]using hv
         obtain⟨v',q1,q2⟩:=r1.get e1;obtain⟨u',q3,q4⟩:=L2.Vals.get rv1 q1;rw[hv']at q3;cases q3;exact#[v',H,A,I.kept hk',q4,.refl,so,q2]
       ·cases e
      ·cases e
     ·cases e
    | _=>cases e
theorem mN:∀ {ws:HF W} {bs:HF Iy},hW ws=gV bs->ws=bs.map W.bl
 | [],bs,h=>by cases h; rfl
 | .bl b::ws,bs,h=>by
  simp only[hW,HJ]at h;obtain⟨r,h1,h2⟩:=h;subst h2;rw[mN h1]; rfl
 | .non::_,_,h|.int _::_,_,h|.str _::_,_,h|.tup _::_,_,h|.ref _::_,_,h=>by cases h
theorem rK {bs:HF Iy}{vs:HF V}{us:HF HH}(r:RelL X.K A H (bs.map W.bl) vs)(rv:Vals vs us):us=bs.map KP:=by
 induction bs generalizing vs us with
 | nil=>cases r; cases rv; rfl
 | cons b bs ih=>
  cases r with
  | cons r1 r2=>
   cases rv with
   | cons v1 v2=>
    cases r1;obtain rfl:_=KP b:=v1;rw[ih r2 v2]; rfl
theorem uW (bs:HF Iy):(Im bs.length).all (λi=>bs.getD i false)=bs.all id:=by
 induction bs with
 | nil=>rfl
 | cons b bs ih=>simp[Mt,Pd,NR]at ih ⊢; rw[ih]
theorem CK {id:Jr}{fb:HF Iy->Iy}{g:HF W->aa->HL (W×aa)}(hg:∀xs S,g xs S=match xs with|[.ref i]=>(match g8 S i with|some ws=>(hW ws).map λbs=>(.bl (fb bs),S)|none=>td)|_=>td)
  (hcall:∀ {s:HK} {x:HH} {Q:HH->HK->Prop} {E:HH->HK->Prop} {bs:HF Iy},wpAny (model X.prog X.w) X.A.in1 (pyIter x) (λit s₂=>∃I fp wr P St,it=.ref I/\P4 X.prog X.w X.A.in1 I fp wr bs.length P St/\St 0 s₂.heap/\TruthOf X.prog X.w X.A.in1 P (λi=>bs.getD i false)/\
   ∀h' tk,(∀b o,b∉wr->s₂.heap.get? b=gV o->h'.get? b=gV o)->Q (.bool (fb bs)) { s₂ with heap:=h',toks:=tk }) E s->wpAny (model X.prog X.w) X.A (call (.builtin id) [x]) Q E s)
  (hh:X.A.handled=td):LCall X (.builtin id) g:=by
 intro pins s σ H A S xs vs us w S' I so rl rv e;rw[hg]at e;cases rl with
 | nil=>cases e
 | cons r t=>
  cases t with
  | cons _ _=>cases r <;> cases e
  | nil=>
   cases rv with
   | cons ru rv2=>
    cases rv2;cases r with
    | @ref ri ad ea=>
     simp only at e;split at e
     ·rename_i ws hw;rw[HJ]at e;obtain⟨bs,e1,e2⟩:=e;cases e2;obtain⟨vs',h1,r1⟩:=cW so hw ea;obtain⟨its,rv1,p,hz⟩:=I.list h1;obtain rfl:_=IV _:=ru;rw[mN e1]at r1;have hits:=rK r1 rv1;refine hcall (bs:=bs) ?_;refine L9 p.isList ?_;have hlt:ad < s.heap.objs.size:=by obtain⟨_,ho,_⟩:=p.isList; exact Io ho
      have W:=PH (prog:=X.prog) (w:=X.w) (A:=X.A.in1) hh s.heap.objs.size ad (ID hlt) its.toArray;have hsz:its.toArray.size=bs.length:=by rw[Ih,hits,HI]
      rw[hsz]at W;refine#[_,_,_,_,_,rfl,W,#[#[_,Iq _ rfl,rfl,rfl],?_],λi v s' Q E hi hq=>?_,λh' tk hk=>?_]
      ·obtain⟨o,ho,hc⟩:=p.isList;exact#[o,HP _ ho,hc]
      ·have hb:bs[i]?.map KP=gV v:=by rw[<- HS,<- hits]; simpa using hi
       cases q:bs[i]? with
       | none=>rw[q]at hb; cases hb
       | some b=>
        rw[q]at hb;cases hb;have eb:bs.getD i false=b:=by simp[q]
        have hq:Q (bs.getD i false) s':=hq;rw[eb]at hq;exact J2 hq
      ·refine#[.bl (fb bs),H,A,I.kept (λb o e=>hk b o (λz=>?_) (HP _ e)),rfl,.refl,so,.bl]
       have hb:=Io e;rw[Ip.mp z]at hb;exact Ju _ hb
     ·cases e
    | _=>cases e
theorem uX (hh:X.A.handled=td):LCall X (.builtin "all") CJ:=
 CK (fb:=λbs=>bs.all id) (λxs S=>rfl) (λ{s x Q E bs} h=>call_all_walk (JR h (λit s₂ #[I,fp,wr,P,St',a,b,c,d,f]=>#[I,fp,wr,_,P,St',_,a,b,c,d,λh' tk hk=>by rw[uW]; exact f h' tk hk]) λ_ _ e=>e)) hh
end
noncomputable abbrev FA:=Fm->aa->HL (HF W×aa)
noncomputable abbrev FT:=Fm->aa->HL (Iy×aa)
inductive Out where
 | nx (ρ:Fm)|rt (w:W)|bk (ρ:Fm)|ct (ρ:Fm)
noncomputable abbrev FS:=Fm->aa->HL (Out×aa)
section
variable (X:Cx)
noncomputable def tE (f:FE):TE:=λσ H Q=>∃A ρ S w S',EnvRel X.K A H ρ σ/\StoreOk X.w X.K A H S/\f ρ S=gV (w,S')/\∀v H',EndV X.w X.K A H S' w v H'->Q v H'
noncomputable def EndB (A:HF HR)(H:Hp)(S':aa)(k:Iy):Iy->Hp->Prop:=λb H'=>b=k/\∃A',Ext X.K A H A' H'/\StoreOk X.w X.K A' H' S'
noncomputable def tT (f:FT):TT:=λσ H Q=>∃A ρ S k S',EnvRel X.K A H ρ σ/\StoreOk X.w X.K A H S/\f ρ S=gV (k,S')/\∀b H',EndB X A H S' k b H'->Q b H'
noncomputable def CL (A:HF HR)(H:Hp)(S':aa)(ws:HF W):HF V->Hp->Prop:=λvs H'=>∃A',Ext X.K A H A' H'/\StoreOk X.w X.K A' H' S'/\RelL X.K A' H' ws vs
noncomputable def tA (f:FA):TA:=λσ H Q=>∃A ρ S ws S',EnvRel X.K A H ρ σ/\StoreOk X.w X.K A H S/\f ρ S=gV (ws,S')/\∀vs H',CL X A H S' ws vs H'->Q vs H'
noncomputable def EndS (A:HF HR)(H:Hp)(o:Out)(S':aa):Ends where
 nx:=λσ' H'=>∃ρ' A',o=.nx ρ'/\Ext X.K A H A' H'/\StoreOk X.w X.K A' H' S'/\EnvRel X.K A' H' ρ' σ'
 rt:=λv H'=>∃w A',o=.rt w/\Ext X.K A H A' H'/\StoreOk X.w X.K A' H' S'/\Rel X.K A' H' w v
 bk:=λσ' H'=>∃ρ' A',o=.bk ρ'/\Ext X.K A H A' H'/\StoreOk X.w X.K A' H' S'/\EnvRel X.K A' H' ρ' σ'
 ct:=λσ' H'=>∃ρ' A',o=.ct ρ'/\Ext X.K A H A' H'/\StoreOk X.w X.K A' H' S'/\EnvRel X.K A' H' ρ' σ'
structure Imp (E D:Ends):Prop where
 nx:∀σ H,E.nx σ H->D.nx σ H
 rt:∀v H,E.rt v H->D.rt v H
 bk:∀σ H,E.bk σ H->D.bk σ H
 ct:∀σ H,E.ct σ H->D.ct σ H
noncomputable def tS (f:FS):TS:=λD σ H=>∃A ρ S o S',EnvRel X.K A H ρ σ/\StoreOk X.w X.K A H S/\f ρ S=gV (o,S')/\Imp (EndS X A H o S') D
noncomputable abbrev GE (e:Iv)(f:FE):Prop:=PE X e (tE X f)
noncomputable abbrev GT (e:Iv)(f:FT):Prop:=PT X e (tT X f)
noncomputable abbrev GW (e:Iv)(f:FT):Prop:=PW X e (tT X f)
noncomputable abbrev GA (es:HF Iv)(f:FA):Prop:=PA X es (tA X f)
noncomputable abbrev GS (st:Ks)(f:FS):Prop:=PS X st (tS X f)
noncomputable abbrev GSs (sts:HF Ks)(f:FS):Prop:=PSs X sts (tS X f)
end
theorem Imp.trans {E D F:Ends}(a:Imp E D)(b:Imp D F):Imp E F:=#[λ_ _ h=>b.nx _ _ (a.nx _ _ h),λ_ _ h=>b.rt _ _ (a.rt _ _ h),λ_ _ h=>b.bk _ _ (a.bk _ _ h),λ_ _ h=>b.ct _ _ (a.ct _ _ h)]
section
variable{X:Cx}
theorem GE.of {e:Iv}{t:TE}{f:FE}(h:PE X e t)(hf:∀(σ:L2.St) (H:Hp) (A:HF HR) (ρ:Fm) (S:aa) (w:W) (S':aa),EnvRel X.K A H ρ σ->StoreOk X.w X.K A H S->f ρ S=gV (w,S')->∀Q:VK,(∀v H',EndV X.w X.K A H S' w v H'->Q v H')->t σ H Q):GE X e f:=
 λpins s σ H Q I #[A,ρ,S,w,S',er,so,e1,hq]=>h pins s σ H Q I (hf σ H A ρ S w S' er so e1 Q hq)
theorem GT.of {e:Iv}{t:TT}{f:FT}(h:PT X e t)(hf:∀(σ:L2.St) (H:Hp) (A:HF HR) (ρ:Fm) (S:aa) (k:Iy) (S':aa),EnvRel X.K A H ρ σ->StoreOk X.w X.K A H S->f ρ S=gV (k,S')->∀Q:Iy->Hp->Prop,(∀b H',EndB X A H S' k b H'->Q b H')->t σ H Q):GT X e f:=
 λpins s σ H Q I #[A,ρ,S,w,S',er,so,e1,hq]=>h pins s σ H Q I (hf σ H A ρ S w S' er so e1 Q hq)
theorem GW.of {e:Iv}{t:TT}{f:FT}(h:PW X e t)(hf:∀(σ:L2.St) (H:Hp) (A:HF HR) (ρ:Fm) (S:aa) (k:Iy) (S':aa),EnvRel X.K A H ρ σ->StoreOk X.w X.K A H S->f ρ S=gV (k,S')->∀Q:Iy->Hp->Prop,(∀b H',EndB X A H S' k b H'->Q b H')->t σ H Q):GW X e f:=
 λwh pins s σ H Q I #[A,ρ,S,w,S',er,so,e1,hq]=>h wh pins s σ H Q I (hf σ H A ρ S w S' er so e1 Q hq)
theorem GA.of {es:HF Iv}{t:TA}{f:FA}(h:PA X es t)(hf:∀(σ:L2.St) (H:Hp) (A:HF HR) (ρ:Fm) (S:aa) (ws:HF W) (S':aa),EnvRel X.K A H ρ σ->StoreOk X.w X.K A H S->f ρ S=gV (ws,S')->∀Q:HF V->Hp->Prop,(∀vs H',CL X A H S' ws vs H'->Q vs H')->t σ H Q):GA X es f:=
 λpos pins s σ H Q I #[A,ρ,S,w,S',er,so,e1,hq]=>h pos pins s σ H Q I (hf σ H A ρ S w S' er so e1 Q hq)
theorem GS.of {st:Ks}{t:TS}{f:FS}(h:PS X st t)(hf:∀(σ:L2.St) (H:Hp) (A:HF HR) (ρ:Fm) (S:aa) (o:Out) (S':aa),EnvRel X.K A H ρ σ->StoreOk X.w X.K A H S->f ρ S=gV (o,S')->∀D:Ends,Imp (EndS X A H o S') D->t D σ H):GS X st f:=
 λpins s σ H D I #[A,ρ,S,o,S',er,so,e1,hq]=>h pins s σ H D I (hf σ H A ρ S o S' er so e1 D hq)
theorem GSs.of {st:HF Ks}{t:TS}{f:FS}(h:PSs X st t)(hf:∀(σ:L2.St) (H:Hp) (A:HF HR) (ρ:Fm) (S:aa) (o:Out) (S':aa),EnvRel X.K A H ρ σ->StoreOk X.w X.K A H S->f ρ S=gV (o,S')->∀D:Ends,Imp (EndS X A H o S') D->t D σ H):GSs X st f:=
 λpins s σ H D I #[A,ρ,S,o,S',er,so,e1,hq]=>h pins s σ H D I (hf σ H A ρ S o S' er so e1 D hq)
theorem EndV.after {A A1:HF HR}{H H1:Hp}{S':aa}{w:W}{v:V}{H':Hp}(e:Ext X.K A H A1 H1)(h:EndV X.w X.K A1 H1 S' w v H'):EndV X.w X.K A H S' w v H':=by
 obtain⟨A',x,y,z⟩:=h;exact#[A',e.trans x,y,z]
theorem EndB.after {A A1:HF HR}{H H1:Hp}{S':aa}{k b:Iy}{H':Hp}(e:Ext X.K A H A1 H1)(h:EndB X A1 H1 S' k b H'):EndB X A H S' k b H':=by
 obtain⟨h1,A',x,y⟩:=h;exact#[h1,A',e.trans x,y]
theorem EndS.after {A A1:HF HR}{H H1:Hp}{S':aa}{o:Out}(e:Ext X.K A H A1 H1):Imp (EndS X A1 H1 o S') (EndS X A H o S'):=
 #[λ_ _ #[ρ',A',a,b,c,d]=>#[ρ',A',a,e.trans b,c,d],λ_ _ #[ρ',A',a,b,c,d]=>#[ρ',A',a,e.trans b,c,d],λ_ _ #[ρ',A',a,b,c,d]=>#[ρ',A',a,e.trans b,c,d],λ_ _ #[ρ',A',a,b,c,d]=>#[ρ',A',a,e.trans b,c,d]]
noncomputable def fC (w:W):FE:=λ_ S=>gV (w,S)
noncomputable def fV (i:HM):FE:=λρ S=>match ρ[i]? with
 | some (gV w)=>gV (w,S)
 | _=>td
theorem pW {e:Iv}{v:V}{w:W}(h:PE X e (tC v))(r:∀A H,Rel X.K A H w v):GE X e (fC w):=
 GE.of h λσ H A ρ S w' S' er so e Q hq=>by cases e; exact hq _ _ (.here so (r A H))
theorem GL {i:HM}{e:Iv}(h:PE X e (D2 i)):GE X e (fV i):=GE.of h λσ H A ρ S w S' er so e Q hq=>by
 unfold fV at e;split at e
 ·rename_i w' hw;cases e;obtain⟨v,h1,h2⟩:=er.2 i _ hw;exact#[v,h1,hq _ _ (.here so h2)]
 ·cases e
noncomputable def zY (g:W->W->aa->HL (W×aa))(fa fb:FE):FE:=λρ S=>match fa ρ S with
 | some (x,S1)=>match fb ρ S1 with
  | some (y,S2)=>g x y S2
  | none=>td
 | none=>td
theorem F1 {fa fb:FE}{g:W->W->aa->HL (W×aa)}{ρ:Fm}{S:aa}{r:W×aa}(e:zY g fa fb ρ S=gV r):∃x S1 y S2,fa ρ S=gV (x,S1)/\fb ρ S1=gV (y,S2)/\g x y S2=gV r:=by
 unfold zY at e;split at e
 ·rename_i x S1 h1;split at e
  ·rename_i y S2 h2;exact#[x,S1,y,S2,h1,h2,e]
  ·cases e
 ·cases e
theorem iD {fa fb:FE}{ρ:Fm}{S S1 S2:aa}{x y:W}{σ:L2.St}{H:Hp}{A:HF HR}{R:V->V->Hp->Prop}(er:EnvRel X.K A H ρ σ)(so:StoreOk X.w X.K A H S)(h1:fa ρ S=gV (x,S1))(h2:fb ρ S1=gV (y,S2))
  (h:∀a b H2 A2,Ext X.K A H A2 H2->StoreOk X.w X.K A2 H2 S2->Rel X.K A2 H2 x a->Rel X.K A2 H2 y b->R a b H2):tE X fa σ H λa H1=>tE X fb σ H1 λb H2=>R a b H2:=by
 refine#[A,ρ,S,x,S1,er,so,h1,λa H1 #[A1,e1,o1,r1]=>?_]
 refine#[A1,ρ,S1,y,S2,er.mono e1,o1,h2,λb H2 #[A2,e2,o2,r2]=>?_]
 exact h a b H2 A2 (e1.trans e2) o2 (r1.mono e2) r2
theorem LOp.opr {f:HH->HH->Ph HH}{g:W->W->aa->HL (W×aa)}(h:LOp X f g):OpR X f (λa b H Q=>∃A S x y w S',StoreOk X.w X.K A H S/\Rel X.K A H x a/\Rel X.K A H y b/\g x y S=gV (w,S')/\∀v H',EndV X.w X.K A H S' w v H'->Q v H'):=by
 intro pins s σ H a b u v Q I ru rv ⟨A,S,x,y,w,S',so,rx,ry,e,hq⟩;exact b9 (h pins s σ H A S x y a b u v w S' I so rx ru ry rv e) λu' s' #[v',H',A',I',r',e1,o1,z1]=>#[v',H',I',r',hq v' H' #[A',e1,o1,z1]]
theorem BB {a b:Iv}{op:ND}{pos:Kf}{fa fb:FE}{g:W->W->aa->HL (W×aa)}(ho:LOp X (binaryOp op) g)(ha:GE X a fa)(hb:GE X b fb):GE X (.BinOp a op b pos) (zY g fa fb):=
 GE.of (Em ho.opr ha hb) λσ H A ρ S w S' er so e Q hq=>by
  obtain⟨x,S1,y,S2,h1,h2,h3⟩:=F1 e;exact iD er so h1 h2 λa b H2 A2 e2 o2 r1 r2=>#[A2,S2,x,y,w,S',o2,r1,r2,h3,λv H' z=>hq v H' (z.after e2)]
noncomputable def wX (fa:FE):FE:=λρ S=>match fa ρ S with
 | some (.int i,S1)=>gV (.int (-i),S1)
 | _=>td
theorem wY {a:Iv}{pos:Kf}{fa:FE}(ha:GE X a fa):GE X (.UnaryOp .USub a pos) (wX fa):=
 GE.of (En Cs ha) λσ H A ρ S w S' er so e Q hq=>by
  unfold wX at e;split at e
  ·rename_i i S1 h1;cases e;refine#[A,ρ,S,_,_,er,so,h1,λv H1 #[A1,e1,o1,r1]=>?_]
   cases r1;exact#[_,rfl,hq _ _ #[A1,e1,o1,.int]]
  ·cases e
noncomputable def zZ (o:COp)(fa fb:FE):FE:=zY (ce o) fa fb
theorem CM {a b:Iv}{o:COp}{pos:Kf}{fa fb:FE}(hu:X.A.units+g9 < cLine)(ha:GE X a fa)(hb:GE X b fb)(hm:behindInMarks o.py b=false):GE X (.Compare a [o.py] [b] pos) (zZ o fa fb):=
 GE.of (zn (pN hu o).opr ha hb hm) λσ H A ρ S w S' er so e Q hq=>by
  obtain⟨x,S1,y,S2,h1,h2,h3⟩:=F1 e;exact iD er so h1 h2 λa b H2 A2 e2 o2 r1 r2=>#[A2,S2,x,y,w,S',o2,r1,r2,h3,λv H' z=>hq v H' (z.after e2)]
noncomputable def w6 (f:FE):FT:=λρ S=>match f ρ S with
 | some (.bl k,S')=>gV (k,S')
 | _=>td
theorem CN {a b:Iv}{o:COp}{pos:Kf}{fa fb:FE}(hu:X.A.units+g9 < cLine)(ha:GE X a fa)(hb:GE X b fb)(hm:behindInMarks o.py b=false):GT X (.Compare a [o.py] [b] pos) (w6 (zZ o fa fb)):=
 GT.of (zo (pN hu o).opr ha hb hm) λσ H A ρ S k S' er so e Q hq=>by
  unfold w6 at e;split at e
  ·rename_i k' S'' h0;cases e;obtain⟨x,S1,y,S2,h1,h2,h3⟩:=F1 h0;refine iD er so h1 h2 λa b H2 A2 e2 o2 r1 r2=>#[A2,S2,x,y,_,_,o2,r1,r2,h3,λv H' #[A',z1,z2,z3]=>?_]
   cases z3;exact#[k,rfl,hq _ _ #[rfl,A',e2.trans z1,z2]]
  ·cases e
noncomputable def gG (f:FE):FT:=λρ S=>match f ρ S with
 | some (w,S')=>(eQ S' w).map λk=>(k,S')
 | none=>td
theorem cX {e:Iv}{f:FE}(h:GE X e f)(he:∀whole,isTrue e X.env whole=(do let v <- whole; standAt e.pos; holding [v] (truthy v))):GT X e (gG f):=by
 intro pins s σ H Q I ⟨A,ρ,S,k,S',er,so,e1,hq⟩;unfold gG at e1;split at e1
 ·rename_i w S1 h1;rw[HJ]at e1;obtain⟨k',ek,e2⟩:=e1;cases e2;refine isTrue_plain (b9 (h pins s σ H (EndV X.w X.K A H _ w) I #[A,ρ,S,w,_,er,so,h1,λ_ _ z=>z]) λv s1 #[x,H1,I1,r1,A1,e1,o1,z1]=>?_) (he _)
  exact GJ I1 o1 z1 r1 ek λs' I'=>#[H1,I',hq _ _ #[rfl,A1,e1,o1]]
 ·cases e1
noncomputable def w8 (f g:FT):FT:=λρ S=>match f ρ S with
 | some (true,S1)=>g ρ S1
 | some (false,S1)=>gV (false,S1)
 | none=>td
noncomputable def EL (f g:FT):FT:=λρ S=>match f ρ S with
 | some (true,S1)=>gV (true,S1)
 | some (false,S1)=>g ρ S1
 | none=>td
noncomputable def Aa (f:FT):FT:=λρ S=>match f ρ S with
 | some (k,S1)=>gV (!k,S1)
 | none=>td
theorem w9 {f g:FT}{σ:L2.St}{H:Hp}{A:HF HR}{ρ:Fm}{S:aa}{k:Iy}{S':aa}(er:EnvRel X.K A H ρ σ)(so:StoreOk X.w X.K A H S)(e:w8 f g ρ S=gV (k,S'))(Q:Iy->Hp->Prop)(hq:∀b H',EndB X A H S' k b H'->Q b H') :
  D6 (tT X f) (tT X g) σ H Q:=by
 unfold w8 at e;split at e
 ·rename_i S1 h1;refine#[A,ρ,S,true,S1,er,so,h1,λb H1 #[z0,A1,z1,z2]=>?_]
  subst z0;rw[Iw rfl];exact#[A1,ρ,S1,k,S',er.mono z1,z2,e,λb H' q=>hq b H' (q.after z1)]
 ·rename_i S1 h1;cases e;refine#[A,ρ,S,false,_,er,so,h1,λb H1 #[z0,A1,z1,z2]=>?_]
  subst z0;rw[IH Iu];exact hq _ _ #[rfl,A1,z1,z2]
 ·cases e
theorem Ab {f g:FT}{σ:L2.St}{H:Hp}{A:HF HR}{ρ:Fm}{S:aa}{k:Iy}{S':aa}(er:EnvRel X.K A H ρ σ)(so:StoreOk X.w X.K A H S)(e:EL f g ρ S=gV (k,S'))(Q:Iy->Hp->Prop)(hq:∀b H',EndB X A H S' k b H'->Q b H') :
  Hj (tT X f) (tT X g) σ H Q:=by
 unfold EL at e;split at e
 ·rename_i S1 h1;cases e;refine#[A,ρ,S,true,_,er,so,h1,λb H1 #[z0,A1,z1,z2]=>?_]
  subst z0;rw[Iw rfl];exact hq _ _ #[rfl,A1,z1,z2]
 ·rename_i S1 h1;refine#[A,ρ,S,false,S1,er,so,h1,λb H1 #[z0,A1,z1,z2]=>?_]
  subst z0;rw[IH Iu];exact#[A1,ρ,S1,k,S',er.mono z1,z2,e,λb H' q=>hq b H' (q.after z1)]
 ·cases e
theorem Ac {a:Iv}{pos:Kf}{f:FT}(h:GT X a f):GW X (.BoolOp .And [a] pos) f:=y8 h
theorem CO {a:Iv}{pos:Kf}{f:FT}(h:GT X a f):GW X (.BoolOp .Or [a] pos) f:=B2 h
theorem CP {a b:Iv}{r:HF Iv}{pos:Kf}{f g:FT}(h:GT X a f)(h2:GW X (.BoolOp .And (b::r) pos) g):GW X (.BoolOp .And (a::b::r) pos) (w8 f g):=
 GW.of (B3 h h2) λσ H A ρ S k S' er so e Q hq=>w9 er so e Q hq
theorem EM {a b:Iv}{r:HF Iv}{pos:Kf}{f g:FT}(h:GT X a f)(h2:GW X (.BoolOp .Or (b::r) pos) g):GW X (.BoolOp .Or (a::b::r) pos) (EL f g):=
 GW.of (D8 h h2) λσ H A ρ S k S' er so e Q hq=>Ab er so e Q hq
theorem CQ {a:Iv}{pos:Kf}{f:FT}(h:GT X a f):GT X (.UnaryOp .Not a pos) (Aa f):=
 GT.of (B4 h) λσ H A ρ S k S' er so e Q hq=>by
  unfold Aa at e;split at e
  ·rename_i k1 S1 h1;cases e;refine#[A,ρ,S,k1,_,er,so,h1,λb H1 #[z0,A1,z1,z2]=>?_]
   subst z0;exact hq _ _ #[rfl,A1,z1,z2]
  ·cases e
noncomputable def sW (f g:FE):FE:=λρ S=>match f ρ S with
 | some (.bl true,S1)=>g ρ S1
 | some (.bl false,S1)=>gV (.bl false,S1)
 | _=>td
noncomputable def Ad (f g:FE):FE:=λρ S=>match f ρ S with
 | some (.bl true,S1)=>gV (.bl true,S1)
 | some (.bl false,S1)=>g ρ S1
 | _=>td
noncomputable def sX (f:FE):FE:=λρ S=>match f ρ S with
 | some (.bl k,S1)=>gV (.bl (!k),S1)
 | _=>td
theorem CS {a:Iv}{op:PK}{pos:Kf}{f:FE}(h:GE X a f):GE X (.BoolOp op [a] pos) f:=B5 h
theorem CT {a b:Iv}{r:HF Iv}{pos:Kf}{f g:FE}(h:GE X a f)(h2:GE X (.BoolOp .And (b::r) pos) g):GE X (.BoolOp .And (a::b::r) pos) (sW f g):=
 GE.of (B6 h h2) λσ H A ρ S w S' er so e Q hq=>by
  unfold sW at e;split at e
  ·rename_i S1 h1;refine#[A,ρ,S,_,S1,er,so,h1,λv H1 #[A1,z1,z2,z3]=>?_]
   cases z3;refine#[true,rfl,?_];rw[Iw rfl];exact#[A1,ρ,S1,w,S',er.mono z1,z2,e,λb H' q=>hq b H' (q.after z1)]
  ·rename_i S1 h1;cases e;refine#[A,ρ,S,_,_,er,so,h1,λv H1 #[A1,z1,z2,z3]=>?_]
   cases z3;refine#[false,rfl,?_];rw[IH Iu];exact hq _ _ #[A1,z1,z2,.bl]
  ·cases e
theorem EN {a b:Iv}{r:HF Iv}{pos:Kf}{f g:FE}(h:GE X a f)(h2:GE X (.BoolOp .Or (b::r) pos) g):GE X (.BoolOp .Or (a::b::r) pos) (Ad f g):=
 GE.of (Ec h h2) λσ H A ρ S w S' er so e Q hq=>by
  unfold Ad at e;split at e
  ·rename_i S1 h1;cases e;refine#[A,ρ,S,_,_,er,so,h1,λv H1 #[A1,z1,z2,z3]=>?_]
   cases z3;refine#[true,rfl,?_];rw[Iw rfl];exact hq _ _ #[A1,z1,z2,.bl]
  ·rename_i S1 h1;refine#[A,ρ,S,_,S1,er,so,h1,λv H1 #[A1,z1,z2,z3]=>?_]
   cases z3;refine#[false,rfl,?_];rw[IH Iu];exact#[A1,ρ,S1,w,S',er.mono z1,z2,e,λb H' q=>hq b H' (q.after z1)]
  ·cases e
theorem CU {a:Iv}{pos:Kf}{f:FE}(h:GE X a f):GE X (.UnaryOp .Not a pos) (sX f):=
 GE.of (B7 h) λσ H A ρ S w S' er so e Q hq=>by
  unfold sX at e;split at e
  ·rename_i k1 S1 h1;cases e;refine#[A,ρ,S,_,_,er,so,h1,λb H1 #[A1,z1,z2,z3]=>?_]
   cases z3;exact#[_,rfl,hq _ _ #[A1,z1,z2,.bl]]
  ·cases e
noncomputable def Ae (c:FT)(f g:FE):FE:=λρ S=>match c ρ S with
 | some (true,S1)=>f ρ S1
 | some (false,S1)=>g ρ S1
 | none=>td
theorem CV {c a b:Iv}{pos:Kf}{fc:FT}{f g:FE}(hc:GT X c fc)(ha:GE X a f)(hb:GE X b g):GE X (.IfExp c a b pos) (Ae fc f g):=
 GE.of (vN hc ha hb) λσ H A ρ S w S' er so e Q hq=>by
  unfold Ae at e;split at e
  ·rename_i S1 h1;refine#[A,ρ,S,_,S1,er,so,h1,λb H1 #[z0,A1,z1,z2]=>?_]
   subst z0;rw[Iw rfl];exact#[A1,ρ,S1,w,S',er.mono z1,z2,e,λb H' q=>hq b H' (q.after z1)]
  ·rename_i S1 h1;refine#[A,ρ,S,_,S1,er,so,h1,λb H1 #[z0,A1,z1,z2]=>?_]
   subst z0;rw[IH Iu];exact#[A1,ρ,S1,w,S',er.mono z1,z2,e,λb H' q=>hq b H' (q.after z1)]
  ·cases e
noncomputable def i8:FA:=λ_ S=>gV ([],S)
noncomputable def en (f:FE)(g:FA):FA:=λρ S=>match f ρ S with
 | some (w,S1)=>match g ρ S1 with
  | some (ws,S2)=>gV (w::ws,S2)
  | none=>td
 | none=>td
theorem CW:GA X [] i8:=GA.of vU λσ H A ρ S ws S' er so e Q hq=>by cases e; exact hq _ _ #[A,.refl,so,.nil]
theorem Ag {e:Iv}{es:HF Iv}{f:FE}{g:FA}(h:GE X e f)(h2:GA X es g)(hs:starEach (e::es) X.env=(false,eval e X.env)::starEach es X.env):GA X (e::es) (en f g):=
 GA.of (ny h h2 hs) λσ H A ρ S ws S' er so e Q hq=>by
  unfold en at e;split at e
  ·rename_i w S1 h1;split at e
   ·rename_i ws2 S2 h2;cases e;refine#[A,ρ,S,w,S1,er,so,h1,λv H1 #[A1,z1,z2,z3]=>?_]
    refine#[A1,ρ,S1,ws2,_,er.mono z1,z2,h2,λvs H2 #[A2,y1,y2,y3]=>?_]
    exact hq _ _ #[A2,z1.trans y1,y2,.cons (z3.mono y1) y3]
   ·cases e
  ·cases e
noncomputable def xf (f:FA):FE:=λρ S=>match f ρ S with
 | some (ws,S1)=>rq S1 ws
 | none=>td
noncomputable def xg (f:FA):FE:=λρ S=>match f ρ S with
 | some (ws,S1)=>lL S1 ws
 | none=>td
theorem xh {es:HF Iv}{k:HM}{pos:Kf}{f:FA}(h:GA X es f):GE X (.Tuple es k pos) (xf f):=
 GE.of (Cv h) λσ H A ρ S w S' er so e Q hq=>by
  unfold xf at e;split at e
  ·rename_i ws S1 h1;obtain⟨hl,rfl,rfl⟩:=sG e;refine#[A,ρ,S,ws,_,er,so,h1,λvs H1 #[A1,z1,z2,z3]=>#[by rw[<- z3.length]; exact hl,λp hp=>?_]]
   exact hq _ _ (EndV.after z1 (.tup z2 z3 hp))
  ·cases e
theorem xi {es:HF Iv}{pos:Kf}{f:FA}(h:GA X es f):GE X (.List es pos) (xg f):=
 GE.of (Cw h) λσ H A ρ S w S' er so e Q hq=>by
  unfold xg at e;split at e
  ·rename_i ws S1 h1;obtain⟨hl,rfl,rfl⟩:=ke e;refine#[A,ρ,S,ws,_,er,so,h1,λvs H1 #[A1,z1,z2,z3]=>#[by rw[<- z3.length]; exact hl,λp hp=>?_]]
   exact hq _ _ (EndV.after z1 (.lst z2 z3 hp))
  ·cases e
noncomputable def jP (g:HF W->aa->HL (W×aa))(f:FA):FE:=λρ S=>match f ρ S with
 | some (ws,S1)=>g ws S1
 | none=>td
theorem LCall.callr {v:HH}{g:HF W->aa->HL (W×aa)}(h:LCall X v g):CallR X v (λvs H Q=>∃A S ws w S',StoreOk X.w X.K A H S/\RelL X.K A H ws vs/\g ws S=gV (w,S')/\∀v H',EndV X.w X.K A H S' w v H'->Q v H'):=by
 intro pins s σ H vs us Q I rv ⟨A,S,ws,w,S',so,rl,e,hq⟩;exact b9 (h pins s σ H A S ws vs us w S' I so rl rv e) λu' s' #[v',H',A',I',r',e1,o1,z1]=>#[v',H',I',r',hq v' H' #[A',e1,o1,z1]]
theorem mO {g:HF W->aa->HL (W×aa)}{f:FA}{σ:L2.St}{H:Hp}{A:HF HR}{ρ:Fm}{S:aa}{w:W}{S':aa}(er:EnvRel X.K A H ρ σ)(so:StoreOk X.w X.K A H S)(e:jP g f ρ S=gV (w,S'))(Q:VK)(hq:∀v H',EndV X.w X.K A H S' w v H'->Q v H') :
  tA X f σ H λvs H1=>∃A S ws w S',StoreOk X.w X.K A H1 S/\RelL X.K A H1 ws vs/\g ws S=gV (w,S')/\∀v H',EndV X.w X.K A H1 S' w v H'->Q v H':=by
 unfold jP at e;split at e
 ·rename_i ws S1 h1;exact#[A,ρ,S,ws,S1,er,so,h1,λvs H1 #[A1,z1,z2,z3]=>#[A1,S1,ws,w,S',z2,z3,e,λv H' q=>hq v H' (q.after z1)]]
 ·cases e
theorem sY {id:Jr}{x:Ik}{e:Iv}{es:HF Iv}{p pos:Kf}{f:FA}{g:HF W->aa->HL (W×aa)}(hc:LCall X (.builtin id) g)(hg:Gl X x)(hm:X.mg x=td)(hv:bootBuiltins x=gV (.builtin id))(ha:GA X (e::es) f)
  (hn:x≠"__name__") (hdb:(x==("__debug__" : Ik))=false) (hs:starEach (e::es) X.env=(false,eval e X.env)::starEach es X.env) (hpl:(backTo pos (starEach es X.env)).any (·.1)=false):GE X (.Call (.Name x p) (e::es) [] pos) (jP g f):=
 GE.of (pv hc.callr hg hm hv ha hn hdb hs hpl) λσ H A ρ S w S' er so e Q hq=>mO er so e Q hq
theorem sZ {id:Jr}{x:Ik}{e:Iv}{es:HF Iv}{p pos:Kf}{f:FA}{g:HF W->aa->HL (W×aa)}(hc:LCall X (.type id) g)(hg:Gl X x)(hm:X.mg x=td)(hv:bootBuiltins x=gV (.type id))(ha:GA X (e::es) f)
  (hn:x≠"__name__") (hdb:(x==("__debug__" : Ik))=false) (hs:starEach (e::es) X.env=(false,eval e X.env)::starEach es X.env) (hpl:(backTo pos (starEach es X.env)).any (·.1)=false):GE X (.Call (.Name x p) (e::es) [] pos) (jP g f):=
 GE.of (uB hc.callr hg hm hv ha hn hdb hs hpl) λσ H A ρ S w S' er so e Q hq=>mO er so e Q hq
end
noncomputable def tyOk (T:Jr)(S:aa):W->Iy
 | .str _=>T == "str"
 | .ref i=>(T == "list" && (g8 S i).isSome)||(T == "dict" && (jZ S i).isSome)
 | _=>false
noncomputable def DV (T:Jr)(g:W->HF W->aa->HL (W×aa))(fo:FE)(f:FA):FE:=λρ S=>match fo ρ S with
 | some (x,S1)=>if tyOk T S1 x then match f ρ S1 with
  | some (ws,S2)=>g x ws S2
  | none=>td
  else td
 | none=>td
noncomputable def GM (fa fb:FE):FE:=zY lM fa fb
noncomputable abbrev FO:=Fm->aa->HL (HL Ig×aa)
noncomputable def CY:FO:=λ_ S=>gV (td,S)
noncomputable def tf (f:FE):FO:=λρ S=>match f ρ S with
 | some (.int i,S1)=>gV (gV i,S1)
 | _=>td
noncomputable def EO (fa:FE)(fl fh:FO):FE:=λρ S=>match fa ρ S with
 | some (x,S1)=>match fl ρ S1 with
  | some (lo,S2)=>match fh ρ S2 with
   | some (hi,S3)=>nI x lo hi S3
   | none=>td
  | none=>td
 | none=>td
section
variable{X:Cx}
theorem LMeth.mtr {id:Jr}{g:W->HF W->aa->HL (W×aa)}(h:LMeth X id g):MtR X id (λa vs H Q=>∃A S x ws w S',StoreOk X.w X.K A H S/\Rel X.K A H x a/\RelL X.K A H ws vs/\g x ws S=gV (w,S')/\∀v H',EndV X.w X.K A H S' w v H'->Q v H'):=by
 intro pins s σ H a vs u us Q I ru rv ⟨A,S,x,ws,w,S',so,rx,rl,e,hq⟩;exact b9 (h pins s σ H A S x a u ws vs us w S' I so rx ru rl rv e) λu' s' #[v',H',A',I',r',e1,o1,z1]=>#[v',H',I',r',hq v' H' #[A',e1,o1,z1]]
theorem tyOk.is {pins:HF (HR×JE)}{σ:L2.St}{s:HK}{A:HF HR}{H:Hp}{S:aa}{T:Jr}{x:W}{a:V}{v:HH}(I:Inv X pins σ H s)(so:StoreOk X.w X.K A H S)(r:Rel X.K A H x a)(rv:RelV a v)(h:tyOk T S x=true) :
  s.TypeIs v T/\∀b,v=.ref b->∃ob,s.heap.get? b=gV ob/\ob.dict=td:=by
 cases r with
 | str=>exact wb I rv (show GC X.K T (.str _) H from eq_of_beq h)
 | ref ea=>
  simp only[tyOk,J4,HN]at h;rcases h with⟨h1,h2⟩|⟨h1,h2⟩
  ·obtain⟨xs,hx⟩:=Jc.mp h2;obtain⟨vs,h3,_⟩:=cW so hx ea;exact wb I rv (show GC X.K T (.ref _) H from .inl #[eq_of_beq h1,vs,h3])
  ·obtain⟨kvs,hx⟩:=Jc.mp h2;obtain⟨xs,rd,_⟩:=fT so hx ea;obtain⟨_,_,_,o,es,ep,q1,q2,q3,q4⟩:=cQ I rd;have e:=eq_of_beq h1;subst e;obtain rfl:v=IV _:=rv;exact#[#[o,q1,q2.1],λb e=>by cases e; exact#[o,q1,q2.2.1]]
 | _=>cases h
theorem pX {o e:Iv}{es:HF Iv}{name:Ik}{apos cpos:Kf}{T id:Jr}{g:W->HF W->aa->HL (W×aa)}{fo:FE}{f:FA}(pa:PlainAttrs T)(slot:Slot T name id)(hty:typeOf (.builtin id)=pure (.type "method_descriptor"))(hm:LMeth X id g)
  (ho:GE X o fo) (ha:GA X (e::es) f) (hbase:attributeBase o name X.env (eval o X.env)=eval o X.env)
  (hfew:((backTo cpos (starEach (e::es) X.env)).all (λx=>!x.1)&&(backToKw cpos (keywordEach [] X.env)).all (λx=>x.1.isSome)
   && decide ((e::es).length+([]:HF Os).length+(if ([]:HF Os).isEmpty then 0 else 1) < 30))=true)
  (hline:(apos.endLine==cpos.line)=true) (hs:starEach (e::es) X.env=(false,eval e X.env)::starEach es X.env) (hplain:(backTo cpos (starEach es X.env)).any (·.1)=false) :
  GE X (.Call (.Attribute o name apos) (e::es) [] cpos) (DV T g fo f):=by
 intro pins s σ H Q I ⟨A,ρ,S,w,S',er,so,e,hq⟩;unfold DV at e;split at e
 ·rename_i x S1 h1;split at e
  ·rename_i ht;split at e
   ·rename_i ws S2 h2;refine wpAny_Call_method_late hbase hfew hline rfl (b9 (ho pins s σ H (EndV X.w X.K A H S1 x) I #[A,ρ,S,_,_,er,so,h1,λ_ _ z=>z]) λv s1 #[a,H1,I1,r1,A1,e1,o1,z1]=>?_)
    obtain⟨t1,t2⟩:=tyOk.is I1 o1 z1 r1 ht;refine#[T,id,pa,slot,hty,t1,t2,?_];have hA:=ha cpos pins s1 σ H1 (CL X A1 H1 S2 ws) I1 #[A1,ρ,S1,ws,S2,er.mono e1,o1,h2,λ_ _ z=>z]
    rw[hs]at hA ⊢;refine Calls.callWith_builtin (by show(false||(backTo cpos (starEach es X.env)).any (·.1))=false; rw[hplain] <;> rfl) (Calls.evalArgs_plain ?_)
    refine b9 hA λus s2 #[vs,H2,I2,r2,A2,e2,o2,z2]=>?_
    refine b9 (hm pins s2 σ H2 A2 S2 x a v ws vs us w S' I2 o2 (z1.mono e2) r1 z2 r2 e) λu' s' #[v',H',A',I',r',e3,o3,z3]=>?_
    exact#[v',H',I',r',hq v' H' #[A',(e1.trans e2).trans e3,o3,z3]]
   ·cases e
  ·cases e
 ·cases e
theorem LIx.ixr {g:W->W->aa->HL (W×aa)}(h:LIx X g):IxR X (λa b H Q=>∃A S x y w S',StoreOk X.w X.K A H S/\Rel X.K A H x a/\Rel X.K A H y b/\g x y S=gV (w,S')/\∀v H',EndV X.w X.K A H S' w v H'->Q v H'):=by
 intro value slice pins s σ H a b u v Q I ru rv ⟨A,S,x,y,w,S',so,rx,ry,e,hq⟩ hs;exact b9 (h value slice pins s σ H A S x y a b u v w S' I so rx ru ry rv e hs) λu' s' #[v',H',A',I',r',e1,o1,z1]=>#[v',H',I',r',hq v' H' #[A',e1,o1,z1]]
theorem EQ {a b:Iv}{pos:Kf}{fa fb:FE}(hu:X.A.units+10 < cLine)(ha:GE X a fa)(hb:GE X b fb)(hs:nB b):GE X (.Subscript a b pos) (GM fa fb):=
 GE.of (EC (GK hu).ixr ha hb hs) λσ H A ρ S w S' er so e Q hq=>by
  obtain⟨x,S1,y,S2,h1,h2,h3⟩:=F1 e;exact iD er so h1 h2 λa b H2 A2 e2 o2 r1 r2=>#[A2,S2,x,y,w,S',o2,r1,r2,h3,λv H' z=>hq v H' (z.after e2)]
noncomputable def tO (X:Cx)(f:FO):TO:=λσ H Q=>∃A ρ S k S',EnvRel X.K A H ρ σ/\StoreOk X.w X.K A H S/\f ρ S=gV (k,S')/\∀H' A',Ext X.K A H A' H'->StoreOk X.w X.K A' H' S'->Q k H'
noncomputable abbrev GO (X:Cx)(e:HL Iv)(f:FO):Prop:=PO X e (tO X f)
theorem Ah:GO X td CY:=λpins s σ H Q I #[A,ρ,S,k,S',er,so,e,hq]=>by
 cases e;exact zt pins s σ H Q I (hq H A .refl so)
theorem Ai {e:Iv}{f:FE}(h:GE X e f):GO X (gV e) (tf f):=λpins s σ H Q I #[A,ρ,S,k,S',er,so,e,hq]=>by
 unfold tf at e;split at e
 ·rename_i i S1 h1;cases e;refine zu h pins s σ H Q I #[A,ρ,S,_,_,er,so,h1,λv H1 #[A1,z1,z2,z3]=>?_]
  cases z3;exact#[i,rfl,hq H1 A1 z1 z2]
 ·cases e
theorem LSl.slr {g:W->HL Ig->HL Ig->aa->HL (W×aa)}(h:LSl X g):EB X (λa lo hi H Q=>∃A S x w S',StoreOk X.w X.K A H S/\Rel X.K A H x a/\g x lo hi S=gV (w,S')/\∀v H',EndV X.w X.K A H S' w v H'->Q v H'):=by
 intro pins s σ H a v vl vu lo hi sl Q I rv hs pl pu ⟨A,S,x,w,S',so,rx,e,hq⟩;obtain⟨T,id,h1,h2,h3⟩:=h pins s σ H A S x a v vl vu lo hi sl w S' I so rx rv hs pl pu e;exact#[T,id,h1,h2,b9 h3 λu' s' #[v',H',A',I',r',e1,o1,z1]=>#[v',H',I',r',hq v' H' #[A',e1,o1,z1]]]
theorem ER {a:Iv}{lo hi:HL Iv}{p2 pos:Kf}{fa:FE}{fl fh:FO}(ha:GE X a fa)(hl:GO X lo fl)(hh:GO X hi fh):GE X (.Subscript a (.Slice lo hi td p2) pos) (EO fa fl fh):=
 GE.of (v6 Hz.slr ha hl hh) λσ H A ρ S w S' er so e Q hq=>by
  unfold EO at e;split at e
  ·rename_i x S1 h1;split at e
   ·rename_i l S2 h2;split at e
    ·rename_i h S3 h3;refine#[A,ρ,S,x,S1,er,so,h1,λv H1 #[A1,z1,z2,z3]=>?_]
     refine#[A1,ρ,S1,l,S2,er.mono z1,z2,h2,λH2 A2 y1 y2=>?_]
     refine#[A2,ρ,S2,h,S3,er.mono (z1.trans y1),y2,h3,λH3 A3 x1 x2=>?_]
     exact#[A3,S3,x,w,S',x2,(z3.mono y1).mono x1,e,λv H' q=>hq v H' (q.after ((z1.trans y1).trans x1))]
    ·cases e
   ·cases e
  ·cases e
noncomputable abbrev FF:=HF W->aa->HL (W×aa)
noncomputable def xj (wd:IP)(K:HW)(n:HM)(g:FF):Sp:=λvs H Q _=>∃A S ws w S',StoreOk wd K A H S/\RelL K A H ws vs/\ws.length=n/\g ws S=gV (w,S')/\∀v H',EndV wd K A H S' w v H'->Q v H'
noncomputable def pY (n:HM)(g:FF)(f:FA):FE:=λρ S=>match f ρ S with
 | some (ws,S1)=>if ws.length=n then g ws S1 else td
 | none=>td
theorem pZ {n:HM}{g:FF}{f:FA}{σ:L2.St}{H:Hp}{A:HF HR}{ρ:Fm}{S:aa}{w:W}{S':aa}{E:XK}(er:EnvRel X.K A H ρ σ)(so:StoreOk X.w X.K A H S)(e:pY n g f ρ S=gV (w,S'))(Q:VK)(hq:∀v H',EndV X.w X.K A H S' w v H'->Q v H') :
  vW (xj X.w X.K n g) [] E (tA X f) σ H Q:=by
 unfold pY at e;split at e
 ·rename_i ws S1 h1;split at e
  ·rename_i hl;refine#[A,ρ,S,ws,S1,er,so,h1,λvs H1 #[A1,z1,z2,z3]=>?_]
   show xj X.w X.K n g (vs++[]) H1 Q E;rw[JJ];exact#[A1,S1,ws,w,S',z2,z3,hl,e,λv H' q=>hq v H' (q.after z1)]
  ·cases e
 ·cases e
theorem CZ {k n:HM}{fa:HR}{fd:Kd}{ps:HF Ik}{g:FF}{x:Ik}{e:Iv}{es:HF Iv}{p pos:Kf}{f:FA}(F:FnOk X.prog X.w X.K X.mg X.base vF k fa fd ps (xj X.w X.K n g))(hr:Room k X.A)(hg:Gl X x)(hm:X.mg x=gV (.ref fa))(hk:Jz X.K (.ref fa)=true)
  (hb:Binds X.K fd ps []) (ha:GA X (e::es) f) (hdb:(x==("__debug__" : Ik))=false) (he:starEach (e::es) X.env=(false,eval e X.env)::starEach es X.env) (hpl:(backTo pos (starEach es X.env)).any (·.1)=false) :
  GE X (.Call (.Name x p) (e::es) [] pos) (pY n g f):=
 GE.of (zp F hr hg hm hk hb .nil Bx ha hdb he hpl) λσ H A ρ S w S' er so e Q hq=>pZ er so e Q hq
theorem Aj {k n:HM}{fa:HR}{fd:Kd}{ps:HF Ik}{g:FF}{x:Ik}{p pos:Kf}(F:FnOk X.prog X.w X.K X.mg X.base vF k fa fd ps (xj X.w X.K n g))(hr:Room k X.A)(hg:Gl X x)(hm:X.mg x=gV (.ref fa))(hk:Jz X.K (.ref fa)=true)
  (hb:Binds X.K fd ps []) (hdb:(x==("__debug__" : Ik))=false):GE X (.Call (.Name x p) [] [] pos) (pY n g i8):=
 GE.of (vY F hr hg hm hk hb .nil Bx hdb) λσ H A ρ S w S' er so e Q hq=>by
  obtain⟨A1,S1,ws,w1,S1',a1,a2,a3,a4,a5⟩:=pZ (f:=i8) (E:=E0) er so e Q hq |> λ#[A,ρ,S,ws,S',b1,b2,b3,b4]=>b4 [] H (by cases b3; exact#[A,.refl,b2,.nil])
  exact#[A1,S1,ws,w1,S1',a1,a2,a3,a4,a5]
theorem Ak:GSs X [] (λρ S=>gV (.nx ρ,S)):=GSs.of y9 λσ H A ρ S o S' er so e D hd=>by cases e; exact hd.nx _ _ #[ρ,A,rfl,.refl,so,er]
noncomputable def Al (f g:FS):FS:=λρ S=>match f ρ S with
 | some (.nx ρ',S1)=>g ρ' S1
 | some (.rt w,S1)=>gV (.rt w,S1)
 | some (.bk ρ',S1)=>gV (.bk ρ',S1)
 | some (.ct ρ',S1)=>gV (.ct ρ',S1)
 | none=>td
theorem xk {st:Ks}{sts:HF Ks}{f g:FS}(h:GS X st f)(h2:GSs X sts g):GSs X (st::sts) (Al f g):=GSs.of (vP h h2) λσ H A ρ S o S' er so e D hd=>by
 unfold Al at e;split at e
 ·rename_i ρ1 S1 h1;refine#[A,ρ,S,_,_,er,so,h1,#[λσ' H' #[ρ',A',e1,e2,e3,e4]=>?_,λv H' #[w,A',e1,_]=>(by cases e1),λv H' #[w,A',e1,_]=>(by cases e1),λv H' #[w,A',e1,_]=>(by cases e1)]]
  cases e1;exact#[A',_,S1,o,S',e4,e3,e,(EndS.after e2).trans hd]
 ·rename_i w S1 h1;cases e;exact#[A,ρ,S,_,_,er,so,h1,#[λσ' H' #[w,A',e1,_]=>(by cases e1),hd.rt,hd.bk,hd.ct]]
 ·rename_i w S1 h1;cases e;exact#[A,ρ,S,_,_,er,so,h1,#[λσ' H' #[w,A',e1,_]=>(by cases e1),hd.rt,hd.bk,hd.ct]]
 ·rename_i w S1 h1;cases e;exact#[A,ρ,S,_,_,er,so,h1,#[λσ' H' #[w,A',e1,_]=>(by cases e1),hd.rt,hd.bk,hd.ct]]
 ·cases e
noncomputable def Am (f:FE):FS:=λρ S=>match f ρ S with
 | some (_,S1)=>gV (.nx ρ,S1)
 | none=>td
theorem ES {e:Iv}{pos:Kf}{f:FE}(h:GE X e f)(hs:swapsWith e td pos.line X.env=pure false):GS X (.Expr e pos) (Am f):=GS.of (zd h hs) λσ H A ρ S o S' er so e D hd=>by
 unfold Am at e;split at e
 ·rename_i w S1 h1;cases e;exact#[A,ρ,S,w,_,er,so,h1,λv H1 #[A1,z1,z2,z3]=>hd.nx _ _ #[ρ,A1,rfl,z1,z2,er.mono z1]]
 ·cases e
noncomputable def xl:FS:=λρ S=>gV (.nx ρ,S)
theorem C0 {x:Ik}{j:HM}{pos pos':Kf}:GS X (.Expr (.Constant (.str x) j pos) pos') xl:=GS.of B9 λσ H A ρ S o S' er so e D hd=>by cases e; exact hd.nx _ _ #[ρ,A,rfl,.refl,so,er]
theorem An {pos:Kf}:GS X (.Pass pos) xl:=GS.of zb λσ H A ρ S o S' er so e D hd=>by cases e; exact hd.nx _ _ #[ρ,A,rfl,.refl,so,er]
theorem xm {pos:Kf}:GS X (.Break pos) (λρ S=>gV (.bk ρ,S)):=GS.of vQ λσ H A ρ S o S' er so e D hd=>by cases e; exact hd.bk _ _ #[ρ,A,rfl,.refl,so,er]
theorem Ao {pos:Kf}:GS X (.Continue pos) (λρ S=>gV (.ct ρ,S)):=GS.of po λσ H A ρ S o S' er so e D hd=>by cases e; exact hd.ct _ _ #[ρ,A,rfl,.refl,so,er]
noncomputable def Ap (f:FE):FS:=λρ S=>match f ρ S with
 | some (w,S1)=>gV (.rt w,S1)
 | none=>td
theorem C3 {e:Iv}{pos:Kf}{f:FE}(h:GE X e f):GS X (.Return (gV e) pos) (Ap f):=GS.of (Cb h) λσ H A ρ S o S' er so e D hd=>by
 unfold Ap at e;split at e
 ·rename_i w S1 h1;cases e;exact#[A,ρ,S,w,_,er,so,h1,λv H1 #[A1,z1,z2,z3]=>hd.rt _ _ #[w,A1,rfl,z1,z2,z3]]
 ·cases e
theorem Aq {pos:Kf}:GS X (.Return td pos) (λρ S=>gV (.rt .non,S)):=GS.of ze λσ H A ρ S o S' er so e D hd=>by cases e; exact hd.rt _ _ #[_,A,rfl,.refl,so,.non]
noncomputable def Ar (c:FT)(f g:FS):FS:=λρ S=>match c ρ S with
 | some (true,S1)=>f ρ S1
 | some (false,S1)=>g ρ S1
 | none=>td
theorem ET {c:Iv}{a b:HF Ks}{pos:Kf}{fc:FT}{f g:FS}(hc:GT X c fc)(ha:GSs X a f)(hb:GSs X b g):GS X (.If c a b pos) (Ar fc f g):=GS.of (Eg hc ha hb) λσ H A ρ S o S' er so e D hd=>by
 unfold Ar at e;split at e
 ·rename_i S1 h1;refine#[A,ρ,S,_,S1,er,so,h1,λb H1 #[z0,A1,z1,z2]=>?_]
  subst z0;rw[Iw rfl];exact#[A1,ρ,S1,o,S',er.mono z1,z2,e,(EndS.after z1).trans hd]
 ·rename_i S1 h1;refine#[A,ρ,S,_,S1,er,so,h1,λb H1 #[z0,A1,z1,z2]=>?_]
  subst z0;rw[IH Iu];exact#[A1,ρ,S1,o,S',er.mono z1,z2,e,(EndS.after z1).trans hd]
 ·cases e
noncomputable abbrev FG:=W->Fm->aa->HL (Fm×aa)
noncomputable def tG (X:Cx)(f:FG):TG:=λv σ H Q=>∃A ρ S w ρ' S',EnvRel X.K A H ρ σ/\StoreOk X.w X.K A H S/\Rel X.K A H w v/\f w ρ S=gV (ρ',S')/\∀σ' H' A',Ext X.K A H A' H'->StoreOk X.w X.K A' H' S'->EnvRel X.K A' H' ρ' σ'->Q σ' H'
noncomputable abbrev GG (X:Cx)(tg:Iv)(f:FG):Prop:=PG X tg (tG X f)
noncomputable def As (i:HM):FG:=λw ρ S=>gV (ρ.set i (gV w),S)
theorem tj {i:HM}{x:Ik}{pos:Kf}(hN:X.N.Nodup)(hi:X.N[i]?=gV x)(hx:y4 X.env.scope x)(hf:X.fn x=true\/X.env.scope.names.lookup x=gV .local):GG X (.Name x pos) (As i):=by
 intro pins s σ H v u Q I r ⟨A,ρ,S,w,ρ',S',er,so,rw',e,hq⟩;cases e;exact sy hN hi hx hf pins s σ H v u Q I r (hq _ _ A .refl so (er.set rw' i))
noncomputable def dv:HF HM->HF W->Fm->HL Fm
 | [],[],ρ=>gV ρ
 | i::is,w::ws,ρ=>dv is ws (ρ.set i (gV w))
 | _,_,_=>td
noncomputable def DW (is:HF HM):FG:=λw ρ S=>match w with
 | .tup ws=>(dv is ws ρ).map λρ'=>(ρ',S)
 | _=>td
theorem uY:∀ {ts:HF Iv} {is:HF HM},(∀x∈ts,∃y p,x=.Name y p)->Mp (λ(t:Iv) (i:HM)=>∃x p,t=M3 x p/\X.N[i]?=gV x/\y4 X.env.scope x/\(X.fn x=true\/X.env.scope.names.lookup x=gV .local)) ts is->X.N.Nodup->
  Eh X ts (λvs σ H Q=>∃A ρ ws ρ' S,EnvRel X.K A H ρ σ/\StoreOk X.w X.K A H S/\RelL X.K A H ws vs/\dv is ws ρ=gV ρ'/\∀σ',EnvRel X.K A H ρ' σ'->Q σ' H):=by
 intro ts
 induction ts with
 | nil=>
  intro is _ h hN;cases h;intro pins s σ H vs us Q I r ⟨A,ρ,ws,ρ',S,er,so,rl,e,hq⟩;cases rl with
  | nil=>cases e; exact zf pins s σ H [] us Q I r #[rfl,hq _ er]
  | cons _ _=>cases e
 | cons t ts ih=>
  intro is hs h hN;cases h with
  | cons h1 h2=>
   obtain⟨x,p,rfl,hi,hl,hf⟩:=h1;have:=ih (λy hy=>hs y (Jk _ hy)) h2 hN
   intro pins s σ H vs us Q I r ⟨A,ρ,ws,ρ',S,er,so,rl,e,hq⟩;cases rl with
   | nil=>cases e
   | cons r1 r2=>
    refine vR (sy hN hi hl hf) this rfl pins s σ H _ us Q I r #[_,_,rfl,?_];exact#[A,_,_,ρ',S,er.set r1 _,so,r2,e,hq]
theorem C4 {ts:HF Iv}{is:HF HM}{k:HM}{pos:Kf}(hc:X.calm=true)(hs:∀x∈ts,∃y p,x=.Name y p)(h:Mp (λ(t:Iv) (i:HM)=>∃x p,t=M3 x p/\X.N[i]?=gV x/\y4 X.env.scope x/\(X.fn x=true\/X.env.scope.names.lookup x=gV .local)) ts is)(hN:X.N.Nodup)
  (hn:(assignEach ts X.env).length=ts.length) (hst:(assignEach ts X.env).findIdx? (·.1)=td):GG X (.Tuple ts k pos) (DW is):=by
 intro pins s σ H v u Q I r ⟨A,ρ,S,w,ρ',S',er,so,rw',e,hq⟩;unfold DW at e;split at e
 ·rw[HJ]at e;obtain⟨ρ1,e1,e2⟩:=e;cases e2;cases rw' with
  | tup h1 r1=>
   have hl:∀(is:HF HM) (ws:HF W) (ρ ρ':Fm),dv is ws ρ=gV ρ'->is.length=ws.length:=by
    intro is
    induction is with
    | nil=>intro ws ρ ρ' e; cases ws <;> first|rfl|cases e
    | cons i is ih=>intro ws ρ ρ' e; cases ws <;> first|cases e|(simp; exact ih _ _ _ e)
   exact Cf hc (uY hs h hN) hn hst pins s σ H _ u Q I r #[_,_,rfl,h1,by rw[<- r1.length,<- hl _ _ _ _ e1,<- Mc h],A,ρ,_,_,_,er,so,r1,e1,λσ' z=>hq _ _ A .refl so z]
 ·cases e
noncomputable def At (fo fi:FE):FG:=λw ρ S=>match fo ρ S with
 | some (o,S1)=>match fi ρ S1 with
  | some (i,S2)=>match iB o i w S2 with
   | some S3=>gV (ρ,S3)
   | none=>td
  | none=>td
 | none=>td
theorem LSet.pset {g:W->W->W->aa->HL aa}(h:LSet X g):Ce X (λao ai av H Q=>∃A S o i w S',StoreOk X.w X.K A H S/\Rel X.K A H o ao/\Rel X.K A H i ai/\Rel X.K A H w av/\g o i w S=gV S'/\∀H' A',Ext X.K A H A' H'->StoreOk X.w X.K A' H' S'->Q H'):=by
 intro pins s σ H ao ai av uo ui uv Q I ro ri rv ⟨A,S,o,i,w,S',so,r1,r2,r3,e,hq⟩;exact b9 (h pins s σ H A S o i w ao ai av uo ui uv S' I so r1 ro r2 ri r3 rv e) λ_ s' #[H',A',I',e1,o1]=>#[H',I',hq H' A' e1 o1]
theorem C5 {o i:Iv}{pos:Kf}{fo fi:FE}(hu:X.A.units+10 < cLine)(ho:GE X o fo)(hi:GE X i fi)(ha:∀v,assign (.Subscript o i pos) X.env v=(do
   let ov <- holding [v] (eval o X.env)
   let iv <- holding [v,ov] (eval i X.env)
   standAt pos
   holding [v,ov,iv] (setItem ov iv v)
   release [v,ov,iv] [])):GG X (.Subscript o i pos) (At fo fi):=by
 intro pins s σ H v u Q I r ⟨A,ρ,S,w,ρ',S',er,so,rw',e,hq⟩;unfold At at e;split at e
 ·rename_i o' S1 h1;split at e
  ·rename_i i' S2 h2;split at e
   ·rename_i S3 h3;cases e;refine Cg ho hi (EI hu).pset ha pins s σ H v u Q I r ?_;refine#[A,ρ,S,o',S1,er,so,h1,λa H1 #[A1,e1,o1,r1]=>?_]
    refine#[A1,ρ,S1,i',S2,er.mono e1,o1,h2,λb H2 #[A2,e2,o2,r2]=>?_]
    exact#[A2,S2,o',i',w,_,o2,r1.mono e2,r2,rw'.mono (e1.trans e2),h3,λH' A' z1 z2=>hq σ H' A' ((e1.trans e2).trans z1) z2 (er.mono ((e1.trans e2).trans z1))]
   ·cases e
  ·cases e
 ·cases e
noncomputable def kO (f:FE)(g:FG):FS:=λρ S=>match f ρ S with
 | some (w,S1)=>match g w ρ S1 with
  | some (ρ',S2)=>gV (.nx ρ',S2)
  | none=>td
 | none=>td
theorem rL {tg e:Iv}{pos:Kf}{f:FE}{g:FG}(h:GE X e f)(hg:GG X tg g)(hs:swapsWithSole [tg] e pos.line X.env=pure false)(hw:swappedStores [tg] e X.env=pure td)(h1:(assignEach [tg] X.env).map (·.2)=[assign tg X.env]) :
  GS X (.Assign [tg] e pos) (kO f g):=GS.of (Ch h hg hs hw h1) λσ H A ρ S o S' er so e D hd=>by
 unfold kO at e;split at e
 ·rename_i w S1 h1;split at e
  ·rename_i ρ1 S2 h2;cases e;refine#[A,ρ,S,w,S1,er,so,h1,λv H1 #[A1,z1,z2,z3]=>?_]
   exact#[A1,ρ,S1,w,ρ1,_,er.mono z1,z2,z3,h2,λσ' H' A' y1 y2 y3=>hd.nx _ _ #[ρ1,A',rfl,z1.trans y1,y2,y3]]
  ·cases e
 ·cases e
noncomputable def Au (i j:HM)(f:FA):FS:=λρ S=>match f ρ S with
 | some ([x,y],S1)=>gV (.nx ((ρ.set i (gV x)).set j (gV y)),S1)
 | _=>td
theorem C6 {i j:HM}{x y:Ik}{a b:Iv}{f:FA}{px py pt pos:Kf}{kt k2:HM}{pt2:Kf}(hc:X.calm=true)(hN:X.N.Nodup)(hi:X.N[i]?=gV x)(hj:X.N[j]?=gV y)(hij:i≠j)
  (hx:X.env.scope.names.lookup x=gV .local) (hy:X.env.scope.names.lookup y=gV .local) (ha:GA X [a,b] f)
  (hw:swappedStores [.Tuple [.Name x px,.Name y py] kt pt] (.Tuple [a,b] k2 pt2) X.env=pure (gV [x,y]))
  (hs:swapsWithSole [.Tuple [.Name x px,.Name y py] kt pt] (.Tuple [a,b] k2 pt2) pos.line X.env=pure false) :
  GS X (.Assign [.Tuple [.Name x px,.Name y py] kt pt] (.Tuple [a,b] k2 pt2) pos) (Au i j f):=GS.of (Ci hc hN hi hj hij hx hy ha hw hs) λσ H A ρ S o S' er so e D hd=>by
 unfold Au at e;split at e
 ·rename_i x y S1 h1;cases e;refine#[A,ρ,S,_,_,er,so,h1,λvs H1 #[A1,z1,z2,z3]=>?_]
  cases z3 with
  | cons r1 t=>
   cases t with
   | cons r2 t=>
    cases t;exact#[_,_,rfl,hd.nx _ _ #[_,A1,rfl,z1,z2,((er.mono z1).set r1 i).set r2 j]]
 ·cases e
noncomputable def n0 (c:FT)(b:FS):HM->FS
 | 0,_,_=>td
 | n+1,ρ,S=>match c ρ S with
  | some (true,S1)=>match b ρ S1 with
   | some (.nx ρ',S2)=>n0 c b n ρ' S2
   | some (.ct ρ',S2)=>n0 c b n ρ' S2
   | some (.bk ρ',S2)=>gV (.nx ρ',S2)
   | some (.rt w,S2)=>gV (.rt w,S2)
   | none=>td
  | some (false,S1)=>gV (.nx ρ,S1)
  | none=>td
theorem xn {c:Iv}{body:HF Ks}{pos:Kf}{fc:FT}{fb:FS}(n:HM)(hp:M1 (model X.prog X.w) X.A X.env X.xe)(hc:GT X c fc)(hb:GSs X body fb):GS X (.While c body [] pos) (n0 fc fb n):=GS.of (vS hp hc hb) λσ H A ρ S o S' er so e D hd=>by
 refine#[λm σ1 H1=>∃A1 ρ1 S1,Ext X.K A H A1 H1/\EnvRel X.K A1 H1 ρ1 σ1/\StoreOk X.w X.K A1 H1 S1/\n0 fc fb m ρ1 S1=gV (o,S'),#[n,A,ρ,S,.refl,er,so,e],?_]
 rintro m σ1 H1 ⟨A1,ρ1,S1,e1,er1,so1,w1⟩;cases m with
 | zero=>cases w1
 | succ m=>
  simp only[n0]at w1;split at w1
  ·rename_i S2 h1;refine#[A1,ρ1,S1,_,S2,er1,so1,h1,λb H2 #[z0,A2,z1,z2]=>?_]
   subst z0;rw[Iw rfl];refine#[λσ3 H3=>∃A3 ρ3 S3,Ext X.K A H A3 H3/\EnvRel X.K A3 H3 ρ3 σ3/\StoreOk X.w X.K A3 H3 S3/\n0 fc fb m ρ3 S3=gV (o,S'),λσ' H' h=>#[m,KA _,h],?_]
   split at w1
   ·rename_i ρ3 S3 h3;refine#[A2,ρ1,S2,_,S3,er1.mono z1,z2,h3,#[λσ' H' #[ρ',A',y0,y1,y2,y3]=>?_,λv H' #[w,A',y0,_]=>(by cases y0),λv H' #[w,A',y0,_]=>(by cases y0),λv H' #[w,A',y0,_]=>(by cases y0)]]
    cases y0;exact#[A',_,S3,(e1.trans z1).trans y1,y3,y2,w1]
   ·rename_i ρ3 S3 h3;refine#[A2,ρ1,S2,_,S3,er1.mono z1,z2,h3,#[λv H' #[w,A',y0,_]=>(by cases y0),λv H' #[w,A',y0,_]=>(by cases y0),λv H' #[w,A',y0,_]=>(by cases y0),λσ' H' #[ρ',A',y0,y1,y2,y3]=>?_]]
    cases y0;exact#[A',_,S3,(e1.trans z1).trans y1,y3,y2,w1]
   ·rename_i ρ3 S3 h3;cases w1;refine#[A2,ρ1,S2,_,_,er1.mono z1,z2,h3,#[λv H' #[w,A',y0,_]=>(by cases y0),λv H' #[w,A',y0,_]=>(by cases y0),λσ' H' #[ρ',A',y0,y1,y2,y3]=>?_,λv H' #[w,A',y0,_]=>(by cases y0)]]
    cases y0;exact hd.nx _ _ #[_,A',rfl,(e1.trans z1).trans y1,y2,y3]
   ·rename_i w3 S3 h3;cases w1;refine#[A2,ρ1,S2,_,_,er1.mono z1,z2,h3,#[λv H' #[w,A',y0,_]=>(by cases y0),λv H' #[w,A',y0,y1,y2,y3]=>?_,λv H' #[w,A',y0,_]=>(by cases y0),λv H' #[w,A',y0,_]=>(by cases y0)]]
    cases y0;exact hd.rt _ _ #[_,A',rfl,(e1.trans z1).trans y1,y2,y3]
   ·cases w1
  ·rename_i S2 h1;cases w1;refine#[A1,ρ1,S1,_,_,er1,so1,h1,λb H2 #[z0,A2,z1,z2]=>?_]
   subst z0;rw[IH Iu];exact hd.nx _ _ #[_,A2,rfl,e1.trans z1,z2,er1.mono z1]
  ·cases w1
end
inductive MI where
 | its (ws:HF W)
 | live (r:HM)
 | zl (r q:HM)
noncomputable def EU (xs ys:HF W):HF W:=Il (λx y=>.tup [x,y]) xs ys
noncomputable def MI.at (S:aa)(i:HM):MI->HL (HL W)
 | .its ws=>gV ws[i]?
 | .live r=>match g8 S r with
  | some xs=>gV xs[i]?
  | none=>td
 | .zl r q=>match g8 S r,g8 S q with
  | some xs,gV ys=>gV (EU xs ys)[i]?
  | _,_=>td
noncomputable def MI.len (S:aa):MI->HL HM
 | .its ws=>gV ws.length
 | .live r=>(g8 S r).map (·.length)
 | .zl r q=>match g8 S r,g8 S q with
  | some xs,gV ys=>gV (EU xs ys).length
  | _,_=>td
noncomputable abbrev FI:=Fm->aa->HL (MI×aa)
structure MIt (wd:IP)(K:HW)(mi:MI)(J:It)(A0:HF HR)(H0:Hp):Prop where
 go:∀A H S i w,Ext K A0 H0 A H->StoreOk wd K A H S->mi.at S i=gV (gV w)->J.go i H/\∀x H',J.yld i H x H'->Ext K A H A H'/\StoreOk wd K A H' S/\Rel K A H' w x
 stop:∀A H S i,Ext K A0 H0 A H->StoreOk wd K A H S->mi.at S i=gV td->J.stop i H
noncomputable def tI (X:Cx)(f:FI):TI:=λσ H R=>∃A ρ S mi S',EnvRel X.K A H ρ σ/\StoreOk X.w X.K A H S/\f ρ S=gV (mi,S')/\∀J H' A',Ext X.K A H A' H'->StoreOk X.w X.K A' H' S'->MIt X.w X.K mi J A' H'->R J H'
noncomputable abbrev GI (X:Cx)(tg iter:Iv)(f:FI):Prop:=PI X tg iter (tI X f)
noncomputable def Av (f:FE):FI:=λρ S=>match f ρ S with
 | some (.tup ws,S1)=>gV (.its ws,S1)
 | some (.ref r,S1)=>match g8 S1 r with
  | some _=>gV (.live r,S1)
  | none=>td
 | _=>td
noncomputable def dj (lo:Ig)(n:HM):HF W:=(Im n).map λ(k:HM)=>.int (lo+(k:Ig))
noncomputable def rM (f:FA):FI:=λρ S=>match f ρ S with
 | some ([.int j],S1)=>if -(2 ^ 62)<=j/\j < 2 ^ 62 then gV (.its (dj 0 j.toNat),S1)else td
 | _=>td
noncomputable def iRng2 (f:FA):FI:=λρ S=>match f ρ S with
 | some ([.int i,.int j],S1)=>if -(2 ^ 62)<=i/\i < 2 ^ 62/\-(2 ^ 62)<=j/\j < 2 ^ 62 then gV (.its (dj i (j - i).toNat),S1)else td
 | _=>td
noncomputable def fW (mi:MI)(g:FG)(b:FS):HM->HM->FS
 | 0,i,ρ,S=>match mi.at S i with
  | some td=>gV (.nx ρ,S)
  | _=>td
 | n+1,i,ρ,S=>match mi.at S i with
  | some (gV w)=>match g w ρ S with
   | some (ρ1,S1)=>match b ρ1 S1 with
    | some (.nx ρ2,S2)=>fW mi g b n (i+1) ρ2 S2
    | some (.ct ρ2,S2)=>fW mi g b n (i+1) ρ2 S2
    | some (.bk ρ2,S2)=>gV (.nx ρ2,S2)
    | some (.rt w,S2)=>gV (.rt w,S2)
    | none=>td
   | none=>td
  | _=>td
noncomputable def xo (fi:FI)(g:FG)(b:FS):FS:=λρ S=>match fi ρ S with
 | some (mi,S1)=>match mi.len S1 with
  | some n=>fW mi g b n 0 ρ S1
  | none=>td
 | none=>td
section
variable{X:Cx}
theorem Aw {A:HF HR}{H:Hp}{ws:HF W}{a:HR}{vs:HF V}(h:SqT X.K H a vs)(r:RelL X.K A H ws vs):MIt X.w X.K (.its ws) (DS X.K a) A H:=by
 refine#[λA' H' S i w e so hi=>?_,λA' H' S i e so hi=>?_]
 ·simp only[MI.at,II]at hi;obtain⟨v,h1,h2⟩:=(r.mono e).get hi;refine#[#[vs,v,e.tp _ _ h,h1],λx H2 #[z1,z2]=>?_]
  subst z1;have:=z2 vs (e.tp _ _ h);rw[h1]at this; cases this
  exact#[.refl,so,h2]
 ·simp only[MI.at,II]at hi;refine#[vs,e.tp _ _ h,?_];rw[<- r.length];exact JW.mp hi
theorem Ax {A:HF HR}{H:Hp}{r:HM}{a:HR}(ea:A[r]?=gV a):MIt X.w X.K (.live r) (Gj X.K a) A H:=by
 refine#[λA' H' S i w e so hi=>?_,λA' H' S i e so hi=>?_]
 ·simp only[MI.at]at hi;split at hi
  ·rename_i xs hx;simp only[II]at hi;obtain⟨vs,h1,r1⟩:=cW so hx (e.ad _ _ ea);obtain⟨v,h2,h3⟩:=r1.get hi;refine#[#[vs,v,h1,h2],λx H2 #[z1,z2]=>?_]
   subst z1;have:=z2 vs h1;rw[h2]at this; cases this
   exact#[.refl,so,h3]
  ·cases hi
 ·simp only[MI.at]at hi;split at hi
  ·rename_i xs hx;simp only[II]at hi;obtain⟨vs,h1,r1⟩:=cW so hx (e.ad _ _ ea);refine#[vs,h1,?_];rw[<- r1.length];exact JW.mp hi
  ·cases hi
theorem eu {lo:Ig}{n i:HM}:(dj lo n)[i]?=if i < n then gV (.int (lo+i))else td:=by
 unfold dj;rw[HS]
 by_cases h:i < n
 ·rw[Iw h,Kx h]; rfl
 ·rw[IH h,JW.mpr (by simp; omega)]; rfl
theorem tm {A:HF HR}{H:Hp}{lo:Ig}{n:HM}:MIt X.w X.K (.its (dj lo n)) (Ek lo n) A H:=by
 refine#[λA' H' S i w e so hi=>?_,λA' H' S i e so hi=>?_]
 ·simp only[MI.at,II]at hi;rw[eu]at hi;split at hi
  ·cases hi;refine#[by assumption,λx H2 #[z1,z2]=>?_]
   subst z1 z2;exact#[.refl,so,.int]
  ·cases hi
 ·simp only[MI.at,II]at hi;rw[eu]at hi;split at hi
  ·cases hi
  ·show n<=i;omega
theorem p4 {tg:Iv}{pins:HF (HR×JE)}{σ:L2.St}{H1:Hp}{s1:HK}{R:It->Hp->Prop}{a:HR}{xs:HF V}{v:HH}(I1:Inv X pins σ H1 s1)(r1:RelV (.ref a) v)(hq:SqL X.K H1 a xs)(q:R (Gj X.K a) H1) :
  wpAny (model X.prog X.w) X.A (pyIter v) (FW X pins σ tg R) X.xe s1:=by
 cases r1;obtain⟨its,rv,p,hz⟩:=I1.list hq;refine L9 p.isList ?_;refine#[s1.heap.objs.size,[s1.heap.objs.size],_,_,H1,rfl,I1.kept (t':=s1.toks) λb o e=>HP _ e,uu a _,#[_,Iq _ rfl,rfl,rfl],λb hb=>?_,q]
 have e:b=s1.heap.objs.size:=by simpa using hb
 subst e;exact I1.fpOk (HZ _) (I1.hok.fresh (HZ _))
theorem rN {tg:Iv}{pins:HF (HR×JE)}{σ:L2.St}{H1:Hp}{s1:HK}{R:It->Hp->Prop}{a:HR}{xs:HF V}{v:HH}(I1:Inv X pins σ H1 s1)(r1:RelV (.ref a) v)(hq:SqT X.K H1 a xs)(q:R (DS X.K a) H1) :
  wpAny (model X.prog X.w) X.A (pyIter v) (FW X pins σ tg R) X.xe s1:=by
 cases r1;obtain⟨its,rv,p,hz⟩:=I1.tuple hq;refine Nt (show s1.heap.IsTuple a its.toArray from p) ?_
 refine#[s1.heap.objs.size,[s1.heap.objs.size],_,_,H1,rfl,I1.kept (t':=s1.toks) λb o e=>HP _ e,q9 a _,#[_,Iq _ rfl,rfl,rfl],λb hb=>?_,q]
 have e:b=s1.heap.objs.size:=by simpa using hb
 subst e;exact I1.fpOk (HZ _) (I1.hok.fresh (HZ _))
theorem Ay {tg a:Iv}{f:FA}{p pos:Kf}(hg:Gl X "range")(hm:X.mg "range" = td)(ha:GA X [a] f)(hs:starEach [a] X.env=[(false,eval a X.env)]):GI X tg (.Call (.Name "range" p) [a] [] pos) (rM f):=by
 intro pins s σ H R I ⟨A,ρ,S,mi,S',er,so,e,hq⟩;unfold rM at e;split at e
 ·rename_i j S1 h1;split at e
  ·rename_i hj;cases e;refine uw hg hm ha hs pins s σ H R I #[A,ρ,S,_,_,er,so,h1,λvs H1 #[A1,z1,z2,z3]=>?_]
   cases z3 with
   | cons r1 t=>
    cases t;cases r1;exact#[j,rfl,hj.1,hj.2,hq _ _ A1 z1 z2 tm]
  ·cases e
 ·cases e
theorem Az {tg a b:Iv}{f:FA}{p pos:Kf}(hg:Gl X "range")(hm:X.mg "range" = td)(ha:GA X [a,b] f)(hs:starEach [a,b] X.env=[(false,eval a X.env),(false,eval b X.env)])(hs2:starEach [b] X.env=[(false,eval b X.env)]):GI X tg (.Call (.Name "range" p) [a,b] [] pos) (iRng2 f):=by
 intro pins s σ H R I ⟨A,ρ,S,mi,S',er,so,e,hq⟩;unfold iRng2 at e;split at e
 ·rename_i i j S1 h1;split at e
  ·rename_i hj;cases e;refine uy hg hm ha hs hs2 pins s σ H R I #[A,ρ,S,_,_,er,so,h1,λvs H1 #[A1,z1,z2,z3]=>?_]
   cases z3 with
   | cons r1 t=>
    cases t with
    | cons r2 t=>
     cases t;cases r1;cases r2;exact#[i,j,rfl,hj,hq _ _ A1 z1 z2 tm]
  ·cases e
 ·cases e
theorem C7 {tg l:Iv}{f:FE}(h:GE X l f):GI X tg l (Av f):=by
 intro pins s σ H R I ⟨A,ρ,S,mi,S',er,so,e,hq⟩;unfold Av at e;split at e
 ·rename_i ws S1 h1;cases e;refine b9 (h pins s σ H (EndV X.w X.K A H _ (.tup ws)) I #[A,ρ,S,_,_,er,so,h1,λ_ _ z=>z]) λv s1 #[x,H1,I1,r1,A1,e1,o1,z1]=>?_
  cases z1 with
  | tup hq1 rl=>
   refine rN I1 r1 hq1 (hq _ _ A1 e1 o1 (Aw hq1 rl))
 ·rename_i r S1 h1;split at e
  ·rename_i ys hy;cases e;refine b9 (h pins s σ H (EndV X.w X.K A H _ (.ref r)) I #[A,ρ,S,_,_,er,so,h1,λ_ _ z=>z]) λv s1 #[x,H1,I1,r1,A1,e1,o1,z1]=>?_
   cases z1 with
   | ref ea=>
    obtain⟨vs,hl,_⟩:=cW o1 hy ea;exact p4 I1 r1 hl (hq _ _ A1 e1 o1 (Ax ea))
  ·cases e
 ·cases e
theorem C8 {tg iter:Iv}{body:HF Ks}{pos:Kf}{fi:FI}{g:FG}{fb:FS}(hp:M1 (model X.prog X.w) X.A X.env X.xe)(hc:X.calm=true)(hi:GI X tg iter fi)(hg:GG X tg g)(hb:GSs X body fb)
  (hs:∀x,foldedSetIterable iter X.env x=pure x):GS X (.For tg iter body [] pos) (xo fi g fb):=GS.of (Ck hp hc hi hg hb hs) λσ H A ρ S o S' er so e D hd=>by
 unfold xo at e;split at e
 ·rename_i mi S1 h1;split at e
  ·rename_i n hn;refine#[A,ρ,S,mi,S1,er,so,h1,λJ H1 A1 z1 z2 mit=>?_]
   refine#[λi m σ2 H2=>∃A2 ρ2 S2,Ext X.K A1 H1 A2 H2/\EnvRel X.K A2 H2 ρ2 σ2/\StoreOk X.w X.K A2 H2 S2/\fW mi g fb m i ρ2 S2=gV (o,S'),#[n,A1,ρ,S1,.refl,er.mono z1,z2,e],?_]
   rintro i m σ2 H2 ⟨A2,ρ2,S2,e2,er2,so2,w2⟩;cases m with
   | zero=>
    simp only[fW]at w2;split at w2
    ·rename_i hs;cases w2;exact .inl #[mit.stop A2 H2 _ i e2 so2 hs,hd.nx _ _ #[_,A2,rfl,z1.trans e2,so2,er2]]
    ·cases w2
   | succ m=>
    simp only[fW]at w2;split at w2
    ·rename_i w hw;obtain⟨go,yl⟩:=mit.go A2 H2 S2 i w e2 so2 hw;refine .inr #[go,λσ3 H3=>∃A3 ρ3 S3,Ext X.K A1 H1 A3 H3/\EnvRel X.K A3 H3 ρ3 σ3/\StoreOk X.w X.K A3 H3 S3/\fW mi g fb m (i+1) ρ3 S3=gV (o,S'),λσ' H' h=>#[m,KA _,h],λx H3 hy=>?_]
     obtain⟨x1,x2,x3⟩:=yl x H3 hy;split at w2
     ·rename_i ρ3 S3 h3;refine#[A2,ρ2,S2,w,ρ3,S3,er2.mono x1,x2,x3,h3,λσ4 H4 A4 y1 y2 y3=>?_]
      have ex:Ext X.K A1 H1 A4 H4:=(e2.trans x1).trans y1;split at w2
      ·rename_i ρ5 S5 h5;refine#[A4,ρ3,S3,_,S5,y3,y2,h5,#[λσ' H' #[ρ',A',u0,u1,u2,u3]=>?_,λv H' #[w,A',y0,_]=>(by cases y0),λv H' #[w,A',y0,_]=>(by cases y0),λv H' #[w,A',y0,_]=>(by cases y0)]]
       cases u0;exact#[A',_,S5,ex.trans u1,u3,u2,w2]
      ·rename_i ρ5 S5 h5;refine#[A4,ρ3,S3,_,S5,y3,y2,h5,#[λv H' #[w,A',y0,_]=>(by cases y0),λv H' #[w,A',y0,_]=>(by cases y0),λv H' #[w,A',y0,_]=>(by cases y0),λσ' H' #[ρ',A',u0,u1,u2,u3]=>?_]]
       cases u0;exact#[A',_,S5,ex.trans u1,u3,u2,w2]
      ·rename_i ρ5 S5 h5;cases w2;refine#[A4,ρ3,S3,_,_,y3,y2,h5,#[λv H' #[w,A',y0,_]=>(by cases y0),λv H' #[w,A',y0,_]=>(by cases y0),λσ' H' #[ρ',A',u0,u1,u2,u3]=>?_,λv H' #[w,A',y0,_]=>(by cases y0)]]
       cases u0;exact hd.nx _ _ #[_,A',rfl,(z1.trans ex).trans u1,u2,u3]
      ·rename_i w5 S5 h5;cases w2;refine#[A4,ρ3,S3,_,_,y3,y2,h5,#[λv H' #[w,A',y0,_]=>(by cases y0),λv H' #[w,A',u0,u1,u2,u3]=>?_,λv H' #[w,A',y0,_]=>(by cases y0),λv H' #[w,A',y0,_]=>(by cases y0)]]
       cases u0;exact hd.rt _ _ #[_,A',rfl,(z1.trans ex).trans u1,u2,u3]
      ·cases w2
     ·cases w2
    ·cases w2
  ·cases e
 ·cases e
end
section
variable{prog:IC}{w:IP}{B:IL}{E:HH->HK->Prop}{s:HK}
theorem AA {d:HR}{es:IY J3}{ep:HM}{Q:HH->HK->Prop}(hd:(d==sysModules)=false)(hm:RawD d es ep s.heap)(hfit:(es.size:Ig) < 2 ^ 63)
  (h:Q (.int es.size (s.toks+1)) { s with toks:=s.toks+1+1 }):wpAny (model prog w) B (call (.builtin "len") [.ref d]) Q E s:=by
 have hT:=hm.type;obtain⟨o,ho,hc,hdat⟩:=id hm;refine L3 kind_len plain_len entry_len (args_len1 _) ?_;unfold M2.«len»;refine HG (m:=oneArg "len" _) (HU ?_);refine HG (m:=callSpecial? (.ref d) (J6 "__len__")) (Jp (name:=J6 "__len__") hT F.slot_dict_len (Jv F.slot_dict_len hT F.entry_dict_len ?_ (F.args_dict_len_1 _)));show wpAny _ _ (dictSize d >>= _) _ _ s;unfold dictSize;refine HG (HG (Lm ho hdat (HU ?_)));show wpAny _ _ (OR d >>= _) _ _ s;refine HG (wpAny_pendingCount_other hd ?_);refine wpAny_ret_mkInt ?_;rw[Nat.add_zero];show wpAny _ _ _ _ _ { s with toks:=s.toks+1 }
 refine HG (JC (HU ?_));refine HG (LA ?_);show wpAny _ _ (if ((es.size:HM):Ig) < 0 then _ else _) _ _ _
 rw[IH ∅]
 show wpAny _ _ (if ((es.size:HM):Ig)>=2 ^ 63 then _ else _) _ _ _
 rw[IH ∅]
 exact HG (Oi (HU #[_,rfl,h]))
end
section
variable{X:Cx}{pins:HF (HR×JE)}{σ:L2.St}{H:Hp}{s:HK}{A:HF HR}{S:aa}
theorem rO:LCall X (.builtin "len") rG:=by
 intro pins s σ H A S xs vs us w S' I so rl rv e
 by_cases hd:∃i kvs,xs=[.ref i]/\jZ S i=gV kvs
 ·obtain⟨i,kvs,rfl,hk⟩:=hd;simp only[rG,hk]at e;cases e;cases rl with
  | cons r t=>
   cases t;cases rv with
   | cons ru rv2=>
    cases rv2;cases r with
    | ref ea=>
     obtain⟨xs,rd,kr⟩:=fT so hk ea;have d:=cQ I rd;obtain⟨es,ep,raw,he⟩:=d.raw;obtain rfl:_=IV _:=ru;have hl:es.size=xs.length:=by rw[<- IK,he,HI]
     have hz:=d.1;have hs:sizeLine=16777216:=Je;refine AA d.2.1 raw ∅ #[.int kvs.length,H,A,I.tok _,#[_,by rw[kr.length,hl]],.refl,so,.int]
 ·have:rG xs S=rz xs S:=by
   unfold rG;split
   ·rename_i i;split
    ·rename_i kvs hk;exact absurd #[i,kvs,rfl,hk] hd
    ·rfl
   ·rfl
  rw[this]at e;exact uK pins s σ H A S xs vs us w S' I so rl rv e
noncomputable def Hm (S:aa):W->HL Jr
 | .non=>gV "NoneType"|.bl _=>gV "bool"|.int _=>gV "int"|.str _=>gV "str"|.tup _=>gV "tuple"
 | .ref i=>match g8 S i with
  | some _=>gV "list"
  | none=>(jZ S i).map λ_=>"dict"
noncomputable def tq:HF Jr:=["bool","int","str","tuple","list","dict"]
noncomputable def xp (S:aa)(x:W)(c:Jr):HL Iy:=match Hm S x with
 | some t=>if tq.contains c then gV (t==c||(t == "bool" && c == "int"))else td
 | none=>td
theorem hX {K:HW}{t c:Jr}(ht:t∈["NoneType","bool","int","str","tuple","list","dict"])(hc:c∈tq):PySem.W.kitOne K (.type t) (.type c)=gV (t==c||(t == "bool" && c == "int")):=by
 simp only[tq,Iz,Jl,KC]at ht hc;rcases ht with rfl|rfl|rfl|rfl|rfl|rfl|rfl <;> rcases hc with rfl|rfl|rfl|rfl|rfl|rfl <;> rfl
theorem xq:CallR X (.builtin "isinstance") (λvs H Q=>∃A S x v c b,vs=[v,.ty c]/\StoreOk X.w X.K A H S/\Rel X.K A H x v/\xp S x c=gV b/\Q (.bl b) H):=by
 intro pins s σ H vs us Q I rv ⟨A,S,x,v,c,b,e1,so,rx,e2,hq⟩;subst e1;cases rv with
 | cons r1 rv2=>cases rv2 with
  | cons r2 rv3=>
   cases rv3;obtain rfl:_=KQ c:=r2;unfold xp at e2;split at e2
   ·rename_i t ht;split at e2
    ·rename_i hc;cases e2;have hc':c∈tq:=by simpa using hc
     have fin:∀tk,EP X pins σ Q (.bool (t==c||(t == "bool" && c == "int"))) { s with toks:=tk }:=λtk=>#[.bl _,H,I.tok _,rfl,hq]
     cases rx with
     | non=>cases ht; cases(show _=Ji from r1); exact Kk PySem.W.kitx_none I.kIn Lw (hX (by simp) hc') (λz=>nomatch z) fin
     | bl=>cases ht; cases(show _=KP _ from r1); exact Kk PySem.W.kitx_bool I.kIn Lw (hX (by simp) hc') (λz=>nomatch z) fin
     | int=>cases ht; obtain⟨t',q⟩:=(show ∃t,_=Mk _ t from r1); cases q; exact Kk PySem.W.kitx_int I.kIn Lw (hX (by simp) hc') (λz=>nomatch z) fin
     | str=>cases ht; obtain⟨t',q⟩:=(show ∃t,_=Ls _ t from r1); cases q; exact Kk PySem.W.kitx_str I.kIn Lw (hX (by simp) hc') (λz=>nomatch z) fin
     | tup h1 r1'=>
      cases ht;obtain⟨its,rv,⟨o,q1,q2,_⟩,hz⟩:=I.tuple h1;cases(show _=IV _ from r1)
      exact Kk PySem.W.kitx_tuple I.kIn #[o,q1,q2] (hX (by simp) hc') (λz=>nomatch z) fin
     | ref ea=>
      cases(show _=IV _ from r1)
      simp only[Hm]at ht;split at ht
      ·rename_i ws hw;cases ht;obtain⟨vs,h1,_⟩:=cW so hw ea;obtain⟨its,rv,p,hz⟩:=I.list h1;obtain⟨o,q1,q2,_⟩:=p.isList;exact Kk PySem.W.kitx_list I.kIn #[o,q1,q2] (hX (by simp) hc') (λz=>nomatch z) fin
      ·rw[HJ]at ht;obtain⟨kvs,hk,rfl⟩:=ht;obtain⟨xs,rd,kr⟩:=fT so hk ea;obtain⟨es,ep,⟨o,q1,q2,_⟩,he⟩:=(cQ I rd).raw;exact Kk PySem.W.kitx_dict I.kIn #[o,q1,q2.1] (hX (by simp) hc') (λz=>nomatch z) fin
    ·cases e2
   ·cases e2
noncomputable def xr (c:Jr)(f:FE):FE:=λρ S=>match f ρ S with
 | some (x,S1)=>(xp S1 x c).map λb=>(.bl b,S1)
 | none=>td
theorem C9 {cn:Ik}{c:Jr}{e:Iv}{p p2 pos:Kf}{f:FE}(hg:Gl X "isinstance")(hm:X.mg "isinstance" = td)(hg2:Gl X cn)(hm2:X.mg cn=td)(hv2:bootBuiltins cn=gV (.type c))(hn2:cn≠"__name__")(hd2:(cn==("__debug__" : Ik))=false)
  (he:GE X e f) (hs:starEach [e,.Name cn p2] X.env=(false,eval e X.env)::starEach [.Name cn p2] X.env):GE X (.Call (.Name "isinstance" p) [e,.Name cn p2] [] pos) (xr c f):=
 GE.of (pv (xq) hg hm rfl (ny he (ny (y6 (v:=.ty c) hg2 hm2 hv2 rfl hn2 hd2) vU) hs) #v[] #v[] hs rfl) λσ H A ρ S w S' er so e Q hq=>by
  unfold xr at e;split at e
  ·rename_i x1 S1 h1;rw[HJ]at e;obtain⟨b,e1,e2⟩:=e;cases e2;exact#[A,ρ,S,x1,_,er,so,h1,λv H1 #[A1,z1,z2,z3]=>#[A1,_,x1,v,c,b,rfl,z2,z3,e1,hq _ _ #[A1,z1,z2,.bl]]]
  ·cases e
end
noncomputable def dM:HF (T×W)->HF W->HL (HF (T×W))
 | kvs,[]=>gV kvs
 | kvs,k::v::ws=>match gE k with
  | some t=>dM (eE kvs t v) ws
  | none=>td
 | _,[_]=>td
noncomputable def BC:FE:=λ_ S=>gV (.ref S.length,S++[.dic []])
noncomputable def p7 (f:FA):FE:=λρ S=>match f ρ (S++[.dic []])with
 | some (ws,S1)=>match S1[S.length]? with
  | some (.dic [])=>match dM [] ws with
   | some kvs=>gV (.ref S.length,S1.set S.length (.dic kvs))
   | none=>td
  | _=>td
 | none=>td
section
variable (K:HW) (A:HF HR) (H:Hp)
inductive RelP:HF W->HF (V×V)->Prop
 | nil:RelP [] []
 | cons {k v:W} {a b:V} {ws:HF W} {ps:HF (V×V)}:Rel K A H k a->Rel K A H v b->RelP ws ps->RelP (k::v::ws) ((a,b)::ps)
end
theorem RelP.mono {K:HW}{A A':HF HR}{H H':Hp}(e:Ext K A H A' H'){ws:HF W}{ps:HF (V×V)}(h:RelP K A H ws ps):RelP K A' H' ws ps:=by
 induction h with
 | nil=>exact .nil
 | cons a b c ih=>exact .cons (a.mono e) (b.mono e) ih
section
variable{X:Cx}{pins:HF (HR×JE)}{σ:L2.St}{H:Hp}{s:HK}{A:HF HR}{S:aa}
noncomputable def GN (X:Cx)(A:HF HR)(H:Hp)(S':aa)(ws:HF W):HF (V×V)->Hp->Prop:=λps H'=>∃A',Ext X.K A H A' H'/\StoreOk X.w X.K A' H' S'/\RelP X.K A' H' ws ps
noncomputable def EV (X:Cx)(pos:Kf)(keys:HF (HL Iv))(values:HF Iv)(f:FA):Prop:=
 ∀(pins:HF (HR×JE)) (s:HK) (σ:L2.St) (H:Hp) (A:HF HR) (ρ:Fm) (S:aa) (ws:HF W) (S':aa),Inv X pins σ H s->EnvRel X.K A H ρ σ->StoreOk X.w X.K A H S->f ρ S=gV (ws,S')->
  wpAny (model X.prog X.w) X.A (evalPairs (pairTrees keys values X.env pos)) (λvs s'=>∃ps H',Inv X pins σ H' s'/\VV ps vs/\GN X A H S' ws ps H') X.xe s
theorem AB {pos:Kf}:EV X pos [] [] i8:=λpins s σ H A ρ S ws S' I er so e=>by
 cases e;exact pairTrees_nil_walk #[[],H,I,.nil,A,.refl,so,.nil]
theorem xt {pos:Kf}{k v:Iv}{ks:HF (HL Iv)}{vs:HF Iv}{fk fv:FE}{f:FA}(hk:GE X k fk)(hv:GE X v fv)(hr:EV X pos ks vs f):EV X pos (gV k::ks) (v::vs) (en fk (en fv f)):=λpins s σ H A ρ S ws S' I er so e=>by
 unfold en at e;split at e
 ·rename_i w1 S1 h1;split at e
  ·rename_i w2 S2 h2;cases e;split at h2
   ·rename_i w3 S3 h3;split at h2
    ·rename_i w4 S4 h4;cases h2;refine pairTrees_cons_walk (b9 (hk pins s σ H (EndV X.w X.K A H S1 w1) I #[A,ρ,S,_,_,er,so,h1,λ_ _ z=>z]) λu s1 #[x,H1,I1,r1,A1,e1,o1,z1]=>
      b9 (hv pins s1 σ H1 (EndV X.w X.K A1 H1 S3 w3) I1 #[A1,ρ,S1,_,_,er.mono e1,o1,h3,λ_ _ z=>z]) λu2 s2 #[x2,H2,I2,r2,A2,e2,o2,z2]=>
      b9 (hr pins s2 σ H2 A2 ρ S3 _ _ I2 (er.mono (e1.trans e2)) o2 h4) λvs' s3 #[ps,H3,I3,rel,A3,e3,o3,z3]=>?_)
     exact#[(x,x2)::ps,H3,I3,.cons #[r1,r2] rel,A3,e1.trans (e2.trans e3),o3,.cons (z1.mono (e2.trans e3)) (z2.mono e3) z3]
    ·cases h2
   ·cases h2
  ·cases e
 ·cases e
theorem mP {r:HM}{d:HR}{E:HH->HK->Prop}(hu:X.A.units+10 < cLine):∀(vs:HF (HH×HH)) (ps:HF (V×V)) (ws:HF W) (kvs kvs':HF (T×W)) (s:HK) (H:Hp) (S:aa) (Q:PUnit->HK->Prop),
  Inv X pins σ H s->StoreOk X.w X.K A H S->nP S r=gV kvs->A[r]?=gV d->RelP X.K A H ws ps->VV ps vs->dM kvs ws=gV kvs'->kvs.length+vs.length<=30->
  (∀s' H',Inv X pins σ H' s'->Ext X.K A H A H'->StoreOk X.w X.K A H' (S.set r (.dic kvs'))->Q Nr s')->
  wpAny (model X.prog X.w) X.A (forIn vs Nr λ(x:HH×HH) (_:PUnit)=>(do dictSet d x.1 x.2; pure (JL Nr):Ph (ForInStep PUnit))) Q E s
 | [],_,_,kvs,kvs',s,H,S,Q,I,so,hr,ea,rp,vv,e,hl,hq=>by
  cases vv;cases rp;cases e;rw[OJ];refine HU (hq s H I .refl ?_);have hS:=iA hr;have:S.set r (.dic kvs)=S:=by
   apply NS;intro j;rw[JT];split
   ·rename_i e; subst e
    split
    ·exact hS.symm
    ·rename_i h; exact absurd (Ii.mp hS).1 h
   ·rfl
  rw[this]; exact so
 | (ku,vu)::vs,_,_,kvs,kvs',s,H,S,Q,I,so,hr,ea,rp,vv,e,hl,hq=>by
  cases vv with
  | cons hv vv2=>
   cases rp with
   | @cons wk wv va vb ws2 ps2 rk rv' rp2=>
    simp only[dM]at e;split at e
    ·rename_i t ht;rw[MA];obtain⟨xs,hH,kr⟩:=sO so hr ea;have dd0:=cQ I (.inl hH);have dd:=dd0.dict I kr;obtain⟨bk,e1,e2,rkk⟩:=iz ht rk hv.1;have e2:ku=IV bk:=e2;subst e2;obtain⟨q1,q2,q3⟩:=d6 ht;rw[IW]at hl;have hz:xs.length<=sizeLine:=dd0.1;refine HG (HG (wpAny_dictSet_heap (hsz:=hz) (show X.A.units+bC < cLine by unfold bC; omega) (i5 I rkk q3) dd λh' dd' hs=>HU ?_))
     have kr':=kr.put q2 q3 rkk rv' hv.2;have hz':(storedH xs t bk vu).length<=sizeLine:=by
      rw[<- kr'.length];have h2:=c7 kvs t wv;rw[Je];omega
     have dn:DicAt X.w d (storedH xs t bk vu) h':=.of hz' dd0.2.1 dd';obtain⟨so',ex⟩:=so.writeO (iA hr) rfl ea (u:=d8 X.w d (storedH xs t bk vu)) (n:=.dic (eE kvs t wv)) #[_,bD,kr'.mono (dC (.ext hH))];have I':Inv X pins σ (cp H d (d8 X.w d (storedH xs t bk vu))) { s with heap:=h',toks:=s.toks+(da X.prog X.w).draws t }:=nF I (by rw[hH]; exact Lw) hs (let ⟨q,_,_,hq,_⟩:=dd'; #[q,hq]) dn.ok
     have hl':(S.set r (.dic (eE kvs t wv)))[r]?=gV (.dic (eE kvs t wv)):=by
      rw[JT,Iw rfl,Iw (Ii.mp (iA hr)).1]
     refine mP hu vs _ _ (eE kvs t wv) kvs' _ _ _ Q I' so' (by unfold nP; rw[hl']) ea (rp2.mono ex) vv2 e (by have:=c7 kvs t wv; omega) λs' H' I2 ex2 so2=>?_
     rw[List.set_set]at so2;exact hq s' H' I2 (ex.trans ex2) so2
    ·cases e
theorem AC {pos:Kf}:GE X (.Dict [] [] pos) BC:=λpins s σ H Q I #[A,ρ,S,w,S',er,so,e,hq]=>by
 cases e;have hn:=I.hok.fresh (HZ s.heap.objs.size);have dn:DicAt X.w s.heap.objs.size [] (s.heap.push { cls:=.type "dict",data:=.dict #[] }):=#[Ko _,LG.mpr (Ne.symm (ID I.big)),Ln,_,#[],0,Iq _ rfl,#[rfl,rfl,rfl],rfl,rfl];refine wpAny_Dict_empty #[.ref s.heap.objs.size,_,I.laid (a:=s.heap.objs.size) (o:=d8 X.w s.heap.objs.size []) (t':=s.toks) (λ_ _ q=>HP _ q) (HZ _) dn.ok,rfl,hq _ _ #[A++[s.heap.objs.size],ec hn,so.pushO hn #[[],bD,.nil],.ref ?_]]
 rw[<- so.len]; simp
theorem AD {pos:Kf}{keys:HF (HL Iv)}{values:HF Iv}{f:FA}(hu:X.A.units+10 < cLine)(h:EV X pos keys values f)(hall:keys.all (·.isSome)=true)(hl:keys.length=values.length)(h0:keys≠[])(h15:keys.length<=15):GE X (.Dict keys values pos) (p7 f):=by
 intro pins s σ H Q I ⟨A,ρ,S,w,S',er,so,e,hq⟩;unfold p7 at e;split at e
 ·rename_i ws S1 h1;split at e
  ·rename_i hS1;split at e
   ·rename_i kvs hp;cases e;have hn:=I.hok.fresh (HZ s.heap.objs.size);have dn:DicAt X.w s.heap.objs.size [] (s.heap.push { cls:=.type "dict",data:=.dict #[] }):=#[Ko _,LG.mpr (Ne.symm (ID I.big)),Ln,_,#[],0,Iq _ rfl,#[rfl,rfl,rfl],rfl,rfl];have I1:=I.laid (a:=s.heap.objs.size) (o:=d8 X.w s.heap.objs.size []) (h':=s.heap.push { cls:=.type "dict",data:=.dict #[] }) (t':=s.toks) (λ_ _ q=>HP _ q) (HZ _) dn.ok
    have ex0:Ext X.K A H (A++[s.heap.objs.size]) (cp H s.heap.objs.size (d8 X.w s.heap.objs.size [])):=ec hn;have so0:StoreOk X.w X.K (A++[s.heap.objs.size]) (cp H s.heap.objs.size (d8 X.w s.heap.objs.size [])) (S++[.dic []]):=so.pushO hn #[[],bD,.nil];have hlen:=pairTrees_length keys values X.env pos hall hl;have hne:pairTrees keys values X.env pos≠[]:=λhe=>by
     rw[he]at hlen;exact h0 (Lh.mp hlen.symm)
    rw[arm_eval_Dict,zip_pairTrees keys values X.env pos hall hl,dictDisplay_pairs _ hne ∅]
    refine HG (Lx (HG ?_));unfold subDict;refine HG (wpAny_alloc ?_);refine HG (JC ?_);rw[Iw ∅]
    refine HG (JR (wpAny_evalPairs_len (h pins _ σ _ _ ρ _ _ _ I1 (er.mono ex0) so0 h1)) (λvs s₁ h₁=>?_) λ_ _ e=>e)
    obtain⟨hvl,ps,H2,I2,vv,A2,ex2,so2,rp⟩:=h₁;refine JC ?_;have ea:A2[S.length]?=gV s.heap.objs.size:=ex2.ad _ _ (by rw[<- so.len]; simp)
    refine HG (mP hu vs ps ws [] kvs s₁ H2 S1 _ I2 so2 (by unfold nP; rw[hS1]) ea rp vv hp (by rw[JK]; omega) λs' H' I3 ex3 so3=>?_)
    exact HU (HU (HU #[.ref s.heap.objs.size,H',I3,rfl,hq _ _ #[A2,ex0.trans (ex2.trans ex3),so3,.ref ea]]))
   ·cases e
  ·cases e
 ·cases e
end
noncomputable def Hn (wd:IP)(a:HR)(o:JE)(xs:HF (T×HR×HH)):It:=
 #[λi H=>H a=gV (.frz o (d8 wd a xs))/\i < xs.length,λi H x H'=>H'=H/\∃q,xs[i]?=gV q/\x=.ref q.2.1,λi H=>H a=gV (.frz o (d8 wd a xs))/\xs.length<=i]
theorem uZ {P:IC}{w:IP}{K:HW}{tg:Iv}(a it:HR){o:JE}{es:IY J3}{ep:HM}{xs:HF (T×HR×HH)}(hx:o.ExactDict)(hd:o.data=.dict es ep)(he:es.toList=xs.map (wj w)) :
  Turn P w K tg (Hn w a o xs) [it] it (λi h=>h.IsKeyIter it a i es.size ep) where
 mem:=by simp
 obj:=λi h st b hb=>by
  have e:b=it:=by simpa using hb
  subst e;obtain⟨o,e,c,d⟩:=st;exact#[o,e,λv z=>by rw[d]at z; cases z]
 keep:=λi h h' st k=>st.at λo e=>k it (by simp) o e
 item:=by
  intro X hP hw hK hc i pins s σ H E I hf st hg;subst hP hw hK;obtain⟨hH,hi⟩:=hg;have ho:s.heap.get? a=gV o:=(show ObjOk X.prog X.w H s.heap a (.frz o (d8 X.w a xs))from I.hok a _ hH).1
  have hl:es.size=xs.length:=by rw[<- IK,he,HI]
  have hi':i < es.size:=∅
  obtain⟨f0,f1,f2,f3,f4,f5⟩:=hf it (by simp)
  have hk:es[i].key=.ref (xs[i]).2.1:=by
   have:es.toList[i]?=gV (wj X.w xs[i]):=by rw[he,HS,Ic hi]; rfl
   rw[JF,L1 hi']at this;have:=Jn this;rw[this]; rfl
  refine pP st #[o,ho,hx,hd] hi' λh' st' sb=>?_
  have I1:Inv X pins σ H { s with heap:=h' }:=I.turned (t':=s.toks) (λb o hb e=>(sb.2 b hb).trans e) f0 f1 f3 f4 f5
  obtain⟨o',e,c,d⟩:=id st';exact#[_,rfl,sA (s:={ s with heap:=h' }) e c d #v[] #[.ref (xs[i]).2.1,H,I1,hk,#[rfl,xs[i],Ic hi,rfl],st',λb hb=>(hf b hb).1]]
 done:=by
  intro X hP hw hK hc i pins s σ H E I hf st hg;subst hP hw hK;obtain⟨hH,hi⟩:=hg;have ho:s.heap.get? a=gV o:=(show ObjOk X.prog X.w H s.heap a (.frz o (d8 X.w a xs))from I.hok a _ hH).1
  have hl:es.size=xs.length:=by rw[<- IK,he,HI]
  obtain⟨f0,f1,f2,f3,f4,f5⟩:=hf it (by simp)
  exact sQ (I.ok.hd hc) st #[o,ho,hx,hd] ∅ λh' eb=>#[rfl,I.turned (t':=s.toks) (λb o hb e=>eb b o hb e) f0 f1 f3 f4 f5]
 self:=λ_ _ _ _ _ st h=>MV st h
noncomputable def fX (f:FE):FI:=λρ S=>match f ρ S with
 | some (.tup ws,S1)=>gV (.its ws,S1)
 | some (.ref r,S1)=>match g8 S1 r with
  | some _=>gV (.live r,S1)
  | none=>match jZ S1 r with
   | some kvs=>gV (.its (kvs.map λp=>p.1.w),S1.set r (.frd kvs))
   | none=>td
 | _=>td
section
variable{X:Cx}{pins:HF (HR×JE)}{σ:L2.St}{H:Hp}{s:HK}{A:HF HR}{S:aa}
theorem xu {a:HR}{o:JE}{kvs:HF (T×W)}{xs:HF (T×HR×HH)}(hH:H a=gV (.frz o (d8 X.w a xs)))(kr:KRel X.K A H kvs xs):MIt X.w X.K (.its (kvs.map λp=>p.1.w)) (Hn X.w a o xs) A H:=by
 refine#[λA' H' S i w e so hi=>?_,λA' H' S i e so hi=>?_]
 ·simp only[MI.at,II]at hi;obtain⟨v,h1,h2⟩:=((kr.mono e).keysL).get hi;rw[HS,HJ]at h1;obtain⟨q,q1,q2⟩:=h1;refine#[#[e.fz _ _ _ hH,(Ii.mp q1).1],λx H2 #[z1,q',z2,z3]=>?_]
  subst z1 z3;rw[q1]at z2; cases z2
  exact#[.refl,so,by rw[q2]; exact h2]
 ·simp only[MI.at,II]at hi;refine#[e.fz _ _ _ hH,?_];have:=JW.mp hi;rw[HI,kr.length]at this;exact this
theorem AE {tg l:Iv}{f:FE}(h:GE X l f):GI X tg l (fX f):=by
 intro pins s σ H R I ⟨A,ρ,S,mi,S',er,so,e,hq⟩
 by_cases hd:∃r S1 kvs,f ρ S=gV (.ref r,S1)/\g8 S1 r=td/\jZ S1 r=gV kvs
 ·obtain⟨r,S1,kvs,h1,h2,h3⟩:=hd;simp only[fX,h1,h2,h3]at e;cases e;refine b9 (h pins s σ H (EndV X.w X.K A H S1 (.ref r)) I #[A,ρ,S,_,_,er,so,h1,λ_ _ z=>z]) λv s1 #[x,H1,I1,r1,A1,e1,o1,z1]=>?_
  cases z1 with
  | @ref _ a ea=>
   obtain rfl:v=IV a:=r1;have fz:∃o xs H2,Inv X pins σ H2 s1/\Ext X.K A1 H1 A1 H2/\StoreOk X.w X.K A1 H2 (S1.set r (.frd kvs))/\H2 a=gV (.frz o (d8 X.w a xs))/\KRel X.K A1 H2 kvs xs:=by
    unfold jZ at h3;split at h3
    ·rename_i k hk;cases h3;obtain⟨xs,hH,kr⟩:=o1.obj r _ a hk ea;have d:=cQ I1 (.inl hH);obtain⟨_,_,_,o,es,ep,q1,q2,q3,q4⟩:=id d;obtain⟨so',ex⟩:=o1.writeO hk rfl ea (u:=.frz o (d8 X.w a xs)) (n:=.frd kvs) #[o,xs,bD,kr.mono (dC (.ext hH))];exact#[o,xs,_,nF (h':=s1.heap) (t':=s1.toks) (ob:=.frz o (d8 X.w a xs)) I1 (by rw[hH]; exact Lw) (PU _ _) #[o,q1] #[q1,d.ok],ex,so',bD,kr.mono ex]
    ·rename_i k hk;cases h3;obtain⟨o,xs,hH,kr⟩:=o1.obj r _ a hk ea;have:S1.set r (.frd kvs)=S1:=by
      apply NS;intro j;rw[JT];split
      ·rename_i e; subst e
       split
       ·exact hk.symm
       ·rename_i h; exact absurd (Ii.mp hk).1 h
      ·rfl
     rw[this];exact#[o,xs,H1,I1,.refl,o1,hH,kr]
    ·cases h3
   obtain⟨o,xs,H2,I2,ex,so2,hH,kr⟩:=fz;have d:=cQ I2 (.inr #[o,hH]);have ho:s1.heap.get? a=gV o:=(show ObjOk X.prog X.w H2 s1.heap a (.frz o (d8 X.w a xs))from I2.hok a _ hH).1
   obtain⟨_,hsm,_,o',es,ep,q1,q2,q3,q4⟩:=id d;rw[ho]at q1;cases q1;refine pO hsm #[o,ho,q2,q3] ?_;refine#[s1.heap.objs.size,[s1.heap.objs.size],_,_,H2,rfl,I2.kept (t':=s1.toks) λb o e=>HP _ e,uZ a _ q2 q3 q4,#[_,Iq _ rfl,rfl,rfl],λb hb=>?_,hq _ _ A1 (e1.trans ex) so2 (xu hH kr)]
   have e:b=s1.heap.objs.size:=by simpa using hb
   subst e;exact I2.fpOk (HZ _) (I2.hok.fresh (HZ _))
 ·have:fX f ρ S=Av f ρ S:=by
   unfold fX Av;cases hf:f ρ S with
   | none=>rfl
   | some p=>
    obtain⟨w,S1⟩:=p;cases w with
    | ref r=>
     cases h2:g8 S1 r with
     | some _=>simp only[h2]
     | none=>
      cases h3:jZ S1 r with
      | none=>simp only[h2,h3]
      | some kvs=>exact absurd #[r,S1,kvs,hf,h2,h3] hd
    | _=>rfl
  rw[this]at e;exact C7 h pins s σ H R I #[A,ρ,S,mi,S',er,so,e,hq]
end
noncomputable def cf (mi:MI)(g:FG)(c:FT)(f:FE):HM->HM->Fm->aa->HL (HF W×aa)
 | 0,i,_,S=>match mi.at S i with
  | some td=>gV ([],S)
  | _=>td
 | n+1,i,ρ,S=>match mi.at S i with
  | some (gV w)=>match g w ρ S with
   | some (ρ1,S1)=>match c ρ1 S1 with
    | some (true,S2)=>match f ρ1 S2 with
     | some (y,S3)=>match cf mi g c f n (i+1) ρ1 S3 with
      | some (ys,S4)=>gV (y::ys,S4)
      | none=>td
     | none=>td
    | some (false,S2)=>cf mi g c f n (i+1) ρ1 S2
    | none=>td
   | none=>td
  | _=>td
noncomputable def fN (cap:HF (HL HM))(ρ:Fm):Fm:=cap.map λo=>match o with
 | some j=>(ρ[j]?).join
 | none=>td
noncomputable def kP (fi:FI)(g:FG)(c:FT)(f:FE)(cap:HF (HL HM)):FE:=λρ S=>match fi ρ S with
 | some (mi,S1)=>match mi.len S1 with
  | some n=>match cf mi g c f n 0 (fN cap ρ) S1 with
   | some (ys,S2)=>lL S2 ys
   | none=>td
  | none=>td
 | none=>td
noncomputable def BE:FT:=λ_ S=>gV (true,S)
noncomputable def lI (X:Cx)(scope:KL)(cl:HF (Ik×HR))(C:HR)(N:HF Ik)(s0:HK)(H0:Hp)(ex:HF HR):Cx:=
 { X with env:=compEnvC scope cl C X.env,N:=N,s₀:=s0,H₀:=H0,outer:=X.stack,stack:=X.stack,ex:=ex,fn:=λ_=>false,pn:=[],xe:=λ_ _=>Jq }
structure CompOk (X:Cx)(scope:KL)(cl:HF (Ik×HR))(N:HF Ik)(cap:HF (HL HM)):Prop where
 clos:closureFor scope X.env=pure cl
 kind:scope.kind=.function
 names:∀y∈scope.names,y.2=.local->scope.names.lookup y.1=gV .local
 nocell:∀y∈scope.names,y.2≠.cell
 sub:∀x c,cl.lookup x=gV c->X.env.cells.lookup x=gV c
 has:∀x,((relabel scope X.env).names.lookup x=gV .cell\/(relabel scope X.env).names.lookup x=gV .free)->∃c,cl.lookup x=gV c
 len:cap.length=N.length
 cap:∀(i j:HM) (x:Ik),cap[i]?=gV (gV j)->N[i]?=gV x->X.N[j]?=gV x/\(X.env.kindOf x=gV .cell\/X.env.kindOf x=gV .free)/\((relabel scope X.env).names.lookup x=gV .cell\/(relabel scope X.env).names.lookup x=gV .free)
theorem gH {prog:IC}{w:IP}{A:IL}{R:N1->HK->Prop}{s:HK}{elt target iter:Iv}{ifs:HF Iv}{scope:KL}{pos:Kf}{it acc:HH}{env:NA}(I:HM->HK->Prop)
    (turn:∀n s,I n s->wpAny (model prog w) A (pyNext it) (λr s₁=>match r with
      | none=>R (.ok .next) s₁
      | some v=>wpAny (model prog w) A (letOwnedTupleGo target it v) (λ_ s₁=>wpAny (model prog w) A (assign target env v) (λ_ s₂=>
          wpAny (model prog w) A (forIn ifs true λc r=>if r=true then do let ok <- isTrue c env (eval c env); pure (JL ok)else pure (JL r)) (λok s₃=>
            if ok=true then wpAny (model prog w) A (eval elt env) (λx s₄=>
              wpAny (model prog w) A (call (.builtin "list.append") [acc,x]) (λ_ s₅=>∃m,m < n/\I m s₅) (λ_ _=>Jq) s₄) (λ_ _=>Jq) s₃
            else ∃m,m < n/\I m s₃) (λ_ _=>Jq) s₂) (λ_ _=>Jq) s₁) (λ_ _=>Jq) s₁) (λ_ _=>Jq) s)
    (n:HM) (h:I n s) :
    codeAny (model prog w) A (.compLoop (.ListComp elt [#[target,iter,ifs,0]] scope pos) 0 it acc env) R s:=by
  refine codeAny_loop rfl I (λn s hI=>?_) n h
  show wpAny _ A ((compTurn (.ListComp elt [#[target,iter,ifs,0]] scope pos) 0 it acc env).onRaise (λx=>do noteFrame x env; theTreesLotGoes x)) _ _ s
  refine wpAny_noted ?_;rw[compTurn_list];refine HG (Lx (HG (JR (turn n s hI) (λr s₁ h₁=>?_) λ_ _ h'=>h'.elim)))
  cases r with
  | none=>exact HU h₁
  | some v=>
    refine HG (JR h₁ (λ_ s₁ h₁=>?_) λ_ _ h'=>h'.elim)
    refine HG (JR h₁ (λ_ s₂ h₂=>HG (JR h₂ (λok s₃ h₃=>?_) λ_ _ h'=>h'.elim)) λ_ _ h'=>h'.elim)
    cases ok with
    | false=>exact HU #[rfl,h₃]
    | true=>
      exact HG (HG (JR h₃ (λx s₄ h₄=>HG (JR h₄ (λ_ s₅ h₅=>HU (HU #[rfl,h₅])) λ_ _ h'=>h'.elim)) λ_ _ h'=>h'.elim))
section
variable{X:Cx}{pins:HF (HR×JE)}{σ:L2.St}{H:Hp}{s:HK}
theorem Inv.adopt {D:HR}{o:HO}(I:Inv X pins σ H s)(hn:H D=td)(h1:D∈X.ex\/X.s₀.heap.objs.size<=D)(hL:D≠X.env.locals)(h2:∀x c,X.env.cells.lookup x=gV c->c≠D)(h3:∀p∈X.pn++pins,p.1≠D)
  (new:ObjOk X.prog X.w (cp H D o) s.heap D o):Inv X pins σ (cp H D o) s:=by
 have nit:∀b u,H b=gV u->b≠D:=λb u e z=>by rw[z,hn]at e; cases e
 have key:Inv X pins σ (cp H D o) { s with heap:=s.heap,gens:=s.gens,drawn:=s.drawn,toks:=s.toks }:=by
  refine I.step (g':=s.gens) (d':=s.drawn) (t':=s.toks) (h':=s.heap) (ch:=[D]) (λb hb=>?_) (λb o _ _ hc e _=>e) (λb o _ _ hc e _=>#[o.slots,e]) (λb o hc e n=>?_)
   (λb o hc e=>#[o,e]) (λb xs e=>?_) (λb o xs e=>?_) (λb ps e=>#[#[],?_]) (λm hm=>hm) (λb u e=>?_) I.bare
  ·have e:b=D:=by simpa using hb
   subst e;exact#[h1,hL,h2,h3]
  ·rw[aV (λz=>hc (by simp[z]))]; exact n
  ·rw[aV (nit b _ e)]; exact e
  ·rw[aV (nit b _ e)]; exact e
  ·rw[aV (nit b _ e),e]; simp
  ·by_cases hb:b=D
   ·subst hb; rw[bD]at e; cases e; exact new
   ·rw[aV hb]at e;refine(I.hok b u e).stay (λc v hc q=>q) (λc q=>?_) λc xs q=>?_
    ·rw[aV (nit c _ q)]; exact q
    ·rw[aV (nit c _ q)]; exact q
 exact key
theorem Da {scope:KL}{cl:HF (Ik×HR)}{N:HF Ik}{cap:HF (HL HM)}{C:HR}{s0:HK}{ex:HF HR}(I:Inv X pins σ H s)(ck:CompOk X scope cl N cap)(hs:s.heap.objs.size<=s0.heap.objs.size)(hC:s0.heap.objs.size<=C)
  (hk:∀b o,s.heap.get? b=gV o->s0.heap.get? b=gV o) (hex:∀b∈ex,(b≠C)/\(∀x c,X.env.cells.lookup x=gV c->c≠b)/\(∀o,X.base.get? b≠gV o)/\b∉q8 X.stack) :
  (lI X scope cl C N s0 H ex).Ok where
 mod:=I.ok.mod
 kind:=ck.kind
 glob:=I.ok.glob
 blt:=I.ok.blt
 above:=hC
 inj:=λx y c h1 h2=>I.ok.inj x y c (ck.sub x c h1) (ck.sub y c h2)
 has:=λx h=>ck.has x h
 cab:=λx c h=>by cases h
 hd:=I.ok.hd
 frames:=I.ok.frames
 stk:=.inl rfl
 exf:=λb hb=>#[(hex b hb).1,λx c h=>(hex b hb).2.1 x c (ck.sub x c h)]
 bs:=λb o e=>#[hk b o (I.bk b o e),(I.bs b o e).2]
 bsz:=IS (IS I.ok.bsz I.sz) hs
 noex:=λb o e hb=>(hex b hb).2.2.1 o e
 exfs:=λb hb=>(hex b hb).2.2.2
 funs:=I.stack.of_keeps λb o e _=>#[o,hk b o e,rfl]
 frf:=I.stkFree
structure BlockOk (X:Cx)(scope:KL)(cl:HF (Ik×HR))(N:HF Ik)(tg elt:Iv)(ifs:HF Iv)(g:FG)(c:FT)(f:FE):Prop where
 tgt:∀C s0 H0 ex,GG (lI X scope cl C N s0 H0 ex) tg g
 tst:∀C s0 H0 ex pins s σ H Q,Inv (lI X scope cl C N s0 H0 ex) pins σ H s->tT (lI X scope cl C N s0 H0 ex) c σ H Q->
  wpAny (model X.prog X.w) X.A (forIn ifs true λc r=>if r=true then do let ok <- isTrue c (compEnvC scope cl C X.env) (eval c (compEnvC scope cl C X.env)); pure (JL ok)else pure (JL r)) (TP (lI X scope cl C N s0 H0 ex) pins σ Q) (λ_ _=>Jq) s
 elt:∀C s0 H0 ex,GE (lI X scope cl C N s0 H0 ex) elt f
theorem n6 {prog:IC}{w:IP}{B:IL}{s:HK}{E:HH->HK->Prop}{Q:HH->HK->Prop}{D:HR}{its:HF HH}{n:HM}{u:HH}(e:s.heap.get? D=gV { cls:=.type "list",data:=.seq its.toArray n })(hz:its.length < sizeLine)
  (h:∀h' n',h'.get? D=gV { cls:=.type "list",data:=.seq (its++[u]).toArray n' }->(∀b o,b≠D->s.heap.get? b=gV o->h'.get? b=gV o)->Q .none { s with heap:=h' }) :
  wpAny (model prog w) B (call (.builtin "list.append") [.ref D,u]) Q E s:=by
 refine LQ F.slot_list_append #[_,e,rfl] F.entry_list_append (F.args_list_append_2 _ _) (NK D its.toArray n u (by rw[Ih]; omega)) #[e,?_]
 have q:=N5 e (λa=>a.push u)
 have e2:its.toArray.push u=(its++[u]).toArray:=by simp
 rw[e2]at q;exact h _ _ q (λb o hb ho=>(Jj s.heap (JA λa=>a.push u) (Ne.symm hb)).trans ho)
theorem mQ {scope:KL}{cl:HF (Ik×HR)}{N:HF Ik}{cap:HF (HL HM)}{tg elt iter:Iv}{ifs:HF Iv}{g:FG}{c:FT}{f:FE}{pos:Kf}{A:HF HR}{ρ:Fm}{S S':aa}{mi:MI}{n:HM}{ws:HF W}{E:HH->HK->Prop}
  {it:HR} {fp:HF HR} {tn:HM->IZ->Prop} {J:It} {RR:HH->HR->N1->HK->Prop}
  (I:Inv X pins σ H s) (hc:X.calm=true) (er:EnvRel X.K A H ρ σ) (so:StoreOk X.w X.K A H S) (ck:CompOk X scope cl N cap) (bk:BlockOk X scope cl N tg elt ifs g c f)
  (T:Turn X.prog X.w X.K tg J fp it tn) (t0:tn 0 s.heap) (hfp:∀b∈fp,iY X pins H b) (mit:MIt X.w X.K mi J A H) (e:cf mi g c f n 0 (fN cap ρ) S=gV (ws,S')) (hz:ws.length<=sizeLine)
  (fin:∀D C s' H' A' vs m,s'.heap.Ns C m->H' D=td->D≠C->C≠X.env.locals->C∉X.fs->H' C=td->X.s₀.heap.objs.size<=C->(∀x c,X.env.cells.lookup x=gV c->c≠C)->(∀p∈X.pn++pins,p.1≠C)->
   Inv X pins σ (cp H' D (.lst vs)) s'->Ext X.K A H A' H'->StoreOk X.w X.K A' H' S'->RelL X.K A' H' ws vs->RR (.ref D) C (.ok .next) s') :
  wpAny (model X.prog X.w) X.A (newList []) (λacc s₃=>wpAny (model X.prog X.w) X.A (newFunctionEnv scope X.env.globals cl [] X.env.qual td .none (gV X.env)) (λcenv s₄=>
   codeAny (model X.prog X.w) X.A (.compStart (.ListComp elt [#[tg,iter,ifs,0]] scope pos) 0 (.ref it) acc { cenv with scope:=relabel scope X.env }) (RR acc cenv.locals) s₄) E s₃) E s:=by
 refine Ja (wpAny_newFunctionEnv ck.nocell (by intro y hy; simp at hy) (λh₁ hns₁ hsb₁=>?_) ck.kind)
 dsimp only at hns₁ hsb₁ ⊢;generalize hH2:s.heap.push { cls:=.type "list",dict:=td,data:=.seq ([]:HF HH).toArray }=h2 at hns₁ hsb₁ ⊢;have hCs:h2.objs.size=s.heap.objs.size+1:=by rw[<- hH2,OL]
 have k2:∀b o,s.heap.get? b=gV o->h2.get? b=gV o:=λb o z=>hH2 ▸ HP _ z
 have lt2:∀b o,h2.get? b=gV o->b < h2.objs.size:=λb o z=>Io z
 have k1:∀b o,h2.get? b=gV o->h₁.get? b=gV o:=λb o z=>hsb₁.extBut b o (ID (lt2 b o z)) (HP _ z)
 have hD2:h2.get? s.heap.objs.size=gV { cls:=.type "list",data:=.seq ([]:HF HH).toArray }:=hH2 ▸ Iq _ rfl;have hDC:s.heap.objs.size≠h2.objs.size:=by rw[hCs]; omega
 have fresh:∀a,s.heap.objs.size<=a->H a=td:=λa ha=>I.hok.fresh ha
 have cellLt:∀x c,X.env.cells.lookup x=gV c->c < s.heap.objs.size:=λx c z=>let ⟨_,q⟩:=I.cell x c z; q.lt
 have fpLt:∀b∈fp,b < s.heap.objs.size:=λb hb=>let ⟨_,q,_⟩:=T.obj 0 s.heap t0 b hb; Io q
 have stkLt:∀b∈q8 X.stack,b < s.heap.objs.size:=λb hb=>let ⟨_,o,q,_⟩:=I.stack.mem hb; Io q
 have baseLt:∀b o,X.base.get? b=gV o->b < s.heap.objs.size:=λb o z=>Io (I.bk b o z)
 have fpStk:∀b∈fp,b∉q8 X.stack:=λb hb z=>by
  rcases Iz.mp (I.stkSub b z)with q|q
  ·exact(hfp b hb).2.1 q
  ·exact(hfp b hb).2.2.1 q
 have fpBase:∀b∈fp,∀o,X.base.get? b≠gV o:=λb hb o z=>by
  rcases(hfp b hb).2.2.2.1 with q|q
  ·exact I.ok.noex b o z q
  ·exact absurd (IE (Io (I.ok.bs b o z).1) q) (Ju _)
 have ltC:∀ {b:HR},b < s.heap.objs.size->b≠h2.objs.size:=λhb=>by rw[hCs]; exact ID (Nat.lt_succ_of_lt hb)
 let s3:HK:={ s with heap:=h2 }
 have ok':(lI X scope cl h2.objs.size N s3 H (fp++[s.heap.objs.size])).Ok:=by
  refine Da I ck (show s.heap.objs.size<=h2.objs.size by rw[hCs]; omega) (HZ _) k2 λb hb=>?_
  rcases IU.mp hb with hb|hb
  ·exact#[ltC (fpLt b hb),(hfp b hb).2.2.2.2.1,fpBase b hb,fpStk b hb]
  ·have eb:b=s.heap.objs.size:=by simpa using hb
   subst eb;exact#[hDC,λx c z=>ID (cellLt x c z),λo z=>Ju _ (baseLt _ o z),λz=>Ju _ (stkLt _ z)]
 obtain⟨m0,hn0,hl0⟩:=I.loc;have I0:Inv (lI X scope cl h2.objs.size N s3 H (fp++[s.heap.objs.size])) [] (cap.map λo=>match o with|some j=>(σ[j]?).join|none=>td) H { s3 with heap:=h₁,toks:=s3.toks+([]:HF (Ik×HH)).length }:=by
  refine#[ok',rfl,I.bare,Un.kept k1,#[_,hns₁,λi x v e1 e2 e3=>?_],λx cc z=>?_,fresh _ (show s.heap.objs.size<=h2.objs.size by rw[hCs]; exact KT _),λx cc z=>I.freeC x cc (ck.sub x cc z),λp hp=>absurd hp (by simp[lI]),(I.hok.kept k2).kept k1,by rw[HI]; exact ck.len]
  ·rw[HS]at e2;cases q:cap[i]? with
   | none=>rw[q]at e2; cases e2
   | some oj=>
    rw[q]at e2;cases oj with
    | none=>cases e2
    | some j=>
     obtain⟨z1,z2,z3⟩:=ck.cap i j x q e1;have e2':(σ[j]?).join=gV v:=by simpa using e2
     have e2'':σ[j]?=gV (gV v):=by
      cases r:σ[j]? with
      | none=>rw[r]at e2'; cases e2'
      | some y=>rw[r]at e2'; exact congrArg gV e2'
     obtain⟨u,ru,lk⟩:=hl0 j x v z1 e2'' (by
      rcases z2 with z|z
      ·exact .inr (.inl z)
      ·exact .inr (.inr z))
     refine#[u,ru,?_];rcases lk with⟨zk,_⟩|⟨_,cc,zc,zi⟩
     ·rcases z2 with z|z <;> (rw[zk]at z; cases z)
     ·obtain⟨c2,hc2⟩:=ck.has x z3;have:=ck.sub x c2 hc2;rw[zc]at this; cases this
      refine .inr #[z3,cc,hc2,?_];obtain⟨o,ho,hd⟩:=zi;exact#[o,k1 _ _ (k2 _ _ ho),hd]
  ·obtain⟨v,o,ho,hd⟩:=I.cell x cc (ck.sub x cc z);exact#[v,o,k1 _ _ (k2 _ _ ho),hd]
 have er0:EnvRel X.K A H (fN cap ρ) (cap.map λo=>match o with|some j=>(σ[j]?).join|none=>td):=by
  refine#[by simp[fN],λi w q=>?_]
  unfold fN at q;rw[HS]at q ⊢;cases r:cap[i]? with
  | none=>rw[r]at q; cases q
  | some oj=>
   rw[r]at q;cases oj with
   | none=>cases q
   | some j=>
    have q':(ρ[j]?).join=gV w:=by simpa using q
    have q'':ρ[j]?=gV (gV w):=by
     cases z:ρ[j]? with
     | none=>rw[z]at q'; cases q'
     | some y=>rw[z]at q'; exact congrArg gV q'
    obtain⟨v,z1,z2⟩:=er.2 j w q'';exact#[v,by simp[z1],z2]
 have t1:tn 0 h₁:=T.keep 0 s.heap h₁ t0 λb hb o z=>k1 b o (k2 b o z)
 have fpOk':∀ {H':Hp} {pp:HF (HR×JE)},(∀b∈fp,H' b=td)->(∀p∈pp,p.1=s.heap.objs.size)->∀b∈fp,iY (lI X scope cl h2.objs.size N s3 H (fp++[s.heap.objs.size])) pp H' b:=λhn hp b hb=>
  #[hn b hb,ltC (fpLt b hb),fpStk b hb,.inl (JZ _ hb),λx cc z=>(hfp b hb).2.2.2.2.1 x cc (ck.sub x cc z),λp hpp=>by
   rw[hp p (by simpa [lI]using hpp)]
   exact(ID (fpLt b hb)).symm]
 have DinEx:s.heap.objs.size∈fp++[s.heap.objs.size]:=IG _ (by simp)
 have cellD:∀x c,cl.lookup x=gV c->c≠s.heap.objs.size:=λx cc z=>ID (cellLt x cc (ck.sub x cc z))
 have fpD:∀b∈fp,b≠s.heap.objs.size:=λb hb=>ID (fpLt b hb)
 have theEnd:∀s' σ' H' A' vs its nn,Inv (lI X scope cl h2.objs.size N s3 H (fp++[s.heap.objs.size])) [] σ' H' s'->s'.heap.get? s.heap.objs.size=gV { cls:=.type "list",data:=.seq its nn }->∀(hits:∃l:HF HH,its=l.toArray/\Vals vs l),H' s.heap.objs.size=td->Ext X.K A H A' H'->StoreOk X.w X.K A' H' S'->RelL X.K A' H' ws vs->
   RR (.ref s.heap.objs.size) h2.objs.size (.ok .next) s':=by
  intro s' σ' H' A' vs its nn I' hD hits hDn ex so' rl;obtain⟨l,rfl,rv⟩:=hits;obtain⟨m,hn,_⟩:=id I'.loc;have un:Un (q8 X.stack) (fp++[s.heap.objs.size]) H H' s.heap s'.heap:=(Un.kept k2).trans I'.base;have hch:∀b∈fp++[s.heap.objs.size],(b∈X.ex\/X.s₀.heap.objs.size<=b)/\b≠X.env.locals/\(∀x c,X.env.cells.lookup x=gV c->c≠b)/\∀p∈X.pn++pins,p.1≠b:=λb hb=>by
   rcases IU.mp hb with hb|hb
   ·exact#[(hfp b hb).2.2.2.1,(hfp b hb).2.1,(hfp b hb).2.2.2.2.1,(hfp b hb).2.2.2.2.2]
   ·have eb:b=s.heap.objs.size:=by simpa using hb
    subst eb;exact#[.inr I.sz,(ID I.lt).symm,λx cc z=>ID (cellLt x cc z),λp hp=>ID (Io (I.pin p hp).1)]
  have I2:Inv X pins σ H' s':=I.call' (show s'.os=s.os from I'.os) un I'.hok I'.bare hch
  have I3:Inv X pins σ (cp H' s.heap.objs.size (.lst vs)) s':=Inv.adopt I2 hDn (hch _ DinEx).1 (hch _ DinEx).2.1 (hch _ DinEx).2.2.1 (hch _ DinEx).2.2.2 #[by rw[<- rl.length]; exact hz,l,nn,rv,hD]
  have hCle:s.heap.objs.size<=h2.objs.size:=by rw[hCs]; exact KT _
  exact fin _ _ s' H' A' vs m hn hDn hDC (KF (IE I.lt hCle)) (I.nofs hCle) I'.free (IS I.sz hCle) (λx cc z=>ID (IE (cellLt x cc z) hCle))
   (λp hp=>ID (IE (Io (I.pin p hp).1) hCle)) I3 ex so' rl
 have loop:∀s4:HK,s4={ s3 with heap:=h₁,toks:=s3.toks+([]:HF (Ik×HH)).length }->
   codeAny (model X.prog X.w) X.A (.compLoop (.ListComp elt [#[tg,iter,ifs,0]] scope pos) 0 (.ref it) (.ref s.heap.objs.size) (compEnvC scope cl h2.objs.size X.env)) (RR (.ref s.heap.objs.size) h2.objs.size) s4:=by
  rintro s4 rfl;refine gH (λk s5=>∃i σ5 H5 A5 ρ5 S5 done its nn vs ys,Inv (lI X scope cl h2.objs.size N s3 H (fp++[s.heap.objs.size])) [] σ5 H5 s5/\tn i s5.heap/\(∀b∈fp,H5 b=td)/\s5.heap.get? s.heap.objs.size=gV { cls:=.type "list",data:=.seq (its:HF HH).toArray nn }/\H5 s.heap.objs.size=td/\Vals vs its/\
   Ext X.K A H A5 H5/\EnvRel X.K A5 H5 ρ5 σ5/\StoreOk X.w X.K A5 H5 S5/\RelL X.K A5 H5 done vs/\ws=done++ys/\cf mi g c f k i ρ5 S5=gV (ys,S')) ?_ n
   #[0,_,H,A,_,S,[],[],0,[],ws,I0,t1,λb hb=>(hfp b hb).1,k1 _ _ hD2,fresh _ (HZ _),.nil,.refl,er0,so,.nil,rfl,e]
  rintro k s5 ⟨i,σ5,H5,A5,ρ5,S5,done,its,nn,vs,ys,I5,t5,f5,d5,n5,v5,e5,er5,so5,rl5,hw5,w5⟩;have pinD:Inv (lI X scope cl h2.objs.size N s3 H (fp++[s.heap.objs.size])) [(s.heap.objs.size,{ cls:=.type "list",data:=.seq its.toArray nn })] σ5 H5 s5:=I5.pins_of λp hp=>by
   have hp':p=(s.heap.objs.size,{ cls:=.type "list",data:=.seq its.toArray nn }):=by simpa using hp
   subst hp';exact#[d5,n5,hDC,λz=>Ju _ (stkLt _ z),λv z=>by cases z]
  have oneD:∀p∈[(s.heap.objs.size,({ cls:=.type "list",data:=.seq its.toArray nn }:JE))],p.1=s.heap.objs.size:=λp hp=>by
   have hp':p=(s.heap.objs.size,{ cls:=.type "list",data:=.seq its.toArray nn }):=by simpa using hp
   rw[hp']
  cases k with
  | zero=>
   simp only[cf]at w5;split at w5
   ·rename_i hst;cases w5;rw[JJ]at hw5;subst hw5;refine b9 (T.done (lI X scope cl h2.objs.size N s3 H (fp++[s.heap.objs.size])) rfl rfl rfl hc i _ s5 σ5 H5 _ pinD (fpOk' f5 oneD) t5 (mit.stop A5 H5 _ i e5 so5 hst)) λr s6 #[hr,I6]=>?_
    subst hr;have p6:=I6.pin _ (IG _ (Ip.mpr rfl));exact theEnd s6 σ5 H5 A5 vs _ nn (I6.pins_of λp hp=>absurd hp (by simp)) p6.1 #[its,rfl,v5] n5 e5 so5 rl5
   ·cases w5
  | succ k=>
   simp only[cf]at w5;split at w5
   ·rename_i w hw;obtain⟨go,yl⟩:=mit.go A5 H5 S5 i w e5 so5 hw;refine b9 (T.item (lI X scope cl h2.objs.size N s3 H (fp++[s.heap.objs.size])) rfl rfl rfl hc i _ s5 σ5 H5 _ pinD (fpOk' f5 oneD) t5 go) λr s6 #[u,hr,h6]=>?_
    subst hr;refine b9 h6 λ_ s7 #[x,H7,I7,r7,y7,t7,f7]=>?_
    obtain⟨x1,x2,x3⟩:=yl x H7 y7;have I7':=I7.pinned (fpOk' f7 oneD) (T.obj _ _ t7);split at w5
    ·rename_i ρ8 S8 h8;refine b9 (bk.tgt _ _ _ _ _ s7 σ5 H7 x u (λσ' H'=>∃A',Ext X.K A5 H5 A' H'/\StoreOk X.w X.K A' H' S8/\EnvRel X.K A' H' ρ8 σ') I7' r7 #[A5,ρ5,S5,w,ρ8,S8,er5.mono x1,x2,x3,h8,λσ' H' A' q1 q2 q3=>#[A',x1.trans q1,q2,q3]]) λ_ s8 #[σ8,H8,I8,A8,e58,so8,er8]=>?_
     have e8:Ext X.K A H A8 H8:=e5.trans e58;have pD:∀ {σ':L2.St} {H':Hp} {s':HK},Inv (lI X scope cl h2.objs.size N s3 H (fp++[s.heap.objs.size])) ([(s.heap.objs.size,{ cls:=.type "list",data:=.seq its.toArray nn })]++iZ fp s7.heap) σ' H' s'->s'.heap.get? s.heap.objs.size=gV { cls:=.type "list",data:=.seq its.toArray nn }/\H' s.heap.objs.size=td:=λI'=>
      let q:=I'.pin _ (IG _ (JZ _ (Ip.mpr rfl)))
      #[q.1,q.2.1]
     have pF:∀ {σ':L2.St} {H':Hp} {s':HK},Inv (lI X scope cl h2.objs.size N s3 H (fp++[s.heap.objs.size])) ([(s.heap.objs.size,{ cls:=.type "list",data:=.seq its.toArray nn })]++iZ fp s7.heap) σ' H' s'->(∀b∈fp,H' b=td)/\∀b∈fp,∀o,s7.heap.get? b=gV o->s'.heap.get? b=gV o:=λI'=>
      #[λb hb=>by
       obtain⟨o,eo,_⟩:=T.obj _ _ t7 b hb;exact(I'.pin (b,o) (IG _ (IG _ (fD hb eo)))).2.1,
       λb hb o eo=>(I'.pin (b,o) (IG _ (IG _ (fD hb eo)))).1]
     split at w5
     ·rename_i S9 h9;refine b9 (bk.tst _ _ _ _ _ s8 σ8 H8 (λb H'=>b=true/\∃A',Ext X.K A8 H8 A' H'/\StoreOk X.w X.K A' H' S9) I8 #[A8,ρ8,S8,true,S9,er8,so8,h9,λb H' #[z0,A',z1,z2]=>#[z0,A',z1,z2]]) λb s9 #[H9,I9,z0,A9,e9,so9]=>?_
      subst z0;rw[Iw rfl];split at w5
      ·rename_i y S10 h10;split at w5
       ·rename_i ys' S4 h11;cases w5;refine b9 (bk.elt _ _ _ _ _ s9 σ8 H9 (EndV X.w X.K A9 H9 S10 y) I9 #[A9,ρ8,S9,y,S10,er8.mono e9,so9,h10,λ_ _ z=>z]) λu10 s10 #[v10,H10,I10,r10,A10,e10,so10,rl10]=>?_
        obtain⟨d10,n10⟩:=pD I10;obtain⟨f10,k10⟩:=pF I10;have hlen:its.length < sizeLine:=by
         have l1:=v5.length;have l2:=rl5.length;rw[hw5,HQ,IW]at hz;omega
        refine n6 d10 hlen λh' n' hd' hk'=>?_
        have Ib:Inv (lI X scope cl h2.objs.size N s3 H (fp++[s.heap.objs.size])) [] σ8 H10 { s10 with heap:=h' }:=by
         have Ia:Inv (lI X scope cl h2.objs.size N s3 H (fp++[s.heap.objs.size])) [] σ8 H10 s10:=I10.pins_of λp hp=>absurd hp (by simp)
         exact Ia.turned (t':=s10.toks) (it:=s.heap.objs.size) hk' n10 hDC (.inl DinEx) cellD (λp hp=>absurd hp (by simp[lI]))
        refine#[k,KA k,i+1,σ8,H10,A10,ρ8,S10,done++[y],its++[u10],n',vs++[v10],ys',Ib,?_,f10,hd',n10,v5.append #v[r10],(e8.trans e9).trans e10,(er8.mono e9).mono e10,so10,?_,?_,h11]
        ·exact T.keep (i+1) s7.heap h' t7 λb hb o eo=>hk' b o (fpD b hb) (k10 b hb o eo)
        ·exact(rl5.mono ((e58.trans e9).trans e10)).append #v[rl10]
        ·rw[hw5,KM]; rfl
       ·cases w5
      ·cases w5
     ·rename_i S9 h9;refine b9 (bk.tst _ _ _ _ _ s8 σ8 H8 (λb H'=>b=false/\∃A',Ext X.K A8 H8 A' H'/\StoreOk X.w X.K A' H' S9) I8 #[A8,ρ8,S8,false,S9,er8,so8,h9,λb H' #[z0,A',z1,z2]=>#[z0,A',z1,z2]]) λb s9 #[H9,I9,z0,A9,e9,so9]=>?_
      subst z0;rw[IH Iu];obtain⟨d9,n9⟩:=pD I9;obtain⟨f9,k9⟩:=pF I9;refine#[k,KA k,i+1,σ8,H9,A9,ρ8,S9,done,its,nn,vs,ys,I9.pins_of λp hp=>absurd hp (by simp),T.keep (i+1) s7.heap _ t7 k9,f9,d9,n9,v5,e8.trans e9,er8.mono e9,so9,rl5.mono (e58.trans e9),hw5,w5]
     ·cases w5
    ·cases w5
   ·cases w5
 exact codeAny_compStart_list (loop _ rfl) (T.self X.A 0 _ _ _ t1 (loop _ rfl))
theorem p8 {fi:FI}{g:FG}{c:FT}{f:FE}{cap:HF (HL HM)}{ρ:Fm}{S:aa}{w:W}{S':aa}(e:kP fi g c f cap ρ S=gV (w,S')) :
  ∃mi S1 n ys S2,fi ρ S=gV (mi,S1)/\mi.len S1=gV n/\cf mi g c f n 0 (fN cap ρ) S1=gV (ys,S2)/\ys.length<=sizeLine/\w=.ref S2.length/\S'=S2++[.lst ys]:=by
 unfold kP at e;split at e
 ·rename_i mi S1 h1;split at e
  ·rename_i n h2;split at e
   ·rename_i ys S2 h3;obtain⟨h4,h5,h6⟩:=ke e;exact#[mi,S1,n,ys,S2,h1,h2,h3,h4,h5,h6]
   ·cases e
  ·cases e
 ·cases e
theorem AF {scope:KL}{N:HF Ik}{cap:HF (HL HM)}{tg elt iter:Iv}{ifs:HF Iv}{fi:FI}{g:FG}{c:FT}{f:FE}{pos:Kf}(hc:X.calm=true)(hi:GI X tg iter fi)(hck:X.Ok->∃cl,CompOk X scope cl N cap/\BlockOk X scope cl N tg elt ifs g c f)
  (hs:∀x,foldedSetIterable iter X.env x=pure x):GE X (.ListComp elt [#[tg,iter,ifs,0]] scope pos) (kP fi g c f cap):=by
 intro pins s σ H Q I ⟨A,ρ,S,w,S',er,so,e,hq⟩;obtain⟨mi,S1,n,ys,S2,h1,h2,h3,h4,rfl,rfl⟩:=p8 e;obtain⟨cl,ck,bk⟩:=hck I.ok;rw[eval_ListComp];refine Mj (use:=td) rfl hs ck.clos ck.kind ck.names (b9 (hi pins s σ H (λJ H'=>∃A',Ext X.K A H A' H'/\StoreOk X.w X.K A' H' S1/\MIt X.w X.K mi J A' H') I #[A,ρ,S,mi,S1,er,so,h1,λJ H' A' z1 z2 z3=>#[A',z1,z2,z3]]) λv s1 q1=>b9 q1 λitv s2 q2=>?_)
 obtain⟨it,fp,tn,J,H2,rfl,I2,T,t0,hfp,A2,e2,so2,mit⟩:=q2;refine mQ (RR:=λacc C=>compPost (model X.prog X.w) X.A X.xe td (EP X pins σ Q) acc C) I2 hc (er.mono e2) so2 ck bk T t0 hfp mit h3 h4 ?_
 intro D C s' H' A' vs m hn hDn hDC hCL hCf hCn hCs hCc hCp I3 ex so3 rl;refine#[m,hn,λh' hs'=>?_]
 have I4:Inv X pins σ (cp H' D (.lst vs)) { s' with heap:=h' }:=I3.turned (t':=s'.toks) (it:=C) (λb o hb eo=>hs'.extBut b o hb eo) (by rw[aV (Ne.symm hDC)]; exact hCn) hCL (.inr hCs) hCc hCp
 exact#[.ref D,_,I4,rfl,hq _ _ (EndV.after (e2.trans ex) (.lst so3 rl hDn))]
theorem rP {scope:KL}{N:HF Ik}{cap:HF (HL HM)}{tg elt iter:Iv}{ifs:HF Iv}{fi:FI}{g:FG}{c:FT}{f:FE}{pos py spos:Kf}{y:Ik}{i:HM}(hc:X.calm=true)(hi:GI X tg iter fi)(hck:X.Ok->∃cl,CompOk X scope cl N cap/\BlockOk X scope cl N tg elt ifs g c f)
  (hs:∀x,foldedSetIterable iter X.env x=pure x) (hsw:swapsWith (.ListComp elt [#[tg,iter,ifs,0]] scope pos) (gV (.Name y py)) spos.line X.env=pure true) (hN:X.N.Nodup) (hy:X.N[i]?=gV y) (hl:X.env.scope.names.lookup y=gV .local) :
  GS X (.Assign [.Name y py] (.ListComp elt [#[tg,iter,ifs,0]] scope pos) spos) (kO (kP fi g c f cap) (As i)):=by
 intro pins s σ H Dd I ⟨A,ρ,S,o,S',er,so,e,hd⟩;unfold kO at e;split at e
 ·rename_i w S0 h0;simp only[As]at e;cases e;obtain⟨mi,S1,n,ys,S2,h1,h2,h3,h4,rfl,rfl⟩:=p8 h0;obtain⟨cl,ck,bk⟩:=hck I.ok;rw[exec_Assign_Name_used _ _ _ _ hsw];refine HG (Lx (HG ?_));show wpAny _ X.A (do let _ <- comprehension (.ListComp elt [⟨tg,iter,ifs,0⟩] scope pos) scope X.env _ (newList []) false (eval iter X.env) (gV (assign (.Name y py) X.env))) _ _ s
  refine HG (JR (Mj (use:=gV (assign (.Name y py) X.env)) (Q:=λ_ s'=>SP X pins Dd .next s') rfl hs ck.clos ck.kind ck.names
   (b9 (hi pins s σ H (λJ H'=>∃A',Ext X.K A H A' H'/\StoreOk X.w X.K A' H' S1/\MIt X.w X.K mi J A' H') I #[A,ρ,S,mi,S1,er,so,h1,λJ H' A' z1 z2 z3=>#[A',z1,z2,z3]]) λv s1 q1=>b9 q1 λitv s2 q2=>?_)) (λ_ s' hq=>HU (HU hq)) λ_ _ e=>e)
  obtain⟨it,fp,tn,J,H2,rfl,I2,T,t0,hfp,A2,e2,so2,mit⟩:=q2;refine mQ (RR:=λacc C=>compPost (model X.prog X.w) X.A X.xe (gV (assign (.Name y py) X.env)) (λ_ s'=>SP X pins Dd .next s') acc C) I2 hc (er.mono e2) so2 ck bk T t0 hfp mit h3 h4 ?_
  intro D C s' H' A' vs m hn hDn hDC hCL hCf hCn hCs hCc hCp I3 ex so3 rl;obtain⟨oC,esC,epC,hoC,hdC,hrC⟩:=id hn;have I3':Inv X (pins++[(C,oC)]) σ (cp H' D (.lst vs)) s':=I3.pins_of λp hp=>by
   rcases IU.mp hp with hp|hp
   ·exact I3.pin p (IG _ hp)
   ·have hp':p=(C,oC):=by simpa using hp
    subst hp';exact#[hoC,by rw[aV (Ne.symm hDC)]; exact hCn,hCL,hCf,λv z=>by rw[hdC]at z; cases z]
  show wpAny _ X.A (assign (.Name y py) X.env (.ref D)) _ _ _;refine NB (ik I3' hN hy (.inl hl) (v:=.ref D) rfl (λs4 I4=>?_) (.inr hl))
  have pC:=I4.pin (C,oC) (IG _ (IG _ (Ip.mpr rfl)));refine#[m,#[oC,esC,epC,pC.1,hdC,hrC],λh' hs'=>?_]
  have I5:Inv X pins (σ.set i (gV (.ref D))) (cp H' D (.lst vs)) s4:=I4.pins_of λp hp=>I4.pin p (IG _ (JZ _ hp))
  have I6:Inv X pins (σ.set i (gV (.ref D))) (cp H' D (.lst vs)) { s4 with heap:=h' }:=I5.turned (t':=s4.toks) (it:=C) (λb o hb eo=>hs'.extBut b o hb eo) (by rw[aV (Ne.symm hDC)]; exact hCn) hCL (.inr hCs) hCc hCp
  obtain⟨Af,f1,f2,f3⟩:=EndV.after (e2.trans ex) (EndV.lst so3 rl hDn);exact#[_,_,I6,hd.nx _ _ #[_,Af,rfl,f1,f2,(er.mono f1).set f3 i]]
 ·cases e
end
open PySem.Builtin.SmallTypes (nextOf)
section
variable{prog:IC}{w:IP}
structure Zit (prog:IC)(w:IP)(it:HR)(T:HM->IZ->Prop)(C:IZ->Prop)(i:HM)(U:HL (HH->Prop)):Prop where
 keep:∀j h h',T j h->(∀o,h.get? it=gV o->h'.get? it=gV o)->T j h'
 next:∀V,U=gV V->∀(B:IL) (s:HK) (Q:HH->HK->Prop) (E:HH->HK->Prop),T i s.heap->C s.heap->(∀u h' tk,V u->T (i+1) h'->Kn it s.heap h'->Q u { s with heap:=h',toks:=tk })->wpAny (model prog w) B (nextOf (.ref it)) Q E s
 stop:U=td->∀(B:IL) (s:HK) (Q:HH->HK->Prop) (E:HH->HK->Prop),B.handled=td->T i s.heap->C s.heap->(∀h' e,MT it s.heap h'->(∃o,h'.get? e=gV o/\o.cls=.type "StopIteration")->E (.ref e) { s with heap:=h' })->wpAny (model prog w) B (nextOf (.ref it)) Q E s
variable{B:IL}{E:HH->HK->Prop}{s:HK}{z p q i1 i2:HR}{T1 T2:HM->IZ->Prop}{C1 C2:IZ->Prop}{i:HM}{a b:HH}
noncomputable def Zc (z q i1 i2:HR)(C:IZ->Prop):Prop:=∀h h',C h->(∀c o,c≠z->c≠q->c≠i1->c≠i2->h.get? c=gV o->h'.get? c=gV o)->C h'
end
end Mi
namespace Mi
open PySem PySem.Spec PyProof.Rows L2
open PySem.Builtin.SmallTypes (nextOf)
noncomputable def rQ (prog:IC)(w:IP)(v:HH)(o:JE)(C:IZ->Prop):Prop:=∀(B:IL) (s:HK) (Q:HH->HK->Prop) (E:HH->HK->Prop),C s.heap->Q (.ref s.heap.objs.size) { s with heap:=s.heap.push o }->wpAny (model prog w) B (pyIter v) Q E s
end Mi
namespace Mi
open PySem PySem.Spec PyProof.Rows L2
open PySem.Builtin.SmallTypes (nextOf)
section
variable{prog:IC}{w:IP}{A:IL}{E:HH->HK->Prop}{s:HK}
theorem EW {it t:HR}{i:HM}{items:IY HH}{x:HH}{Q:HH->HK->Prop}(hit:s.heap.IsTupleIter it t i)(ht:s.heap.IsTuple t items)(hx:items[i]?=gV x)
  (hQ:∀h',h'.IsTupleIter it t (i+1)->Kn it s.heap h'->Q x { s with heap:=h' }):wpAny (model prog w) A (nextOf (.ref it)) Q E s:=by
 obtain⟨o,ho,hc,hd⟩:=id hit;obtain⟨ot,hot,_,nt,hdt⟩:=ht;unfold L4;refine HG (Jp (name:=J6 "__next__") hit.typeIs F.slot_tuple_iterator_next (Jv F.slot_tuple_iterator_next hit.typeIs F.entry_tuple_iterator_next ?_ (F.args_tuple_iterator_next_1 _)));show wpAny _ _ (field (.ref it) 0 >>= _) _ _ s;refine HG (J0 ho hd (x:=.ref t) rfl ?_);show wpAny _ _ (if (IV t==Ji)=true then _ else _) _ _ s
 rw[IH (show ¬ ((IV t==Ji)=true)from Iu)]
 show wpAny _ _ (field (.ref it) 1 >>= _) _ _ s;refine HG (J0 ho hd (x:=.int i 0) rfl (HG (KU hot hdt ?_)));simp only[HY,hx];refine HG (LR ho hd (by simp) (HU #[x,rfl,HU (hQ _ #[_,Kg _ ho (MO (Ld hd _)),(NO ..).trans hc,?_] (K6 ..))]))
 rw[Ld hd]; simp[rawInt]
theorem EX {it t:HR}{i:HM}{items:IY HH}{Q:HH->HK->Prop}(hh:A.handled=td)(hit:s.heap.IsTupleIter it t i)(ht:s.heap.IsTuple t items)(hx:items[i]?=td)
  (hE:∀h' e,MT it s.heap h'->(∃o,h'.get? e=gV o/\o.cls=.type "StopIteration")->E (.ref e) { s with heap:=h' }):wpAny (model prog w) A (nextOf (.ref it)) Q E s:=by
 obtain⟨o,ho,hc,hd⟩:=id hit;obtain⟨ot,hot,_,nt,hdt⟩:=ht;unfold L4;refine HG (Jp (name:=J6 "__next__") hit.typeIs F.slot_tuple_iterator_next (Jv F.slot_tuple_iterator_next hit.typeIs F.entry_tuple_iterator_next ?_ (F.args_tuple_iterator_next_1 _)));show wpAny _ _ (field (.ref it) 0 >>= _) _ _ s;refine HG (J0 ho hd (x:=.ref t) rfl ?_);show wpAny _ _ (if (IV t==Ji)=true then _ else _) _ _ s
 rw[IH (show ¬ ((IV t==Ji)=true)from Iu)]
 show wpAny _ _ (field (.ref it) 1 >>= _) _ _ s;refine HG (J0 ho hd (x:=.int i 0) rfl (HG (KU hot hdt ?_)));simp only[HY,hx];refine HG (Nl (HG (LR ho hd (by simp) ?_)))
 show wpAny _ _ (newExc (.type "StopIteration") [] >>= _) _ _ _;refine HG ?_;simp only[newExc,newTuple];refine HG (Ja ?_ (by size_fits))
 refine HG (m:=firstArgMember _ _) (MU (a:=Ji) (by first|rfl|(simp only[firstArgMember]; rfl)) (Ja ?_ (by size_fits)))
 simp only[raiseNew];refine HG (O1 ?_)
 first|rw[show A.in1.handled=td from hh]|rw[hh]
 exact HG (HU (Pp (hE _ _ (((K6 ..).extBut.push _).push _) #[_,Iq _ rfl,rfl])))
end
inductive Zs where|tup (a:HR)|lst (a:HR)|txt (x:Ik)
noncomputable def Zs.T (it:HR):Zs->HM->IZ->Prop
 | .tup a,i,h=>h.IsTupleIter it a i
 | .lst a,i,h=>h.IsListIter it a i
 | .txt x,i,h=>∃t,h.IsStrIter it "str_ascii_iterator" x t i\/h.IsStrIter it "str_iterator" x t i
noncomputable def Zs.at (K:HW)(H:Hp)(i:HM)(v:V):Zs->Prop
 | .tup a=>∃xs,SqT K H a xs/\xs[i]?=gV v
 | .lst a=>∃xs,SqL K H a xs/\xs[i]?=gV v
 | .txt x=>∃c,x.cps[i]?=gV c/\v=.str #[[c].toArray]
noncomputable def Zs.out (K:HW)(H:Hp)(i:HM):Zs->Prop
 | .tup a=>∃xs,SqT K H a xs/\xs.length<=i
 | .lst a=>∃xs,SqL K H a xs/\xs.length<=i
 | .txt x=>x.cps.size<=i
theorem Zs.keep {S:Zs}{it:HR}{j:HM}{h h':IZ}(t:S.T it j h)(k:∀o,h.get? it=gV o->h'.get? it=gV o):S.T it j h':=by
 cases S with
 | tup a=>exact t.at k
 | lst a=>exact t.at k
 | txt x=>
  obtain⟨tk,t⟩:=t;exact#[tk,t.imp (λ#[o,e,r]=>#[o,k _ e,r]) λ#[o,e,r]=>#[o,k _ e,r]]
section
variable{X:Cx}{pins:HF (HR×JE)}{σ:L2.St}{H:Hp}{s:HK}
theorem xv (I:Inv X pins σ H s){a b:HR}{o:JE}(h:X.K.lookup a=gV o)(f:iY X pins H b):a≠b:=λz=>by
 subst z;have hb:=I.ok.mod.kin a o h;rcases f.2.2.2.1 with q|q
 ·exact I.ok.noex a o hb q
 ·exact absurd (IE (Io (I.ok.bs a o hb).1) q) (Ju _)
end
end Mi
namespace Mi
open PySem PySem.Spec PyProof.Rows L2
open PySem.Builtin.SmallTypes (nextOf)
section
variable{X:Cx}{pins:HF (HR×JE)}{σ:L2.St}{H:Hp}{s:HK}{h':IZ}
theorem xw {a b:HR}{u:HO}(h:Rd H a u)(f:H b=td):a≠b:=λz=>by
 subst z;rcases h with h|⟨o,h⟩ <;> (rw[f]at h; cases h)
theorem Inv.turnedL {t':HM}{ch:HF HR}(I:Inv X pins σ H s)(k:∀b o,b∉ch->s.heap.get? b=gV o->h'.get? b=gV o)(hf:∀b∈ch,iY X pins H b):Inv X pins σ H { s with heap:=h',toks:=t' }:=by
 have nit:∀b u,H b=gV u->b∉ch:=λb u e z=>by have:=(hf b z).1; rw[e]at this; cases this
 refine I.step (g':=s.gens) (d':=s.drawn) (ch:=ch) (λb hb=>?_) (λb o _ _ hc e _=>k b o hc e) (λb o _ _ hc e _=>#[o.slots,k b o hc e]) (λ_ _ _ _ n=>n) (λb o hc e=>#[o,k b o hc e]) (λ_ _ e=>e) (λ_ _ _ e=>e) (λb ps e=>#[#[],by rw[e]; simp]) (λm hm=>?_) (λb u e=>?_) I.bare
 ·obtain⟨_,f1,_,f3,f4,f5⟩:=hf b hb;exact#[f3,f1,f4,f5]
 ·obtain⟨o,es,ep,ho,r⟩:=hm;exact#[o,es,ep,k _ o (λz=>(hf _ z).2.1 rfl) ho,r]
 ·refine(I.hok b u e).stay (λc v hc q=>k c v ?_ q) (λ_ q=>q) λ_ _ q=>q
  rcases hc with z|z
  ·rw[z]; exact nit b u e
  ·exact nit c _ z
theorem Zs.zit {S:Zs}{it z q i1 i2:HR}{i:HM}{U:HL V}(I:Inv X pins σ H s)(hf:∀b∈[z,q,i1,i2],iY X pins H b)(g:match U with|some v=>S.at X.K H i v|none=>S.out X.K H i) :
  ∃C,Zit X.prog X.w it (S.T it) C i (U.map λv u=>RelV v u)/\C s.heap/\Zc z q i1 i2 C:=by
 have zc:∀(a:HR) (P:IZ->Prop),(∀h h',P h->(∀o,h.get? a=gV o->h'.get? a=gV o)->P h')->(∀b∈[z,q,i1,i2],a≠b)->Zc z q i1 i2 P:=λa P hP hn h h' p k=>
  hP h h' p λo e=>k a o (hn z (by simp)) (hn q (by simp)) (hn i1 (by simp)) (hn i2 (by simp)) e
 have sep:∀ {a:HR} {u:HO} {o:JE} {b:HR},(Rd H a u\/X.K.lookup a=gV o)->b∈[z,q,i1,i2]->a≠b:=λh hb=>h.elim (λr=>xw r (hf _ hb).1) λr=>xv I r (hf _ hb)
 cases S with
 | tup a=>
  obtain⟨xs,hq,hx⟩ : ∃xs,SqT X.K H a xs/\(match U with|some v=>xs[i]?=gV v|none=>xs.length<=i):=by
   cases U <;> exact g
  obtain⟨its,rv,p,_⟩:=I.tuple hq;have hne:∀b∈[z,q,i1,i2],a≠b:=λb hb=>by
   rcases hq with r|⟨o,_,_,r,_⟩
   ·exact xw r (hf b hb).1
   ·exact xv I r (hf b hb)
  refine#[λh=>h.IsTuple a its.toArray,#[λj h h' t k=>Zs.keep (S:=.tup a) t k,λV hV B s2 Q E t c hQ=>?_,λhU B s2 Q E hh t c hE=>?_],p,zc a _ (λh h' #[o,e,r] k=>#[o,k _ e,r]) hne]
  ·cases U with
   | none=>cases hV
   | some v=>
    cases hV;obtain⟨u,hu,ru⟩:=rv.get hx;exact EW t c (x:=u) (by simpa using hu) λh' t' sb=>hQ u h' s2.toks ru t' sb
  ·cases U with
   | some v=>cases hU
   | none=>
    have:=L2.Vals.length rv;have hx':xs.length<=i:=hx;exact EX hh t c (by simp; omega) hE
 | lst a=>
  obtain⟨xs,hq,hx⟩ : ∃xs,SqL X.K H a xs/\(match U with|some v=>xs[i]?=gV v|none=>xs.length<=i):=by
   cases U <;> exact g
  obtain⟨its,rv,p,_⟩:=I.list hq;have hne:∀b∈[z,q,i1,i2],a≠b:=λb hb=>by
   rcases hq with r|⟨o,_,_,r,_⟩
   ·exact xw r (hf b hb).1
   ·exact xv I r (hf b hb)
  refine#[λh=>h.IsList a its.toArray,#[λj h h' t k=>Zs.keep (S:=.lst a) t k,λV hV B s2 Q E t c hQ=>?_,λhU B s2 Q E hh t c hE=>?_],p.isList,zc a _ (λh h' #[o,e,r] k=>#[o,k _ e,r]) hne]
  ·cases U with
   | none=>cases hV
   | some v=>
    cases hV;obtain⟨u,hu,ru⟩:=rv.get hx;exact wpAny_nextOf_list_item t c (x:=u) (by simpa using hu) λh' t' sb=>hQ u h' s2.toks ru t' sb
  ·cases U with
   | some v=>cases hU
   | none=>
    have:=L2.Vals.length rv;have hx':xs.length<=i:=hx;exact wpAny_nextOf_list_end hh t c (by simp; omega) hE
 | txt x=>
  refine#[λ_=>Ny,#[λj h h' t k=>Zs.keep (S:=.txt x) t k,λV hV B s2 Q E t _ hQ=>?_,λhU B s2 Q E hh t _ hE=>?_],trivial,λ_ _ _ _=>trivial]
  ·cases U with
   | none=>cases hV
   | some v=>
    cases hV;obtain⟨c,hc,rfl⟩ : ∃c,x.cps[i]?=gV c/\v=.str #[[c].toArray]:=g;obtain⟨tk,t|t⟩:=t
    ·exact wpAny_nextOf_ascii_item t hc λh' t' sb=>hQ _ h' _ #[_,rfl] #[tk,.inl t'] sb
    ·exact wpAny_nextOf_wide_item t hc λh' t' sb=>hQ _ h' _ #[_,rfl] #[tk,.inr t'] sb
  ·cases U with
   | some v=>cases hU
   | none=>
    have hx:x.cps[i]?=td:=by simpa using(show x.cps.size<=i from g)
    obtain⟨tk,t|t⟩:=t
    ·exact wpAny_nextOf_ascii_end hh t hx hE
    ·exact wpAny_nextOf_wide_end hh t hx hE
end
noncomputable def Zs.is (K:HW)(H:Hp)(i:HM)(v:V):Zs->Prop
 | .tup a=>∀xs,SqT K H a xs->xs[i]?=gV v
 | .lst a=>∀xs,SqL K H a xs->xs[i]?=gV v
 | .txt x=>∃c,x.cps[i]?=gV c/\v=.str #[[c].toArray]
theorem Zs.at_is {S:Zs}{X:Cx}{pins:HF (HR×JE)}{σ:L2.St}{H:Hp}{s:HK}{i:HM}{v:V}(I:Inv X pins σ H s)(h:S.at X.K H i v):S.is X.K H i v:=by
 cases S with
 | tup a=>obtain⟨xs,hq,hx⟩:=h; exact λys hy=>by rw[I.tuple_inj hy hq]; exact hx
 | lst a=>obtain⟨xs,hq,hx⟩:=h; exact λys hy=>by rw[I.list_inj hy hq]; exact hx
 | txt x=>exact h
end Mi
namespace Mi
open PySem PySem.Spec PyProof.Rows L2
noncomputable def GP:W->HL (HF W)
 | .tup xs=>gV xs
 | .str x=>gV (x.cps.toList.map λc=>.str #[[c].toArray])
 | _=>td
section
variable{X:Cx}{pins:HF (HR×JE)}{σ:L2.St}{H:Hp}{s:HK}{A:HF HR}
noncomputable def ZRel (K:HW)(A:HF HR)(H:Hp)(xs:HF W):Zs->Prop
 | .tup a=>∃vs,SqT K H a vs/\RelL K A H xs vs
 | .lst a=>Jq
 | .txt x=>xs=x.cps.toList.map λc=>.str #[[c].toArray]
theorem ZRel.mono {K:HW}{A A':HF HR}{H H':Hp}{xs:HF W}{S:Zs}(e:Ext K A H A' H')(h:ZRel K A H xs S):ZRel K A' H' xs S:=by
 cases S with
 | tup a=>obtain⟨vs,h1,h2⟩:=h; exact#[vs,e.tp _ _ h1,h2.mono e]
 | lst a=>exact h
 | txt x=>exact h
theorem ZRel.at {K:HW}{xs:HF W}{S:Zs}{i:HM}{w:W}(h:ZRel K A H xs S)(hi:xs[i]?=gV w):∃v,S.at K H i v/\Rel K A H w v:=by
 cases S with
 | tup a=>obtain⟨vs,h1,h2⟩:=h; obtain⟨v,h3,h4⟩:=h2.get hi; exact#[v,#[vs,h1,h3],h4]
 | lst a=>exact h.elim
 | txt x=>
  have h:xs=x.cps.toList.map λc=>.str #[[c].toArray]:=h
  subst h;rw[HS,HJ]at hi;obtain⟨c,hc,rfl⟩:=hi;exact#[.str #[[c].toArray],#[c,by rw[<- JF]; exact hc,rfl],.str]
theorem ZRel.is {K:HW}{xs:HF W}{S:Zs}{i:HM}{w:W}{v:V}(h:ZRel K A H xs S)(hi:xs[i]?=gV w)(z:S.is K H i v):Rel K A H w v:=by
 obtain⟨v',h1,h2⟩:=h.at hi;cases S with
 | tup a=>
  obtain⟨vs,q,e⟩:=h1;have:=z vs q;rw[e]at this; cases this
  exact h2
 | lst a=>exact h.elim
 | txt x=>
  obtain⟨c,e,rfl⟩:=h1;obtain⟨c',e',rfl⟩:=z;rw[e]at e'; cases e'
  exact h2
theorem ZRel.out {K:HW}{xs:HF W}{S:Zs}{i:HM}(h:ZRel K A H xs S)(hi:xs.length<=i):S.out K H i:=by
 cases S with
 | tup a=>obtain⟨vs,h1,h2⟩:=h; exact#[vs,h1,by rw[<- h2.length]; exact hi]
 | lst a=>exact h.elim
 | txt x=>
  have h:xs=x.cps.toList.map λc=>.str #[[c].toArray]:=h
  subst h;show x.cps.size<=i
  simpa using hi
theorem AG {x:W}{v:V}{u:HH}{xs:HF W}(I:Inv X pins σ H s)(r:Rel X.K A H x v)(ru:RelV v u)(e:GP x=gV xs) :
  ∃(S:Zs) (o:JE) (C:IZ->Prop),ZRel X.K A H xs S/\rQ X.prog X.w u o C/\C s.heap/\(∀h o,C h->C (h.push o))/\o.isFreed=false/\∀it h,h.get? it=gV o->S.T it 0 h:=by
 cases r with
 | @tup ws a vs hq rl=>
  cases e;obtain⟨its,rv,p,_⟩:=I.tuple hq;obtain rfl:u=IV a:=ru;exact#[.tup a,{ cls:=.type "tuple_iterator",data:=.fields [.ref a,.int 0 0].toArray },λh=>h.IsTuple a its.toArray,#[vs,hq,rl],λB s Q E c hQ=>Nt c hQ,p,λh o #[ot,e,r]=>#[ot,HP _ e,r],rfl,λit h e=>#[_,e,rfl,rfl]]
 | @str x=>
  cases e;obtain⟨t,rfl⟩:=ru;cases ha:x.cps.all (· < 128)with
  | false=>exact#[.txt x,{ cls:=.type "str_iterator",data:=.fields [.str x t,.int 0 0].toArray },λ_=>Ny,rfl,λB s Q E _ hQ=>wpAny_pyIter_wide ha hQ,trivial,λ_ _ _=>trivial,rfl,λit h e=>#[t,.inr #[_,e,rfl,rfl]]]
  | true=>exact#[.txt x,{ cls:=.type "str_ascii_iterator",data:=.fields [.str x t,.int 0 0].toArray },λ_=>Ny,rfl,λB s Q E _ hQ=>wpAny_pyIter_ascii ha hQ,trivial,λ_ _ _=>trivial,rfl,λit h e=>#[t,.inl #[_,e,rfl,rfl]]]
 | _=>cases e
end
open PySem.Builtin.SmallTypes (nextOf)
section
variable{prog:IC}{w:IP}{B:IL}{E:HH->HK->Prop}{s:HK}{e it:HR}{T:HM->IZ->Prop}{C:IZ->Prop}{i:HM}{old:HH}
structure EnAt (h0 h:IZ)(e it:HR)(fs:IY HH)(T:IZ->Prop):Prop where
 here:h.get? e=gV { cls:=.type "enumerate",dict:=td,data:=.fields fs,slots:=#[] }
 turn:T h
 kept:∀b o,b≠e->b≠it->h0.get? b=gV o->h.get? b=gV o
theorem EnAt.put {h0:IZ}{fs:IY HH}{T:IZ->Prop}{k:HM}{v:HH}{Q:Unit->HK->Prop}(x:EnAt h0 s.heap e it fs T)(hne:e≠it)(kT:∀h h',T h->(∀o,h.get? it=gV o->h'.get? it=gV o)->T h')(hk:k < fs.size)
  (q:∀h',EnAt h0 h' e it (fs.setIfInBounds k v) T->Kn e s.heap h'->Q () { s with heap:=h' }):wpAny (model prog w) B (setField (.ref e) k v) Q E s:=
 wpAny_setField_rec x.here hk λh' y sb=>q h' #[y,kT _ _ x.turn λo z=>sb.extBut _ _ (Ne.symm hne) z,λb o h1 h2 z=>sb.extBut b o h1 (x.kept b o h1 h2 z)] sb
theorem mR {U:HL (HH->Prop)}{Q:HH->HK->Prop}(Z:Zit prog w it T C i U)(hh:B.handled=td)(he:PL s.heap e it (i:Ig) old)(t:T i s.heap)(c:C s.heap)(hne:e≠it)
  (hI:∀V,U=gV V->∀u h' tk tk0,V u->IsEnumOut h' e it ((i:Ig)+1) u s.heap.objs.size->T (i+1) h'->h'.get? s.heap.objs.size=gV { cls:=.type "tuple",data:=.seq [.int i tk0,u].toArray }->
   (∀b o,b≠e->b≠it->s.heap.get? b=gV o->h'.get? b=gV o)->Q (.ref s.heap.objs.size) { s with heap:=h',toks:=tk })
  (hE:U=td->∀h' x,MT it s.heap h'->(∃o,h'.get? x=gV o/\o.cls=.type "StopIteration")->E (.ref x) { s with heap:=h' }) :
  wpAny (model prog w) B (M2.«enumerate.__next__» #[[.ref e],[]]) (λfin s'=>∃v,fin=.done (.ret v)/\Q v s') E s:=by
 obtain⟨hp,g,d,tk,os⟩:=s;show wpAny _ _ (field (.ref e) 2 >>= _) _ _ _;refine HG (J0 he rfl (x:=.ref it) rfl (HG ?_));cases U with
 | none=>exact Z.stop rfl _ _ _ _ hh t c λh' x a b=>hE rfl h' x a b
 | some V=>
  refine Z.next V rfl _ _ _ _ t c λu ha tka hu ta sba=>?_
  have kT:=Z.keep (i+1);have xa:EnAt hp ha e it [.none,.bool false,.ref it,rawInt i,.none,old].toArray (T (i+1)):=#[(sba.2 e hne).trans he,ta,λb o _ h2 z=>sba.extBut b o h2 z]
  have za:ha.objs.size=hp.objs.size:=sba.1;clear sba ta;show wpAny _ _ (field (.ref e) 3 >>= _) _ _ #[ha,g,d,tka,os];refine HG (J0 xa.here rfl (x:=rawInt i) rfl ?_);show wpAny _ _ (field (.ref e) 4 >>= _) _ _ #[ha,g,d,tka,os];refine HG (J0 xa.here rfl (x:=.none) rfl ?_);show wpAny _ _ (mkInt i >>= _) _ _ #[ha,g,d,tka,os];refine HG (Oi (HG (xa.put (s:=#[ha,g,d,tka+1,os]) hne kT (by simp) λhb xb sb1=>HG (xb.put (s:=#[hb,g,d,tka+1,os]) hne kT (by simp) λhc xc sb2=>HG (OI ?_)))))
  have zc:hc.objs.size=hp.objs.size:=by rw[sb2.1,<- za]; exact sb1.1
  have hel:hp.objs.size≠e:=KF (Io he);have new:=Iq hc (o:={ cls:=.type "tuple",data:=.seq [.int i tka,u].toArray }) rfl;have xd:EnAt hp (hc.push { cls:=.type "tuple",data:=.seq [.int i tka,u].toArray }) e it [.none,.bool false,.ref it,rawInt ((i:Ig)+1),.none,old].toArray (T (i+1)):=#[HP _ xc.here,kT _ _ xc.turn λo z=>HP _ z,λb o h1 h2 z=>HP _ (xc.kept b o h1 h2 z)]
  rw[zc]at new;show wpAny _ _ (La (.ref e) >>= _) _ _ #[hc.push _,g,d,tka+1,os];rw[zc];generalize hc.push { cls:=.type "tuple",data:=.seq [.int i tka,u].toArray }=hd at new xd ⊢;clear zc sb2 xc sb1 xb hb xa za;refine HG ?_;unfold La;refine HG (J0 xd.here rfl (x:=.none) rfl (HU ?_));simp only[KG];refine HG (Nl (HG (J0 xd.here rfl (x:=old) rfl (HG (xd.put (s:=#[hd,g,d,tka+1,os]) hne kT (by simp) λh1 x1 s1=>HG ?_)))))
  unfold M7;refine HG (x1.put (s:=#[h1,g,d,tka+1,os]) hne kT (by simp) λh2 x2 s2=>x2.put (s:=#[h2,g,d,tka+1,os]) hne kT (by simp) λh3 x3 s3=>HG (LA (HU #[_,rfl,hI V rfl u h3 (tka+1) tka hu x3.here x3.turn ?_ x3.kept])))
  exact s3.extBut _ _ hel (s2.extBut _ _ hel (s1.extBut _ _ hel new))
variable{v:HH}{o:JE}
theorem p9 (h1:rQ prog w v o C) :
  MeetsIn prog w (M2.«enumerate.__new__» #[[.type "enumerate",v],[]]) (λ_ R s=>C s.heap/\R (.ok (.ret (.ref (s.heap.push o).objs.size))) { s with heap:=(s.heap.push o).push { cls:=.type "enumerate",data:=.fields [.none,.bool false,.ref s.heap.objs.size,rawInt 0,.none,.none].toArray } }):=
 .of_wp λA R s h=>by
  obtain⟨hp,g,d,tk,os⟩:=s;obtain⟨c,h⟩:=h;have hsub:=sub_enumerate;have d1:∀(B:IL) (Q:HH->HK->Prop) (E:HH->HK->Prop),Q (.ref hp.objs.size) #[hp.push o,g,d,tk,os]->wpAny (model prog w) B (pyIter v) Q E #[hp,g,d,tk,os]:=λB Q E q=>h1 B #[hp,g,d,tk,os] Q E c q
  wp_walk
  refine wpAny_stack_any λst=>HU ?_
  split
  ·rename_i c _ _ _ _ _;cases(c==KQ "enumerate")
   ·wp_walk using d1 _ _ _
    exact#[_,rfl,h]
   ·wp_walk using d1 _ _ _
    exact#[_,rfl,h]
  ·wp_walk using d1 _ _ _
   exact#[_,rfl,h]
theorem u4 {Q:HH->HK->Prop}(h1:rQ prog w v o C)(c:C s.heap)(n1:o.isFreed=false)
  (h:∀h',PL h' (s.heap.objs.size+1) s.heap.objs.size 0 .none->h'.get? s.heap.objs.size=gV o->(∀b o,s.heap.get? b=gV o->h'.get? b=gV o)->Q (.ref (s.heap.objs.size+1)) { s with heap:=h' }) :
  wpAny (model prog w) B (call (.type "enumerate") [v]) Q E s:=by
 refine callType_newIn F.called_enumerate #v[] (F.typeCall_enumerate_1 _) (F.newCall_enumerate_1 _) (λobj=>F.args_object_init_2 obj _) F.entry_enumerate_new (p9 h1) #[c,?_]
 have hz:(s.heap.push o).objs.size=s.heap.objs.size+1:=OL ..;show _/\_;rw[hz];have he:PL ((s.heap.push o).push { cls:=.type "enumerate",data:=.fields [.none,.bool false,.ref s.heap.objs.size,rawInt 0,.none,.none].toArray }) (s.heap.objs.size+1) s.heap.objs.size 0 .none:=by
  have:=Iq (s.heap.push o) (o:={ cls:=.type "enumerate",data:=.fields [.none,.bool false,.ref s.heap.objs.size,rawInt 0,.none,.none].toArray }) rfl;rw[hz]at this; exact this
 exact#[#[_,he,rfl],h _ he (HP _ (Iq _ n1)) λb o x=>HP _ (HP _ x)]
end
noncomputable def Ho (K:HW)(S1:Zs):It:=
 #[λi H=>∃x,S1.at K H i x,λi H v H'=>∃p x,S1.is K H i x/\v=.ref p/\H p=td/\H'=cp H p (.tup [.int i,x]),λi H=>S1.out K H i]
theorem u5 {P:IC}{w:IP}{K:HW}{els:HF Iv}{k0:HM}{tp:Kf}{S1:Zs}{z i1:HR}(D:z≠i1) :
  Turn P w K (.Tuple els k0 tp) (Ho K S1) [z,i1] z (λi h=>(∃old,PL h z i1 i old)/\S1.T i1 i h) where
 mem:=by simp
 obj:=λi h #[#[old,a],d] b' hb=>by
  have it:∀ {S:Zs} {it:HR},S.T it i h->∃o,h.get? it=gV o/\∀v,o.data≠.cell v:=λ{S it} t=>by
   cases S with
   | tup a=>obtain⟨o,e,_,d⟩:=t; exact#[o,e,λv z=>by rw[d]at z; cases z]
   | lst a=>obtain⟨o,e,_,d⟩:=t; exact#[o,e,λv z=>by rw[d]at z; cases z]
   | txt x=>obtain⟨tk,⟨o,e,_,d⟩|⟨o,e,_,d⟩⟩:=t <;> exact#[o,e,λv z=>by rw[d]at z; cases z]
  simp only[Iz,Jl,KC]at hb;rcases hb with rfl|rfl
  ·exact#[_,a,λv z=>by cases z]
  ·exact it d
 keep:=λi h h' #[#[old,a],d] k=>#[#[old,k z (by simp) _ a],Zs.keep d (k i1 (by simp))]
 item:=by
  intro X hP hw hK hc i pins s σ H E I hf st hg;subst hP hw hK;obtain⟨x,g1⟩:=hg;obtain⟨⟨old,a⟩,d⟩:=st;have hf4:∀b∈[z,z,i1,i1],iY X pins H b:=λb hb=>hf b (by simp only[Iz,Jl,KC]at hb ⊢; rcases hb with h|h|h|h <;> simp[h])
  obtain⟨C1,Z1,c1,k1⟩:=Zs.zit (it:=i1) (U:=gV x) I hf4 g1;have hT:s.TypeIs (.ref z) "enumerate":=#[_,a,rfl];unfold pyNext;refine HG (Mg (Jp (name:=J6 "__next__") hT F.slot_enumerate_next (Jv F.slot_enumerate_next hT F.entry_enumerate_next ?_ (F.args_enumerate_next_1 _))));refine mR Z1 (I.ok.hd hc) a d c1 D (λV e1 u g tk tk0 r1 zg t1 ng kp=>?_) (λz=>by cases z)
  cases e1;refine HU #[_,rfl,?_];refine wpAny_letOwnedTupleGo_enum (s:={ s with heap:=g,toks:=tk }) zg λg' zg' sb=>?_
  have N0:H s.heap.objs.size=td:=I.hok.fresh (HZ _);have lt:∀ {b:HR},b∈[z,i1]->s.heap.objs.size≠b:=λ{b} hb=>by
   have:∃o,s.heap.get? b=gV o:=by
    have it:∀ {S:Zs} {it:HR},S.T it i s.heap->∃o,s.heap.get? it=gV o:=λ{S it} t=>by
     cases S with
     | tup a=>obtain⟨o,e,_⟩:=t; exact#[o,e]
     | lst a=>obtain⟨o,e,_⟩:=t; exact#[o,e]
     | txt x=>obtain⟨tk,⟨o,e,_⟩|⟨o,e,_⟩⟩:=t <;> exact#[o,e]
    simp only[Iz,Jl,KC]at hb;rcases hb with rfl|rfl
    ·exact#[_,a]
    ·exact it d
   obtain⟨o,e⟩:=this;exact KF (Io e)
  have up:∀b o,b∉[z,i1]->s.heap.get? b=gV o->g'.get? b=gV o:=λb o hb e=>by
   simp only[Iz,Jl,KC,not_or]at hb;exact sb.extBut _ _ hb.1 (kp b o hb.1 hb.2 e)
  have I1:Inv X pins σ H { s with heap:=g',toks:=tk }:=Mi.Inv.turnedL I up hf
  have ng':g'.get? s.heap.objs.size=gV { cls:=.type "tuple",data:=.seq [.int i tk0,u].toArray }:=sb.extBut _ _ (lt (by simp)) ng
  have I2:Inv X pins σ (cp H s.heap.objs.size (.tup [.int i,x])) { s with heap:=g',toks:=tk }:=by
   refine Mi.Inv.adopt I1 N0 (.inr I.sz) (KF I.lt) (λw c e=>?_) (λp hp=>?_) #[by show 2<=sizeLine; decide,[.int i tk0,u],.cons #[_,rfl] #v[r1],#[_,ng',rfl,0,rfl]]
   ·obtain⟨v,q⟩:=I.cell w c e;exact ID q.lt
   ·exact ID (Io (I.pin p hp).1)
  refine#[.ref s.heap.objs.size,_,I2,rfl,#[s.heap.objs.size,x,Zs.at_is I g1,rfl,N0,rfl],#[#[_,zg'],Zs.keep t1 λo e=>sb.extBut _ _ (Ne.symm D) e],λb hb=>?_]
  rw[aV (Ne.symm (lt hb))];exact(hf b hb).1
 done:=by
  intro X hP hw hK hc i pins s σ H E I hf st hg;subst hP hw hK;obtain⟨⟨old,a⟩,d⟩:=st;have hf4:∀b∈[z,z,i1,i1],iY X pins H b:=λb hb=>hf b (by simp only[Iz,Jl,KC]at hb ⊢; rcases hb with h|h|h|h <;> simp[h])
  obtain⟨C1,Z1,c1,k1⟩:=Zs.zit (it:=i1) (U:=td) I hf4 hg;have hT:s.TypeIs (.ref z) "enumerate":=#[_,a,rfl];unfold pyNext;refine HG (Mg (Jp (name:=J6 "__next__") hT F.slot_enumerate_next (Jv F.slot_enumerate_next hT F.entry_enumerate_next ?_ (F.args_enumerate_next_1 _))));refine mR Z1 (I.ok.hd hc) a d c1 D (λV e1=>by cases e1) λ_ h' e k #[o,ho,hc]=>?_
  exact HG (Mm (T:="StopIteration") (b:=true) #[o,ho,hc] OG (HU #[rfl,Mi.Inv.turnedL (t':=s.toks) I (λb o hb e=>by
    simp only[Iz,Jl,KC,not_or]at hb;exact k b o hb.2 e) hf]))
 self:=λ_ _ _ _ _ st h=>by obtain⟨⟨old,a⟩,_⟩:=st; exact NT a h
noncomputable def n8 (xs:HF W):HF W:=xs.zipIdx.map λp=>.tup [.int (p.2:HM),p.1]
theorem qa {xs:HF W}{i:HM}{w:W}(h:(n8 xs)[i]?=gV w):∃x,xs[i]?=gV x/\w=.tup [.int i,x]:=by
 unfold n8 at h;rw[HS,List.getElem?_zipIdx,Option.map_map,HJ]at h;obtain⟨x,h1,rfl⟩:=h;exact#[x,h1,by simp]
noncomputable def AH (f:FA):FI:=λρ S=>match f ρ S with
 | some ([x],S1)=>match GP x with
  | some xs=>gV (.its (n8 xs),S1)
  | none=>td
 | _=>td
section
variable{X:Cx}{pins:HF (HR×JE)}{σ:L2.St}{H:Hp}{s:HK}{A:HF HR}
theorem xx {S1:Zs}{xs:HF W}(z1:ZRel X.K A H xs S1):MIt X.w X.K (.its (n8 xs)) (Ho X.K S1) A H:=by
 refine#[λA' H' S i w e so hi=>?_,λA' H' S i e so hi=>?_]
 ·simp only[MI.at,II]at hi;obtain⟨x,e1,rfl⟩:=qa hi;obtain⟨v,g1,r1⟩:=(z1.mono e).at e1;refine#[#[v,g1],λp H2 #[a,v',q1,hp,hn,hH]=>?_]
  subst hp hH;have ex:Ext X.K A' H' A' (cp H' a (.tup [.int i,v'])):=dC (.inl hn);exact#[ex,so.lay hn,.tup (.of bD) #v[.int,((z1.mono e).is e1 q1).mono ex]]
 ·simp only[MI.at,II,JW,n8,HI,List.length_zipIdx]at hi;exact(z1.mono e).out hi
theorem u6:bootBuiltins "enumerate" = gV (.type "enumerate"):=rfl
theorem AI {els:HF Iv}{k0:HM}{tp:Kf}{a:Iv}{f:FA}{p pos:Kf}(hg:Gl X "enumerate")(hm:X.mg "enumerate" = td)(ha:GA X [a] f)(hs:starEach [a] X.env=[(false,eval a X.env)]) :
  GI X (.Tuple els k0 tp) (.Call (.Name "enumerate" p) [a] [] pos) (AH f):=by
 intro pins s σ H R I ⟨A,ρ,S,mi,S',er,so,e,hq⟩;unfold AH at e;split at e
 ·rename_i x S1 h1;split at e
  ·rename_i xs e1;cases e;refine Call_ (iX I hg hm u6 (J5 (b9 (ha pos pins s σ H _ I #[A,ρ,S,_,_,er,so,h1,λ_ _ z=>z]) λus s1 #[vs,H1,I1,r1,A1,z1,z2,z3]=>?_) (by rw[hs]; rfl) (by rfl)))
   cases z3 with
   | cons ra t=>
    cases t;cases r1 with
    | cons ua t=>
     cases t;obtain⟨Sa,oa,Ca,za,ia,ca,ka,na,ta⟩:=AG I1 ra ua e1;refine u4 ia ca na λh' hz g1 kp=>?_
     have I2:Inv X pins σ H1 { s1 with heap:=h' }:=I1.kept (t':=s1.toks) kp
     refine NT (s:={ s1 with heap:=h' }) hz ?_
     refine#[s1.heap.objs.size+1,_,_,_,H1,rfl,I2,u5 (S1:=Sa) (i1:=s1.heap.objs.size) (by simp),#[#[_,hz],ta _ _ g1],λb hb=>?_,hq _ _ A1 z1 z2 (xx za)]
     have hb':s1.heap.objs.size<=b:=by
      simp only[Iz,Jl,KC]at hb;rcases hb with rfl|rfl
      ·exact Nat.le_add_right _ _
      ·exact HZ _
     exact I1.fpOk hb' (I1.hok.fresh hb')
  ·cases e
 ·cases e
end
end Mi
namespace Mi
open PySem PySem.Spec PyProof.Rows L2
noncomputable def EY (g1 g2:HF W->aa->HL (W×aa))(xs:HF W)(S:aa):HL (W×aa):=match g1 xs S with
 | some r=>gV r
 | none=>g2 xs S
theorem xy {X:Cx}{f:HH}{g1 g2:HF W->aa->HL (W×aa)}(h1:LCall X f g1)(h2:LCall X f g2):LCall X f (EY g1 g2):=by
 intro pins s σ H A S xs vs us w S' I so rl rv e;unfold EY at e;split at e
 ·rename_i r hr;cases e;exact h1 pins s σ H A S xs vs us w S' I so rl rv hr
 ·exact h2 pins s σ H A S xs vs us w S' I so rl rv e
inductive Bi where|len|list|tuple|int|sorted|range|all|min
 deriving KO
noncomputable def Bi.fn:Bi->HF W->aa->HL (W×aa)
 | .len=>rG|.list=>EY mG mK|.tuple=>kN|.int=>EG|.sorted=>iC|.range=>rB|.all=>CJ|.min=>zX
noncomputable def Bi.name:Bi->Ik
 | .len=>"len"|.list=>"list"|.tuple=>"tuple"|.int=>"int"|.sorted=>"sorted"|.range=>"range"|.all=>"all"|.min=>"min"
inductive Me where|append|extend|join|pop|get
 deriving KO
noncomputable def Me.fn:Me->W->HF W->aa->HL (W×aa)
 | .append=>iy|.extend=>kg|.join=>wy|.pop=>CH|.get=>sP
noncomputable def Me.name:Me->Ik
 | .append=>"append"|.extend=>"extend"|.join=>"join"|.pop=>"pop"|.get=>"get"
noncomputable def Me.ty:Me->Jr
 | .append=>"list"|.extend=>"list"|.join=>"str"|.pop=>"list"|.get=>"dict"
inductive Tg where
 | nm (i:HM)|tp (is:HF HM)
set_option genSizeOf false in
set_option genInjectivity false in
mutual
inductive E where
 | c (w:W)|v (i:HM)
 | op (o:BOp) (a b:E)
 | cmp (o:COp) (a b:E)
 | and (a b:E)|or (a b:E)|not (a:E)
 | own (f:Ik) (n:HM) (es:Es)|bi (b:Bi) (es:Es)|me (m:Me) (o:E) (es:Es)
 | ix (a b:E)|sl (a:E) (lo hi:Ep)|tup (es:Es)|lst (es:Es)
 | isi (c:Jr) (a:E)
 | neg (a:E)|dnew|disp (es:Es)|ite (t a b:E)
 | comp (elt:E) (tg:Tg) (it:Ie) (cs:Es) (cap:HF (HL HM))
inductive Es where
 | nil|cons (e:E) (es:Es)
inductive Ep where
 | no|yes (e:E)
inductive Ie where
 | seq (e:E)|rng (es:Es)|rng2 (es:Es)|enu (es:Es)
end
set_option genSizeOf false in
set_option genInjectivity false in
mutual
inductive Sm where
 | set (i:HM) (e:E)|asg (is:HF HM) (e:E)|par (i j:HM) (es:Es)|put (o k e:E)
 | ex (e:E)|ret (e:E)|retN|pass|brk|cont|bad
 | ite (t:E) (a b:Ss)|whl (t:E) (b:Ss)|loop (tg:Tg) (it:Ie) (b:Ss)
inductive Ss where
 | nil|cons (s:Sm) (ss:Ss)
end
noncomputable def gI:Tg->FG
 | .nm i=>As i
 | .tp is=>DW is
section
variable (Φ:Ik->FF)
mutual
noncomputable def aK:E->FE
 | .c w=>fC w
 | .v i=>fV i
 | .op o a b=>zY (ip o) (aK a) (aK b)
 | .cmp o a b=>zZ o (aK a) (aK b)
 | .and a b=>sW (aK a) (aK b)
 | .or a b=>Ad (aK a) (aK b)
 | .not a=>sX (aK a)
 | .own f n es=>pY n (Φ f) (dq es)
 | .bi b es=>jP b.fn (dq es)
 | .me m o es=>DV m.ty m.fn (aK o) (dq es)
 | .ix a b=>GM (aK a) (aK b)
 | .sl a lo hi=>EO (aK a) (tt lo) (tt hi)
 | .tup es=>xf (dq es)
 | .lst es=>xg (dq es)
 | .isi c a=>xr c (aK a)
 | .neg a=>wX (aK a)
 | .dnew=>BC
 | .disp es=>p7 (dq es)
 | .ite t a b=>Ae (dk t) (aK a) (aK b)
 | .comp elt tg it cs cap=>kP (lJ it) (gI tg) (AJ cs) (aK elt) cap
noncomputable def dk:E->FT
 | .cmp o a b=>w6 (zZ o (aK a) (aK b))
 | .and a b=>w8 (dk a) (dk b)
 | .or a b=>EL (dk a) (dk b)
 | .not a=>Aa (dk a)
 | .c w=>gG (fC w)
 | .v i=>gG (fV i)
 | .op o a b=>gG (zY (ip o) (aK a) (aK b))
 | .own f n es=>gG (pY n (Φ f) (dq es))
 | .bi b es=>gG (jP b.fn (dq es))
 | .me m o es=>gG (DV m.ty m.fn (aK o) (dq es))
 | .ix a b=>gG (GM (aK a) (aK b))
 | .sl a lo hi=>gG (EO (aK a) (tt lo) (tt hi))
 | .tup es=>gG (xf (dq es))
 | .lst es=>gG (xg (dq es))
 | .isi c a=>gG (xr c (aK a))
 | .neg a=>gG (wX (aK a))
 | .dnew=>λ_ _=>td
 | .disp _=>λ_ _=>td
 | .ite _ _ _=>λ_ _=>td
 | .comp _ _ _ _ _=>λ_ _=>td
noncomputable def dq:Es->FA
 | .nil=>i8
 | .cons e es=>en (aK e) (dq es)
noncomputable def AJ:Es->FT
 | .nil=>BE
 | .cons e .nil=>dk e
 | .cons _ (.cons _ _)=>λ_ _=>td
noncomputable def tt:Ep->FO
 | .no=>CY
 | .yes e=>tf (aK e)
noncomputable def lJ:Ie->FI
 | .seq e=>fX (aK e)
 | .rng es=>rM (dq es)
 | .rng2 es=>iRng2 (dq es)
 | .enu es=>AH (dq es)
end
variable (fuel:HM)
mutual
noncomputable def fY:Sm->FS
 | .set i e=>kO (aK Φ e) (As i)
 | .asg is e=>kO (aK Φ e) (DW is)
 | .par i j es=>Au i j (dq Φ es)
 | .put o k e=>kO (aK Φ e) (At (aK Φ o) (aK Φ k))
 | .ex e=>Am (aK Φ e)
 | .ret e=>Ap (aK Φ e)
 | .retN=>λ_ S=>gV (.rt .non,S)
 | .pass=>xl
 | .brk=>λρ S=>gV (.bk ρ,S)
 | .cont=>λρ S=>gV (.ct ρ,S)
 | .bad=>λ_ _=>td
 | .ite t a b=>Ar (dk Φ t) (fZ a) (fZ b)
 | .whl t b=>n0 (dk Φ t) (fZ b) fuel
 | .loop tg it b=>xo (lJ Φ it) (gI tg) (fZ b)
noncomputable def fZ:Ss->FS
 | .nil=>λρ S=>gV (.nx ρ,S)
 | .cons s ss=>Al (fY s) (fZ ss)
end
end
structure Gam where
 sc:HF (Ik×JP)
 N:HF Ik
 fns:HF (Ik×HM)
 blt:HF Ik
 dfn:Iy
noncomputable def Db:HL JP->Iy
 | some .local=>true|some .cell=>true|some .free=>true|_=>false
noncomputable def AK:HL JP->Iy
 | some .cell=>true|some .free=>true|_=>false
noncomputable def ga (names outer:HF (Ik×JP)):HF (Ik×JP):=names.map λ(n,k)=>if (k==.free&&outer.lookup n==gV .cell)then(n,.cell)else(n,k)
noncomputable def slot (Γ:Gam)(x:Ik):HL HM:=if Db (Γ.sc.lookup x) && !(x==("__debug__" : Ik)) && !(x==("__classdict__" : Ik))then Γ.N.findIdx? (· == x)else td
noncomputable def tu:ND->HL BOp
 | .Add=>gV .add|.Sub=>gV .sub|.Mult=>gV .mul|.FloorDiv=>gV .fdiv|.Mod=>gV .mod|.Pow=>gV .pow|_=>td
noncomputable def tw:O7->HL COp
 | .Eq=>gV .eq|.NotEq=>gV .ne|.Lt=>gV .lt|.LtE=>gV .le|.Gt=>gV .gt|.GtE=>gV .ge|.In=>gV .isin|.NotIn=>gV .notin|.Is=>gV .is|.IsNot=>gV .isnot
noncomputable def AL (x:Ik):HL Bi:=[Bi.len,.list,.tuple,.int,.sorted,.range,.all,.min].find? λb=>b.name==x
noncomputable def AM (x:Ik):HL Me:=[Me.append,.extend,.join,.pop,.get].find? λb=>b.name==x
noncomputable def EZ (Γ:Gam)(x:Ik):Iy:=Γ.sc.lookup x==gV .globalImplicit && !(x==("__debug__" : Ik))
noncomputable def xz (x:Ik):HL Jr:=if x==("bool" : Ik)then gV "bool" else if x==("int" : Ik)then gV "int" else if x==("str" : Ik)then gV "str" else if x==("tuple" : Ik)then gV "tuple" else if x==("list" : Ik)then gV "list" else if x==("dict" : Ik)then gV "dict" else td
noncomputable def tz:HF (HL Iv)->HF Iv->HF Iv
 | some k::ks,v::vs=>k::v::tz ks vs
 | _,_=>[]
noncomputable def AN (Γ:Gam)(f:Iv->HL E):HF Iv->HL E
 | [a,.Name c _]=>if EZ Γ c&&Γ.blt.contains c then match xz c,f a with
  | some cs,gV a'=>gV (.isi cs a')
  | _,_=>td
  else td
 | _=>td
noncomputable def gr:Iv->Iy
 | .Name _ _=>true|.Constant _ _ _=>true|.Subscript _ _ _=>true|_=>false
noncomputable def lO (Γ:Gam)(x:Ik):Iy:=Γ.sc.lookup x==gV .globalImplicit && !(x==("__debug__" : Ik))
noncomputable def dw (Γ:Gam)(x:Ik):HL HM:=if (Γ.sc.lookup x==gV .local)||(Γ.dfn&&Γ.sc.lookup x==gV .cell)then Γ.N.findIdx? (· == x)else td
noncomputable def cA (f:Iv->HL E)(es:HF Iv):HL Es:=es.foldr (λe acc=>match f e,acc with|some e',gV es'=>gV (.cons e' es')|_,_=>td) (gV .nil)
noncomputable def cB (f:Iv->HL E)(op:PK):HF Iv->HL E
 | []=>td
 | [a]=>f a
 | a::b::dh=>match f a,cB f op (b::dh)with
  | some a',gV b'=>gV (match op with|.And=>.and a' b'|.Or=>.or a' b')
  | _,_=>td
noncomputable def cP (f:Iv->HL E):HL Iv->HL Ep
 | none=>gV .no
 | some e=>(f e).map .yes
noncomputable def isTup:Iv->Iy
 | .Tuple _ _ _=>true
 | _=>false
noncomputable def cI (Γ:Gam)(f:Iv->HL E)(tg:Iv):Iv->HL Ie
 | .Call (.Name x p) [a] [] q=>if x==("range" : Ik)&&lO Γ x&&Γ.blt.contains x then(cA f [a]).map .rng else if x==("enumerate" : Ik)&&lO Γ x&&Γ.blt.contains x&&isTup tg then(cA f [a]).map .enu else(f (.Call (.Name x p) [a] [] q)).map .seq
 | .Call (.Name x p) [a,b] [] q=>if x==("range" : Ik)&&lO Γ x&&Γ.blt.contains x then(cA f [a,b]).map .rng2 else(f (.Call (.Name x p) [a,b] [] q)).map .seq
 | e=>(f e).map .seq
noncomputable def DX (Γ:Gam):HF Iv->HL (HF HM)
 | []=>gV []
 | .Name x _::ts=>match dw Γ x,DX Γ ts with
  | some i,gV is=>gV (i::is)
  | _,_=>td
 | _::_=>td
noncomputable def cT (Γ:Gam):Iv->HL Tg
 | .Name x _=>(dw Γ x).map .nm
 | .Tuple ts _ _=>(DX Γ ts).map .tp
 | _=>td
noncomputable def gS (names:HF (Ik×JP)):HF Ik:=(names.filter λp=>p.2==.local||p.2==.free).map (·.1)
noncomputable def gv (Γ:Gam)(names:HF (Ik×JP)):HF (HL HM):=(gS names).map λx=>if names.lookup x==gV .local then td else Γ.N.findIdx? (· == x)
noncomputable def xA (Γ:Gam)(scope:KL):Iy:=
 (scope.kind==.function)&&scope.names.all (λy=>!(y.2==.local)||scope.names.lookup y.1==gV .local)&&scope.names.all (λy=>!(y.2==.cell)) &&
 scope.names.all (λy=>!(y.2==.free)||(AK (Γ.sc.lookup y.1)&&scope.names.lookup y.1==gV .free&&(Γ.N.findIdx? (· == y.1)).isSome))&&decide (gS scope.names).Nodup
noncomputable def gT (Γ:Gam)(scope:KL):Gam:={ Γ with sc:=ga scope.names Γ.sc,N:=gS scope.names,dfn:=false }
noncomputable def xB (f:Iv->HL E)(keys:HF (HL Iv))(values:HF Iv):HL E:=
 if keys.isEmpty&&values.isEmpty then gV .dnew
 else if keys.all (·.isSome)&&decide (keys.length=values.length)&&decide (keys.length<=15)then(cA f (tz keys values)).map .disp else td
noncomputable def cE:HM->Gam->Iv->HL E
 | 0,_,_=>td
 | n+1,Γ,e=>match e with
  | .Constant (.int i) _ _=>gV (.c (.int i))
  | .Constant (.str x) _ _=>gV (.c (.str x))
  | .Constant (.bool b) _ _=>gV (.c (.bl b))
  | .Constant .none _ _=>gV (.c .non)
  | .Name x _=>match slot Γ x with
   | some i=>gV (.v i)
   | none=>td
  | .BinOp a op b _=>match tu op,cE n Γ a,cE n Γ b with
   | some o,gV a',gV b'=>gV (.op o a' b')
   | _,_,_=>td
  | .UnaryOp .Not a _=>(cE n Γ a).map .not
  | .UnaryOp .USub a _=>(cE n Γ a).map .neg
  | .BoolOp op vs _=>cB (cE n Γ) op vs
  | .Compare a [op] [b] _=>match tw op,cE n Γ a,cE n Γ b with
   | some o,gV a',gV b'=>gV (.cmp o a' b')
   | _,_,_=>td
  | .IfExp t a b _=>match cE n Γ t,cE n Γ a,cE n Γ b with
   | some t',gV a',gV b'=>gV (.ite t' a' b')
   | _,_,_=>td
  | .Call (.Name f _) args [] _=>if lO Γ f then match Γ.fns.lookup f with
    | some k=>(cA (cE n Γ) args).map (.own f k)
    | none=>if f==("isinstance" : Ik)then(if Γ.blt.contains f then AN Γ (cE n Γ) args else td)else match AL f,args with
     | some b,a::as=>if Γ.blt.contains f then(cA (cE n Γ) (a::as)).map (.bi b)else td
     | _,_=>td
   else td
  | .Call (.Attribute o m apos) (a::as) [] cpos=>match AM m,cE n Γ o,cA (cE n Γ) (a::as)with
   | some m',gV o',gV es=>if gr o&&(apos.endLine==cpos.line)&&decide ((a::as).length < 29)then gV (.me m' o' es)else td
   | _,_,_=>td
  | .Subscript a (.Slice lo hi td _) _=>match cE n Γ a,cP (cE n Γ) lo,cP (cE n Γ) hi with
   | some a',gV lo',gV hi'=>gV (.sl a' lo' hi')
   | _,_,_=>td
  | .Subscript a b _=>match cE n Γ a,cE n Γ b with
   | some a',gV b'=>gV (.ix a' b')
   | _,_=>td
  | .Tuple es _ _=>(cA (cE n Γ) es).map .tup
  | .List es _=>(cA (cE n Γ) es).map .lst
  | .Dict keys values _=>xB (cE n Γ) keys values
  | .ListComp elt [#[tg,iter,ifs,asy]] scope _=>if (asy==0)&&(xA Γ scope&&decide (ifs.length<=1))then
    match cI Γ (cE n Γ) tg iter,cT (gT Γ scope) tg,cA (cE n (gT Γ scope)) ifs,cE n (gT Γ scope) elt with
    | some it,gV t,gV cs,gV el=>gV (.comp el t it cs (gv Γ scope.names))
    | _,_,_,_=>td
   else td
  | _=>td
structure CtxOk (Φ:Ik->FF)(X:Cx)(Γ:Gam):Prop where
 names:X.env.scope.names=Γ.sc
 kind:X.env.scope.kind=.function
 N:X.N=Γ.N
 nd:Γ.N.Nodup
 calm:X.calm=true
 xe:X.xe=λ_ _=>Jq
 un:X.A.units+g9 < cLine
 dfn:Γ.dfn=true->∀x,X.fn x=true
 blt:∀x∈Γ.blt,X.mg x=td
 fns:∀f n,Γ.fns.lookup f=gV n->∃k fa fd ps,FnOk X.prog X.w X.K X.mg X.base vF k fa fd ps (xj X.w X.K n (Φ f))/\Room k X.A/\X.mg f=gV (.ref fa)/\Jz X.K (.ref fa)=true/\Binds X.K fd ps []
theorem ba {α:Type}{x:α}{P:Prop}(h:(td:HL α)=gV x):P:=nomatch h
noncomputable def hZ:Iv->Iy
 | .Starred _ _=>false
 | _=>true
theorem aH {e:Iv}{es:HF Iv}{env:NA}(h:hZ e=true):starEach (e::es) env=(false,eval e env)::starEach es env:=by
 cases e <;> first|rfl|cases h
theorem bS {env:NA}{pos:Kf}:∀ {es:HF Iv},es.all hZ=true->(backTo pos (starEach es env)).any (·.1)=false
 | [],_=>rfl
 | e::es,h=>by
  rw[Jd,HN]at h;rw[aH h.1];show(false||(backTo pos (starEach es env)).any (·.1))=false
  rw[bS h.2];rfl
theorem qb {env:NA}{pos:Kf}:∀ {es:HF Iv},es.all hZ=true->(backTo pos (starEach es env)).all (λx=>!x.1)=true
 | [],_=>rfl
 | e::es,h=>by
  rw[Jd,HN]at h;rw[aH h.1];show(true&&(backTo pos (starEach es env)).all (λx=>!x.1))=true
  rw[qb h.2];rfl
theorem i9 {n:HM}{Γ:Gam}{e:Iv}{e':E}(h:cE n Γ e=gV e'):hZ e=true:=by
 cases n with
 | zero=>cases h
 | succ n=>cases e <;> first|rfl|(exact ba h)
theorem iE {f:Iv->HL E}{e:Iv}{es:HF Iv}{r:Es}(h:cA f (e::es)=gV r):∃e' es',f e=gV e'/\cA f es=gV es'/\r=.cons e' es':=by
 simp only[cA,Oo]at h;split at h
 ·rename_i e' es' h1 h2;cases h;exact#[e',es',h1,h2,rfl]
 ·cases h
theorem c8 {n:HM}{Γ:Gam}:∀ {es:HF Iv} {r:Es},cA (cE n Γ) es=gV r->es.all hZ=true
 | [],_,_=>rfl
 | e::es,r,h=>by
  obtain⟨e',es',h1,h2,_⟩:=iE h;rw[Jd,i9 h1,c8 h2];rfl
theorem dF {N:HF Ik}{x:Ik}{i:HM}(h:N.findIdx? (· == x)=gV i):N[i]?=gV x:=by
 obtain⟨hl,h1,_⟩:=List.findIdx?_eq_some_iff_getElem.mp h;rw[Ic hl];exact congrArg gV (eq_of_beq h1)
section
variable{Φ:Ik->FF}{X:Cx}{Γ:Gam}
theorem kj {e:Iv}:GT X e (λ_ _=>td):=λpins s σ H Q I #[A,ρ,S,k,S',er,so,e1,hq]=>by cases e1
theorem xC {x:Ik}(h:Db (X.env.scope.names.lookup x)=true):F6 X.env.scope x:=by
 unfold Db at h;split at h
 ·exact .inl (by assumption)
 ·exact .inr (.inl (by assumption))
 ·exact .inr (.inr (by assumption))
 ·cases h
theorem xD (K:CtxOk Φ X Γ){x:Ik}{pos:Kf}{i:HM}(h:slot Γ x=gV i):GE X (.Name x pos) (fV i):=by
 unfold slot at h;split at h
 ·rename_i hc;rw[HN,HN]at hc;obtain⟨⟨h1,h2⟩,h3⟩:=hc;refine GL (B1 (by rw[K.N]; exact dF h) (xC (by rw[K.names]; exact h1)) (by simpa using h2) (by simpa using h3))
 ·cases h
theorem kQ (K:CtxOk Φ X Γ){x:Ik}(h:lO Γ x=true):Gl X x/\(x==("__debug__" : Ik))=false:=by
 unfold lO at h;rw[HN]at h;refine#[?_,by simpa using h.2]
 show X.env.scope.names.lookup x=_;rw[K.names];exact eq_of_beq h.1
theorem xE {o:O7}{c:COp}(h:tw o=gV c):c.py=o:=by
 cases o <;> (simp only[tw,II]at h; subst h; rfl)
theorem xF {o:ND}{c:BOp}(h:tu o=gV c):c.py=o:=by
 cases o <;> simp only[tu,II]at h <;> first|(subst h; rfl)|cases h
theorem u7 {x:Ik}{b:Bi}(h:AL x=gV b):b.name=x:=by
 have:=MF h;exact eq_of_beq this
theorem u8 {x:Ik}{b:Me}(h:AM x=gV b):b.name=x:=by
 have:=MF h;exact eq_of_beq this
theorem dN {n:HM}(ih:∀ {e:Iv} {e':E},cE n Γ e=gV e'->GE X e (aK Φ e')):∀ {es:HF Iv} {r:Es},cA (cE n Γ) es=gV r->GA X es (dq Φ r)
 | [],r,h=>by cases h; exact CW
 | e::es,r,h=>by
  obtain⟨e',es',h1,h2,rfl⟩:=iE h;exact Ag (ih h1) (dN ih h2) (aH (i9 h1))
theorem E1 (K:CtxOk Φ X Γ){n:HM}{f:Ik}{p pos:Kf}{args:HF Iv}{k:HM}{r:Es}(hg:lO Γ f=true)(hf:Γ.fns.lookup f=gV k)(ha:cA (cE n Γ) args=gV r)(h:GA X args (dq Φ r)):GE X (.Call (.Name f p) args [] pos) (pY k (Φ f) (dq Φ r)):=by
 obtain⟨d,fa,fd,ps,F,hr,hm,hk,hb⟩:=K.fns f k hf;obtain⟨g1,g2⟩:=kQ K hg;cases args with
 | nil=>cases ha; exact Aj F hr g1 hm hk hb g2
 | cons a as=>
  have ns:=c8 ha;rw[Jd,HN]at ns;exact CZ F hr g1 hm hk hb h g2 (aH ns.1) (bS ns.2)
theorem GQ (K:CtxOk Φ X Γ){n:HM}{f:Ik}{p pos:Kf}{a:Iv}{as:HF Iv}{b:Bi}{r:Es}(hg:lO Γ f=true)(hb:AL f=gV b)(hc:Γ.blt.contains f=true)(ha:cA (cE n Γ) (a::as)=gV r)(h:GA X (a::as) (dq Φ r)):GE X (.Call (.Name f p) (a::as) [] pos) (jP b.fn (dq Φ r)):=by
 obtain⟨g1,g2⟩:=kQ K hg;have hm:X.mg f=td:=K.blt f (by simpa using hc)
 have ns:=c8 ha;rw[Jd,HN]at ns;have e:=u7 hb;subst e;have hu:X.A.units+12 < cLine:=by have:=K.un; have:g9=20:=rfl; omega
 have calm:∀ {f:HH} {g:HF W->aa->HL (W×aa)},(X.A.handled=td->LCall X f g)->LCall X f g:=λh pins s σ H A S xs vs us w S' I=>h (I.ok.hd K.calm) pins s σ H A S xs vs us w S' I
 cases b with
 | len=>exact sY rO g1 hm PySem.boot_len h #v[] g2 (aH ns.1) (bS ns.2)
 | list=>exact sZ (calm λhh=>xy (pJ hh) (pV hh)) g1 hm rfl h #v[] g2 (aH ns.1) (bS ns.2)
 | tuple=>exact sZ (calm nZ) g1 hm rfl h #v[] g2 (aH ns.1) (bS ns.2)
 | int=>exact sZ uL g1 hm rfl h #v[] g2 (aH ns.1) (bS ns.2)
 | sorted=>exact sY (calm λhh=>nX hh hu) g1 hm rfl h #v[] g2 (aH ns.1) (bS ns.2)
 | range=>exact sZ pI g1 hm rfl h #v[] g2 (aH ns.1) (bS ns.2)
 | all=>exact sY (calm uX) g1 hm rfl h #v[] g2 (aH ns.1) (bS ns.2)
 | min=>exact sY (calm λhh=>uV hh hu) g1 hm rfl h #v[] g2 (aH ns.1) (bS ns.2)
theorem xG {x:Ik}{c:Jr}(h:xz x=gV c):bootBuiltins x=gV (.type c)/\x≠"__name__":=by
 unfold xz at h;split at h
 ·rename_i e; cases h; rw[eq_of_beq e]; exact#[rfl,#v[]]
 ·split at h
  ·rename_i e; cases h; rw[eq_of_beq e]; exact#[rfl,#v[]]
  ·split at h
   ·rename_i e; cases h; rw[eq_of_beq e]; exact#[rfl,#v[]]
   ·split at h
    ·rename_i e; cases h; rw[eq_of_beq e]; exact#[rfl,#v[]]
    ·split at h
     ·rename_i e; cases h; rw[eq_of_beq e]; exact#[rfl,#v[]]
     ·split at h
      ·rename_i e; cases h; rw[eq_of_beq e]; exact#[rfl,#v[]]
      ·cases h
theorem E2 (K:CtxOk Φ X Γ){n:HM}{f:Ik}{p pos:Kf}{args:HF Iv}{r:E}(hg:lO Γ f=true)(hb:(f==("isinstance" : Ik))=true)(hc:Γ.blt.contains f=true)(ih:∀ {e:Iv} {e':E},cE n Γ e=gV e'->GE X e (aK Φ e'))(h:AN Γ (cE n Γ) args=gV r) :
  GE X (.Call (.Name f p) args [] pos) (aK Φ r)/\∃a c,r=.isi c a:=by
 obtain⟨g1,g2⟩:=kQ K hg;have hm:X.mg f=td:=K.blt f (by simpa using hc)
 have e:=eq_of_beq hb;subst e;unfold AN at h;split at h
 ·rename_i a c q;split at h
  ·rename_i hcc;rw[HN]at hcc;obtain⟨g3,g4⟩:=kQ K (x:=c) hcc.1;have hm2:X.mg c=td:=K.blt c (by simpa using hcc.2)
   split at h
   ·rename_i cs a' h1 h2;cases h;obtain⟨b1,b2⟩:=xG h1;exact#[C9 g1 hm g3 hm2 b1 b2 g4 (ih h2) (aH (i9 h2)),a',cs,rfl]
   ·cases h
  ·cases h
 ·cases h
theorem eY {o:Iv}{name:Ik}{env:NA}(h:gr o=true):attributeBase o name env (eval o env)=eval o env:=by
 cases o <;> first|rfl|cases h
theorem tB {n:HM}{pos:Kf}(ih:∀ {e:Iv} {e':E},cE n Γ e=gV e'->GE X e (aK Φ e')):∀(keys:HF (HL Iv)) (values:HF Iv) {r:Es},keys.all (·.isSome)=true->keys.length=values.length->cA (cE n Γ) (tz keys values)=gV r->EV X pos keys values (dq Φ r)
 | [],[],r,_,_,h=>by cases h; exact AB
 | [],_::_,r,_,hl,_=>by cases hl
 | _::_,[],r,_,hl,_=>by cases hl
 | none::_,_::_,r,ha,_,_=>by cases ha
 | some k::ks,v::vs,r,ha,hl,h=>by
  simp only[tz]at h;obtain⟨e1,es1,h1,h2,rfl⟩:=iE h;obtain⟨e2,es2,h3,h4,rfl⟩:=iE h2;rw[Jd,HN]at ha;exact xt (ih h1) (ih h3) (tB ih ks vs ha.2 (by simpa using hl) h4)
theorem GR (K:CtxOk Φ X Γ){n:HM}{m:Ik}{apos cpos:Kf}{o a:Iv}{as:HF Iv}{b:Me}{o':E}{r:Es}(hm:AM m=gV b)(hr:gr o=true)(hl:(apos.endLine==cpos.line)=true)(hn:(a::as).length < 29)(ho:GE X o (aK Φ o'))(ha:cA (cE n Γ) (a::as)=gV r)(h:GA X (a::as) (dq Φ r)) :
  GE X (.Call (.Attribute o m apos) (a::as) [] cpos) (DV b.ty b.fn (aK Φ o') (dq Φ r)):=by
 have ns:=c8 ha;have ns':=ns;rw[Jd,HN]at ns;have lP:((backTo cpos (starEach (a::as) X.env)).all (λx=>!x.1)&&(backToKw cpos (keywordEach [] X.env)).all (λx=>x.1.isSome)&&decide ((a::as).length+([]:HF Os).length+(if ([]:HF Os).isEmpty then 0 else 1) < 30))=true:=by
  rw[qb ns',Ly,HN];exact#[rfl,Jt (by simp only[JK,List.isEmpty_nil,KG]; omega)]
 have e:=u8 hm;subst e;cases b with
 | append=>exact pX Li PySem.F.slot_list_append PySem.F.type_list_append nK ho h (eY hr) lP hl (aH ns.1) (bS ns.2)
 | extend=>exact pX Li PySem.F.slot_list_extend PySem.F.type_list_extend nL ho h (eY hr) lP hl (aH ns.1) (bS ns.2)
 | join=>exact pX PySem.F.plainAttrs_str PySem.F.slot_str_join PySem.F.type_str_join rA ho h (eY hr) lP hl (aH ns.1) (bS ns.2)
 | pop=>exact pX Li PySem.F.slot_list_pop PySem.F.type_list_pop uM ho h (eY hr) lP hl (aH ns.1) (bS ns.2)
 | get=>exact pX PySem.F.plainAttrs_dict ML PySem.F.type_dict_get (rC (by have:=K.un; have:g9=20:=rfl; omega)) ho h (eY hr) lP hl (aH ns.1) (bS ns.2)
theorem qc {n:HM}{Γ:Gam}{e:Iv}{e':E}{op:O7}(h:cE n Γ e=gV e'):behindInMarks op e=false:=by
 cases n with
 | zero=>cases h
 | succ n=>cases e <;> first|rfl|(exact ba h)
theorem rR {n:HM}{Γ:Gam}{e:Iv}{e':E}(h:cE n Γ e=gV e'):nB e:=by
 cases n with
 | zero=>cases h
 | succ n=>cases e <;> first|(intro o i; rfl)|(exact ba h)
theorem og {n:HM}{Γ:Gam}{f:Iv->HL E}{e:Iv}{i:Ie}{env:NA}{tg:Iv}(hf:∀el k p,f (.Set el k p)=td)(h:cI Γ f tg e=gV i):∀x,foldedSetIterable e env x=pure x:=by
 intro x;cases e <;> first|rfl|(simp[cI,hf]at h)
theorem oh {n:HM}{op:PK}{pos:Kf}(ih:∀ {e:Iv} {e':E},cE n Γ e=gV e'->GE X e (aK Φ e')):∀ {vs:HF Iv} {r:E},cB (cE n Γ) op vs=gV r->GE X (.BoolOp op vs pos) (aK Φ r)
 | [],r,h=>by cases h
 | [a],r,h=>CS (ih h)
 | a::b::dh,r,h=>by
  simp only[cB]at h;split at h
  ·rename_i a' b' h1 h2;cases h;cases op with
   | And=>exact CT (ih h1) (oh ih h2)
   | Or=>exact EN (ih h1) (oh ih h2)
  ·cases h
theorem ol {n:HM}{op:PK}{pos:Kf}(ih:∀ {e:Iv} {e':E},cE n Γ e=gV e'->GT X e (dk Φ e')):∀ {vs:HF Iv} {r:E},cB (cE n Γ) op vs=gV r->GW X (.BoolOp op vs pos) (dk Φ r)
 | [],r,h=>by cases h
 | [a],r,h=>by
  cases op with
  | And=>exact Ac (ih h)
  | Or=>exact CO (ih h)
 | a::b::dh,r,h=>by
  simp only[cB]at h;split at h
  ·rename_i a' b' h1 h2;cases h;cases op with
   | And=>exact CP (ih h1) (ol ih h2)
   | Or=>exact EM (ih h1) (ol ih h2)
  ·cases h
theorem xH {n:HM}(ih:∀ {e:Iv} {e':E},cE n Γ e=gV e'->GE X e (aK Φ e')){o:HL Iv}{p:Ep}(h:cP (cE n Γ) o=gV p):GO X o (tt Φ p):=by
 cases o with
 | none=>cases h; exact Ah
 | some e=>
  simp only[cP,HJ]at h;obtain⟨e',h1,rfl⟩:=h;exact Ai (ih h1)
theorem rS (K:CtxOk Φ X Γ){n:HM}(ih:∀ {e:Iv} {e':E},cE n Γ e=gV e'->GE X e (aK Φ e')){tg e:Iv}{i:Ie}(h:cI Γ (cE n Γ) tg e=gV i):GI X tg e (lJ Φ i):=by
 have gen:(cE n Γ e).map Ie.seq=gV i->GI X tg e (lJ Φ i):=λh=>by
  rw[HJ]at h;obtain⟨e',h1,rfl⟩:=h;exact AE (ih h1)
 unfold cI at h;split at h
 ·rename_i x p a pos;split at h
  ·rename_i hc;rw[HN,HN]at hc;obtain⟨⟨h1,h2⟩,h3⟩:=hc;have hx:=eq_of_beq h1;subst hx;rw[HJ]at h;obtain⟨r,hr,rfl⟩:=h;have ns:=c8 hr;rw[Jd,HN]at ns;exact Ay (kQ K h2).1 (K.blt _ (by simpa using h3)) (dN ih hr) (aH ns.1)
  ·split at h
   ·rename_i hc;rw[HN,HN,HN]at hc;obtain⟨⟨⟨h1,h2⟩,h3⟩,h4⟩:=hc;have hx:=eq_of_beq h1;subst hx;rw[HJ]at h;obtain⟨r,hr,rfl⟩:=h;have ns:=c8 hr;rw[Jd,HN]at ns;cases tg with
    | Tuple els k0 tp=>exact AI (kQ K h2).1 (K.blt _ (by simpa using h3)) (dN ih hr) (aH ns.1)
    | _=>cases h4
   ·exact gen h
 ·rename_i x p a b pos;split at h
  ·rename_i hc;rw[HN,HN]at hc;obtain⟨⟨h1,h2⟩,h3⟩:=hc;have hx:=eq_of_beq h1;subst hx;rw[HJ]at h;obtain⟨r,hr,rfl⟩:=h;have ns:=c8 hr;rw[Jd,Jd,HN,HN]at ns;exact Az (kQ K h2).1 (K.blt _ (by simpa using h3)) (dN ih hr) (by rw[aH ns.1,aH ns.2.1]; rfl) (aH ns.2.1)
  ·exact gen h
 ·exact gen h
theorem om (K:CtxOk Φ X Γ){x:Ik}{i:HM}(h:dw Γ x=gV i):X.N[i]?=gV x/\y4 X.env.scope x/\(X.fn x=true\/X.env.scope.names.lookup x=gV .local):=by
 unfold dw at h;split at h
 ·rename_i hc;refine#[by rw[K.N]; exact dF h,?_]
  unfold L2.y4;rw[K.names];rw[J4,HN]at hc;rcases hc with hc|⟨hd,hc⟩
  ·have:=eq_of_beq hc;exact#[.inl this,.inr this]
  ·exact#[.inr (eq_of_beq hc),.inl (K.dfn hd x)]
 ·cases h
theorem qd (K:CtxOk Φ X Γ):∀ {ts:HF Iv} {is:HF HM},DX Γ ts=gV is->(∀x∈ts,∃y p,x=M3 y p)/\Mp (λ(t:Iv) (i:HM)=>∃x p,t=M3 x p/\X.N[i]?=gV x/\y4 X.env.scope x/\(X.fn x=true\/X.env.scope.names.lookup x=gV .local)) ts is
 | [],is,h=>by cases h; exact#[λx hx=>by simp at hx,.nil]
 | t::ts,is,h=>by
  cases t with
  | Name x p=>
   simp only[DX]at h;split at h
   ·rename_i i is' h1 h2;cases h;obtain⟨a,b⟩:=qd K h2;exact#[λy hy=>(Iz.mp hy).elim (λe=>#[x,p,e]) (a y),.cons #[x,p,rfl,om K h1] b]
   ·cases h
  | _=>cases h
theorem ib {env:NA}:∀ {ts:HF Iv},(∀x∈ts,∃y p,x=M3 y p)->(assignEach ts env).length=ts.length/\(assignEach ts env).findIdx? (·.1)=td
 | [],_=>#[rfl,rfl]
 | t::ts,h=>by
  obtain⟨y,p,rfl⟩:=h t JN;obtain⟨a,b⟩:=ib (env:=env) λx hx=>h x (Jk _ hx)
  refine#[by show(assignEach ts env).length+1=ts.length+1; rw[a],?_]
  show List.findIdx? (·.1) ((false,assign (.Name y p) env)::assignEach ts env)=td
  rw[List.findIdx?_cons,b];rfl
theorem tD (K:CtxOk Φ X Γ){tg:Iv}{t:Tg}(h:cT Γ tg=gV t):GG X tg (gI t):=by
 have hN:X.N.Nodup:=by rw[K.N]; exact K.nd
 cases tg with
 | Name x p=>
  simp only[cT,HJ]at h;obtain⟨i,h1,rfl⟩:=h;obtain⟨a,b,c⟩:=om K h1;exact tj hN a b c
 | Tuple ts k p=>
  simp only[cT,HJ]at h;obtain⟨is,h1,rfl⟩:=h;obtain⟨a,b⟩:=qd K h1;exact C4 K.calm a b hN (ib a).1 (ib a).2
 | _=>cases h
end
noncomputable def eR (env:NA):HF (Ik×JP)->HF (Ik×HR)->HF (Ik×HR)
 | [],cs=>cs
 | (n,k)::r,cs=>eR env r (if k==.free then(n,(env.cells.lookup n).getD 0)::cs else cs)
theorem ja {env:NA}:∀(names:HF (Ik×JP)) (cs:HF (Ik×HR)),(∀y∈names,y.2=.free->(env.cells.lookup y.1).isSome=true)->
  (forIn names cs λx r=>match x with|(name,kind)=>if (kind==Lb)=true then do let a <- cellOf env name; pure (JL ((name,a)::r))else pure (JL r):Ph (HF (Ik×HR)))=pure (eR env names cs)
 | [],cs,_=>by rw[OJ]; rfl
 | (n,k)::r,cs,h=>by
  rw[MA];have hr:=λy hy=>h y (Jk _ hy)
  by_cases hk:(k==Lb)=true
  ·obtain⟨c,hc⟩:=Jc.mp (h (n,k) JN (eq_of_beq hk));have e1:cellOf env n=pure c:=by unfold cellOf; rw[hc]
   simp only[hk,KG,e1,pure_bind];rw[ja r _ hr];simp only[eR,hk,KG,hc,Oa]
  ·have hk':(k==Lb)=false:=by simpa using hk
   simp only[hk',Js,Kq,pure_bind];rw[ja r _ hr];simp only[eR,hk',Js,Kq]
theorem j3 {scope:KL}{env:NA}(h:∀y∈scope.names,y.2=.free->(env.cells.lookup y.1).isSome=true):closureFor scope env=pure (eR env scope.names []):=by
 have:=ja scope.names [] h;unfold closureFor;simp only[this,pure_bind]
theorem kR {env:NA}:∀(names:HF (Ik×JP)) (cs:HF (Ik×HR)),(∀y∈names,y.2=.free->(env.cells.lookup y.1).isSome=true)->(∀x c,cs.lookup x=gV c->env.cells.lookup x=gV c)->
  ∀x c,(eR env names cs).lookup x=gV c->env.cells.lookup x=gV c
 | [],cs,_,h,x,c,e=>h x c e
 | (n,k)::r,cs,hn,h,x,c,e=>by
  refine kR r _ (λy hy=>hn y (Jk _ hy)) (λx c e=>?_) x c e
  split at e
  ·rename_i hk;rw[JQ]at e;split at e
   ·rename_i hx;cases e;have:=eq_of_beq hx;subst this;obtain⟨c,hc⟩:=Jc.mp (hn (x,k) JN (eq_of_beq hk));rw[hc]; rfl
   ·exact h x c e
  ·exact h x c e
theorem jQ {env:NA}{x:Ik}:∀(names:HF (Ik×JP)) (cs:HF (Ik×HR)),(∃c,cs.lookup x=gV c)->∃c,(eR env names cs).lookup x=gV c
 | [],cs,h=>h
 | (n,k)::r,cs,h=>by
  refine jQ r _ ?_;split
  ·rw[JQ];split
   ·exact#[_,rfl]
   ·exact h
  ·exact h
theorem kS {env:NA}{x:Ik}:∀(names:HF (Ik×JP)) (cs:HF (Ik×HR)),(x,Lb)∈names->∃c,(eR env names cs).lookup x=gV c
 | [],cs,h=>by simp at h
 | (n,k)::r,cs,h=>by
  rcases Iz.mp h with e|h
  ·cases e;refine jQ r _ ?_;simp[JQ]
  ·exact kS r _ h
theorem kU {x:Ik}{k:JP}:∀ {l:HF (Ik×JP)},l.lookup x=gV k->(x,k)∈l
 | [],h=>by simp at h
 | (n,j)::r,h=>by
  rw[JQ]at h;split at h
  ·rename_i hx;cases h;have:=eq_of_beq hx;subst this;exact JN
  ·exact Jk _ (kU h)
theorem eS {X:Cx}{Φ:Ik->FF}{Γ:Gam}(K:CtxOk Φ X Γ)(scope:KL):(relabel scope X.env).names=ga scope.names Γ.sc:=by
 unfold relabel ga Mv;rw[K.kind,K.names];refine Jw λ#[n,k] _=>?_
 have e:(Nu==Nu)=true:=rfl;simp only[e,Nc]
theorem ey {outer:HF (Ik×JP)}{x:Ik}:∀ {names:HF (Ik×JP)},(ga names outer).lookup x=(names.lookup x).map λk=>if (k==.free&&outer.lookup x==gV .cell)then .cell else k
 | []=>rfl
 | (n,k)::r=>by
  have ih:=ey (outer:=outer) (x:=x) (names:=r);show List.lookup x ((if (k==Lb&&outer.lookup n==gV .cell)=true then(n,P6)else(n,k))::ga r outer)=_
  cases hx:x==n with
  | true=>
   have:=eq_of_beq hx;subst this;simp only[JQ,Jh,IR];split <;> simp[JQ]
  | false=>
   simp only[JQ,hx];split <;> (simp only[JQ,hx]; exact ih)
section
variable{Φ:Ik->FF}{X:Cx}{Γ:Gam}
structure ScOk (Γ:Gam)(scope:KL):Prop where
 kind:scope.kind=.function
 names:∀y∈scope.names,y.2=.local->scope.names.lookup y.1=gV .local
 nocell:∀y∈scope.names,y.2≠.cell
 free:∀y∈scope.names,y.2=.free->AK (Γ.sc.lookup y.1)=true/\scope.names.lookup y.1=gV .free/\(Γ.N.findIdx? (· == y.1)).isSome=true
 nd:(gS scope.names).Nodup
theorem tF {scope:KL}(h:xA Γ scope=true):ScOk Γ scope:=by
 unfold xA at h;rw[HN,HN,HN,HN]at h;obtain⟨⟨⟨⟨h1,h2⟩,h3⟩,h4⟩,h5⟩:=h;refine#[eq_of_beq h1,λy hy e=>?_,λy hy e=>?_,λy hy e=>?_,Jg h5]
 ·have:=IB.mp h2 y hy;rw[e]at this
  simpa using this
 ·have:=IB.mp h3 y hy;rw[e]at this;simp at this
 ·have:=IB.mp h4 y hy;rw[e]at this;simp only[Jh,Nd,Nf,HN]at this;exact#[this.1.1,eq_of_beq this.1.2,this.2]
theorem tH {o:HL JP}(h:AK o=true):o=gV .cell\/o=gV .free:=by
 unfold AK at h;split at h
 ·exact .inl rfl
 ·exact .inr rfl
 ·cases h
theorem mS (K:CtxOk Φ X Γ)(ok:X.Ok){scope:KL}(sc:ScOk Γ scope):CompOk X scope (eR X.env scope.names []) (gS scope.names) (gv Γ scope.names):=by
 have cells:∀y∈scope.names,y.2=.free->(X.env.cells.lookup y.1).isSome=true:=λy hy e=>by
  have hk:=tH (sc.free y hy e).1;obtain⟨c,hc⟩:=ok.has y.1 (by unfold Mv; rw[K.names]; exact hk)
  rw[hc]; rfl
 have relab:∀x,((relabel scope X.env).names.lookup x=gV .cell\/(relabel scope X.env).names.lookup x=gV .free)->(x,Lb)∈scope.names:=λx h=>by
  rw[eS K,ey]at h;cases q:scope.names.lookup x with
  | none=>rw[q]at h; rcases h with h|h <;> cases h
  | some k=>
   rw[q]at h;have hm:=kU q;cases k with
   | free=>exact hm
   | cell=>exact absurd rfl (sc.nocell _ hm)
   | _=>rcases h with h|h <;> simp at h
 refine#[j3 cells,sc.kind,sc.names,sc.nocell,kR _ _ cells (λx c e=>by cases e),λx h=>kS _ _ (relab x h),by simp[gv],λi j x hi hx=>?_]
 unfold gv at hi;rw[HS,hx]at hi;simp only[IR,II]at hi;split at hi
 ·cases hi
 ·rename_i hl;have hx2:x∈gS scope.names:=Ij hx;unfold gS at hx2;obtain⟨⟨x',k⟩,hf,e⟩:=Ir.mp hx2;obtain⟨hm,hk⟩:=Ki.mp hf;have e':x'=x:=e;subst e';have hkf:k=.free:=by
   simp only[J4]at hk;rcases hk with hk|hk
   ·have:k=.local:=eq_of_beq hk;subst this;have:=sc.names (x',.local) hm rfl;rw[this]at hl;simp at hl
   ·exact eq_of_beq hk
  subst hkf;obtain⟨f1,f2,f3⟩:=sc.free _ hm rfl;refine#[by rw[K.N]; exact dF hi,by unfold Mv; rw[K.names]; exact tH f1,?_]
  rw[eS K,ey,f2];simp only[IR,II,Jh,Ly];split
  ·exact .inl rfl
  ·exact .inr rfl
theorem eZ (K:CtxOk Φ X Γ){scope:KL}(sc:ScOk Γ scope)(C:HR)(s0:HK)(H0:Hp)(ex:HF HR):CtxOk Φ (lI X scope (eR X.env scope.names []) C (gS scope.names) s0 H0 ex) (gT Γ scope) where
 names:=eS K scope
 kind:=sc.kind
 N:=rfl
 nd:=sc.nd
 calm:=K.calm
 xe:=rfl
 un:=K.un
 dfn:=λh=>by cases h
 blt:=K.blt
 fns:=K.fns
theorem qe {cs:Es}{n:HM}{ifs:HF Iv}{Γ:Gam}(hl:ifs.length<=1)(hc:cA (cE n Γ) ifs=gV cs){Y:Cx}(ih:∀ {e:Iv} {e':E},cE n Γ e=gV e'->GT Y e (dk Φ e'))(hx:Y.xe=λ_ _=>Jq) :
  ∀pins s σ H Q,Inv Y pins σ H s->tT Y (AJ Φ cs) σ H Q->
  wpAny (model Y.prog Y.w) Y.A (forIn ifs true λc r=>if r=true then do let ok <- isTrue c Y.env (eval c Y.env); pure (JL ok)else pure (JL r)) (TP Y pins σ Q) (λ_ _=>Jq) s:=by
 intro pins s σ H Q I h
 match ifs,hl,hc with
 | [],_,hc=>
  cases hc;obtain⟨A,ρ,S,k,S',er,so,e,hq⟩:=h;cases e;exact wpAny_tests_nil #[H,I,hq _ _ #[rfl,A,.refl,so]]
 | [c],_,hc=>
  obtain⟨e',es',h1,h2,rfl⟩:=iE hc;cases h2;have:=ih h1 pins s σ H Q I h;rw[hx]at this;exact wpAny_tests_one this
theorem cw:∀(n:HM) {Γ:Gam} {X:Cx} {e:Iv} {e':E},CtxOk Φ X Γ->cE n Γ e=gV e'->GE X e (aK Φ e')/\GT X e (dk Φ e'):=by
 intro n
 induction n with
 | zero=>intro Γ X e e' K h; cases h
 | succ n ih=>
  intro Γ X e e' K h;have ihE:∀ {e:Iv} {e':E},cE n Γ e=gV e'->GE X e (aK Φ e'):=λq=>(ih K q).1
  have ihT:∀ {e:Iv} {e':E},cE n Γ e=gV e'->GT X e (dk Φ e'):=λq=>(ih K q).2
  have hu10:X.A.units+10 < cLine:=by have:=K.un; have:g9=20:=rfl; omega
  cases e with
  | Constant c k p=>
   cases c <;> cases h
   all_goals first
    | exact#[pW vL (λ_ _=>.non),cX (pW vL (λ_ _=>.non)) λ_=>rfl]
    | exact#[pW Bv (λ_ _=>.bl),cX (pW Bv (λ_ _=>.bl)) λ_=>rfl]
    | exact#[pW vK (λ_ _=>.int),cX (pW vK (λ_ _=>.int)) λ_=>rfl]
    | exact#[pW vM (λ_ _=>.str),cX (pW vM (λ_ _=>.str)) λ_=>rfl]
  | Name x p=>
   replace h:(match slot Γ x with|some i=>gV (E.v i)|none=>td)=gV e':=h
   split at h
   ·rename_i i h1;cases h;exact#[xD K h1,cX (xD K h1) λ_=>rfl]
   ·cases h
  | BinOp a op b p=>
   replace h:(match tu op,cE n Γ a,cE n Γ b with|some o,gV a',gV b'=>gV (E.op o a' b')|_,_,_=>td)=gV e':=h
   split at h
   ·rename_i o a' b' h1 h2 h3;cases h;have e:=xF h1;subst e;exact#[BB (sH o) (ihE h2) (ihE h3),cX (BB (sH o) (ihE h2) (ihE h3)) λ_=>rfl]
   ·cases h
  | UnaryOp op a p=>
   cases op with
   | Not=>
    replace h:(cE n Γ a).map E.not=gV e':=h;rw[HJ]at h;obtain⟨a',h1,rfl⟩:=h;exact#[CU (ihE h1),CQ (ihT h1)]
   | USub=>
    replace h:(cE n Γ a).map E.neg=gV e':=h;rw[HJ]at h;obtain⟨a',h1,rfl⟩:=h;exact#[wY (ihE h1),cX (wY (ihE h1)) λ_=>rfl]
   | _=>exact ba h
  | BoolOp op vs p=>
   replace h:cB (cE n Γ) op vs=gV e':=h;exact#[oh ihE h,(ol ihT h).pt]
  | Compare a ops cs p=>
   match ops,cs,h with
   | [op],[b],h=>
    replace h:(match tw op,cE n Γ a,cE n Γ b with|some o,gV a',gV b'=>gV (E.cmp o a' b')|_,_,_=>td)=gV e':=h
    split at h
    ·rename_i o a' b' h1 h2 h3;cases h;have e:=xE h1;subst e;exact#[CM K.un (ihE h2) (ihE h3) (qc h3),CN K.un (ihE h2) (ihE h3) (qc h3)]
    ·cases h
   | [],_,h=>exact ba h
   | [_],[],h=>exact ba h
   | [_],_::_::_,h=>exact ba h
   | _::_::_,_,h=>exact ba h
  | IfExp t a b p=>
   replace h:(match cE n Γ t,cE n Γ a,cE n Γ b with|some t',gV a',gV b'=>gV (E.ite t' a' b')|_,_,_=>td)=gV e':=h
   split at h
   ·rename_i t' a' b' h1 h2 h3;cases h;exact#[CV (ihT h1) (ihE h2) (ihE h3),kj]
   ·cases h
  | Call f args kws p=>
   cases kws with
   | cons _ _=>cases f <;> first|(exact ba h)|(cases args <;> (exact ba h))
   | nil=>
    cases f with
    | Name x q=>
     replace h:(if lO Γ x then match Γ.fns.lookup x with|some k=>(cA (cE n Γ) args).map (E.own x k)|none=>if x==("isinstance" : Ik)then(if Γ.blt.contains x then AN Γ (cE n Γ) args else td)else match (generalizing:=false) AL x,args with|some b,a::as=>if Γ.blt.contains x then(cA (cE n Γ) (a::as)).map (E.bi b)else td|_,_=>td else td)=gV e':=h
     split at h
     ·rename_i hg;split at h
      ·rename_i k hk;rw[HJ]at h;obtain⟨r,hr,rfl⟩:=h;have g:=E1 (pos:=p) (p:=q) K hg hk hr (dN ihE hr);exact#[g,cX g λ_=>rfl]
      ·split at h
       ·rename_i his;split at h
        ·rename_i hc;obtain⟨g,a',c',rfl⟩:=E2 (pos:=p) (p:=q) K hg his hc ihE h;exact#[g,cX g λ_=>rfl]
        ·cases h
       ·split at h
        ·rename_i bb a as hb;split at h
         ·rename_i hc;rw[HJ]at h;obtain⟨r,hr,rfl⟩:=h;have g:=GQ (pos:=p) (p:=q) K hg hb hc hr (dN ihE hr);exact#[g,cX g λ_=>rfl]
         ·cases h
        ·cases h
     ·cases h
    | Attribute o m q=>
     cases args with
     | nil=>exact ba h
     | cons a as=>
      replace h:(match AM m,cE n Γ o,cA (cE n Γ) (a::as)with|some m',gV o',gV es=>if gr o&&(q.endLine==p.line)&&decide ((a::as).length < 29)then gV (E.me m' o' es)else td|_,_,_=>td)=gV e':=h
      split at h
      ·rename_i m' o' es h1 h2 h3;split at h
       ·rename_i hc;rw[HN,HN,Ix]at hc;cases h;have g:=GR K (cpos:=p) (apos:=q) h1 hc.1.1 hc.1.2 hc.2 (ihE h2) h3 (dN ihE h3);exact#[g,cX g λ_=>rfl]
       ·cases h
      ·cases h
    | _=>exact ba h
  | Subscript a b p=>
   have plain:(match cE n Γ a,cE n Γ b with|some a',gV b'=>gV (E.ix a' b')|_,_=>td)=gV e'->GE X (.Subscript a b p) (aK Φ e')/\GT X (.Subscript a b p) (dk Φ e'):=λh=>by
    split at h
    ·rename_i a' b' h1 h2;cases h;have g:=EQ (pos:=p) hu10 (ihE h1) (ihE h2) (rR h2);exact#[g,cX g λ_=>rfl]
    ·cases h
   cases b with
   | Slice lo hi st q=>
    cases st with
    | none=>
     replace h:(match cE n Γ a,cP (cE n Γ) lo,cP (cE n Γ) hi with|some a',gV lo',gV hi'=>gV (E.sl a' lo' hi')|_,_,_=>td)=gV e':=h
     split at h
     ·rename_i a' lo' hi' h1 h2 h3;cases h;have g:=ER (pos:=p) (p2:=q) (ihE h1) (xH ihE h2) (xH ihE h3);exact#[g,cX g λ_=>rfl]
     ·cases h
    | some z=>exact plain h
   | _=>exact plain h
  | Tuple es k p=>
   replace h:(cA (cE n Γ) es).map E.tup=gV e':=h;rw[HJ]at h;obtain⟨r,h1,rfl⟩:=h;exact#[xh (dN ihE h1),cX (xh (dN ihE h1)) λ_=>rfl]
  | List es p=>
   replace h:(cA (cE n Γ) es).map E.lst=gV e':=h;rw[HJ]at h;obtain⟨r,h1,rfl⟩:=h;exact#[xi (dN ihE h1),cX (xi (dN ihE h1)) λ_=>rfl]
  | Dict keys values p=>
   replace h:xB (cE n Γ) keys values=gV e':=h;unfold xB at h;split at h
   ·rename_i hc;cases h;rw[HN]at hc;have k0:keys=[]:=Ob.mp hc.1;have v0:values=[]:=Ob.mp hc.2;subst k0 v0;exact#[AC,kj]
   ·rename_i hc0;split at h
    ·rename_i hc;rw[HN,HN,Ix,Ix]at hc;rw[HJ]at h;obtain⟨r,hr,rfl⟩:=h;have h0:keys≠[]:=λz=>by
      subst z;have v0:values=[]:=Lh.mp hc.1.2.symm;subst v0;exact hc0 rfl
     exact#[AD (pos:=p) hu10 (tB ihE keys values hc.1.1 hc.1.2 hr) hc.1.1 hc.1.2 h0 hc.2,kj]
    ·cases h
  | ListComp elt gens scope p=>
   match gens,h with
   | [#[tg,iter,ifs,asy]],h=>
    replace h:(if (asy==0)&&(xA Γ scope&&decide (ifs.length<=1))then match cI Γ (cE n Γ) tg iter,cT (gT Γ scope) tg,cA (cE n (gT Γ scope)) ifs,cE n (gT Γ scope) elt with|some it,gV t,gV cs,gV el=>gV (E.comp el t it cs (gv Γ scope.names))|_,_,_,_=>td else td)=gV e':=h
    split at h
    ·rename_i hc;rw[HN,HN,Ix]at hc;have e0:asy=0:=eq_of_beq hc.1;subst e0;replace hc:=hc.2;split at h
     ·rename_i it t cs el h1 h2 h3 h4;cases h;have sc:=tF hc.1;refine#[AF K.calm (rS K ihE h1) (λok=>#[_,mS K ok sc,?_]) (og (n:=n) (λel k p=>by cases n <;> rfl) h1),kj]
      refine#[λC s0 H0 ex=>tD (eZ K sc C s0 H0 ex) h2,λC s0 H0 ex pins s σ H Q I q=>?_,λC s0 H0 ex=>(ih (eZ K sc C s0 H0 ex) h4).1]
      exact qe hc.2 h3 (λz=>(ih (eZ K sc C s0 H0 ex) z).2) rfl pins s σ H Q I q
     ·cases h
    ·cases h
   | [],h=>exact ba h
   | #[_,_,_,_]::_::_,h=>exact ba h
  | _=>exact ba h
end
noncomputable abbrev cx:HM:=30
noncomputable def BF:Iv->Iy
 | .Constant (.str _) _ _=>true
 | _=>false
noncomputable def jb:Iv->Iy
 | .ListComp _ _ _ _=>true
 | _=>false
noncomputable def tJ:Iv->Iy
 | .Slice _ _ _ _=>true
 | _=>false
noncomputable def u9 (f:Ks->HL Sm)(ss:HF Ks):HL Ss:=ss.foldr (λs acc=>match f s,acc with|some s',gV ss'=>gV (.cons s' ss')|_,_=>td) (gV .nil)
noncomputable def Dc (Γ:Gam):HF Iv->Iv->HL Sm
 | [.Name x px,.Name y py],.Tuple [a,b] _ _=>match Γ.N.findIdx? (· == x),Γ.N.findIdx? (· == y),cA (cE cx Γ) [a,b]with
  | some i,gV j,gV es=>if !(i==j)&&(Γ.sc.lookup x==gV .local)&&(Γ.sc.lookup y==gV .local)&&(py.line==px.line) && !([a,b].all (foldedForSure 8)) && !([a,b].all (constantsAlone 8))then gV (.par i j es)else td
  | _,_,_=>td
 | _,_=>td
noncomputable def cS:HM->Gam->Ks->HL Sm
 | 0,_,_=>td
 | n+1,Γ,st=>match st with
  | .Assign [.Name x _] e _=>match dw Γ x,cE cx Γ e with
   | some i,gV e'=>gV (.set i e')
   | _,_=>td
  | .Assign [.Tuple ts _ _] e _=>if isTup e then Dc Γ ts e else if jb e then td else match DX Γ ts,cE cx Γ e with
   | some is,gV e'=>gV (.asg is e')
   | _,_=>td
  | .Assign [.Subscript o k _] e _=>if tJ k then td else match cE cx Γ o,cE cx Γ k,cE cx Γ e with
   | some o',gV k',gV e'=>gV (.put o' k' e')
   | _,_,_=>td
  | .Expr e _=>if BF e then gV .pass else if jb e then td else(cE cx Γ e).map .ex
  | .Return (gV e) _=>(cE cx Γ e).map .ret
  | .Return td _=>gV .retN
  | .Pass _=>gV .pass
  | .Raise _ _ _=>gV .bad
  | .Break _=>gV .brk
  | .Continue _=>gV .cont
  | .If t a b _=>match cE cx Γ t,u9 (cS n Γ) a,u9 (cS n Γ) b with
   | some t',gV a',gV b'=>gV (.ite t' a' b')
   | _,_,_=>td
  | .While t b [] _=>match cE cx Γ t,u9 (cS n Γ) b with
   | some t',gV b'=>gV (.whl t' b')
   | _,_=>td
  | .For tg it b [] _=>match cT Γ tg,cI Γ (cE cx Γ) tg it,u9 (cS n Γ) b with
   | some t,gV i,gV b'=>gV (.loop t i b')
   | _,_,_=>td
  | _=>td
section
variable{Φ:Ik->FF}{X:Cx}{Γ:Gam}{fuel:HM}
theorem xI {f:Ks->HL Sm}{s:Ks}{ss:HF Ks}{r:Ss}(h:u9 f (s::ss)=gV r):∃s' ss',f s=gV s'/\u9 f ss=gV ss'/\r=.cons s' ss':=by
 simp only[u9,Oo]at h;split at h
 ·rename_i e' es' h1 h2;cases h;exact#[e',es',h1,h2,rfl]
 ·cases h
theorem gw {n:HM}(ih:∀ {st:Ks} {s':Sm},cS n Γ st=gV s'->GS X st (fY Φ fuel s')):∀ {ss:HF Ks} {r:Ss},u9 (cS n Γ) ss=gV r->GSs X ss (fZ Φ fuel r)
 | [],r,h=>by cases h; exact Ak
 | s::ss,r,h=>by
  obtain⟨s',ss',h1,h2,rfl⟩:=xI h;exact xk (ih h1) (gw ih h2)
theorem kW {e:Iv}{t:HL Iv}{l:HM}{env:NA}(h:jb e=false)(n:HM){Γ:Gam}{e':E}(hc:cE n Γ e=gV e'):swapsWith e t l env=pure false:=by
 cases n with
 | zero=>cases hc
 | succ n=>cases e <;> first|(exfalso; exact ba hc)|rfl|cases h
theorem rT (K:CtxOk Φ X Γ){n:HM}{elt:Iv}{gens:HF Comprehension}{scope:KL}{p:Kf}{e':E}(h:cE (n+1) Γ (.ListComp elt gens scope p)=gV e') :
  ∃tg iter ifs fi g c f cap,gens=[#[tg,iter,ifs,0]]/\aK Φ e'=kP fi g c f cap/\GI X tg iter fi/\(X.Ok->∃cl,CompOk X scope cl (gS scope.names) cap/\BlockOk X scope cl (gS scope.names) tg elt ifs g c f)/\∀x,foldedSetIterable iter X.env x=pure x:=by
 match gens,h with
 | [#[tg,iter,ifs,asy]],h=>
  replace h:(if (asy==0)&&(xA Γ scope&&decide (ifs.length<=1))then match cI Γ (cE n Γ) tg iter,cT (gT Γ scope) tg,cA (cE n (gT Γ scope)) ifs,cE n (gT Γ scope) elt with|some it,gV t,gV cs,gV el=>gV (E.comp el t it cs (gv Γ scope.names))|_,_,_,_=>td else td)=gV e':=h
  split at h
  ·rename_i hc;rw[HN,HN,Ix]at hc;have e0:asy=0:=eq_of_beq hc.1;subst e0;replace hc:=hc.2;split at h
   ·rename_i it t cs el h1 h2 h3 h4;cases h;have sc:=tF hc.1;refine#[tg,iter,ifs,_,_,_,_,_,rfl,rfl,rS K (λz=>(cw n K z).1) h1,λok=>#[_,mS K ok sc,?_],og (n:=n) (λel k p=>by cases n <;> rfl) h1]
    refine#[λC s0 H0 ex=>tD (eZ K sc C s0 H0 ex) h2,λC s0 H0 ex pins s σ H Q I q=>?_,λC s0 H0 ex=>(cw n (eZ K sc C s0 H0 ex) h4).1]
    exact qe hc.2 h3 (λz=>(cw n (eZ K sc C s0 H0 ex) z).2) rfl pins s σ H Q I q
   ·cases h
  ·cases h
 | [],h=>exact ba h
 | #[_,_,_,_]::_::_,h=>exact ba h
theorem E3 (K:CtxOk Φ X Γ){x:Ik}{px pos:Kf}{e:Iv}{i:HM}{e':E}(hi:dw Γ x=gV i)(he:cE cx Γ e=gV e'):GS X (.Assign [.Name x px] e pos) (kO (aK Φ e') (As i)):=by
 obtain⟨a,b,c⟩:=om K hi;have hN:X.N.Nodup:=by rw[K.N]; exact K.nd
 have plain:swapsWith e (gV (.Name x px)) pos.line X.env=pure false->GS X (.Assign [.Name x px] e pos) (kO (aK Φ e') (As i)):=λhs=>rL (cw _ K he).1 (tj hN a b c) hs (by cases e <;> rfl) rfl
 cases hc:jb e with
 | false=>exact plain (kW hc _ he)
 | true=>
  cases e with
  | ListComp elt gens scope p=>
   cases hsw:(X.env.blockKind==.function&&X.env.kindOf x==gV .local&&px.line==p.line && !(scope.names.any λ(n,k)=>n==x&&(k==.local||k==.cell)))with
   | false=>
    refine plain ?_;show(pure (X.env.blockKind==.function&&X.env.kindOf x==gV .local&&px.line==p.line && !(scope.names.any λ(n,k)=>n==x&&(k==.local||k==.cell))):Ph Iy)=pure false
    rw[hsw]
   | true=>
    have hsw':swapsWith (.ListComp elt gens scope p) (gV (.Name x px)) pos.line X.env=pure true:=by
     show(pure (X.env.blockKind==.function&&X.env.kindOf x==gV .local&&px.line==p.line && !(scope.names.any λ(n,k)=>n==x&&(k==.local||k==.cell))):Ph Iy)=pure true
     rw[hsw]
    rw[HN,HN,HN]at hsw;have hl:X.env.scope.names.lookup x=gV .local:=eq_of_beq hsw.1.1.2;obtain⟨tg,iter,ifs,fi,g,c',f,cap,rfl,e2,gi,hck,hs⟩:=rT K he;rw[e2];exact rP K.calm gi hck hs hsw' hN a hl
  | _=>cases hc
theorem qf (K:CtxOk Φ X Γ){x y:Ik}{px py pt pt2:Kf}{kt k2:HM}{a b:Iv}(hxy:x≠y)(hx:Γ.sc.lookup x=gV .local)(hy:Γ.sc.lookup y=gV .local)(hl:(py.line==px.line)=true)(h1:[a,b].all (foldedForSure 8)=false)(h2:[a,b].all (constantsAlone 8)=false)(hs:hZ a=true)(hs2:hZ b=true) :
  swappedStores [.Tuple [.Name x px,.Name y py] kt pt] (.Tuple [a,b] k2 pt2) X.env=pure (gV [x,y]):=by
 have kx:(X.env.kindOf x==gV .local)=true:=by unfold Mv; rw[K.names,hx]; rfl
 have ky:(X.env.kindOf y==gV .local)=true:=by unfold Mv; rw[K.names,hy]; rfl
 have bk:(X.env.blockKind != .function)=false:=by
  unfold Env.blockKind;rw[K.kind];rfl
 have hp:(px.line==px.line)=true:=by simp
 have ed:([x,y].eraseDups.length != [x,y].length)=false:=by
  have:(y==x)=false:=by simpa using Ne.symm hxy
  simp[M8,this]
 have kx':X.env.kindOf x=gV .local:=eq_of_beq kx;have ky':X.env.kindOf y=gV .local:=eq_of_beq ky;have hl':py.line=px.line:=eq_of_beq hl;have bk':X.env.blockKind=.function:=by simpa using bk
 have yx:(y==x)=false:=by simpa using Ne.symm hxy
 have h1':(foldedForSure 8 a&&foldedForSure 8 b)=false:=by simpa using h1
 have h2':(constantsAlone 8 a&&constantsAlone 8 b)=false:=by simpa using h2
 unfold swappedStores;simp only[Kt,List.any_nil,OV,K5,List.filterMap_nil,kx',ky',bk',List.head?_cons,IR,Oa,IW,JK,Jd,List.all_nil,Nc,h1',h2'];refine Eq.trans (IH ?_) (Eq.trans (IH ?_) ?_)
 ·decide
 ·rw[J4];rintro(hh|hh)
  ·clear h1 h2 h1' h2';cases a <;> first|(cases hh; done)|(cases hs; done)
  ·clear h1 h2 h1' h2';cases b <;> first|(cases hh; done)|(cases hs2; done)
 ·simp[Expr.pos,hl',yx,M8]
theorem AO (fuel:HM)(K:CtxOk Φ X Γ):∀(n:HM) {st:Ks} {s':Sm},cS n Γ st=gV s'->GS X st (fY Φ fuel s'):=by
 have hN:X.N.Nodup:=by rw[K.N]; exact K.nd
 have own:M1 (model X.prog X.w) X.A X.env X.xe:=by rw[K.xe]; exact P0
 intro n
 induction n with
 | zero=>intro st s' h; cases h
 | succ n ih=>
  intro st s' h;cases st with
  | Expr e p=>
   replace h:(if BF e then gV Sm.pass else if jb e then td else(cE cx Γ e).map Sm.ex)=gV s':=h
   split at h
   ·rename_i hd;cases h;cases e with
    | Constant c k q=>
     cases c with
     | str x=>exact C0
     | _=>cases hd
    | _=>cases hd
   ·split at h
    ·cases h
    ·rename_i hd hc;rw[HJ]at h;obtain⟨e',h1,rfl⟩:=h;exact ES (cw _ K h1).1 (kW (by simpa using hc) _ h1)
  | Return o p=>
   cases o with
   | none=>cases h; exact Aq
   | some e=>
    replace h:(cE cx Γ e).map Sm.ret=gV s':=h;rw[HJ]at h;obtain⟨e',h1,rfl⟩:=h;exact C3 (cw _ K h1).1
  | Pass p=>cases h; exact An
  | Raise exc cause pos=>cases h; exact λpins s D σ H I #[A,ρ,S,o,S',er,so,e,hq]=>nomatch e
  | Break p=>cases h; exact xm
  | Continue p=>cases h; exact Ao
  | If t a b p=>
   replace h:(match cE cx Γ t,u9 (cS n Γ) a,u9 (cS n Γ) b with|some t',gV a',gV b'=>gV (Sm.ite t' a' b')|_,_,_=>td)=gV s':=h
   split at h
   ·rename_i t' a' b' h1 h2 h3;cases h;exact ET (cw _ K h1).2 (gw ih h2) (gw ih h3)
   ·cases h
  | While t b o p=>
   cases o with
   | cons _ _=>exact ba h
   | nil=>
    replace h:(match cE cx Γ t,u9 (cS n Γ) b with|some t',gV b'=>gV (Sm.whl t' b')|_,_=>td)=gV s':=h
    split at h
    ·rename_i t' b' h1 h2;cases h;exact xn fuel own (cw _ K h1).2 (gw ih h2)
    ·cases h
  | For tg it b o p=>
   cases o with
   | cons _ _=>exact ba h
   | nil=>
    replace h:(match cT Γ tg,cI Γ (cE cx Γ) tg it,u9 (cS n Γ) b with|some t,gV i,gV b'=>gV (Sm.loop t i b')|_,_,_=>td)=gV s':=h
    split at h
    ·rename_i t i b' h1 h2 h3;cases h;exact C8 own K.calm (rS K (λz=>(cw _ K z).1) h2) (tD K h1) (gw ih h3) (og (n:=cx) (λel k p=>rfl) h2)
    ·cases h
  | Assign ts e p=>
   match ts,h with
   | [],h=>exact ba h
   | a::_::_,h=>cases a <;> exact ba h
   | [t],h=>
    cases t with
    | Name x px=>
     replace h:(match dw Γ x,cE cx Γ e with|some i,gV e'=>gV (Sm.set i e')|_,_=>td)=gV s':=h
     split at h
     ·rename_i i e' h1 h2;cases h;exact E3 K h1 h2
     ·cases h
    | Subscript o k q=>
     replace h:(if tJ k then td else match cE cx Γ o,cE cx Γ k,cE cx Γ e with|some o',gV k',gV e'=>gV (Sm.put o' k' e')|_,_,_=>td)=gV s':=h
     split at h
     ·cases h
     ·rename_i hc;split at h
      ·rename_i o' k' e' h1 h2 h3;cases h;refine rL (cw _ K h3).1 (C5 (by have:=K.un; have:g9=20:=rfl; omega) (cw _ K h1).1 (cw _ K h2).1 ?_) (by cases e <;> rfl) (by cases e <;> rfl) rfl
       intro v;cases k <;> first|rfl|exact absurd rfl hc
      ·cases h
    | Tuple ts' k q=>
     have par:∀ {x y:Ik} {px py:Kf} {a b:PySem.Expr} {k2:HM} {q2:Kf},(match Γ.N.findIdx? (· == x),Γ.N.findIdx? (· == y),cA (cE cx Γ) [a,b]with
       | some i,gV j,gV es=>if !(i==j)&&(Γ.sc.lookup x==gV .local)&&(Γ.sc.lookup y==gV .local)&&(py.line==px.line) && !([a,b].all (foldedForSure 8)) && !([a,b].all (constantsAlone 8))then gV (Sm.par i j es)else td
       | _,_,_=>td)=gV s'->GS X (.Assign [.Tuple [.Name x px,.Name y py] k q] (.Tuple [a,b] k2 q2) p) (fY Φ fuel s'):=λ{x y px py a b k2 q2} h=>by
      split at h
      ·rename_i i j es h1 h2 h3;split at h
       ·rename_i hc;cases h;rw[HN,HN,HN,HN,HN]at hc;obtain⟨⟨⟨⟨⟨c1,c2⟩,c3⟩,c4⟩,c5⟩,c6⟩:=hc;have hij:i≠j:=by simpa using c1
        have ns:=c8 h3;rw[Jd,Jd,HN,HN]at ns;have hi:X.N[i]?=gV x:=by rw[K.N]; exact dF h1
        have hj:X.N[j]?=gV y:=by rw[K.N]; exact dF h2
        refine C6 K.calm hN hi hj hij (by rw[K.names]; exact eq_of_beq c2) (by rw[K.names]; exact eq_of_beq c3) (dN (λz=>(cw _ K z).1) h3) (qf K ?_ (eq_of_beq c2) (eq_of_beq c3) c4 (by rw[<- Ma]; exact c5) (by rw[<- Ma]; exact c6) ns.1 ns.2.1) rfl
        rintro rfl;rw[h1]at h2;cases h2;exact hij rfl
       ·cases h
      ·cases h
     replace h:(if isTup e then Dc Γ ts' e else if jb e then td else match DX Γ ts',cE cx Γ e with|some is,gV e'=>gV (Sm.asg is e')|_,_=>td)=gV s':=h
     split at h
     ·unfold Dc at h;split at h
      ·exact par h
      ·cases h
     ·split at h
      ·cases h
      ·rename_i hc1 hc2;split at h
       ·rename_i is e' h1 h2;cases h;refine rL (cw _ K h2).1 (tD (tg:=.Tuple ts' k q) (t:=.tp is) K (by simp[cT,h1])) (kW (t:=gV (.Tuple ts' k q)) (l:=p.line) (env:=X.env) (by simpa using hc2) _ h2) ?_ rfl
        cases e <;> first|rfl|exact absurd rfl hc1
       ·cases h
    | _=>exact ba h
  | _=>exact ba h
end
structure Df where
 ps:HF Ik
 N:HF Ik
 body:Ss
noncomputable def fE (N:HF Ik)(ws:HF W):Fm:=ws.map gV++IJ (N.length - ws.length) td
noncomputable def ay (defs:HF (Ik×Df))(fuel:HM):HM->Ik->FF
 | 0,_,_,_=>td
 | d+1,f,ws,S=>match defs.lookup f with
  | some df=>if ws.length=df.ps.length then match fZ (ay defs fuel d) fuel df.body (fE df.N ws) S with
    | some (.rt w,S')=>gV (w,S')
    | some (.nx _,S')=>gV (.non,S')
    | _=>td
   else td
  | none=>td
structure Md where
 fns:HF (Ik×HM)
 blt:HF Ik
noncomputable def BG (M:Md)(st:Ks)(N:HF Ik):Gam:={ sc:=(ag st).names,N:=N,fns:=M.fns,blt:=M.blt,dfn:=true }
noncomputable def bR (M:Md)(st:Ks)(df:Df):Prop:=u9 (cS 20 (BG M st df.N)) (c9 st)=gV df.body
theorem mT {K:HW}{A:HF HR}{H:Hp}{ws:HF W}{vs:HF V}{N:HF Ik}(r:RelL K A H ws vs):EnvRel K A H (fE N ws) (fR N vs):=by
 refine#[by simp[fE,L2.fR,r.length],λi w h=>?_]
 unfold fE at h;unfold L2.fR
 by_cases hi:i < ws.length
 ·rw[IQ (by simpa using hi),HS]at h
  rw[IQ (by rw[HI,<- r.length]; exact hi),HS]
  cases q:ws[i]? with
  | none=>rw[q]at h; cases h
  | some w'=>
   rw[q]at h;simp only[IR,II]at h;subst h;obtain⟨v,h1,h2⟩:=r.get q;exact#[v,by rw[h1]; rfl,h2]
 ·rw[JS (by simpa using hi)]at h
  have:=Ij h;simp at this
section
variable{P:IC}{w:IP}{K:HW}{mg:Ik->HL HH}{base:IZ}
noncomputable def BH (P:IC)(w:IP)(K:HW)(mg:Ik->HL HH)(base:IZ)(M:Md)(defs:HF (Ik×Df))(fuel d:HM):Prop:=
 ∀f n,M.fns.lookup f=gV n->∃fa fd ps,FnOk P w K mg base vF d fa fd ps (xj w K n (ay defs fuel d f))/\mg f=gV (.ref fa)/\Jz K (.ref fa)=true/\Binds K fd ps []
structure MdOk (w:IP)(K:HW)(mg:Ik->HL HH)(M:Md):Prop where
 blt:∀y∈M.blt,mg y=td
theorem BI {M:Md}{defs:HF (Ik×Df)}{fuel d:HM}{x qual:Ik}{st:Ks}{f:HR}{fd:Kd}{df:Df}(F:Fun K x qual st f fd)(S:FnScope df.N df.ps (ag st))(hd:defs.lookup x=gV df)(hc:bR M st df)
  (hb:MdOk w K mg M) (prev:BH P w K mg base M defs fuel d):FnOk P w K mg base vF (d+1) f fd df.ps (xj w K df.ps.length (ay defs fuel (d+1) x)):=by
 refine F.ok S (λvs H Q E h=>?_) (λcdv A outer s H vs Q E hr h=>?_)
 ·obtain⟨A,S,ws,w',S',_,rl,hl,_⟩:=h;rw[<- rl.length]; exact hl
 ·obtain⟨A',St,ws,w',S',so,rl,hl,e,hq⟩:=h;have K':CtxOk (ay defs fuel d) (rg vF P w K mg base df.N qual (ag st) f cdv A outer s H E).nox (BG M st df.N):=by
   refine#[rfl,S.kind,rfl,S.nd,rfl,rfl,?_,λ_ _=>rfl,hb.blt,λg n hg=>?_]
   ·have:=hr.un;show(A.deeper _).units+20 < cLine;omega
   ·obtain⟨fa,fd',ps',h1,h2,h3,h4⟩:=prev g n hg;exact#[d,fa,fd',ps',h1,hr,h2,h3,h4]
  refine#[tS _ (fZ (ay defs fuel d) fuel df.body),gw (λz=>AO fuel K' 20 z) hc,?_]
  simp only[ay,hd]at e;rw[Iw hl]at e;split at e
  ·rename_i w1 S1 h1;cases e;refine#[A',fE df.N ws,St,_,_,mT rl,so,h1,#[λσ' H' #[_,_,z,_]=>(by cases z),λv H' #[w2,A2,z0,z1,z2,z3]=>?_,λσ' H' #[_,_,z,_]=>(by cases z),λσ' H' #[_,_,z,_]=>(by cases z)]]
   cases z0;exact hq v H' #[A2,z1,z2,z3]
  ·rename_i ρ1 S1 h1;cases e;refine#[A',fE df.N ws,St,_,_,mT rl,so,h1,#[λσ' H' #[w2,A2,z0,z1,z2,z3]=>?_,λσ' H' #[_,_,z,_]=>(by cases z),λσ' H' #[_,_,z,_]=>(by cases z),λσ' H' #[_,_,z,_]=>(by cases z)]]
   exact hq _ H' #[A2,z1,z2,.non]
  ·cases e
theorem vc {H:Hp}{a:HR}{ns:HF Ig}(hO:we H)(hS:SqL K H a (ns.map V.int)):StoreOk w K [a] H [.fro (ns.map W.int)]/\RelL K [a] H [.ref 0] [.ref a]:=by
 have rl:∀ns:HF Ig,RelL K [a] H (ns.map W.int) (ns.map V.int):=by
  intro ns
  induction ns with
  | nil=>exact .nil
  | cons n ns ih=>exact .cons .int ih
 have fr:FroL K H a (ns.map V.int):=by
  rcases hS with(h|⟨o,h⟩)|h
  ·rcases hO a with z|⟨o,xs,z⟩ <;> (rw[z]at h; cases h)
  ·exact .inl #[o,h]
  ·exact .inr h
 refine#[#[rfl,λi j b o u e1 m1 e2 m2 _ _=>?_,λi o b e1 e2=>?_],.cons (.ref rfl) .nil]
 ·cases i with
  | zero=>simp at e1; subst e1; cases m1
  | succ i=>simp at e1
 ·cases i with
  | zero=>
   simp at e1 e2;subst e1 e2;exact#[_,fr,rl ns]
  | succ i=>simp at e1
theorem De {g:FF}{H:Hp}{a:HR}{ns:HF Ig}(h:∃S',g [.ref 0] [.fro (ns.map W.int)]=gV (.bl true,S'))(hO:we H)(hS:SqL K H a (ns.map V.int)):xj w K 1 g [.ref a] H (λv _=>v=.bl true) λ_ _ _=>Jq:=by
 obtain⟨S',e⟩:=h;obtain⟨so,rl⟩:=vc hO hS;exact#[[a],_,_,_,S',so,rl,rfl,e,λv H' #[A',z1,z2,z3]=>by cases z3; rfl]
end
noncomputable def Wp {α:Type}(o:HL α)(Q:α->Prop):Prop:=∃a,o=gV a/\Q a
theorem ae {α:Type}{a:α}{Q:α->Prop}:Wp (gV a) Q↔Q a:=#[λ#[b,e,h]=>(by cases e; exact h),λh=>#[a,rfl,h]]
theorem af {α:Type}{Q:α->Prop}:Wp (td:HL α) Q↔Jq:=#[λ#[b,e,h]=>(by cases e),λh=>h.elim]
theorem Wp.mono {α:Type}{o:HL α}{Q Q':α->Prop}(h:Wp o Q)(k:∀a,Q a->Q' a):Wp o Q':=let ⟨a,e,q⟩:=h; #[a,e,k a q]
theorem GU {α β:Type}{o:HL α}{f:α->β}{Q:β->Prop}:Wp (o.map f) Q↔Wp o λa=>Q (f a):=by cases o <;> simp[ae,af]
section
variable{Φ:Ik->FF}{fuel:HM}{ρ:Fm}{S:aa}
noncomputable abbrev QW:=W×aa->Prop
theorem HA {w:W}{Q:QW}:Wp (aK Φ (.c w) ρ S) Q↔Q (w,S):=by simp[aK,fC,ae,af]
theorem Hq {i:HM}{Q:QW}:Wp (aK Φ (.v i) ρ S) Q↔∃w,ρ[i]?=gV (gV w)/\Q (w,S):=by
 simp only[aK,fV];rcases h:ρ[i]? with _|_|w <;> simp[ae,af]
theorem xJ {g:W->W->aa->HL (W×aa)}{a b:FE}{Q:QW}:Wp (zY g a b ρ S) Q↔Wp (a ρ S) λp=>Wp (b ρ p.2) λq=>Wp (g p.1 q.1 q.2) Q:=by
 unfold zY;rcases h:a ρ S with _|⟨x,S1⟩
 ·simp[ae,af]
 ·rcases h2:b ρ S1 with _|⟨y,S2⟩ <;> simp[ae,af,h2]
theorem GV {o:BOp}{a b:E}{Q:QW}:Wp (aK Φ (.op o a b) ρ S) Q↔Wp (aK Φ a ρ S) λp=>Wp (aK Φ b ρ p.2) λq=>Wp (ip o p.1 q.1 q.2) Q:=by rw[aK]; exact xJ
theorem BJ {o:COp}{a b:E}{Q:QW}:Wp (aK Φ (.cmp o a b) ρ S) Q↔Wp (aK Φ a ρ S) λp=>Wp (aK Φ b ρ p.2) λq=>Wp (ce o p.1 q.1 q.2) Q:=by rw[aK]; exact xJ
theorem GX {a b:E}{Q:QW}:Wp (aK Φ (.ix a b) ρ S) Q↔Wp (aK Φ a ρ S) λp=>Wp (aK Φ b ρ p.2) λq=>Wp (lM p.1 q.1 q.2) Q:=by rw[aK]; exact xJ
theorem E4 {a b:E}{Q:QW}:Wp (aK Φ (.and a b) ρ S) Q↔Wp (aK Φ a ρ S) λp=>∃k,p.1=.bl k/\(k=true->Wp (aK Φ b ρ p.2) Q)/\(k=false->Q (.bl false,p.2)):=by
 simp only[aK,sW];rcases h:aK Φ a ρ S with _|⟨x,S1⟩
 ·simp[ae,af]
 ·cases x <;> simp[ae,af]
  rename_i b; cases b <;> simp[ae,af]
theorem GY {a b:E}{Q:QW}:Wp (aK Φ (.or a b) ρ S) Q↔Wp (aK Φ a ρ S) λp=>∃k,p.1=.bl k/\(k=true->Q (.bl true,p.2))/\(k=false->Wp (aK Φ b ρ p.2) Q):=by
 simp only[aK,Ad];rcases h:aK Φ a ρ S with _|⟨x,S1⟩
 ·simp[ae,af]
 ·cases x <;> simp[ae,af]
  rename_i b; cases b <;> simp[ae,af]
theorem E5 {a:E}{Q:QW}:Wp (aK Φ (.not a) ρ S) Q↔Wp (aK Φ a ρ S) λp=>∃k,p.1=.bl k/\Q (.bl (!k),p.2):=by
 simp only[aK,sX];rcases h:aK Φ a ρ S with _|⟨x,S1⟩
 ·simp[ae,af]
 ·cases x <;> simp[ae,af]
  rename_i k; cases k <;> simp
theorem E6 {t a b:E}{Q:QW}:Wp (aK Φ (.ite t a b) ρ S) Q↔Wp (dk Φ t ρ S) λp=>(p.1=true->Wp (aK Φ a ρ p.2) Q)/\(p.1=false->Wp (aK Φ b ρ p.2) Q):=by
 simp only[aK,Ae];rcases h:dk Φ t ρ S with _|⟨x,S1⟩
 ·simp[ae,af]
 ·cases x <;> simp[ae,af]
theorem BK {f:Ik}{n:HM}{es:Es}{Q:QW}:Wp (aK Φ (.own f n es) ρ S) Q↔Wp (dq Φ es ρ S) λp=>p.1.length=n/\Wp (Φ f p.1 p.2) Q:=by
 simp only[aK,pY];rcases h:dq Φ es ρ S with _|⟨x,S1⟩
 ·simp[ae,af]
 ·by_cases hl:x.length=n <;> simp[ae,af,hl]
theorem E7 {b:Bi}{es:Es}{Q:QW}:Wp (aK Φ (.bi b es) ρ S) Q↔Wp (dq Φ es ρ S) λp=>Wp (b.fn p.1 p.2) Q:=by
 simp only[aK,jP];rcases h:dq Φ es ρ S with _|⟨x,S1⟩ <;> simp[ae,af]
theorem GZ {m:Me}{o:E}{es:Es}{Q:QW}:Wp (aK Φ (.me m o es) ρ S) Q↔Wp (aK Φ o ρ S) λp=>tyOk m.ty p.2 p.1=true/\Wp (dq Φ es ρ p.2) λq=>Wp (m.fn p.1 q.1 q.2) Q:=by
 simp only[aK,DV];rcases h:aK Φ o ρ S with _|⟨x,S1⟩
 ·simp[ae,af]
 ·by_cases ht:tyOk m.ty S1 x=true
  ·rcases h2:dq Φ es ρ S1 with _|⟨y,S2⟩ <;> simp[ae,af,ht,h2]
  ·simp[ae,af,ht]
theorem G0 {a:E}{lo hi:Ep}{Q:QW}:Wp (aK Φ (.sl a lo hi) ρ S) Q↔Wp (aK Φ a ρ S) λp=>Wp (tt Φ lo ρ p.2) λq=>Wp (tt Φ hi ρ q.2) λr=>Wp (nI p.1 q.1 r.1 r.2) Q:=by
 simp only[aK,EO];rcases h:aK Φ a ρ S with _|⟨x,S1⟩
 ·simp[ae,af]
 ·rcases h2:tt Φ lo ρ S1 with _|⟨y,S2⟩
  ·simp[ae,af,h2]
  ·rcases h3:tt Φ hi ρ S2 with _|⟨z,S3⟩ <;> simp[ae,af,h2,h3]
theorem G1 {Q:HL Ig×aa->Prop}:Wp (tt Φ .no ρ S) Q↔Q (td,S):=by simp[tt,CY,ae,af]
theorem E8 {a:E}{Q:HL Ig×aa->Prop}:Wp (tt Φ (.yes a) ρ S) Q↔Wp (aK Φ a ρ S) λp=>∃i,p.1=.int i/\Q (gV i,p.2):=by
 simp only[tt,tf];rcases h:aK Φ a ρ S with _|⟨x,S1⟩
 ·simp[ae,af]
 ·cases x <;> simp[ae,af]
theorem E9 {es:Es}{Q:QW}:Wp (aK Φ (.tup es) ρ S) Q↔Wp (dq Φ es ρ S) λp=>p.1.length<=sizeLine/\Q (.tup p.1,p.2):=by
 simp only[aK,xf,rq];rcases h:dq Φ es ρ S with _|⟨x,S1⟩
 ·simp[ae,af]
 ·by_cases hl:x.length<=sizeLine <;> simp[ae,af,hl]
theorem Fa {es:Es}{Q:QW}:Wp (aK Φ (.lst es) ρ S) Q↔Wp (dq Φ es ρ S) λp=>p.1.length<=sizeLine/\Q (.ref p.2.length,p.2++[.lst p.1]):=by
 simp only[aK,xg,lL];rcases h:dq Φ es ρ S with _|⟨x,S1⟩
 ·simp[ae,af]
 ·by_cases hl:x.length<=sizeLine <;> simp[ae,af,hl]
theorem BL {c:Jr}{a:E}{Q:QW}:Wp (aK Φ (.isi c a) ρ S) Q↔Wp (aK Φ a ρ S) λp=>∃k,xp p.2 p.1 c=gV k/\Q (.bl k,p.2):=by
 simp only[aK,xr];rcases h:aK Φ a ρ S with _|⟨x,S1⟩
 ·simp[ae,af]
 ·cases h2:xp S1 x c <;> simp[ae,af,h2]
  rename_i k; cases k <;> simp
theorem Fb {a:E}{Q:QW}:Wp (aK Φ (.neg a) ρ S) Q↔Wp (aK Φ a ρ S) λp=>∃i,p.1=.int i/\Q (.int (-i),p.2):=by
 simp only[aK,wX];rcases h:aK Φ a ρ S with _|⟨x,S1⟩
 ·simp[ae,af]
 ·cases x <;> simp[ae,af]
theorem Dg {es:Es}{Q:QW}:Wp (aK Φ (.disp es) ρ S) Q↔Wp (dq Φ es ρ (S++[.dic []])) λp=>p.2[S.length]?=gV (.dic [])/\∃kvs,dM [] p.1=gV kvs/\Q (.ref S.length,p.2.set S.length (.dic kvs)):=by
 have e:aK Φ (.disp es) ρ S=p7 (dq Φ es) ρ S:=by rw[aK]
 rw[e];unfold p7;cases dq Φ es ρ (S++[.dic []])with
 | none=>simp[af]
 | some p=>
  obtain⟨x,S1⟩:=p;simp only[ae];cases h2:S1[S.length]? with
  | none=>simp[af]
  | some o=>
   cases o with
   | lst _=>simp[af]
   | fro _=>simp[af]
   | frd _=>simp[af]
   | rng _ _=>simp[af]
   | dic kvs=>
    cases kvs with
    | nil=>cases h3:dM [] x <;> simp[ae,af]
    | cons a b=>simp[af]
theorem Fc {Q:HF W×aa->Prop}:Wp (dq Φ .nil ρ S) Q↔Q ([],S):=by simp[dq,i8,ae,af]
theorem Dh {e:E}{es:Es}{Q:HF W×aa->Prop}:Wp (dq Φ (.cons e es) ρ S) Q↔Wp (aK Φ e ρ S) λp=>Wp (dq Φ es ρ p.2) λq=>Q (p.1::q.1,q.2):=by
 simp only[dq,en];rcases h:aK Φ e ρ S with _|⟨x,S1⟩
 ·simp[ae,af]
 ·rcases h2:dq Φ es ρ S1 with _|⟨y,S2⟩ <;> simp[ae,af,h2]
noncomputable abbrev QB:=Iy×aa->Prop
theorem Fd {f:FE}{Q:QB}:Wp (w6 f ρ S) Q↔Wp (f ρ S) λp=>∃k,p.1=.bl k/\Q (k,p.2):=by
 unfold w6;rcases h:f ρ S with _|⟨x,S1⟩
 ·simp[ae,af]
 ·cases x <;> simp[ae,af]
  rename_i k; cases k <;> simp
theorem tK {f:FE}{Q:QB}:Wp (gG f ρ S) Q↔Wp (f ρ S) λp=>∃k,eQ p.2 p.1=gV k/\Q (k,p.2):=by
 unfold gG;rcases h:f ρ S with _|⟨x,S1⟩
 ·simp[ae,af]
 ·cases h2:eQ S1 x <;> simp[ae,af,h2]
  rename_i k; cases k <;> simp
theorem Fe {o:COp}{a b:E}{Q:QB}:Wp (dk Φ (.cmp o a b) ρ S) Q↔Wp (aK Φ (.cmp o a b) ρ S) λp=>∃k,p.1=.bl k/\Q (k,p.2):=by rw[dk,aK]; exact Fd
theorem Ff {a b:E}{Q:QB}:Wp (dk Φ (.and a b) ρ S) Q↔Wp (dk Φ a ρ S) λp=>(p.1=true->Wp (dk Φ b ρ p.2) Q)/\(p.1=false->Q (false,p.2)):=by
 simp only[dk,w8];rcases h:dk Φ a ρ S with _|⟨x,S1⟩
 ·simp[ae,af]
 ·cases x <;> simp[ae,af]
theorem G2 {a b:E}{Q:QB}:Wp (dk Φ (.or a b) ρ S) Q↔Wp (dk Φ a ρ S) λp=>(p.1=true->Q (true,p.2))/\(p.1=false->Wp (dk Φ b ρ p.2) Q):=by
 simp only[dk,EL];rcases h:dk Φ a ρ S with _|⟨x,S1⟩
 ·simp[ae,af]
 ·cases x <;> simp[ae,af]
theorem Fg {a:E}{Q:QB}:Wp (dk Φ (.not a) ρ S) Q↔Wp (dk Φ a ρ S) λp=>Q (!p.1,p.2):=by
 simp only[dk,Aa];rcases h:dk Φ a ρ S with _|⟨x,S1⟩ <;> simp[ae,af]
theorem HB {i:HM}{Q:QB}:Wp (dk Φ (.v i) ρ S) Q↔Wp (aK Φ (.v i) ρ S) λp=>∃k,eQ p.2 p.1=gV k/\Q (k,p.2):=by rw[dk,aK]; exact tK
theorem Fh {f:Ik}{n:HM}{es:Es}{Q:QB}:Wp (dk Φ (.own f n es) ρ S) Q↔Wp (aK Φ (.own f n es) ρ S) λp=>∃k,eQ p.2 p.1=gV k/\Q (k,p.2):=by rw[dk,aK]; exact tK
theorem G3 {b:Bi}{es:Es}{Q:QB}:Wp (dk Φ (.bi b es) ρ S) Q↔Wp (aK Φ (.bi b es) ρ S) λp=>∃k,eQ p.2 p.1=gV k/\Q (k,p.2):=by rw[dk,aK]; exact tK
theorem Fi {c:Jr}{a:E}{Q:QB}:Wp (dk Φ (.isi c a) ρ S) Q↔Wp (aK Φ (.isi c a) ρ S) λp=>∃k,eQ p.2 p.1=gV k/\Q (k,p.2):=by rw[dk,aK]; exact tK
noncomputable abbrev QO:=Out×aa->Prop
theorem Fj {Q:QO}:Wp (fZ Φ fuel .nil ρ S) Q↔Q (.nx ρ,S):=by simp[fZ,ae,af]
theorem Di {s:Sm}{ss:Ss}{Q:QO}:Wp (fZ Φ fuel (.cons s ss) ρ S) Q↔Wp (fY Φ fuel s ρ S) λp=>(∀ρ',p.1=.nx ρ'->Wp (fZ Φ fuel ss ρ' p.2) Q)/\((∀ρ',p.1≠.nx ρ')->Q p):=by
 simp only[fZ,Al];rcases h:fY Φ fuel s ρ S with _|⟨o,S1⟩
 ·simp[ae,af]
 ·cases o <;> simp[ae,af]
theorem xK {f:FE}{g:FG}{Q:QO}:Wp (kO f g ρ S) Q↔Wp (f ρ S) λp=>Wp (g p.1 ρ p.2) λq=>Q (.nx q.1,q.2):=by
 unfold kO;rcases h:f ρ S with _|⟨x,S1⟩
 ·simp[ae,af]
 ·rcases h2:g x ρ S1 with _|⟨y,S2⟩ <;> simp[ae,af,h2]
theorem Dj {i:HM}{e:E}{Q:QO}:Wp (fY Φ fuel (.set i e) ρ S) Q↔Wp (aK Φ e ρ S) λp=>Q (.nx (ρ.set i (gV p.1)),p.2):=by
 rw[fY,xK]; simp[As,ae,af]
theorem Dk {is:HF HM}{e:E}{Q:QO}:Wp (fY Φ fuel (.asg is e) ρ S) Q↔Wp (aK Φ e ρ S) λp=>∃ws ρ',p.1=.tup ws/\dv is ws ρ=gV ρ'/\Q (.nx ρ',p.2):=by
 rw[fY,xK];constructor
 ·refine λh=>h.mono λp hp=>?_
  obtain⟨w,S1⟩:=p;obtain⟨q,h1,h2⟩:=hp;cases w with
  | tup ws=>
   simp only[DW,HJ]at h1;obtain⟨ρ',h3,rfl⟩:=h1;exact#[ws,ρ',rfl,h3,h2]
  | _=>cases h1
 ·refine λh=>h.mono λp hp=>?_
  obtain⟨w,S1⟩:=p;obtain⟨ws,ρ',h0,h1,h2⟩:=hp;subst h0;exact#[(ρ',S1),by simp[DW,h1],h2]
theorem Dl {i j:HM}{es:Es}{Q:QO}:Wp (fY Φ fuel (.par i j es) ρ S) Q↔Wp (dq Φ es ρ S) λp=>∃x y,p.1=[x,y]/\Q (.nx ((ρ.set i (gV x)).set j (gV y)),p.2):=by
 simp only[fY,Au];rcases h:dq Φ es ρ S with _|⟨x,S1⟩
 ·simp[af]
 ·match x with
  | []=>simp[ae,af]
  | [_]=>simp[ae,af]
  | [a,b]=>
   simp only[ae];exact#[λh=>#[a,b,rfl,h],λ#[x,y,e,h]=>by cases e; exact h]
  | _::_::_::_=>simp[ae,af]
theorem Dm {o k e:E}{Q:QO}:Wp (fY Φ fuel (.put o k e) ρ S) Q↔Wp (aK Φ e ρ S) λp=>Wp (aK Φ o ρ p.2) λq=>Wp (aK Φ k ρ q.2) λr=>∃S',iB q.1 r.1 p.1 r.2=gV S'/\Q (.nx ρ,S'):=by
 rw[fY,xK];rcases h:aK Φ e ρ S with _|⟨x,S1⟩
 ·simp[ae,af]
 ·simp only[ae];unfold At;rcases h2:aK Φ o ρ S1 with _|⟨y,S2⟩
  ·simp[ae,af]
  ·rcases h3:aK Φ k ρ S2 with _|⟨z,S3⟩
   ·simp[ae,af,h3]
   ·cases h4:iB y z x S3 <;> simp[ae,af,h3,h4]
theorem Fk {e:E}{Q:QO}:Wp (fY Φ fuel (.ex e) ρ S) Q↔Wp (aK Φ e ρ S) λp=>Q (.nx ρ,p.2):=by
 simp only[fY,Am];rcases h:aK Φ e ρ S with _|⟨x,S1⟩ <;> simp[ae,af]
theorem Dn {e:E}{Q:QO}:Wp (fY Φ fuel (.ret e) ρ S) Q↔Wp (aK Φ e ρ S) λp=>Q (.rt p.1,p.2):=by
 simp only[fY,Ap];rcases h:aK Φ e ρ S with _|⟨x,S1⟩ <;> simp[ae,af]
theorem Do {t:E}{a b:Ss}{Q:QO}:Wp (fY Φ fuel (.ite t a b) ρ S) Q↔Wp (dk Φ t ρ S) λp=>(p.1=true->Wp (fZ Φ fuel a ρ p.2) Q)/\(p.1=false->Wp (fZ Φ fuel b ρ p.2) Q):=by
 simp only[fY,Ar];rcases h:dk Φ t ρ S with _|⟨x,S1⟩
 ·simp[ae,af]
 ·cases x <;> simp[ae,af]
end
section
variable{Φ:Ik->FF}{fuel:HM}{ρ:Fm}{S:aa}
noncomputable def xL (I:Fm->aa->Prop)(Q:QO)(o:Out×aa):Prop:=match o.1 with
 | .nx ρ'=>I ρ' o.2
 | .ct ρ'=>I ρ' o.2
 | .bk ρ'=>Q (.nx ρ',o.2)
 | .rt w=>Q (.rt w,o.2)
theorem jc {mi:MI}{g:FG}{b:FS}{xs:HF W}{Q:QO}(I:HM->Fm->aa->Prop)(hat:∀i ρ S,I i ρ S->mi.at S i=gV xs[i]?)
  (hstep:∀i w ρ S,xs[i]?=gV w->I i ρ S->Wp (g w ρ S) λq=>Wp (b q.1 q.2) (xL (I (i+1)) Q)) (hend:∀ρ S,I xs.length ρ S->Q (.nx ρ,S)):∀(n i:HM) (ρ:Fm) (S:aa),i+n=xs.length->I i ρ S->Wp (fW mi g b n i ρ S) Q
 | 0,i,ρ,S,hl,hI=>by
  have e:mi.at S i=gV td:=by rw[hat i ρ S hI,MP ∅]
  simp only[fW,e];have hi:i=xs.length:=∅
  exact ae.mpr (hend ρ S (hi ▸ hI))
 | n+1,i,ρ,S,hl,hI=>by
  have hi:i < xs.length:=∅
  have e:mi.at S i=gV (gV xs[i]):=by rw[hat i ρ S hI,Ic hi]
  obtain⟨⟨ρ1,S1⟩,h1,⟨o,S2⟩,h2,h3⟩:=hstep i xs[i] ρ S (Ic hi) hI;simp only[fW,e,h1,h2];cases o with
  | nx ρ2=>exact jc I hat hstep hend n (i+1) ρ2 S2 ∅ h3
  | ct ρ2=>exact jc I hat hstep hend n (i+1) ρ2 S2 ∅ h3
  | bk ρ2=>exact ae.mpr h3
  | rt w=>exact ae.mpr h3
theorem Fn {fi:FI}{g:FG}{b:FS}{Q:QO}:Wp (xo fi g b ρ S) Q↔Wp (fi ρ S) λp=>∃n,p.1.len p.2=gV n/\Wp (fW p.1 g b n 0 ρ p.2) Q:=by
 unfold xo;rcases h:fi ρ S with _|⟨mi,S1⟩
 ·simp[af]
 ·cases h2:mi.len S1 <;> simp[ae,af,h2]
theorem dU {mi:MI}{g:FG}{c:FT}{f:FE}{xs:HF W}{Q:HF W×aa->Prop}(I:HM->HF W->Fm->aa->Prop)(hat:∀i ys ρ S,I i ys ρ S->mi.at S i=gV xs[i]?)
  (hstep:∀i w ys ρ S,xs[i]?=gV w->I i ys ρ S->Wp (g w ρ S) λq=>Wp (c q.1 q.2) λk=>(k.1=true->Wp (f q.1 k.2) λy=>I (i+1) (ys++[y.1]) q.1 y.2)/\(k.1=false->I (i+1) ys q.1 k.2))
  (hend:∀ys ρ S,I xs.length ys ρ S->Q (ys,S)):∀(n i:HM) (ys:HF W) (ρ:Fm) (S:aa),i+n=xs.length->I i ys ρ S->Wp (cf mi g c f n i ρ S) λp=>Q (ys++p.1,p.2)
 | 0,i,ys,ρ,S,hl,hI=>by
  have e:mi.at S i=gV td:=by rw[hat i ys ρ S hI,MP ∅]
  simp only[cf,e];refine ae.mpr ?_;have:i=xs.length:=∅
  simpa using hend ys ρ S (this ▸ hI)
 | n+1,i,ys,ρ,S,hl,hI=>by
  have hi:i < xs.length:=∅
  have e:mi.at S i=gV (gV xs[i]):=by rw[hat i ys ρ S hI,Ic hi]
  obtain⟨⟨ρ1,S1⟩,h1,⟨k,S2⟩,h2,h3,h4⟩:=hstep i xs[i] ys ρ S (Ic hi) hI;simp only[cf,e,h1,h2];cases k with
  | true=>
   obtain⟨⟨y,S3⟩,h5,h6⟩:=h3 rfl;simp only[h5];obtain⟨⟨zs,S4⟩,h7,h8⟩:=dU I hat hstep hend n (i+1) (ys++[y]) ρ1 S3 ∅ h6
   simp only[h7];exact ae.mpr (by simpa using h8)
  | false=>exact dU I hat hstep hend n (i+1) ys ρ1 S2 ∅ (h4 rfl)
theorem xM {elt:E}{tg:Tg}{it:Ie}{cs:Es}{cap:HF (HL HM)}{Q:QW}:Wp (aK Φ (.comp elt tg it cs cap) ρ S) Q↔Wp (lJ Φ it ρ S) λp=>∃n,p.1.len p.2=gV n/\Wp (cf p.1 (gI tg) (AJ Φ cs) (aK Φ elt) n 0 (fN cap ρ) p.2) λq=>q.1.length<=sizeLine/\Q (.ref q.2.length,q.2++[.lst q.1]):=by
 simp only[aK,kP,lL];rcases h:lJ Φ it ρ S with _|⟨mi,S1⟩
 ·simp[af]
 ·rcases h2:mi.len S1 with _|n
  ·simp[ae,af,h2]
  ·rcases h3:cf mi (gI tg) (AJ Φ cs) (aK Φ elt) n 0 (fN cap ρ) S1 with _|⟨ys,S2⟩
   ·simp[ae,af,h2,h3]
   ·by_cases hl:ys.length<=sizeLine <;> simp[ae,af,h2,h3,hl]
theorem Fo {Q:QB}:Wp (AJ Φ .nil ρ S) Q↔Q (true,S):=by simp[AJ,BE,ae]
theorem Fp {e:E}{Q:QB}:Wp (AJ Φ #v[e] ρ S) Q↔Wp (dk Φ e ρ S) Q:=by rw[AJ]
theorem G4 {i:HM}{w:W}{Q:Fm×aa->Prop}:Wp (gI (.nm i) w ρ S) Q↔Q (ρ.set i (gV w),S):=by simp[gI,As,ae]
theorem kX {c:FT}{b:FS}{Q:QO}(I:HM->Fm->aa->Prop)(hstep:∀m ρ S,I m ρ S->Wp (c ρ S) λk=>(k.1=true->∃m',m=m'+1/\Wp (b ρ k.2) (xL (I m') Q))/\(k.1=false->Q (.nx ρ,k.2))) :
  ∀(n m:HM) (ρ:Fm) (S:aa),m < n->I m ρ S->Wp (n0 c b n ρ S) Q
 | 0,m,ρ,S,h,_=>∅
 | n+1,m,ρ,S,h,hI=>by
  obtain⟨⟨k,S1⟩,h1,h2,h3⟩:=hstep m ρ S hI;simp only[n0,h1];cases k with
  | false=>exact ae.mpr (h3 rfl)
  | true=>
   obtain⟨m',rfl,⟨o,S2⟩,h5,h6⟩:=h2 rfl;simp only[h5];cases o with
   | nx ρ2=>exact kX I hstep n m' ρ2 S2 ∅ h6
   | ct ρ2=>exact kX I hstep n m' ρ2 S2 ∅ h6
   | bk ρ2=>exact ae.mpr h6
   | rt w=>exact ae.mpr h6
theorem vd {defs:HF (Ik×Df)}{d:HM}{f:Ik}{ws:HF W}{df:Df}{Q:QW}(h:defs.lookup f=gV df)(hl:ws.length=df.ps.length)
  (hb:Wp (fZ (ay defs fuel d) fuel df.body (fE df.N ws) S) λp=>match p.1 with|.rt w=>Q (w,p.2)|.nx _=>Q (.non,p.2)|_=>Jq):Wp (ay defs fuel (d+1) f ws S) Q:=by
 obtain⟨⟨o,S1⟩,h1,h2⟩:=hb;simp only[ay,h,Iw hl,h1];cases o with
 | rt w=>exact ae.mpr h2
 | nx ρ=>exact ae.mpr h2
 | bk _=>exact h2.elim
 | ct _=>exact h2.elim
end
section
variable{S:aa}{Q:QW}
theorem dR {a b:Ig}:ip .add (.int a) (.int b) S=gV (.int (a+b),S):=rfl
theorem mU {a b:Ig}:ip .sub (.int a) (.int b) S=gV (.int (a - b),S):=rfl
theorem on {c:Ig->Ig->Iy}{f:Ig->Ig->Ig}{i j:Ig}(h:c i j=true):yU c f (.int i) (.int j) S=gV (.int (f i j),S):=by
 unfold yU;dsimp only;rw[Iw h]
theorem tL {a b:Ig}(h : -(2 ^ 64) < b)(h2:b < 2 ^ 64):ip .mul (.int a) (.int b) S=gV (.int (a*b),S):=on (c:=uH) (f:=(· * ·)) (by
 unfold uH;simp only[J4,HN,Ix];exact .inr #[h,h2])
theorem kY {a b:Ig}(h:0 < b):ip .mod (.int a) (.int b) S=gV (.int (a % b),S):=on (c:=λ_ j=>decide (0 < j)) (f:=(· % ·)) (Jt h)
theorem oo {a b:Ig}(h:0 < b)(h2:b < 1073741824):ip .fdiv (.int a) (.int b) S=gV (.int (a / b),S):=on (c:=λ_ j=>zC j) (f:=(· / ·)) (by
 unfold zC;simp only[HN,Ix];exact#[h,h2])
theorem Dp:ip .pow (.int 10) (.int 18) S=gV (.int 1000000000000000000,S):=rfl
theorem dO {xs ys:HF W}(h:(xs++ys).length<=sizeLine):ip .add (.tup xs) (.tup ys) S=gV (.tup (xs++ys),S):=by simp only[ip,wn,rq]; rw[Iw h]
theorem jd {i j:HM}{xs ys:HF W}(h1:S[i]?=gV (.lst xs))(h2:S[j]?=gV (.lst ys))(h:(xs++ys).length<=sizeLine):ip .add (.ref i) (.ref j) S=gV (.ref S.length,S++[.lst (xs++ys)]):=by
 simp only[ip,wn,pj,h1,h2,lL]; rw[Iw h]
theorem iF {a b:Ig}:ce .eq (.int a) (.int b) S=gV (.bl (a==b),S):=rfl
theorem xN {a b:Ig}:ce .ne (.int a) (.int b) S=gV (.bl (!(a==b)),S):=rfl
theorem xO {a b:Ig}:ce .lt (.int a) (.int b) S=gV (.bl (decide (a < b)),S):=rfl
theorem Dq {a b:Ig}:ce .gt (.int a) (.int b) S=gV (.bl (decide (a > b)),S):=rfl
theorem G5 {a b:Ig}:ce .ge (.int a) (.int b) S=gV (.bl (decide (a>=b)),S):=rfl
theorem BM {a b:Ik}:ce .eq (.str a) (.str b) S=gV (.bl (a==b),S):=rfl
theorem bc {r:HM}{xs:HF W}(h:S[r]?=gV (.lst xs)):g8 S r=gV xs:=by simp[g8,h]
theorem AQ {r:HM}{xs:HF W}(h:S[r]?=gV (.fro xs)):g8 S r=gV xs:=by simp[g8,h]
theorem dW {r:HM}{xs:HF W}(h:S[r]?=gV (.lst xs)):pj S r=gV xs:=by simp[pj,h]
theorem oq {r:HM}{xs:HF W}(h:S[r]?=gV (.lst xs)):jZ S r=td:=by simp[jZ,h]
theorem cH {r:HM}{kvs:HF (T×W)}(h:S[r]?=gV (.dic kvs)):jZ S r=gV kvs:=by simp[jZ,h]
theorem ou {r:HM}{kvs:HF (T×W)}(h:S[r]?=gV (.dic kvs)):g8 S r=td:=by simp[g8,h]
theorem AR {r:HM}{kvs:HF (T×W)}(h:S[r]?=gV (.frd kvs)):jZ S r=gV kvs:=by simp[jZ,h]
theorem atI_nat {α:Type}{xs:HF α}{j:HM}{w:α}(h:xs[j]?=gV w):pz xs (j:Ig)=gV w:=by
 have hl:=(Ii.mp h).1;unfold pz sD;rw[Iw (HV j),Iw (by exact_mod_cast hl)]
 simpa using h
theorem ow {α:Type}{xs:HF α}{i:Ig}{w:α}(h0:0<=i)(h:xs[i.toNat]?=gV w):pz xs i=gV w:=by
 have:=atI_nat h
 rwa [M5 h0]at this
theorem xP {r:HM}{xs:HF W}{i:Ig}{w:W}(h:S[r]?=gV (.lst xs))(h0:0<=i)(hw:xs[i.toNat]?=gV w):lM (.ref r) (.int i) S=gV (w,S):=by
 show uI (.ref r) (.int i) S=_;simp[uI,bc h,ow h0 hw]
theorem Fq {xs:HF W}{i:Ig}{w:W}(h0:0<=i)(hw:xs[i.toNat]?=gV w):lM (.tup xs) (.int i) S=gV (w,S):=by
 show uI (.tup xs) (.int i) S=_;simp[uI,ow h0 hw]
theorem Fs {x:Ik}{i:Ig}{c:HM}(hz:x.length<=sizeLine)(h0:0<=i)(hw:x.cps.toList[i.toNat]?=gV c):lM (.str x) (.int i) S=gV (.str #[[c].toArray],S):=by
 show uI (.str x) (.int i) S=_;simp[uI,hz,ow h0 hw]
theorem BN {r:HM}{xs:HF W}{i:Ig}{w:W}(h:S[r]?=gV (.lst xs))(h0:0<=i)(hi:i.toNat < xs.length):iB (.ref r) (.int i) w S=gV (S.set r (.lst (xs.set i.toNat w))):=by
 show uJ (.ref r) (.int i) w S=_;have:sD xs.length i=gV i.toNat:=by
  unfold sD;rw[Iw h0,Iw ∅]
 simp[uJ,dW h,this]
theorem BO {r:HM}{xs:HF W}(h:S[r]?=gV (.lst xs)):rG [.ref r] S=gV (.int xs.length,S):=by
 simp[rG,oq h,rz,bc h]
theorem tM {r:HM}{xs:HF W}{y:W}(h:S[r]?=gV (.lst xs))(hl:xs.length < sizeLine):iy (.ref r) [y] S=gV (.non,S.set r (.lst (xs++[y]))):=by
 simp[iy,dW h,hl]
theorem Ft {r:HM}{xs:HF W}(h:S[r]?=gV (.lst xs)):kN [.ref r] S=gV (.tup xs,S):=by
 simp[kN,zS,h,kG,bc h]
theorem eT {r:HM}{xs:HF W}(h:S[r]?=gV (.lst xs)):tyOk "list" S (.ref r)=true:=by simp[tyOk,bc h]
theorem cj {r:HM}{o o':O}(h:S[r]?=gV o):(S.set r o')[r]?=gV o':=by
 rw[JT,Iw rfl,Iw (Ii.mp h).1]
theorem cg {r j:HM}{o':O}(h:r≠j):(S.set r o')[j]?=S[j]?:=by rw[JT,IH h]
theorem ak {o:O}:(S++[o])[S.length]?=gV o:=by simp
theorem aq {j:HM}{o u:O}(h:S[j]?=gV o):(S++[u])[j]?=gV o:=by rw[IQ (Ii.mp h).1]; exact h
theorem db {j:HM}{o:O}(h:S[j]?=gV o):j < S.length:=(Ii.mp h).1
structure Kp (r:HM)(S S':aa):Prop where
 get:∀j o,j≠r->S[j]?=gV o->S'[j]?=gV o
 len:S.length<=S'.length
theorem Kp.refl {r:HM}{S:aa}:Kp r S S:=#[λ_ _ _ h=>h,HZ _]
theorem Kp.trans {r:HM}{S S' S'':aa}(a:Kp r S S')(b:Kp r S' S''):Kp r S S'':=#[λj o n h=>b.get j o n (a.get j o n h),IS a.len b.len]
theorem Kp.set {r:HM}{S:aa}{o:O}:Kp r S (S.set r o):=#[λj u n h=>by rw[cg (Ne.symm n)]; exact h,by simp]
theorem Kp.push {r:HM}{S:aa}{o:O}:Kp r S (S++[o]):=#[λj u n h=>aq h,by simp]
theorem Kp.late {r t:HM}{S0 S:aa}{o:O}(a:Kp r S0 S)(h:S0.length<=t):Kp r S0 (S.set t o):=
 #[λj u n e=>by
  have:=db e;rw[cg ∅]; exact a.get j u n e,by simpa using a.len]
end
noncomputable def wO {α:Type}(o:HL α)(Q:α->Prop):Prop:=match o with
 | some a=>Q a
 | none=>Jq
theorem cO {α:Type}{o:HL α}{Q:α->Prop}(h:wO o Q):Wp o Q:=by
 cases o with
 | none=>exact h.elim
 | some a=>exact#[a,rfl,h]
theorem Fu {α:Type}{o:HL α}{Q:α->Prop}(h:Wp o Q):wO o Q:=by
 obtain⟨a,rfl,q⟩:=h;exact q
theorem ac {α:Type}{o:HL α}{a:α}{Q:α->Prop}(e:o=gV a)(h:Q a):wO o Q:=by subst e; exact h
noncomputable def wB:W->(Iy->Prop)->Prop
 | .bl k,Q=>Q k
 | _,_=>Jq
noncomputable def wN:W->(Ig->Prop)->Prop
 | .int k,Q=>Q k
 | _,_=>Jq
noncomputable def wU:W->(HF W->Prop)->Prop
 | .tup k,Q=>Q k
 | _,_=>Jq
theorem tN {w:W}{Q:Iy->Prop}(h:wB w Q):∃k,w=.bl k/\Q k:=by cases w <;> first|exact h.elim|exact#[_,rfl,h]
theorem BP {w:W}{Q:Ig->Prop}(h:wN w Q):∃k,w=.int k/\Q k:=by cases w <;> first|exact h.elim|exact#[_,rfl,h]
theorem Fv {w:W}{Q:HF W->Prop}(h:wU w Q):∃k,w=.tup k/\Q k:=by cases w <;> first|exact h.elim|exact#[_,rfl,h]
noncomputable def w2:HF W->(W->W->Prop)->Prop
 | [x,y],Q=>Q x y
 | _,_=>Jq
theorem Fw {xs:HF W}{Q:W->W->Prop}(h:w2 xs Q):∃x y,xs=[x,y]/\Q x y:=by
 match xs,h with
 | [x,y],h=>exact#[x,y,rfl,h]
noncomputable def wG:HL W->(W->Prop)->Prop
 | some w,Q=>Q w
 | none,_=>Jq
noncomputable def wV:Fm->HM->(W->Prop)->Prop
 | [],_,_=>Jq
 | o::_,0,Q=>wG o Q
 | _::ρ,n+1,Q=>wV ρ n Q
theorem xQ {Q:W->Prop}:∀ {ρ:Fm} {i:HM},wV ρ i Q->∃w,ρ[i]?=gV (gV w)/\Q w
 | [],i,h=>h.elim
 | some w::ρ,0,h=>#[w,rfl,h]
 | none::ρ,0,h=>h.elim
 | x::ρ,n+1,h=>by
  obtain⟨w,e2,q⟩:=xQ (ρ:=ρ) (i:=n) h;exact#[w,e2,q]
noncomputable def bj (Φ:Ik->FF)(f:Ik)(n:HM)(ws:HF W)(S:aa):HL (W×aa):=if ws.length=n then Φ f ws S else td
section
variable (Φ:Ik->FF) (fuel:HM)
mutual
noncomputable def wE:E->Fm->aa->QW->Prop
 | .c w,_,S,Q=>Q (w,S)
 | .v i,ρ,S,Q=>wV ρ i λw=>Q (w,S)
 | .op o a b,ρ,S,Q=>wE a ρ S λp=>wE b ρ p.2 λq=>wO (ip o p.1 q.1 q.2) Q
 | .cmp o a b,ρ,S,Q=>wE a ρ S λp=>wE b ρ p.2 λq=>wO (ce o p.1 q.1 q.2) Q
 | .and a b,ρ,S,Q=>wE a ρ S λp=>wB p.1 λk=>(k=true->wE b ρ p.2 Q)/\(k=false->Q (.bl false,p.2))
 | .or a b,ρ,S,Q=>wE a ρ S λp=>wB p.1 λk=>(k=true->Q (.bl true,p.2))/\(k=false->wE b ρ p.2 Q)
 | .not a,ρ,S,Q=>wE a ρ S λp=>wB p.1 λk=>Q (.bl (!k),p.2)
 | .own f n es,ρ,S,Q=>wA es ρ S λp=>wO (bj Φ f n p.1 p.2) Q
 | .bi b es,ρ,S,Q=>wA es ρ S λp=>wO (b.fn p.1 p.2) Q
 | .me m o es,ρ,S,Q=>wE o ρ S λp=>tyOk m.ty p.2 p.1=true/\wA es ρ p.2 λq=>wO (m.fn p.1 q.1 q.2) Q
 | .ix a b,ρ,S,Q=>wE a ρ S λp=>wE b ρ p.2 λq=>wO (lM p.1 q.1 q.2) Q
 | .sl a lo hi,ρ,S,Q=>wE a ρ S λp=>wP lo ρ p.2 λq=>wP hi ρ q.2 λr=>wO (nI p.1 q.1 r.1 r.2) Q
 | .tup es,ρ,S,Q=>wA es ρ S λp=>Q (.tup p.1,p.2)
 | .lst es,ρ,S,Q=>wA es ρ S λp=>Q (.ref p.2.length,p.2++[.lst p.1])
 | .isi c a,ρ,S,Q=>wE a ρ S λp=>wO (xp p.2 p.1 c) λk=>Q (.bl k,p.2)
 | .neg a,ρ,S,Q=>wE a ρ S λp=>wN p.1 λi=>Q (.int (-i),p.2)
 | .dnew,_,S,Q=>Q (.ref S.length,S++[.dic []])
 | .disp es,ρ,S,Q=>wA es ρ (S++[.dic []]) λp=>p.2[S.length]?=gV (.dic [])/\wO (dM [] p.1) λkvs=>Q (.ref S.length,p.2.set S.length (.dic kvs))
 | .ite t a b,ρ,S,Q=>wT t ρ S λp=>(p.1=true->wE a ρ p.2 Q)/\(p.1=false->wE b ρ p.2 Q)
 | .comp elt tg it cs cap,ρ,S,Q=>Wp (aK Φ (.comp elt tg it cs cap) ρ S) Q
noncomputable def wT:E->Fm->aa->QB->Prop
 | .cmp o a b,ρ,S,Q=>wE a ρ S λp=>wE b ρ p.2 λq=>wO (ce o p.1 q.1 q.2) λr=>wB r.1 λk=>Q (k,r.2)
 | .and a b,ρ,S,Q=>wT a ρ S λp=>(p.1=true->wT b ρ p.2 Q)/\(p.1=false->Q (false,p.2))
 | .or a b,ρ,S,Q=>wT a ρ S λp=>(p.1=true->Q (true,p.2))/\(p.1=false->wT b ρ p.2 Q)
 | .not a,ρ,S,Q=>wT a ρ S λp=>Q (!p.1,p.2)
 | .isi c a,ρ,S,Q=>wE a ρ S λp=>wO (xp p.2 p.1 c) λk=>Q (k,p.2)
 | .c w,ρ,S,Q=>Wp (dk Φ (.c w) ρ S) Q
 | .v i,ρ,S,Q=>wV ρ i λw=>wO (eQ S w) λk=>Q (k,S)
 | .op o a b,ρ,S,Q=>Wp (dk Φ (.op o a b) ρ S) Q
 | .own f n es,ρ,S,Q=>wA es ρ S λp=>wO (bj Φ f n p.1 p.2) λq=>wO (eQ q.2 q.1) λk=>Q (k,q.2)
 | .bi b es,ρ,S,Q=>wA es ρ S λp=>wO (b.fn p.1 p.2) λq=>wO (eQ q.2 q.1) λk=>Q (k,q.2)
 | .me m o es,ρ,S,Q=>Wp (dk Φ (.me m o es) ρ S) Q
 | .ix a b,ρ,S,Q=>Wp (dk Φ (.ix a b) ρ S) Q
 | .sl a lo hi,ρ,S,Q=>Wp (dk Φ (.sl a lo hi) ρ S) Q
 | .tup es,ρ,S,Q=>Wp (dk Φ (.tup es) ρ S) Q
 | .lst es,ρ,S,Q=>Wp (dk Φ (.lst es) ρ S) Q
 | .neg a,ρ,S,Q=>Wp (dk Φ (.neg a) ρ S) Q
 | .dnew,ρ,S,Q=>Wp (dk Φ .dnew ρ S) Q
 | .disp es,ρ,S,Q=>Wp (dk Φ (.disp es) ρ S) Q
 | .ite t a b,ρ,S,Q=>Wp (dk Φ (.ite t a b) ρ S) Q
 | .comp elt tg it cs cap,ρ,S,Q=>Wp (dk Φ (.comp elt tg it cs cap) ρ S) Q
noncomputable def wA:Es->Fm->aa->(HF W×aa->Prop)->Prop
 | .nil,_,S,Q=>Q ([],S)
 | .cons e es,ρ,S,Q=>wE e ρ S λp=>wA es ρ p.2 λq=>Q (p.1::q.1,q.2)
noncomputable def wP:Ep->Fm->aa->(HL Ig×aa->Prop)->Prop
 | .no,_,S,Q=>Q (td,S)
 | .yes a,ρ,S,Q=>wE a ρ S λp=>wN p.1 λi=>Q (gV i,p.2)
end
noncomputable def qY (K:Fm->aa->Prop)(Q:QO)(p:Out×aa):Prop:=match p.1 with
 | .nx ρ=>K ρ p.2
 | o=>Q (o,p.2)
mutual
noncomputable def wS:Sm->Fm->aa->(Fm->aa->Prop)->QO->Prop
 | .set i e,ρ,S,K,_=>wE Φ e ρ S λp=>K (ρ.set i (gV p.1)) p.2
 | .asg is e,ρ,S,K,_=>wE Φ e ρ S λp=>wU p.1 λws=>wO (dv is ws ρ) λρ'=>K ρ' p.2
 | .par i j es,ρ,S,K,_=>wA Φ es ρ S λp=>w2 p.1 λx y=>K ((ρ.set i (gV x)).set j (gV y)) p.2
 | .put o k e,ρ,S,K,_=>wE Φ e ρ S λp=>wE Φ o ρ p.2 λq=>wE Φ k ρ q.2 λr=>wO (iB q.1 r.1 p.1 r.2) λS'=>K ρ S'
 | .ex e,ρ,S,K,_=>wE Φ e ρ S λp=>K ρ p.2
 | .ret e,ρ,S,_,Q=>wE Φ e ρ S λp=>Q (.rt p.1,p.2)
 | .retN,_,S,_,Q=>Q (.rt .non,S)
 | .pass,ρ,S,K,_=>K ρ S
 | .brk,ρ,S,_,Q=>Q (.bk ρ,S)
 | .cont,ρ,S,_,Q=>Q (.ct ρ,S)
 | .bad,_,_,_,_=>Jq
 | .ite t a b,ρ,S,K,Q=>wT Φ t ρ S λp=>∀Q':QO,(∀ρ' S',K ρ' S'->Q' (.nx ρ',S'))->(∀o S',(∀ρ',o≠.nx ρ')->Q (o,S')->Q' (o,S'))->(p.1=true->yX a ρ p.2 Q')/\(p.1=false->yX b ρ p.2 Q')
 | .whl t b,ρ,S,K,Q=>Wp (fY Φ fuel (.whl t b) ρ S) (qY K Q)
 | .loop tg it b,ρ,S,K,Q=>Wp (fY Φ fuel (.loop tg it b) ρ S) (qY K Q)
noncomputable def yX:Ss->Fm->aa->QO->Prop
 | .nil,ρ,S,Q=>Q (.nx ρ,S)
 | .cons s ss,ρ,S,Q=>wS s ρ S (λρ' S'=>yX ss ρ' S' Q) Q
end
end
noncomputable def F2:Es->HM
 | .nil=>0
 | .cons _ es=>F2 es+1
mutual
noncomputable def eJ:E->Iy
 | .c _|.v _|.comp _ _ _ _ _|.dnew=>true
 | .op _ a b|.cmp _ a b|.and a b|.or a b|.ix a b=>eJ a&&eJ b
 | .ite a b c=>eJ a&&eJ b&&eJ c
 | .neg a|.not a|.isi _ a=>eJ a
 | .own _ n es=>F2 es==n&&qZ es
 | .bi _ es|.disp es=>qZ es
 | .me _ o es=>eJ o&&qZ es
 | .sl a lo hi=>eJ a&&G6 lo&&G6 hi
 | .tup es|.lst es=>decide (F2 es<=1000)&&qZ es
noncomputable def qZ:Es->Iy
 | .nil=>true
 | .cons e es=>eJ e&&qZ es
noncomputable def G6:Ep->Iy
 | .no=>true
 | .yes e=>eJ e
end
mutual
noncomputable def Hr:Sm->Iy
 | .set _ e|.asg _ e|.ex e|.ret e=>eJ e
 | .put o k e=>eJ o&&eJ k&&eJ e
 | .par _ _ es=>qZ es
 | .ite t a b=>eJ t&&gJ a&&gJ b
 | _=>true
noncomputable def gJ:Ss->Iy
 | .nil=>true
 | .cons s ss=>Hr s&&gJ ss
end
section
variable{Φ:Ik->FF}{fuel:HM}
theorem iG:∀ {es:Es} {ρ:Fm} {S S':aa} {ws:HF W},dq Φ es ρ S=gV (ws,S')->ws.length=F2 es
 | .nil,ρ,S,S',ws,h=>by rw[dq]at h; cases h; rfl
 | .cons e es,ρ,S,S',ws,h=>by
  rw[dq]at h;unfold en at h;split at h
  ·split at h
   ·rename_i h2; cases h; rw[IW,iG h2]; rfl
   ·cases h
  ·cases h
theorem xR {n:HM}(h:decide (n<=1000)=true):n<=sizeLine:=IS (Jg h) (by rw[Je]; decide)
theorem dm {a b:Iy}(h:(a&&b)=true):a=true:=by cases a <;> first|rfl|cases h
theorem eA {a b:Iy}(h:(a&&b)=true):b=true:=by cases a <;> first|exact h|cases h
mutual
theorem bF:∀(e:E) {ρ:Fm} {S:aa} {Q:QW},eJ e=true->wE Φ e ρ S Q->Wp (aK Φ e ρ S) Q
 | .c w,ρ,S,Q,k,h=>HA.mpr h
 | .v i,ρ,S,Q,k,h=>Hq.mpr (xQ h)
 | .op o a b,ρ,S,Q,k,h=>GV.mpr ((bF a (dm k) h).mono λp hp=>(bF b (eA k) hp).mono λq hq=>cO hq)
 | .cmp o a b,ρ,S,Q,k,h=>BJ.mpr ((bF a (dm k) h).mono λp hp=>(bF b (eA k) hp).mono λq hq=>cO hq)
 | .and a b,ρ,S,Q,k,h=>E4.mpr ((bF a (dm k) h).mono λp hp=>let ⟨c,e,h1,h2⟩:=tN hp; #[c,e,λz=>bF b (eA k) (h1 z),h2])
 | .or a b,ρ,S,Q,k,h=>GY.mpr ((bF a (dm k) h).mono λp hp=>let ⟨c,e,h1,h2⟩:=tN hp; #[c,e,h1,λz=>bF b (eA k) (h2 z)])
 | .not a,ρ,S,Q,k,h=>E5.mpr ((bF a k h).mono λp hp=>tN hp)
 | .own f n es,ρ,S,Q,k,h=>BK.mpr (by
   obtain⟨⟨ws,S1⟩,e,hq⟩:=gU es (eA k) h;have hl:ws.length=n:=(iG e).trans (eq_of_beq (dm k));simp only[bj,Iw hl]at hq;exact#[_,e,hl,cO hq])
 | .bi b es,ρ,S,Q,k,h=>E7.mpr ((gU es k h).mono λp hp=>cO hp)
 | .me m o es,ρ,S,Q,k,h=>GZ.mpr ((bF o (dm k) h).mono λp hp=>#[hp.1,(gU es (eA k) hp.2).mono λq hq=>cO hq])
 | .ix a b,ρ,S,Q,k,h=>GX.mpr ((bF a (dm k) h).mono λp hp=>(bF b (eA k) hp).mono λq hq=>cO hq)
 | .sl a lo hi,ρ,S,Q,k,h=>G0.mpr ((bF a (dm (dm k)) h).mono λp hp=>(BQ lo (eA (dm k)) hp).mono λq hq=>(BQ hi (eA k) hq).mono λr hr=>cO hr)
 | .tup es,ρ,S,Q,k,h=>E9.mpr (by
   obtain⟨⟨ws,S1⟩,e,hq⟩:=gU es (eA k) h;exact#[_,e,by rw[iG e]; exact xR (dm k),hq])
 | .lst es,ρ,S,Q,k,h=>Fa.mpr (by
   obtain⟨⟨ws,S1⟩,e,hq⟩:=gU es (eA k) h;exact#[_,e,by rw[iG e]; exact xR (dm k),hq])
 | .isi c a,ρ,S,Q,k,h=>BL.mpr ((bF a k h).mono λp hp=>cO hp)
 | .neg a,ρ,S,Q,k,h=>Fb.mpr ((bF a k h).mono λp hp=>BP hp)
 | .dnew,ρ,S,Q,k,h=>#[_,rfl,h]
 | .disp es,ρ,S,Q,k,h=>Dg.mpr ((gU es k h).mono λp hp=>#[hp.1,let ⟨kvs,e,q⟩:=cO hp.2; #[kvs,e,q]])
 | .ite t a b,ρ,S,Q,k,h=>E6.mpr ((iH t (dm (dm k)) h).mono λp hp=>#[λz=>bF a (eA (dm k)) (hp.1 z),λz=>bF b (eA k) (hp.2 z)])
 | .comp elt tg it cs cap,ρ,S,Q,k,h=>h
theorem gU:∀(es:Es) {ρ:Fm} {S:aa} {Q:HF W×aa->Prop},qZ es=true->wA Φ es ρ S Q->Wp (dq Φ es ρ S) Q
 | .nil,ρ,S,Q,k,h=>Fc.mpr h
 | .cons e es,ρ,S,Q,k,h=>Dh.mpr ((bF e (dm k) h).mono λp hp=>gU es (eA k) hp)
theorem BQ:∀(e:Ep) {ρ:Fm} {S:aa} {Q:HL Ig×aa->Prop},G6 e=true->wP Φ e ρ S Q->Wp (tt Φ e ρ S) Q
 | .no,ρ,S,Q,k,h=>G1.mpr h
 | .yes a,ρ,S,Q,k,h=>E8.mpr ((bF a k h).mono λp hp=>BP hp)
theorem iH:∀(e:E) {ρ:Fm} {S:aa} {Q:QB},eJ e=true->wT Φ e ρ S Q->Wp (dk Φ e ρ S) Q
 | .cmp o a b,ρ,S,Q,k,h=>Fe.mpr (BJ.mpr ((bF a (dm k) h).mono λp hp=>(bF b (eA k) hp).mono λq hq=>(cO hq).mono λr hr=>tN hr))
 | .and a b,ρ,S,Q,k,h=>Ff.mpr ((iH a (dm k) h).mono λp hp=>#[λz=>iH b (eA k) (hp.1 z),hp.2])
 | .or a b,ρ,S,Q,k,h=>G2.mpr ((iH a (dm k) h).mono λp hp=>#[hp.1,λz=>iH b (eA k) (hp.2 z)])
 | .not a,ρ,S,Q,k,h=>Fg.mpr (iH a k h)
 | .isi c a,ρ,S,Q,k,h=>Fi.mpr (BL.mpr ((bF a k h).mono λp hp=>let ⟨b,e,q⟩:=cO hp; #[b,e,b,rfl,q]))
 | .v i,ρ,S,Q,k,h=>HB.mpr (Hq.mpr (let ⟨w,e,q⟩:=xQ h; #[w,e,cO q]))
 | .own f n es,ρ,S,Q,k,h=>Fh.mpr (BK.mpr (by
   obtain⟨⟨ws,S1⟩,e,hq⟩:=gU es (eA k) h;have hl:ws.length=n:=(iG e).trans (eq_of_beq (dm k));simp only[bj,Iw hl]at hq;exact#[_,e,hl,(cO hq).mono λq hq=>cO hq]))
 | .c w,ρ,S,Q,k,h=>h
 | .op o a b,ρ,S,Q,k,h=>h
 | .bi b es,ρ,S,Q,k,h=>G3.mpr (E7.mpr ((gU es k h).mono λp hp=>(cO hp).mono λq hq=>cO hq))
 | .me m o es,ρ,S,Q,k,h=>h
 | .ix a b,ρ,S,Q,k,h=>h
 | .sl a lo hi,ρ,S,Q,k,h=>h
 | .tup es,ρ,S,Q,k,h=>h
 | .lst es,ρ,S,Q,k,h=>h
 | .neg a,ρ,S,Q,k,h=>h
 | .dnew,ρ,S,Q,k,h=>h
 | .disp es,ρ,S,Q,k,h=>h
 | .ite t a b,ρ,S,Q,k,h=>h
 | .comp elt tg it cs cap,ρ,S,Q,k,h=>h
end
mutual
theorem Fx:∀(s:Sm) {ρ:Fm} {S:aa} {K:Fm->aa->Prop} {Q:QO},Hr s=true->wS Φ fuel s ρ S K Q->Wp (fY Φ fuel s ρ S) (qY K Q)
 | .set i e,ρ,S,K,Q,k,h=>Dj.mpr (bF e k h)
 | .asg is e,ρ,S,K,Q,k,h=>Dk.mpr ((bF e k h).mono λp hp=>let ⟨ws,e1,h1⟩:=Fv hp; let ⟨ρ',e2,h2⟩:=cO h1; #[ws,ρ',e1,e2,h2])
 | .par i j es,ρ,S,K,Q,k,h=>Dl.mpr ((gU es k h).mono λp hp=>Fw hp)
 | .put o i e,ρ,S,K,Q,k,h=>Dm.mpr ((bF e (eA k) h).mono λp hp=>(bF o (dm (dm k)) hp).mono λq hq=>(bF i (eA (dm k)) hq).mono λr hr=>cO hr)
 | .ex e,ρ,S,K,Q,k,h=>Fk.mpr (bF e k h)
 | .ret e,ρ,S,K,Q,k,h=>Dn.mpr (bF e k h)
 | .retN,ρ,S,K,Q,k,h=>#[_,rfl,h]
 | .pass,ρ,S,K,Q,k,h=>#[_,rfl,h]
 | .brk,ρ,S,K,Q,k,h=>#[_,rfl,h]
 | .cont,ρ,S,K,Q,k,h=>#[_,rfl,h]
 | .bad,ρ,S,K,Q,k,h=>h.elim
 | .ite t a b,ρ,S,K,Q,k,h=>Do.mpr ((iH t (dm (dm k)) h).mono λp hp=>by
   obtain⟨h1,h2⟩:=hp (qY K Q) (λρ' S' z=>z) (λo S' hn z=>by cases o <;> first|exact z|exact absurd rfl (hn _))
   exact#[λz=>je a (eA (dm k)) (h1 z),λz=>je b (eA k) (h2 z)])
 | .whl t b,ρ,S,K,Q,k,h=>h
 | .loop tg it b,ρ,S,K,Q,k,h=>h
theorem je:∀(ss:Ss) {ρ:Fm} {S:aa} {Q:QO},gJ ss=true->yX Φ fuel ss ρ S Q->Wp (fZ Φ fuel ss ρ S) Q
 | .nil,ρ,S,Q,k,h=>Fj.mpr h
 | .cons s ss,ρ,S,Q,k,h=>Di.mpr ((Fx s (dm k) h).mono λp hp=>by
   obtain⟨o,S1⟩:=p;cases o with
   | nx ρ'=>exact#[λρ2 e=>by cases e; exact je ss (eA k) hp,λz=>absurd rfl (z ρ')]
   | _=>exact#[λρ2 e=>(by cases e),λ_=>hp])
end
structure wZ (Φ:Ik->FF)(fuel:HM)(ss:Ss)(ρ:Fm)(S:aa)(Q:QO):Prop where
 out:yX Φ fuel ss ρ S Q
theorem Fy {ss:Ss}{ρ:Fm}{S:aa}{Q:QO}:yX Φ fuel ss ρ S Q=wZ Φ fuel ss ρ S Q:=propext #[λh=>#[h],λh=>h.out]
theorem Dr {defs:HF (Ik×Df)}{d:HM}{f:Ik}{n:HM}{ws:HF W}{df:Df}{S:aa}{Q:QW}(h:defs.lookup f=gV df)(hn:ws.length=n)(hl:ws.length=df.ps.length)(ok:gJ df.body=true)
  (hb:∀Q':QO,(∀w S',Q (w,S')->Q' (.rt w,S'))->wZ (ay defs fuel d) fuel df.body (fE df.N ws) S Q'):wO (bj (ay defs fuel (d+1)) f n ws S) Q:=by
 unfold bj;rw[Iw hn];exact Fu (vd h hl ((je _ ok (hb (λp=>match p.1 with|.rt w=>Q (w,p.2)|_=>Jq) λw S' q=>q).out).mono λp hp=>by
  obtain⟨o,S1⟩:=p;cases o <;> first|exact hp|exact hp.elim))
end
section
variable{Φ:Ik->FF}{fuel:HM}{ρ:Fm}{S:aa}{K:Fm->aa->Prop}{Q:QO}
noncomputable def vG (Φ:Ik->FF)(fuel:HM)(b:Ss)(ρ:Fm)(S:aa)(I:Fm->aa->Prop)(Q:QO):Prop:=∀Q':QO,(∀ρ' S',I ρ' S'->Q' (.nx ρ',S'))->(∀w S',Q (.rt w,S')->Q' (.rt w,S'))->wZ Φ fuel b ρ S Q'
theorem ic {tg:Tg}{it:Ie}{b:Ss}{mi:MI}{S1:aa}{xs:HF W}(I:HM->Fm->aa->Prop)(ok:gJ b=true)(hi:lJ Φ it ρ S=gV (mi,S1))(hat:∀i ρ S,I i ρ S->mi.at S i=gV xs[i]?)(hl:mi.len S1=gV xs.length)(h0:I 0 ρ S1)
  (hstep:∀(i:HM) (w:W) (ρ:Fm) (S:aa),xs[i]?=gV w->I i ρ S->wO (gI tg w ρ S) λq=>vG Φ fuel b q.1 q.2 (I (i+1)) Q) (hend:∀ρ S,I xs.length ρ S->K ρ S):Wp (fY Φ fuel (.loop tg it b) ρ S) (qY K Q):=by
 rw[fY,Fn];refine#[_,hi,xs.length,hl,?_];refine jc (Q:=qY K Q) I hat (λi w ρ S h1 h2=>?_) (λρ S h=>hend ρ S h) _ 0 ρ S1 ∅ h0
 exact(cO (hstep i w ρ S h1 h2)).mono λq hq=>je b ok (wZ.out (hq _ (λ_ _ h=>h) λ_ _ h=>h))
theorem cY {e:E}{Q:QW}(ok:eJ e=true)(h:wE Φ e ρ S Q):∃w S',aK Φ e ρ S=gV (w,S')/\Q (w,S'):=let ⟨⟨w,S'⟩,a,b⟩:=bF e ok h; #[w,S',a,b]
theorem dc {i0:HM}{e:E}{b:Ss}(j:Ig)(I:HM->Fm->aa->Prop)(oe:eJ e=true)(ok:gJ b=true)(hj : -(2 ^ 62)<=j/\j < 2 ^ 62)(he:wE Φ e ρ S λp=>p.1=.int j/\I 0 ρ p.2)
  (hstep:∀(i:HM) (ρ:Fm) (S:aa),(i:Ig) < j->I i ρ S->vG Φ fuel b (ρ.set i0 (gV (.int i))) S (I (i+1)) Q) (hend:∀ρ S,I j.toNat ρ S->K ρ S):Wp (fY Φ fuel (.loop (.nm i0) (.rng #v[e]) b) ρ S) (qY K Q):=by
 obtain⟨w,S1,e1,rfl,h0⟩:=cY oe he;have hl:(dj 0 j.toNat).length=j.toNat:=by simp[dj]
 refine ic (mi:=.its (dj 0 j.toNat)) (S1:=S1) (xs:=dj 0 j.toNat) I ok ?_ (λ_ _ _ _=>rfl) rfl h0 (λi w ρ S hw hI=>?_) λρ S hI=>hend ρ S (hl ▸ hI)
 ·simp only[lJ,dq,en,i8,rM,e1];rw[Iw hj]
 ·rw[eu]at hw;split at hw
  ·rename_i hk;cases hw;rw[LL];exact hstep i ρ S ∅ hI
  ·cases hw
theorem for_tup {tg:Tg}{e:E}{b:Ss}(xs:HF W)(I:HM->Fm->aa->Prop)(oe:eJ e=true)(ok:gJ b=true)(he:wE Φ e ρ S λp=>p.1=.tup xs/\I 0 ρ p.2)
  (hstep:∀(i:HM) (w:W) (ρ:Fm) (S:aa),xs[i]?=gV w->I i ρ S->wO (gI tg w ρ S) λq=>vG Φ fuel b q.1 q.2 (I (i+1)) Q) (hend:∀ρ S,I xs.length ρ S->K ρ S):Wp (fY Φ fuel (.loop tg (.seq e) b) ρ S) (qY K Q):=by
 obtain⟨w,S1,e1,rfl,h0⟩:=cY oe he;exact ic (mi:=.its xs) (S1:=S1) I ok (by simp only[lJ,fX,e1]) (λ_ _ _ _=>rfl) rfl h0 hstep hend
theorem tP {tg:Tg}{e:E}{b:Ss}(t:HM)(xs:HF W)(I:HM->Fm->aa->Prop)(oe:eJ e=true)(ok:gJ b=true)(he:wE Φ e ρ S λp=>p.1=.ref t/\I 0 ρ p.2)(hat:∀i ρ S,I i ρ S->S[t]?=gV (.lst xs))
  (hstep:∀(i:HM) (w:W) (ρ:Fm) (S:aa),xs[i]?=gV w->I i ρ S->wO (gI tg w ρ S) λq=>vG Φ fuel b q.1 q.2 (I (i+1)) Q) (hend:∀ρ S,I xs.length ρ S->K ρ S):Wp (fY Φ fuel (.loop tg (.seq e) b) ρ S) (qY K Q):=by
 obtain⟨w,S1,e1,rfl,h0⟩:=cY oe he;exact ic (mi:=.live t) (S1:=S1) I ok (by simp only[lJ,fX,e1,bc (hat _ _ _ h0)]) (λi ρ S h=>by simp only[MI.at,bc (hat _ _ _ h)]) (by simp only[MI.len,bc (hat _ _ _ h0),IR]) h0 hstep hend
theorem Fz {t:E}{b:Ss}(I:HM->Fm->aa->Prop)(m:HM)(ot:eJ t=true)(ok:gJ b=true)(hm:m < fuel)(h0:I m ρ S)
  (hstep:∀m ρ S,I m ρ S->wT Φ t ρ S λk=>(k.1=true->∃m',m=m'+1/\vG Φ fuel b ρ k.2 (I m') Q)/\(k.1=false->K ρ k.2)):Wp (fY Φ fuel (.whl t b) ρ S) (qY K Q):=by
 rw[fY];refine kX (Q:=qY K Q) I (λm ρ S hI=>(iH t ot (hstep m ρ S hI)).mono λk hk=>#[λz=>?_,λz=>hk.2 z]) fuel m ρ S hm h0
 obtain⟨m',e,h⟩:=hk.1 z;exact#[m',e,je b ok (wZ.out (h _ (λ_ _ h=>h) λ_ _ h=>h))]
noncomputable def wC (Φ:Ik->FF):Es->Fm->aa->QB->Prop
 | .nil,_,S,Q=>Q (true,S)
 | .cons e .nil,ρ,S,Q=>wT Φ e ρ S Q
 | .cons _ (.cons _ _),_,_,_=>Jq
theorem BR {cs:Es}{Q:QB}(ok:qZ cs=true)(h:wC Φ cs ρ S Q):Wp (AJ Φ cs ρ S) Q:=by
 match cs,h,ok with
 | .nil,h,_=>exact Fo.mpr h
 | .cons e .nil,h,ok=>exact Fp.mpr (iH e (dm ok) h)
noncomputable def jf (Φ:Ik->FF)(elt:E)(cs:Es)(ρ:Fm)(S:aa)(G:W->Fm->aa->Prop)(N:Fm->aa->Prop):Prop:=wC Φ cs ρ S λk=>(k.1=true->wE Φ elt ρ k.2 λy=>G y.1 ρ y.2)/\(k.1=false->N ρ k.2)
theorem kZ {elt:E}{tg:Tg}{it:Ie}{cs:Es}{cap:HF (HL HM)}{mi:MI}{S1:aa}{xs:HF W}{Q:QW}(I:HM->HF W->Fm->aa->Prop)(oe:eJ elt=true)(oc:qZ cs=true)(hi:lJ Φ it ρ S=gV (mi,S1))(hat:∀i ys ρ S,I i ys ρ S->mi.at S i=gV xs[i]?)(hl:mi.len S1=gV xs.length)(h0:I 0 [] (fN cap ρ) S1)
  (hstep:∀(i:HM) (w:W) (ys:HF W) (ρ:Fm) (S:aa),xs[i]?=gV w->I i ys ρ S->wO (gI tg w ρ S) λq=>jf Φ elt cs q.1 q.2 (λy=>I (i+1) (ys++[y])) (I (i+1) ys))
  (hend:∀ys ρ S,I xs.length ys ρ S->ys.length<=sizeLine/\Q (.ref S.length,S++[.lst ys])):Wp (aK Φ (.comp elt tg it cs cap) ρ S) Q:=by
 rw[xM];refine#[_,hi,xs.length,hl,?_];refine(dU (xs:=xs) (Q:=λq=>q.1.length<=sizeLine/\Q (.ref q.2.length,q.2++[.lst q.1])) I hat (λi w ys ρ S h1 h2=>?_) hend xs.length 0 [] _ S1 ∅ h0).mono λq hq=>by simpa using hq
 exact(cO (hstep i w ys ρ S h1 h2)).mono λq hq=>(BR oc hq).mono λk hk=>#[λz=>bF elt oe (hk.1 z),hk.2]
theorem dX {elt e:E}{i0:HM}{cs:Es}{cap:HF (HL HM)}{Q:QW}(j:Ig)(I:HM->HF W->Fm->aa->Prop)(oi:eJ e=true)(oe:eJ elt=true)(oc:qZ cs=true)(hj : -(2 ^ 62)<=j/\j < 2 ^ 62)(he:wE Φ e ρ S λp=>p.1=.int j/\I 0 [] (fN cap ρ) p.2)
  (hstep:∀(i:HM) (ys:HF W) (ρ:Fm) (S:aa),(i:Ig) < j->I i ys ρ S->jf Φ elt cs (ρ.set i0 (gV (.int i))) S (λy=>I (i+1) (ys++[y])) (I (i+1) ys))
  (hend:∀ys ρ S,I j.toNat ys ρ S->ys.length<=sizeLine/\Q (.ref S.length,S++[.lst ys])):Wp (aK Φ (.comp elt (.nm i0) (.rng #v[e]) cs cap) ρ S) Q:=by
 obtain⟨w,S1,e1,rfl,h0⟩:=cY oi he;have hl:(dj 0 j.toNat).length=j.toNat:=by simp[dj]
 refine kZ (mi:=.its (dj 0 j.toNat)) (S1:=S1) (xs:=dj 0 j.toNat) I oe oc ?_ (λ_ _ _ _ _=>rfl) rfl h0 (λi w ys ρ S hw hI=>?_) λys ρ S hI=>hend ys ρ S (hl ▸ hI)
 ·simp only[lJ,dq,en,i8,rM,e1];rw[Iw hj]
 ·rw[eu]at hw;split at hw
  ·rename_i hk;cases hw;rw[LL];exact hstep i ys ρ S ∅ hI
  ·cases hw
theorem tQ {elt e:E}{tg:Tg}{cs:Es}{cap:HF (HL HM)}{Q:QW}(xs:HF W)(I:HM->HF W->Fm->aa->Prop)(oi:eJ e=true)(oe:eJ elt=true)(oc:qZ cs=true)(he:wE Φ e ρ S λp=>p.1=.tup xs/\I 0 [] (fN cap ρ) p.2)
  (hstep:∀(i:HM) (w:W) (ys:HF W) (ρ:Fm) (S:aa),xs[i]?=gV w->I i ys ρ S->wO (gI tg w ρ S) λq=>jf Φ elt cs q.1 q.2 (λy=>I (i+1) (ys++[y])) (I (i+1) ys))
  (hend:∀ys ρ S,I xs.length ys ρ S->ys.length<=sizeLine/\Q (.ref S.length,S++[.lst ys])):Wp (aK Φ (.comp elt tg (.seq e) cs cap) ρ S) Q:=by
 obtain⟨w,S1,e1,rfl,h0⟩:=cY oi he;exact kZ (mi:=.its xs) (S1:=S1) I oe oc (by simp only[lJ,fX,e1]) (λ_ _ _ _ _=>rfl) rfl h0 hstep hend
theorem tR {elt e:E}{tg:Tg}{cs:Es}{cap:HF (HL HM)}{Q:QW}(t:HM)(xs:HF W)(I:HM->HF W->Fm->aa->Prop)(oi:eJ e=true)(oe:eJ elt=true)(oc:qZ cs=true)(he:wE Φ e ρ S λp=>p.1=.ref t/\I 0 [] (fN cap ρ) p.2)(hat:∀i ys ρ S,I i ys ρ S->S[t]?=gV (.lst xs))
  (hstep:∀(i:HM) (w:W) (ys:HF W) (ρ:Fm) (S:aa),xs[i]?=gV w->I i ys ρ S->wO (gI tg w ρ S) λq=>jf Φ elt cs q.1 q.2 (λy=>I (i+1) (ys++[y])) (I (i+1) ys))
  (hend:∀ys ρ S,I xs.length ys ρ S->ys.length<=sizeLine/\Q (.ref S.length,S++[.lst ys])):Wp (aK Φ (.comp elt tg (.seq e) cs cap) ρ S) Q:=by
 obtain⟨w,S1,e1,rfl,h0⟩:=cY oi he;exact kZ (mi:=.live t) (S1:=S1) I oe oc (by simp only[lJ,fX,e1,bc (hat _ _ _ _ h0)]) (λi ys ρ S h=>by simp only[MI.at,bc (hat _ _ _ _ h)]) (by simp only[MI.len,bc (hat _ _ _ _ h0),IR]) h0 hstep hend
theorem AS {elt a:E}{tg:Tg}{cs:Es}{cap:HF (HL HM)}{Q:QW}(xs:HF W)(I:HM->HF W->Fm->aa->Prop)(oa:eJ a=true)(oe:eJ elt=true)(oc:qZ cs=true)(he:wE Φ a ρ S λp=>GP p.1=gV xs/\I 0 [] (fN cap ρ) p.2)
  (hstep:∀(i:HM) (x:W) (ys:HF W) (ρ:Fm) (S:aa),xs[i]?=gV x->I i ys ρ S->wO (gI tg (.tup [.int i,x]) ρ S) λq=>jf Φ elt cs q.1 q.2 (λy=>I (i+1) (ys++[y])) (I (i+1) ys))
  (hend:∀ys ρ S,I xs.length ys ρ S->ys.length<=sizeLine/\Q (.ref S.length,S++[.lst ys])):Wp (aK Φ (.comp elt tg (.enu #v[a]) cs cap) ρ S) Q:=by
 obtain⟨x,S1,e1,h1,h0⟩:=cY oa he;have hl:(n8 xs).length=xs.length:=by simp[n8]
 refine kZ (mi:=.its (n8 xs)) (S1:=S1) (xs:=n8 xs) I oe oc (by simp only[lJ,dq,en,i8,AH,e1,h1]) (λ_ _ _ _ _=>rfl) rfl h0 (λi w ys ρ S hw hI=>?_) λys ρ S hI=>hend ys ρ S (hl ▸ hI)
 obtain⟨y,hy,rfl⟩:=qa hw;exact hstep i y ys ρ S hy hI
theorem st {s:Sm}{ss:Ss}(h:wS Φ fuel s ρ S (λρ' S'=>wZ Φ fuel ss ρ' S' Q) Q):wZ Φ fuel (.cons s ss) ρ S Q:=#[by
 rw[yX];simp only[Fy];exact h]
theorem bX (h:Q (.nx ρ,S)):wZ Φ fuel .nil ρ S Q:=#[by rw[yX]; exact h]
theorem ar {t:Iy}{a b:Ss}{Q Q0:QO}{K:Fm->aa->Prop}(ha:t=true->∀Q':QO,(∀ρ' S',K ρ' S'->Q' (.nx ρ',S'))->(∀w S',Q (.rt w,S')->Q' (.rt w,S'))->wZ Φ fuel a ρ S Q')(hb:t=false->∀Q':QO,(∀ρ' S',K ρ' S'->Q' (.nx ρ',S'))->(∀w S',Q (.rt w,S')->Q' (.rt w,S'))->wZ Φ fuel b ρ S Q') :
  ∀Q':QO,(∀ρ' S',K ρ' S'->Q' (.nx ρ',S'))->(∀o S',(∀ρ',o≠.nx ρ')->Q (o,S')->Q' (o,S'))->(t=true->yX Φ fuel a ρ S Q')/\(t=false->yX Φ fuel b ρ S Q'):=
 λQ' h1 h2=>#[λe=>(ha e Q' h1 λw S'=>h2 (.rt w) S' (λ_ z=>nomatch z)).out,λe=>(hb e Q' h1 λw S'=>h2 (.rt w) S' (λ_ z=>nomatch z)).out]
end
noncomputable def eB:Ss:=
 #v[.ret (.lst #v[.bi .list #v[.v 0],.c (.int 0),.c (.int 0),.c (.int 1),.c (.int 0)])]
noncomputable def cZ:Ss:=
 #v[.ite (.and (.cmp .eq (.ix (.v 0) (.c (.int 2))) (.c (.int 0))) (.cmp .lt (.ix (.v 0) (.c (.int 1))) (.bi .len #v[.ix (.v 0) (.c (.int 0))]))) #v[.set 2 (.ix (.ix (.v 0) (.c (.int 0))) (.ix (.v 0) (.c (.int 1)))),.put (.v 0) (.c (.int 1)) (.op .add (.ix (.v 0) (.c (.int 1))) (.c (.int 1))),.ite (.cmp .ge (.v 2) (.op .pow (.c (.int 10)) (.c (.int 18)))) #v[.put (.v 0) (.c (.int 2)) (.v 2)] #v[.put (.v 0) (.c (.int 3)) (.op .mod (.op .add (.op .add (.op .mul (.ix (.v 0) (.c (.int 3))) (.c (.int 40013))) (.op .mod (.v 2) (.c (.int 1000003)))) (.c (.int 1))) (.c (.int 2147483647)))]] .nil,.ite (.cmp .gt (.ix (.v 0) (.c (.int 2))) (.c (.int 0))) #v[.set 3 (.op .mod (.ix (.v 0) (.c (.int 2))) (.v 1)),.put (.v 0) (.c (.int 2)) (.op .fdiv (.ix (.v 0) (.c (.int 2))) (.v 1)),.ret (.v 3)] .nil,.put (.v 0) (.c (.int 4)) (.op .add (.ix (.v 0) (.c (.int 4))) (.c (.int 1))),.put (.v 0) (.c (.int 3)) (.op .mod (.op .add (.op .add (.op .mul (.ix (.v 0) (.c (.int 3))) (.c (.int 48271))) (.c (.int 12820163))) (.ix (.v 0) (.c (.int 4)))) (.c (.int 2147483647))),.ret (.op .mod (.op .fdiv (.op .mod (.op .mul (.op .add (.op .mod (.ix (.v 0) (.c (.int 3))) (.c (.int 65521))) (.c (.int 1))) (.op .add (.op .fdiv (.ix (.v 0) (.c (.int 3))) (.c (.int 65521))) (.c (.int 7919)))) (.c (.int 1000003))) (.c (.int 7))) (.v 1))]
noncomputable def dD:Ss:=
 #v[.ite (.cmp .lt (.v 3) (.v 2)) #v[.ret (.ix (.ix (.ix (.v 1) (.v 2)) (.c (.int 1))) (.v 3))] .nil,.ret (.ix (.ix (.ix (.v 0) (.c (.int 1))) (.ix (.ix (.ix (.v 1) (.v 3)) (.c (.int 1))) (.v 2))) (.c (.int 1)))]
noncomputable def fF:Ss:=
 #v[.set 3 (.lst .nil),.loop (.nm 4) (.rng #v[.bi .len #v[.v 2]]) #v[.set 5 (.ix (.v 2) (.v 4)),.ex (.me .append (.v 3) #v[.tup #v[.ix (.ix (.v 1) (.v 5)) (.c (.int 0)),.bi .tuple #v[.comp (.own "_law_between" 4 #v[.v 3,.v 4,.v 2,.v 1]) (.nm 1) (.seq (.sl (.v 2) .no (.yes (.v 4)))) .nil [td,td,gV 5,gV 0,gV 1]]]])],.ret (.bi .tuple #v[.v 3])]
noncomputable def gb:Ss:=
 #v[.ret (.lst #v[.tup #v[.c (.int 0),.c (.int 1),.c (.int 2)],.tup #v[.c (.int 0),.c (.int 2),.c (.int 1)],.tup #v[.c (.int 1),.c (.int 0),.c (.int 2)],.tup #v[.c (.int 1),.c (.int 2),.c (.int 0)],.tup #v[.c (.int 2),.c (.int 0),.c (.int 1)],.tup #v[.c (.int 2),.c (.int 1),.c (.int 0)]])]
noncomputable def dY:Ss:=
 #v[.ret (.bi .min #v[.comp (.own "_law_part" 3 #v[.v 2,.v 3,.v 1]) (.nm 1) (.seq (.own "_law_turns" 0 .nil)) .nil [td,td,gV 0,gV 1]])]
noncomputable def eL:Ss:=
 #v[.set 2 (.ix (.lst #v[.lst #v[.tup #v[.c (.int 0)]],.lst #v[.tup #v[.c (.int 0),.c (.int 1)],.tup #v[.c (.int 1),.c (.int 0)]],.lst #v[.tup #v[.c (.int 0),.c (.int 1),.c (.int 2)],.tup #v[.c (.int 1),.c (.int 0),.c (.int 2)],.tup #v[.c (.int 0),.c (.int 2),.c (.int 1)]]]) (.op .sub (.v 1) (.c (.int 1)))),.ret (.ix (.v 2) (.own "_law_pick" 2 #v[.v 0,.bi .len #v[.v 2]]))]
noncomputable def dE:Ss:=
 #v[.set 4 (.own "_law_names" 2 #v[.v 0,.op .add (.v 1) (.bi .len #v[.v 2])]),.set 5 (.bi .tuple #v[.comp (.tup #v[.ix (.v 4) (.op .add (.v 3) (.v 1)),.ix (.v 2) (.v 1)]) (.nm 1) (.rng #v[.bi .len #v[.v 2]]) .nil [td,td,gV 2,gV 1,gV 4]]),.ret (.tup #v[.sl (.v 4) .no (.yes (.v 1)),.v 5,.bi .tuple #v[.bi .sorted #v[.v 3]]])]
noncomputable def cJ:Ss:=
 #v[.set 3 (.lst .nil),.loop (.nm 4) (.rng #v[.c (.int 3)]) #v[.ex (.me .append (.v 3) #v[.tup #v[.own "_law_pick" 2 #v[.v 0,.v 1],.bi .tuple #v[.comp (.own "_law_pick" 2 #v[.v 2,.v 3]) (.nm 1) (.rng #v[.v 4]) .nil [td,td,gV 0,gV 2]]]])],.ret (.bi .tuple #v[.v 3])]
noncomputable def eM:Ss:=
 #v[.set 1 (.lst #v[.tup #v[.c (.int 1),.c (.int 1)],.tup #v[.c (.int 2),.c (.int 1)],.tup #v[.c (.int 3),.c (.int 1)],.tup #v[.c (.int 1),.c (.int 2)],.tup #v[.c (.int 1),.c (.int 2)],.tup #v[.c (.int 2),.c (.int 2)],.tup #v[.c (.int 2),.c (.int 2)],.tup #v[.c (.int 3),.c (.int 2)],.tup #v[.c (.int 1),.c (.int 3)],.tup #v[.c (.int 1),.c (.int 3)],.tup #v[.c (.int 2),.c (.int 3)]]),.ret (.ix (.v 1) (.own "_law_pick" 2 #v[.v 0,.c (.int 11)]))]
noncomputable def de:Ss:=
 #v[.asg [1,2] (.own "_law_sizes" 1 #v[.v 0]),.set 3 (.own "_law_rule_of" 4 #v[.v 0,.v 1,.own "_law_backs" 2 #v[.v 0,.v 2],.tup .nil]),.set 4 .dnew,.loop (.nm 5) (.rng #v[.own "_law_pick" 2 #v[.v 0,.c (.int 9)]]) #v[.put (.v 4) (.own "_law_figure" 2 #v[.v 3,.own "_law_free_three" 3 #v[.v 0,.v 1,.v 2]]) (.c (.bl true))],.ret (.tup #v[.ix (.v 3) (.c (.int 0)),.ix (.v 3) (.c (.int 1)),.bi .tuple #v[.bi .sorted #v[.v 4]]])]
noncomputable def cy:Ss:=
 #v[.set 1 (.lst #v[.tup #v[.tup #v[.c (.int 1),.c (.int 0)],.disp #v[.tup #v[.c (.int 0),.c (.int 0)],.lst #v[.c (.int 0)]],.c (.int 3)],.tup #v[.tup #v[.c (.int 0),.c (.int 2),.c (.int 1)],.disp #v[.tup #v[.c (.int 1),.c (.int 1)],.lst #v[.c (.int 1)]],.c (.int 2)],.tup #v[.tup #v[.c (.int 0),.c (.int 1)],.disp #v[.tup #v[.c (.int 1),.c (.int 1)],.lst #v[.c (.int 1)]],.c (.int 3)]]),.ex (.me .append (.v 1) #v[.tup #v[.tup #v[.c (.int 0),.c (.int 1)],.disp #v[.tup #v[.c (.int 1),.c (.int 1)],.lst #v[.c (.int 1)],.tup #v[.c (.int 0),.c (.int 0)],.lst #v[.c (.int 1)]],.c (.int 3)]]),.ex (.me .append (.v 1) #v[.tup #v[.tup #v[.c (.int 0),.c (.int 1)],.disp #v[.tup #v[.c (.int 1),.c (.int 1)],.lst .nil],.c (.int 1)]]),.ex (.me .append (.v 1) #v[.tup #v[.tup #v[.c (.int 0),.c (.int 2),.c (.int 1)],.disp #v[.tup #v[.c (.int 0),.c (.int 0)],.lst #v[.c (.int 0)],.tup #v[.c (.int 0),.c (.int 1)],.lst #v[.c (.int 1)],.tup #v[.c (.int 1),.c (.int 0)],.lst #v[.c (.int 1)],.tup #v[.c (.int 1),.c (.int 1)],.lst #v[.c (.int 1)]],.c (.int 2)]]),.ex (.me .append (.v 1) #v[.tup #v[.tup #v[.c (.int 1),.c (.int 0)],.dnew,.c (.int 3)]]),.ex (.me .append (.v 1) #v[.tup #v[.tup #v[.c (.int 0),.c (.int 1),.c (.int 2)],.disp #v[.tup #v[.c (.int 2),.c (.int 2)],.lst #v[.c (.int 2)],.tup #v[.c (.int 1),.c (.int 2)],.lst #v[.c (.int 1)],.tup #v[.c (.int 2),.c (.int 1)],.lst #v[.c (.int 1)],.tup #v[.c (.int 1),.c (.int 1)],.lst #v[.c (.int 1),.c (.int 2)]],.c (.int 2)]]),.ex (.me .append (.v 1) #v[.tup #v[.tup #v[.c (.int 0),.c (.int 1),.c (.int 2)],.disp #v[.tup #v[.c (.int 0),.c (.int 0)],.lst #v[.c (.int 0),.c (.int 1)]],.c (.int 2)]]),.ret (.ix (.v 1) (.own "_law_pick" 2 #v[.v 0,.c (.int 9)]))]
noncomputable def dZ:Ss:=
 #v[.set 5 (.disp #v[.tup #v[.c (.int 1),.c (.int 0)],.v 2,.tup #v[.c (.int 2),.c (.int 0)],.v 3,.tup #v[.c (.int 2),.c (.int 1)],.v 4]),.loop (.nm 6) (.seq (.bi .list #v[.v 5])) #v[.put (.v 5) (.tup #v[.ix (.v 6) (.c (.int 1)),.ix (.v 6) (.c (.int 0))]) (.ix (.v 0) (.ix (.v 5) (.v 6)))],.loop (.tp [7,8,9]) (.seq (.own "_law_turns" 0 .nil)) #v[.ite (.cmp .notin (.ix (.v 5) (.tup #v[.v 7,.v 9])) (.me .get (.v 1) #v[.tup #v[.ix (.v 5) (.tup #v[.v 7,.v 8]),.ix (.v 5) (.tup #v[.v 8,.v 9])],.lst #v[.ix (.v 5) (.tup #v[.v 7,.v 9])]])) #v[.ret (.c (.bl true))] .nil],.ret (.c (.bl false))]
noncomputable def bT:Ss:=
 #v[.set 3 (.bi .len #v[.v 1]),.set 4 (.lst #v[.lst #v[.tup #v[.c (.int 0)]],.lst #v[.tup #v[.c (.int 0),.c (.int 1)],.tup #v[.c (.int 1),.c (.int 0)]]]),.ex (.me .append (.v 4) #v[.lst #v[.tup #v[.c (.int 0),.c (.int 1),.c (.int 2)],.tup #v[.c (.int 0),.c (.int 2),.c (.int 1)],.tup #v[.c (.int 2),.c (.int 0),.c (.int 1)],.tup #v[.c (.int 2),.c (.int 1),.c (.int 0)]]]),.set 5 (.ix (.v 4) (.op .sub (.v 3) (.c (.int 1)))),.ite (.cmp .eq (.v 1) (.tup #v[.c (.int 0),.c (.int 1),.c (.int 2)])) #v[.set 5 (.own "_law_turns" 0 .nil)] .nil,.set 6 (.ix (.v 5) (.own "_law_pick" 2 #v[.v 0,.bi .len #v[.v 5]])),.set 7 (.op .mul (.lst #v[.c (.int 0)]) (.v 3)),.loop (.nm 8) (.rng #v[.v 3]) #v[.put (.v 7) (.ix (.v 6) (.v 8)) (.ix (.v 6) (.ix (.v 1) (.v 8)))],.set 9 .dnew,.loop (.tp [10,11]) (.seq (.v 2)) #v[.put (.v 9) (.tup #v[.ix (.v 6) (.v 10),.ix (.v 6) (.v 11)]) (.comp (.ix (.v 2) (.v 1)) (.nm 1) (.seq (.ix (.v 2) (.tup #v[.v 10,.v 11]))) .nil [td,td,gV 6])],.ret (.tup #v[.bi .tuple #v[.v 7],.v 9])]
noncomputable def cz:Ss:=
 #v[.set 1 (.own "_law_pick" 2 #v[.v 0,.c (.int 7)]),.ite (.cmp .eq (.v 1) (.c (.int 0))) #v[.ret (.own "_law_free_rule" 1 #v[.v 0])] .nil,.ite (.cmp .eq (.v 1) (.c (.int 1))) #v[.ret (.own "_law_one_way_rule" 1 #v[.v 0])] .nil,.asg [2,3,4] (.own "_law_laying_kind" 1 #v[.v 0]),.set 5 (.op .add (.c (.int 1)) (.own "_law_pick" 2 #v[.v 0,.v 4])),.asg [2,3] (.own "_law_numbered" 3 #v[.v 0,.v 2,.v 3]),.set 6 (.own "_law_rule_of" 4 #v[.v 0,.v 5,.v 2,.tup .nil]),.set 7 .dnew,.set 8 (.bi .len #v[.v 2]),.loop (.nm 9) (.rng #v[.op .mul (.op .mul (.v 8) (.v 8)) (.v 8)]) #v[.par 10 11 #v[.op .mod (.v 9) (.v 8),.op .mod (.op .fdiv (.v 9) (.v 8)) (.v 8)],.set 12 (.op .fdiv (.op .fdiv (.v 9) (.v 8)) (.v 8)),.ite (.own "_law_breaks" 5 #v[.v 2,.v 3,.v 10,.v 11,.v 12]) #v[.loop (.nm 13) (.seq (.own "_law_rising" 1 #v[.v 5])) #v[.set 14 (.tup #v[.tup #v[.ix (.v 13) (.c (.int 0)),.tup .nil],.tup #v[.ix (.v 13) (.c (.int 1)),.tup #v[.v 10]]]),.put (.v 7) (.own "_law_figure" 2 #v[.v 6,.op .add (.v 14) (.tup #v[.tup #v[.ix (.v 13) (.c (.int 2)),.tup #v[.v 11,.v 12]]])]) (.c (.bl true))]] .nil],.ret (.tup #v[.ix (.v 6) (.c (.int 0)),.ix (.v 6) (.c (.int 1)),.bi .tuple #v[.bi .sorted #v[.v 7]]])]
noncomputable def d0:Ss:=
 #v[.set 1 (.lst .nil),.loop (.nm 2) (.rng #v[.v 0]) #v[.loop (.nm 3) (.rng2 #v[.v 2,.v 0]) #v[.set 1 (.op .add (.v 1) (.comp (.tup #v[.v 2,.v 3,.v 1]) (.nm 1) (.rng2 #v[.v 3,.v 0]) .nil [td,td,gV 2,gV 3]))]],.ret (.v 1)]
noncomputable def cR:Ss:=
 #v[.asg [1,2] (.own "_law_sizes" 1 #v[.v 0]),.set 3 (.own "_law_rule_of" 4 #v[.v 0,.v 1,.own "_law_backs" 2 #v[.v 0,.v 2],.tup .nil]),.set 5 (.comp (.v 1) (.nm 1) (.rng #v[.v 2]) #v[.cmp .eq (.ix (.ix (.ix (.v 2) (.c (.int 1))) (.v 1)) (.c (.int 1))) (.v 1)] [td,td,gV 3]),.ite (.or (.cmp .eq (.v 5) (.lst .nil)) (.cmp .eq (.v 2) (.c (.int 1)))) #v[.ret (.v 3)] .nil,.set 6 (.ix (.v 5) (.own "_law_pick" 2 #v[.v 0,.bi .len #v[.v 5]])),.set 7 .dnew,.loop (.nm 4) (.rng #v[.own "_law_pick" 2 #v[.v 0,.c (.int 9)]]) #v[.set 8 (.own "_law_free_three" 3 #v[.v 0,.v 1,.v 2]),.ite (.and (.cmp .ne (.ix (.ix (.ix (.v 8) (.c (.int 1))) (.c (.int 1))) (.c (.int 0))) (.v 6)) (.cmp .notin (.v 6) (.ix (.ix (.v 8) (.c (.int 2))) (.c (.int 1))))) #v[.put (.v 7) (.own "_law_figure" 2 #v[.v 3,.v 8]) (.c (.bl true))] .nil],.ret (.tup #v[.ix (.v 3) (.c (.int 0)),.ix (.v 3) (.c (.int 1)),.bi .tuple #v[.bi .sorted #v[.v 7]]])]
noncomputable def cm:Ss:=
 #v[.set 1 (.op .add (.c (.int 1)) (.own "_law_pick" 2 #v[.v 0,.c (.int 3)])),.set 2 (.comp (.tup #v[.tup #v[.v 1,.tup .nil],.tup #v[.v 1,.tup #v[.c (.int 0)]],.tup #v[.v 1,.tup #v[.c (.int 0),.c (.int 0)]]]) (.nm 1) (.rng #v[.v 1]) #v[.cmp .eq (.own "_law_pick" 2 #v[.v 2,.c (.int 2)]) (.c (.int 0))] [td,td,gV 0]),.ret (.own "_law_rule_of" 4 #v[.v 0,.v 1,.tup #v[.c (.int 0)],.v 2])]
noncomputable def bE:Ss:=
 #v[.set 1 (.own "_law_pick" 2 #v[.v 0,.c (.int 3)]),.ite (.cmp .eq (.v 1) (.c (.int 0))) #v[.ret (.own "_law_rule_of" 4 #v[.v 0,.c (.int 1),.tup #v[.c (.int 0),.c (.int 1)],.comp (.tup #v[.tup #v[.c (.int 0),.tup .nil],.tup #v[.c (.int 0),.tup #v[.v 1]],.tup #v[.c (.int 0),.tup #v[.v 1,.v 1]]]) (.nm 1) (.rng #v[.c (.int 2)]) .nil [td,td]])] .nil,.ite (.cmp .eq (.v 1) (.c (.int 1))) #v[.set 2 (.own "_law_rule_of" 4 #v[.v 0,.c (.int 2),.tup #v[.c (.int 0),.c (.int 1)],.tup .nil]),.set 3 .dnew,.loop (.nm 4) (.seq (.own "_law_rising" 1 #v[.c (.int 2)])) #v[.loop (.tp [5,6,7]) (.seq (.lst #v[.tup #v[.c (.int 1),.c (.int 1),.c (.int 0)],.tup #v[.c (.int 1),.c (.int 1),.c (.int 1)],.tup #v[.c (.int 1),.c (.int 0),.c (.int 1)],.tup #v[.c (.int 0),.c (.int 1),.c (.int 1)]])) #v[.set 8 (.tup #v[.tup #v[.ix (.v 4) (.c (.int 0)),.tup .nil],.tup #v[.ix (.v 4) (.c (.int 1)),.tup #v[.v 5]]]),.put (.v 3) (.own "_law_figure" 2 #v[.v 2,.op .add (.v 8) (.tup #v[.tup #v[.ix (.v 4) (.c (.int 2)),.tup #v[.v 6,.v 7]]])]) (.c (.bl true))]],.ret (.tup #v[.ix (.v 2) (.c (.int 0)),.ix (.v 2) (.c (.int 1)),.bi .tuple #v[.bi .sorted #v[.v 3]]])] .nil,.set 9 (.op .add (.c (.int 2)) (.own "_law_pick" 2 #v[.v 0,.c (.int 2)])),.set 3 (.comp (.tup #v[.tup #v[.c (.int 0),.tup .nil],.tup #v[.v 1,.tup #v[.c (.int 0)]],.tup #v[.op .sub (.v 2) (.c (.int 1)),.tup #v[.c (.int 0),.c (.int 0)]]]) (.nm 1) (.rng #v[.v 9]) .nil [td,td,gV 9]),.ret (.own "_law_rule_of" 4 #v[.v 0,.v 9,.tup #v[.c (.int 0)],.sl (.v 3) .no (.yes (.op .add (.c (.int 1)) (.own "_law_pick" 2 #v[.v 0,.v 9])))])]
noncomputable def cC:Ss:=
 #v[.ite (.cmp .is (.v 1) (.c .non)) #v[.ret (.cmp .is (.v 0) (.c .non))] .nil,.ite (.or (.isi "bool" (.v 1)) (.isi "bool" (.v 0))) #v[.ret (.and (.isi "bool" (.v 1)) (.and (.isi "bool" (.v 0)) (.cmp .eq (.v 0) (.v 1))))] .nil,.ite (.isi "int" (.v 1)) #v[.ret (.and (.isi "int" (.v 0)) (.cmp .eq (.v 0) (.v 1)))] .nil,.ite (.isi "str" (.v 1)) #v[.ret (.and (.isi "str" (.v 0)) (.cmp .eq (.v 0) (.v 1)))] .nil,.ite (.or (.cmp .ne (.isi "tuple" (.v 1)) (.isi "tuple" (.v 0))) (.cmp .ne (.isi "list" (.v 1)) (.isi "list" (.v 0)))) #v[.ret (.c (.bl false))] .nil,.ret (.and (.cmp .eq (.bi .len #v[.v 0]) (.bi .len #v[.v 1])) (.bi .all #v[.comp (.own "_law_alike" 2 #v[.ix (.v 3) (.v 1),.ix (.v 2) (.v 1)]) (.nm 1) (.rng #v[.bi .len #v[.v 1]]) .nil [td,td,gV 1,gV 0]]))]
noncomputable def Is (defs:HF (Ik×Df))(f:Ik)(np nn:HM)(b:Ss):Prop:=∃df:Df,defs.lookup f=gV df/\df.ps.length=np/\df.N.length=nn/\df.body=b
theorem aB {defs:HF (Ik×Df)}{fuel d:HM}{f:Ik}{np nn:HM}{b:Ss}{ws:HF W}{S:aa}{Q:QW}(h:Is defs f np nn b)(hl:ws.length=np)(ok:gJ b=true)
  (hb:∀Q':QO,(∀w S',Q (w,S')->Q' (.rt w,S'))->wZ (ay defs fuel d) fuel b (ws.map gV++IJ (nn - np) td) S Q'):wO (bj (ay defs fuel (d+1)) f np ws S) Q:=by
 obtain⟨df,h1,h2,h3,h4⟩:=h;subst h4;refine Dr h1 hl (hl.trans h2.symm) ok λQ' hR=>?_
 have:=hb Q' hR;unfold fE;rw[h3,hl];exact this
noncomputable def eN:Ss:=
 #v[.ret (.bi .tuple #v[.comp (.ix (.c (.str "abcdef")) (.v 1)) (.nm 1) (.rng #v[.v 1]) .nil [td,td]])]
structure Gen (defs:HF (Ik×Df)):Prop where
 pick:Is defs ("_law_pick" : Ik) 2 4 cZ
 names:Is defs ("_law_names" : Ik) 2 2 eN
 between:Is defs ("_law_between" : Ik) 4 4 dD
 part:Is defs ("_law_part" : Ik) 3 6 fF
 turns:Is defs ("_law_turns" : Ik) 0 0 gb
 figure:Is defs ("_law_figure" : Ik) 2 2 dY
 backs:Is defs ("_law_backs" : Ik) 2 3 eL
 rule_of:Is defs ("_law_rule_of" : Ik) 4 6 dE
 free_three:Is defs ("_law_free_three" : Ik) 3 5 cJ
 sizes:Is defs ("_law_sizes" : Ik) 1 2 eM
 any_rule:Is defs ("_law_any_rule" : Ik) 1 6 de
 laying_kind:Is defs ("_law_laying_kind" : Ik) 1 2 cy
 breaks:Is defs ("_law_breaks" : Ik) 5 10 dZ
 numbered:Is defs ("_law_numbered" : Ik) 3 12 bT
 laying_rule:Is defs ("_law_laying_rule" : Ik) 1 15 cz
 rising:Is defs ("_law_rising" : Ik) 1 4 d0
 free_rule:Is defs ("_law_free_rule" : Ik) 1 9 cR
 one_way_rule:Is defs ("_law_one_way_rule" : Ik) 1 3 cm
structure FlA (S:aa)(r q:HM)(ns:HF Ig)(i c x n:Ig):Prop where
 at_r:S[r]?=gV (.lst [.ref q,.int i,.int c,.int x,.int n])
 at_q:S[q]?=gV (.lst (ns.map W.int))
 lt:q < r
 i0:0<=i
 c0:0<=c
 x0:0<=x
 x1:x < 2147483647
theorem FlA.ne {S:aa}{r q:HM}{ns:HF Ig}{i c x n:Ig}(h:FlA S r q ns i c x n):q≠r:=ID h.lt
noncomputable def Fl (S:aa)(r:HM):Prop:=∃(q:HM) (ns:HF Ig) (i c x n:Ig),FlA S r q ns i c x n
theorem FlA.put {S:aa}{r q:HM}{ns:HF Ig}{i c x n i' c' x' n':Ig}(h:FlA S r q ns i c x n)(h1:0<=i')(h2:0<=c')(h3:0<=x')(h4:x' < 2147483647):FlA (S.set r (.lst [.ref q,.int i',.int c',.int x',.int n'])) r q ns i' c' x' n':=
 #[cj h.at_r,by rw[cg (Ne.symm h.ne)]; exact h.at_q,h.lt,h1,h2,h3,h4]
theorem Fl.keep {S S':aa}{r:HM}(h:Fl S r)(h1:S'[r]?=S[r]?)(k:Kp r S S'):Fl S' r:=
 let ⟨q,ns,i,c,x,n,f⟩:=h; #[q,ns,i,c,x,n,by rw[h1]; exact f.at_r,k.get _ _ f.ne f.at_q,f.lt,f.i0,f.c0,f.x0,f.x1]
theorem Fl.lt {S:aa}{r:HM}(h:Fl S r):r < S.length:=let ⟨_,_,_,_,_,_,f⟩:=h; db f.at_r
structure Ka (S S':aa):Prop where
 get:∀(j:HM) (o:O),S[j]?=gV o->S'[j]?=gV o
 len:S.length<=S'.length
theorem Ka.refl {S:aa}:Ka S S:=#[λ_ _ h=>h,HZ _]
theorem Ka.trans {S S' S'':aa}(a:Ka S S')(b:Ka S' S''):Ka S S'':=#[λj o h=>b.get j o (a.get j o h),IS a.len b.len]
theorem Ka.push {S:aa}{o:O}:Ka S (S++[o]):=#[λj u h=>aq h,by simp]
theorem Ka.late {t:HM}{S0 S:aa}{o:O}(a:Ka S0 S)(h:S0.length<=t):Ka S0 (S.set t o):=
 #[λj u e=>by have:=db e; rw[cg ∅]; exact a.get j u e,by simpa using a.len]
theorem Ka.kp {S S':aa}(a:Ka S S')(r:HM):Kp r S S':=#[λj o _ h=>a.get j o h,a.len]
theorem Fl.ka {S S':aa}{r:HM}(h:Fl S r)(k:Ka S S'):Fl S' r:=h.keep (by obtain⟨q,ns,i,c,x,n,f⟩:=h; rw[k.get _ _ f.at_r,f.at_r]) (k.kp r)
theorem Fl.own {S:aa}{r t:HM}{o:O}(h:Fl S r)(ht:r < t):Fl (S.set t o) r:=by
 obtain⟨q,ns,i,c,x,n,f⟩:=h;have:=f.lt;exact#[q,ns,i,c,x,n,by rw[cg ∅]; exact f.at_r,by rw[cg ∅]; exact f.at_q,f.lt,f.i0,f.c0,f.x0,f.x1]
theorem d3 {S:aa}{r:HM}{xs:HF W}{i:HM}{w:W}{Q:QW}(h:S[r]?=gV (.lst xs))(hw:xs[i]?=gV w)(q:Q (w,S)):wO (lM (.ref r) (.int (i:Ig)) S) Q:=ac (xP h (HV i) (by rw[HY]; exact hw)) q
theorem mV {S:aa}{r:HM}{xs:HF W}{i:HM}{w:W}{Q:aa->Prop}(h:S[r]?=gV (.lst xs))(hi:P9 (i+1) xs.length=true)(q:Q (S.set r (.lst (xs.set i w)))):wO (iB (.ref r) (.int (i:Ig)) w S) Q:=ac (BN h (HV i) (by rw[HY]; exact MQ hi)) (by rw[HY]; exact q)
section
variable{defs:HF (Ik×Df)}{fuel d:HM}{S:aa}{r:HM}{Q:QW}
theorem bn (hd:Is defs ("_law_pick" : Ik) 2 4 cZ){m:Ig}(hf:Fl S r)(h0:0 < m)(h1:m < 1073741824)(k:∀v S',0<=v->v < m->Fl S' r->Kp r S S'->Q (.int v,S')) :
  wO (bj (ay defs fuel (d+1)) "_law_pick" 2 [.ref r,.int m] S) Q:=by
 obtain⟨q,ns,i,c,x,n,f⟩:=hf;refine aB hd rfl rfl λQ' hR=>?_
 replace k:∀v S',0<=v->v < m->Fl S' r->Kp r S S'->Q' (.rt (.int v),S'):=λv S' a b c e=>hR _ _ (k v S' a b c e)
 clear hR;show wZ _ _ cZ [gV (.ref r),gV (.int m),td,td] S Q';have dh:∀(S1:aa) (w2:HL W) (i1 c1 x1 n1:Ig),FlA S1 r q ns i1 c1 x1 n1->Kp r S S1->wZ (ay defs fuel d) fuel (match cZ with|.cons _ ss=>ss|.nil=>.nil) [gV (.ref r),gV (.int m),w2,td] S1 Q':=by
  intro S1 w2 i1 c1 x1 n1 f1 k1;dsimp only[cZ];refine st ?_;dsimp only[wS,wT,wE,wV,wG];refine d3 (i:=2) f1.at_r rfl ?_;dsimp only[Dq,wO,wB];refine ar (Q0:=Q') (λhg Q2 hn hr=>?_) (λhg Q2 hn hr=>?_)
  ·clear hn;refine st ?_;dsimp only[wS,wE,wV,wG];refine d3 (i:=2) f1.at_r rfl (ac (kY h0) ?_);refine st ?_;dsimp only[wS,wE,wV,wG,HX];refine d3 (i:=2) f1.at_r rfl (ac (oo h0 h1) (mV (i:=2) f1.at_r rfl ?_));refine st ?_;dsimp only[wS,wE,wV,wG,HX];exact hr _ _ (k _ _ (Kl _ ∅) (JX _ h0) #[q,ns,i1,c1 / m,x1,n1,f1.put f1.i0 (Op f1.c0 ∅) f1.x0 f1.x1] (k1.trans .set))
  ·refine bX (hn _ _ ?_);clear hn hr;have f2:FlA (S1.set r (.lst [.ref q,.int i1,.int c1,.int x1,.int (n1+1)])) r q ns i1 c1 x1 (n1+1):=f1.put f1.i0 f1.c0 f1.x0 f1.x1;refine st ?_;dsimp only[wS,wE,wV,wG];refine d3 (i:=4) f1.at_r rfl ?_;dsimp only[dR,wO];refine mV (i:=4) f1.at_r rfl ?_;refine st ?_;dsimp only[wS,wE,wV,wG,HX];refine d3 (i:=3) f2.at_r rfl (ac (tL #v[] #v[]) ?_)
   dsimp only[dR,wO];refine d3 (i:=4) f2.at_r rfl ?_;dsimp only[dR,wO];refine(mV (i:=3) f2.at_r rfl ?_);have f3:FlA ((S1.set r (.lst [.ref q,.int i1,.int c1,.int x1,.int (n1+1)])).set r (.lst [.ref q,.int i1,.int c1,.int ((x1*48271+12820163+(n1+1)) % 2147483647),.int (n1+1)])) r q ns i1 c1 ((x1*48271+12820163+(n1+1)) % 2147483647) (n1+1):=f2.put f1.i0 f1.c0 (Kl _ #v[]) (JX _ #v[])
   dsimp only[HX];generalize(x1*48271+12820163+(n1+1)) % 2147483647=y at f3 ⊢;have b1:y / 65521+7919 < 2 ^ 64:=by
    have:=f3.x1;have:=Int.ediv_le_self 65521 f3.x0;omega
   have b2 : -(2 ^ 64) < y / 65521+7919:=by
    have:=Op f3.x0 (show(0:Ig)<=65521 by decide)
    omega
   refine st ?_;dsimp only[wS,wE,wV,wG,HX];refine d3 (i:=3) f3.at_r rfl (ac (kY #v[]) ?_)
   dsimp only[dR,wO];refine d3 (i:=3) f3.at_r rfl ?_;dsimp only[dR,wO];refine ac (tL b2 b1) ?_;refine ac (kY h0) ?_;exact k _ _ (Kl _ ∅) (JX _ h0) #[q,ns,_,_,_,_,f3] (k1.trans (Kp.set.trans .set))
 dsimp only[cZ]at dh ⊢;refine st ?_;dsimp only[wS,wT,wE,wV,wG,wA];refine d3 (i:=2) f.at_r rfl ?_;dsimp only[iF,wO,wB];have skip:∀Q2:QO,(∀ρ' S',wZ (ay defs fuel d) fuel _ ρ' S' Q'->Q2 (.nx ρ',S'))->Q2 (.nx [gV (.ref r),gV (.int m),td,td],S):=λQ2 hn=>hn _ _ (dh S td i c x n f .refl)
 refine#[λ_=>?_,λ_ Q2 hn hr=>#[λz=>(by cases z),λ_=>(bX (skip Q2 hn)).out]]
 refine d3 (i:=1) f.at_r rfl (d3 (i:=0) f.at_r rfl (ac (BO f.at_q) ?_));dsimp only[xO,wO,wB];refine ar (Q0:=Q') (λhl Q2 hn _=>?_) (λhg Q2 hn hr=>bX (skip Q2 hn))
 clear skip;have hl':i.toNat < ns.length:=by
  have:=Jg hl;rw[HI]at this;have:=f.i0;omega
 have hcell:(ns.map W.int)[i.toNat]?=gV (.int ns[i.toNat]):=by simp[hl']
 generalize ns[i.toNat]=cell at hcell;have f1:FlA (S.set r (.lst [.ref q,.int (i+1),.int c,.int x,.int n])) r q ns (i+1) c x n:=f.put (by have:=f.i0; omega) f.c0 f.x0 f.x1
 refine st ?_;dsimp only[wS,wE,wV,wG];refine d3 (i:=0) f.at_r rfl (d3 (i:=1) f.at_r rfl (ac (xP f.at_q f.i0 hcell) ?_));refine st ?_;dsimp only[wS,wE,wV,wG,HX];refine d3 (i:=1) f.at_r rfl ?_;dsimp only[dR,wO];refine mV (i:=1) f.at_r rfl ?_;refine st ?_;dsimp only[wS,wT,wE,wV,wG,Dp,G5,wO,wB];refine ar (Q0:=Q') (λhg Q3 hn3 _=>?_) (λhg Q3 hn3 _=>?_)
 ·refine st ?_;dsimp only[wS,wE,wV,wG];refine mV (i:=2) f1.at_r rfl (bX (hn3 _ _ (bX (hn _ _ ?_))));exact dh _ _ (i+1) cell x n (f1.put f1.i0 (by have:=Jg hg; omega) f.x0 f.x1) (Kp.set.trans .set)
 ·refine st ?_;dsimp only[wS,wE,wV,wG];refine d3 (i:=3) f1.at_r rfl (ac (tL #v[] #v[]) (ac (kY #v[]) ?_))
  dsimp only[dR,wO];refine mV (i:=3) f1.at_r rfl (bX (hn3 _ _ (bX (hn _ _ ?_))));exact dh _ _ (i+1) c _ n (f1.put f1.i0 f.c0 (Kl _ #v[]) (JX _ #v[])) (Kp.set.trans .set)
end
noncomputable def dr:HM->Ss->Ss
 | 0,ss=>ss
 | n+1,.cons _ ss=>dr n ss
 | _,.nil=>.nil
theorem aO {α:Type}{a:α}{Q:α->Prop}:wO (gV a) Q=Q a:=rfl
theorem aW {Φ:Ik->FF}{fuel:HM}{ρ:Fm}{S:aa}{Q:QO}{s:Sm}{ss:Ss}(h:∀K:Fm->aa->Prop,(∀ρ' S',wZ Φ fuel ss ρ' S' Q->K ρ' S')->wS Φ fuel s ρ S K Q):wZ Φ fuel (.cons s ss) ρ S Q:=st (h _ λ_ _ h=>h)
theorem FB {Φ:Ik->FF}{fuel:HM}{ρ:Fm}{S:aa}{i:HM}{e:E}{K:Fm->aa->Prop}{Q:QO}(h:wE Φ e ρ S λp=>K (ρ.set i (gV p.1)) p.2):wS Φ fuel (.set i e) ρ S K Q:=by rw[wS]; exact h
theorem gc {n:HM}(h:P9 n 1000=true):n<=sizeLine:=IS (MQ h) (by rw[Je]; decide)
theorem lP {n:HM}(h:n<=1000):n<=sizeLine:=IS h (by rw[Je]; decide)
theorem la {S:aa}{r:HM}{xs:HF W}{i:Ig}{w:W}{Q:QW}(h:S[r]?=gV (.lst xs))(h0:0<=i)(hw:xs[i.toNat]?=gV w)(q:Q (w,S)):wO (lM (.ref r) (.int i) S) Q:=ac (xP h h0 hw) q
theorem ah {S:aa}{xs:HF W}{i:Ig}{w:W}{Q:QW}(h0:0<=i)(hw:xs[i.toNat]?=gV w)(q:Q (w,S)):wO (lM (.tup xs) (.int i) S) Q:=ac (Fq h0 hw) q
theorem qg {S:aa}{r:HM}{xs:HF W}{y:W}{Q:QW}(h:S[r]?=gV (.lst xs))(hl:xs.length < 1000)(q:Q (.non,S.set r (.lst (xs++[y])))):wO (Me.append.fn (.ref r) [y] S) Q:=ac (tM h (IE hl (gc rfl))) q
theorem tU {S:aa}{r:HM}{xs:HF W}{Q:QW}(h:S[r]?=gV (.lst xs))(q:Q (.int xs.length,S)):wO (Bi.len.fn [.ref r] S) Q:=ac (BO h) q
theorem bo {S:aa}{xs:HF W}{Q:QW}(q:Q (.int xs.length,S)):wO (Bi.len.fn [.tup xs] S) Q:=q
theorem fg {S:aa}{r:HM}{xs:HF W}{Q:QW}(h:S[r]?=gV (.lst xs))(q:Q (.tup xs,S)):wO (Bi.tuple.fn [.ref r] S) Q:=ac (Ft h) q
section
variable{Φ:Ik->FF}{fuel:HM}{ρ:Fm}{S S1:aa}{K:Fm->aa->Prop}
theorem dt {t:E}{a:Ss}{Q:QO}(ht:∀Q:QB,Q (false,S1)->wT Φ t ρ S Q)(h:K ρ S1):wS Φ fuel (.ite t a .nil) ρ S K Q:=by
 rw[wS];exact ht _ λQ' h1 h2=>#[λz=>(by cases z),λ_=>(bX (h1 _ _ h)).out]
theorem lc {t:E}{a b:Ss}{Q:QO}(ht:∀Q:QB,Q (true,S1)->wT Φ t ρ S Q)(h:∀Q':QO,(∀ρ' S',K ρ' S'->Q' (.nx ρ',S'))->(∀w S',Q (.rt w,S')->Q' (.rt w,S'))->wZ Φ fuel a ρ S1 Q'):wS Φ fuel (.ite t a b) ρ S K Q:=by
 rw[wS];exact ht _ λQ' h1 h2=>#[λ_=>(h Q' h1 λw S' q=>h2 (.rt w) S' (λ_ z=>nomatch z) q).out,λz=>(by cases z)]
end
noncomputable def FC (y:Ik):Prop:=∀c∈y.cps.toList,97<=c/\c<=122
noncomputable def Name (y:Ik):Prop:=1<=y.cps.toList.length/\y.cps.toList.length<=8/\FC y
theorem ox {α:Type}{f:α->W}{xs:HF α}{i:HM}(h:i < xs.length):∃x∈xs,(xs.map f)[i]?=gV (f x):=#[xs[i],IX _,by rw[HS,Ic h]; rfl]
theorem jg {α:Type}[KO α]:∀(l m:HF α),l.Nodup->(∀x∈l,x∈m)->l.length<=m.length
 | [],_,_,_=>Ko _
 | x::l,m,hn,hs=>by
  rw[JU]at hn;have hx:x∈m:=hs x (.head _);have h1:=jg l (m.erase x) hn.2 λy hy=>(List.mem_erase_of_ne (λ(e:y=x)=>hn.1 (by rw[<- e]; exact hy))).mpr (hs y (.tail _ hy))
  rw[List.length_erase_of_mem hx]at h1;have:=List.length_pos_of_mem hx;rw[IW]; omega
noncomputable def AT (k:HM):Ik:=#[[97+k].toArray]
theorem ve {k:HM}(h:k < 26):Name (AT k):=#[HZ 1,(by decide:1<=8),λc hc=>by
 cases Ip.mp (show c∈[97+k]from hc)
 omega]
noncomputable def rV:HF Ik:=["marks","ways","bar","some","each","not","and","or","is"]
theorem fj {xs:HF W}{k:HM}:iu xs td (gV (k:Ig))=xs.take k:=by
 unfold iu;rw[HT.kA,HT.sB,OM,Pe]
 by_cases h:k<=xs.length
 ·rw[Oq h]
 ·rw[Oc ∅,Lo (HZ _),Lo ∅]
theorem xS {xs:HF W}{k:HM}:iu xs (gV (k:Ig)) td=xs.drop k:=by
 unfold iu;rw[HT.kA,HT.sB]
 by_cases h:k<=xs.length
 ·rw[Oq h,Lo (by rw[Kz]; exact HZ _)]
 ·rw[Oc ∅,Mw (HZ _),Mw ∅]; exact List.take_nil
section
variable{defs:HF (Ik×Df)}{fuel d:HM}{S:aa}{r:HM}{Q:QW}
theorem xT:∀m,m<=6->(rV++(Im m).map AT).Nodup:=λm hm=>by
 rcases(show m=0\/m=1\/m=2\/m=3\/m=4\/m=5\/m=6 by omega)with rfl|rfl|rfl|rfl|rfl|rfl|rfl <;> decide
theorem AU:∀k:Fin 6,("abcdef" : Ik).cps.toList[k.val]?=gV (97+k.val):=by decide
theorem AV (hfu:20 < fuel)(G:Gen defs){m:HM}(hf:Fl S r)(h1:m<=6)(k:∀(ys:HF Ik) S',ys.length=m->(∀y∈ys,Name y)->(rV++ys).Nodup->Fl S' r->Kp r S S'->Q (.tup (ys.map W.str),S')) :
  wO (bj (ay defs fuel (d+4)) "_law_names" 2 [.ref r,.int m] S) Q:=by
 refine aB G.names rfl rfl λQ' hR=>?_
 show wZ _ _ eN [gV (.ref r),gV (.int m)] S Q';dsimp only[eN];refine st ?_;dsimp only[wS,wE,wA];refine dX (m:Ig) (λi ys ρ2 S2=>(∃a1,ρ2=[td,a1])/\ys=((Im i).map AT).map W.str/\S2=S) rfl rfl rfl ∅ #[rfl,#[td,rfl],rfl,rfl] ?_ ?_
 ·rintro i ys ρ2 S2 hi ⟨⟨a1,rfl⟩,rfl,rfl⟩;dsimp only[jf,wC,wE,wV,wG,HX];refine#[λ_=>ac (Fs (c:=97+i) #v[] (HV i) ?_) #[#[_,rfl],?_,rfl],λz=>by cases z]
  ·rw[HY]; exact AU #[i,∅]
  ·rw[Km,IA,IA]; rfl
 ·rintro ys ρ2 S2 ⟨_,rfl,rfl⟩;rw[HY];refine#[lP (by rw[HI,HI,IM]; omega),fg ak (hR _ _ (k ((Im m).map AT) _ (by rw[HI,IM]) (λy hy=>?_) (xT m h1) (hf.ka .push) .push))]
  obtain⟨i,hi,rfl⟩:=Ir.mp hy;exact ve (by have:=IT.mp hi; omega)
end
noncomputable abbrev Pt:=Ig×HF Ig
noncomputable abbrev Wd:=HF Pt
noncomputable def bB (p:Pt):W:=.tup [.int p.1,.tup (p.2.map W.int)]
noncomputable def aG (u:Wd):W:=.tup (u.map bB)
noncomputable def gW (p:Pt):T:=.tup [.int p.1,.tup (p.2.map T.int)]
noncomputable def cb (u:Wd):T:=.tup (u.map gW)
theorem tV:∀xs:HF Ig,T.ws (xs.map T.int)=xs.map W.int
 | []=>rfl
 | x::xs=>by simp[T.ws,T.w,tV xs]
theorem FD (p:Pt):(gW p).w=bB p:=by simp[gW,bB,T.w,T.ws,tV]
theorem xU:∀u:Wd,T.ws (u.map gW)=u.map bB
 | []=>rfl
 | p::u=>by simp[T.ws,FD,xU u]
theorem xV (u:Wd):(cb u).w=aG u:=by simp[cb,aG,T.w,xU]
theorem BS (u:Wd):W.t (aG u)=gV (cb u):=by rw[<- xV]; exact T.w_t _
theorem xW:∀us:HF Wd,T.ws (us.map cb)=us.map aG
 | []=>rfl
 | u::us=>by simp[T.ws,xV,xW us]
theorem xX (us:HF Wd):W.ts (us.map aG)=gV (us.map cb):=by rw[<- xW]; exact T.ws_ts _
theorem lf:∀xs:HF Ig,T.depths (xs.map T.int)=0
 | []=>rfl
 | x::xs=>by simp[T.depths,T.depth,lf xs]
theorem xY (p:Pt):(gW p).depth=2:=by simp[gW,T.depth,T.depths,lf]
theorem mW:∀u:Wd,T.depths (u.map gW)<=2
 | []=>by simp[T.depths]
 | p::u=>by
  have:=mW u;simp only[JI,T.depths,xY]; omega
theorem lg (u:Wd):(cb u).depth<=3:=by
 have:=mW u;simp only[cb,T.depth]; omega
theorem gx:∀us:HF Wd,T.depths (us.map cb)<=3
 | []=>by simp[T.depths]
 | u::us=>by
  have:=gx us;have:=lg u;simp only[JI,T.depths]; omega
theorem oy (u:Wd):gE (aG u)=gV (cb u):=by
 unfold gE;rw[BS];show(if (cb u).isTup=true/\(cb u).depth<=bC then _ else _)=_
 rw[Iw #[rfl,by have:=lg u; unfold bC; omega]]
mutual
noncomputable def oz:T->T->Iy
 | .int _,.int _=>true
 | .str _,.str _=>true
 | .tup xs,.tup ys=>fm xs ys
 | _,_=>false
noncomputable def fm:HF T->HF T->Iy
 | [],_=>true
 | _,[]=>true
 | x::xs,y::ys=>oz x y&&fm xs ys
end
mutual
theorem rW:∀x y:T,oz x y=true->(gF x y).isSome=true
 | .int _,.int _,_=>rfl
 | .str _,.str _,_=>rfl
 | .tup xs,.tup ys,h=>by
  simp only[oz]at h;simp only[gF];exact tW xs ys h
 | .int _,.str _,h|.int _,.tup _,h|.str _,.int _,h|.str _,.tup _,h|.tup _,.int _,h|.tup _,.str _,h=>by simp[oz]at h
theorem tW:∀xs ys:HF T,fm xs ys=true->(di xs ys).isSome=true
 | [],[],_=>rfl
 | [],_::_,_=>rfl
 | _::_,[],_=>rfl
 | x::xs,y::ys,h=>by
  simp only[fm,HN]at h;simp only[di];split
  ·exact tW xs ys h.2
  ·exact rW x y h.1
end
theorem qh:∀xs ys:HF Ig,fm (xs.map T.int) (ys.map T.int)=true
 | [],_=>by simp[fm]
 | _::_,[]=>by simp[fm]
 | x::xs,y::ys=>by simp[fm,oz,qh xs ys]
theorem xZ (p q:Pt):oz (gW p) (gW q)=true:=by simp[gW,oz,fm,qh]
theorem tX:∀u v:Wd,fm (u.map gW) (v.map gW)=true
 | [],_=>by simp[fm]
 | _::_,[]=>by simp[fm]
 | p::u,q::v=>by simp[fm,xZ,tX u v]
theorem Ds (u v:Wd):oz (cb u) (cb v)=true:=by simp[cb,oz,tX]
theorem gy (us:HF Wd):fU (us.map cb)=true:=by
 unfold fU;rw[IB];intro x hx;obtain⟨u,_,rfl⟩:=Ir.mp hx;rw[IB];intro y hy;obtain⟨v,_,rfl⟩:=Ir.mp hy;exact rW _ _ (Ds u v)
theorem Dt (us:HF Wd)(h:∀u∈us,u≠[]):(zU (us.map cb)).isSome=true:=by
 unfold zU;split
 ·rfl
 ·split
  ·rfl
  ·split
   ·rfl
   ·split
    ·rfl
    ·split
     ·rfl
     ·rename_i h5;exfalso;apply h5;rw[IB];intro x hx;obtain⟨u,hu,rfl⟩:=Ir.mp hx;cases u with
      | nil=>exact absurd rfl (h [] hu)
      | cons p u=>rfl
noncomputable def cD (bs:HF Ig)(u:Wd)(i j:HM):Ig:=if j < i then((u.getD i (0,[])).2).getD j 0 else bs.getD (((u.getD j (0,[])).2).getD i 0).toNat 0
noncomputable def au (bs:HF Ig)(u:Wd)(ps:HF HM):Wd:=(Im ps.length).map λk=>((u.getD (ps.getD k 0) (0,[])).1,(ps.take k).map λj=>cD bs u (ps.getD k 0) j)
noncomputable def aw:HF (HF HM):=[[0,1,2],[0,2,1],[1,0,2],[1,2,0],[2,0,1],[2,1,0]]
noncomputable def eF (bs:HF Ig)(u:Wd):Wd:=(aw.map (au bs u)).getD (hJ ((aw.map (au bs u)).map cb)) []
noncomputable def bp (n:Ik)(b:Ig):W:=.tup [.str n,.int b]
structure GoodW (a n:HM)(u:Wd):Prop where
 mark:∀(k:HM) (p:Pt),u[k]?=gV p->0<=p.1/\p.1 < a
 len:∀(k:HM) (p:Pt),u[k]?=gV p->p.2.length=k
 way:∀(k:HM) (p:Pt),u[k]?=gV p->∀w∈p.2,0<=w/\w < n
noncomputable def GoodB (bs:HF Ig):Prop:=bs=[0]\/bs=[0,1]\/bs=[1,0]\/bs=[0,1,2]\/bs=[1,0,2]\/bs=[0,2,1]
theorem GoodB.rng {bs:HF Ig}(h:GoodB bs):∀k:HM,k < bs.length->∃b:Ig,bs[k]?=gV b/\0<=b/\b < bs.length:=by
 rcases h with rfl|rfl|rfl|rfl|rfl|rfl <;> intro k hk
 ·match k,hk with
  | 0,_=>exact#[0,rfl,#v[],#v[]]
 ·match k,hk with
  | 0,_=>exact#[0,rfl,#v[],#v[]]
  | 1,_=>exact#[1,rfl,#v[],#v[]]
 ·match k,hk with
  | 0,_=>exact#[1,rfl,#v[],#v[]]
  | 1,_=>exact#[0,rfl,#v[],#v[]]
 ·match k,hk with
  | 0,_=>exact#[0,rfl,#v[],#v[]]
  | 1,_=>exact#[1,rfl,#v[],#v[]]
  | 2,_=>exact#[2,rfl,#v[],#v[]]
 ·match k,hk with
  | 0,_=>exact#[1,rfl,#v[],#v[]]
  | 1,_=>exact#[0,rfl,#v[],#v[]]
  | 2,_=>exact#[2,rfl,#v[],#v[]]
 ·match k,hk with
  | 0,_=>exact#[0,rfl,#v[],#v[]]
  | 1,_=>exact#[2,rfl,#v[],#v[]]
  | 2,_=>exact#[1,rfl,#v[],#v[]]
theorem getD_some {α:Type}{xs:HF α}{i:HM}{x d:α}(h:xs[i]?=gV x):xs.getD i d=x:=by simp[h]
theorem az {α:Type}{xs:HF α}{i:HM}{d:α}(h:i < xs.length):xs[i]?=gV (xs.getD i d):=by simp[h]
theorem jh {ns:HF Ik}{bs:HF Ig}{k:HM}{n:Ik}{b:Ig}(h1:ns[k]?=gV n)(h2:bs[k]?=gV b):(Il bp ns bs)[k]?=gV (bp n b):=by
 rw[List.getElem?_zipWith,h1,h2]
noncomputable def aI (ps:HF HM):HF W:=ps.map λ(p:HM)=>W.int (p:Ig)
theorem tY {ps:HF HM}{k p:HM}(h:ps[k]?=gV p):(aI ps)[k]?=gV (.int p):=by simp[aI,h]
theorem bq (bs:HF Ig)(u:Wd)(ps:HF HM):(au bs u ps).length=ps.length:=by unfold au; rw[HI,IM]
theorem dG {u:Wd}{i:HM}(hi:i < u.length):(u.map bB)[((i:HM):Ig).toNat]?=gV (bB (u.getD i (0,[]))):=by
 rw[HY,HS,az hi]; rfl
section
variable{defs:HF (Ik×Df)}{fuel d:HM}{S:aa}{r:HM}{Q:QW}
theorem ya {Φ:Ik->FF}{m0 b0:W}{ns:HF Ik}{bs:HF Ig}{a:HM}{u:Wd}{i j:HM}{Q:QO}(hb:GoodB bs)(hl:ns.length=bs.length)(hu:GoodW a bs.length u)(hi:i < u.length)(hj:j < u.length)(hij:i≠j)(k:Q (.rt (.int (cD bs u i j)),S)) :
  wZ Φ fuel dD [gV (.tup [m0,.tup (Il bp ns bs),b0]),gV (aG u),gV (.int i),gV (.int j)] S Q:=by
 have hpi:=az (d:=(0,[])) hi;have hpj:=az (d:=(0,[])) hj;unfold cD at k;dsimp only[dD];refine aW λK hK=>?_
 dsimp only[wS,wT,wE,wV,wG,xO,wO,wB,aG];refine ar (Q0:=Q) (λh Q2 _ hr=>?_) (λh Q2 hn _=>?_)
 ·have hji:j < i:=by have:=Jg h; omega
  rw[Iw hji]at k;have hw:j < (u.getD i (0,[])).2.length:=by rw[hu.len i _ hpi]; exact hji
  refine st ?_;dsimp only[wS,wE,wV,wG];refine ah (HV i) (dG hi) (ah #v[] rfl (ah (HV j) ?_ (hr _ _ k)))
  rw[HY,HS,az (d:=0) hw]; rfl
 ·have hji:¬ j < i:=by have:=Le h; omega
  rw[IH hji]at k;refine bX (hn _ _ (hK _ _ ?_));clear hn hK;have hw:i < (u.getD j (0,[])).2.length:=by rw[hu.len j _ hpj]; omega
  have hg:=az (d:=0) hw;obtain⟨g1,g2⟩:=hu.way j _ hpj _ (Ij hg);obtain⟨b,hb1,hb2,hb3⟩:=hb.rng ((u.getD j (0,[])).2.getD i 0).toNat ∅
  have hn:((u.getD j (0,[])).2.getD i 0).toNat < ns.length:=∅
  rw[getD_some hb1]at k;refine st ?_;dsimp only[wS,wE,wV,wG];refine ah #v[] rfl (ah (HV j) (dG hj) (ah #v[] rfl (ah (HV i) ?_ (ah g1 (jh (Ic hn) hb1) (ah #v[] rfl k)))))
  rw[HY,HS,hg]; rfl
theorem vf (G:Gen defs){m0 b0:W}{ns:HF Ik}{bs:HF Ig}{a:HM}{u:Wd}{i j:HM}(hb:GoodB bs)(hl:ns.length=bs.length)(hu:GoodW a bs.length u)(hi:i < u.length)(hj:j < u.length)(hij:i≠j)(k:Q (.int (cD bs u i j),S)) :
  wO (bj (ay defs fuel (d+1)) "_law_between" 4 [.tup [m0,.tup (Il bp ns bs),b0],aG u,.int i,.int j] S) Q:=
 aB G.between rfl rfl λQ' hR=>ya hb hl hu hi hj hij (hR _ _ k)
theorem rX (G:Gen defs){m0 b0:W}{ns:HF Ik}{bs:HF Ig}{a:HM}{u:Wd}{ps:HF HM}(hb:GoodB bs)(hl:ns.length=bs.length)(hu:GoodW a bs.length u)(hps:∀p∈ps,p < u.length)(hnd:ps.Nodup)(hsz:ps.length < 1000)(k:∀S',Ka S S'->Q (aG (au bs u ps),S')) :
  wO (bj (ay defs fuel (d+2)) "_law_part" 3 [.tup [m0,.tup (Il bp ns bs),b0],aG u,.tup (aI ps)] S) Q:=by
 refine aB G.part rfl rfl λQ' hR=>?_
 replace k:∀S',Ka S S'->Q' (.rt (aG (au bs u ps)),S'):=λS' a=>hR _ _ (k S' a)
 clear hR;show wZ _ _ fF [gV (.tup [m0,.tup (Il bp ns bs),b0]),gV (aG u),gV (.tup (aI ps)),td,td,td] S Q';generalize hR0:W.tup [m0,.tup (Il bp ns bs),b0]=R;dsimp only[fF];refine st ?_;dsimp only[wS,wE,wA,HX];refine aW λK hK=>?_
 have nl:(aI ps).length=ps.length:=HI ..;refine dc (ps.length:Ig) (λk ρ S'=>∃a4 a5,ρ=[gV R,gV (aG u),gV (.tup (aI ps)),gV (.ref S.length),a4,a5]/\S'[S.length]?=gV (.lst (((au bs u ps).take k).map bB))/\Ka S S') rfl rfl ∅ ?_ ?_ ?_
 ·dsimp only[wE,wA,wV,wG];refine bo ?_;rw[nl];exact#[rfl,td,td,rfl,ak,.push]
 ·rintro i ρ S1 hi ⟨a4,a5,rfl,e1,k1⟩ Q2 hn _;clear hK;have hi':i < ps.length:=∅
  have hp:ps[i]?=gV ps[i]:=Ic hi';have hpu:ps[i] < u.length:=hps _ (IX hi');refine st ?_;dsimp only[wS,wE,wV,wG,HX];refine ah (HV i) (by rw[HY]; exact tY hp) ?_
  refine st ?_;dsimp only[wS,wE,wA,wV,wG,HX];refine#[eT e1,ah (HV _) (dG hpu) (ah #v[] rfl ?_)]
  refine tQ (aI (ps.take i)) (λj ys ρ2 S2=>(∃a1,ρ2=[td,a1,gV (.int ps[i]),gV R,gV (aG u)])/\ys=((ps.take i).take j).map (λq=>W.int (cD bs u ps[i] q))/\Ka S1 S2) rfl rfl rfl ?_ ?_ ?_
  ·dsimp only[wE,wP,wV,wG,wN];refine ac (a:=(.tup (aI (ps.take i)),S1)) ?_ #[rfl,#[td,rfl],rfl,.refl];simp only[nI,fj];unfold aI;rw[Lz]
  ·rintro j w ys ρ2 S2 hw ⟨⟨a1,rfl⟩,rfl,k2⟩;have hjl:j < (ps.take i).length:=by
    have:=(Ii.mp hw).1;unfold aI at this
    rwa [HI]at this
   have hq:(ps.take i)[j]?=gV (ps.take i)[j]:=Ic hjl;cases(tY hq).symm.trans hw;have hj:j < i:=by rw[IN]at hjl; omega
   have eq:(ps.take i)[j]=ps[j]'∅:=Lp
   generalize(ps.take i)[j]=q at hq eq ⊢;refine ac (show gI (.nm 1) (.int (q:Ig)) [td,a1,gV (.int ps[i]),gV R,gV (aG u)] S2=gV ([td,gV (.int (q:Ig)),gV (.int ps[i]),gV R,gV (aG u)],S2)from rfl) ?_
   dsimp only[jf,wC,wE,wA,wV,wG];subst hR0;refine#[λ_=>vf (d:=d) G hb hl hu hpu (by rw[eq]; exact hps _ (IX _)) ?_ #[#[_,rfl],?_,k2],λz=>by cases z]
   ·rw[eq];intro h;have:=(Kb hnd).mp h;omega
   ·rw[Jb,hq];simp
  ·rintro ys ρ2 S2 ⟨_,rfl,k2⟩;rw[show(aI (ps.take i)).length=(ps.take i).length from HI ..,Jm]
   refine#[lP (by rw[HI,IN]; omega),fg ak ?_]
   have e2:=aq (u:=O.lst ((ps.take i).map λq=>W.int (cD bs u ps[i] q))) (k2.get _ _ e1)
   refine qg e2 (by rw[HI,IN]; omega) (bX (hn _ _ #[_,_,rfl,?_,((k1.trans k2).trans .push).late (HZ _)]))
   rw[cj e2];have ep:(au bs u ps)[i]?=gV ((u.getD ps[i] (0,[])).1,(ps.take i).map λq=>cD bs u ps[i] q):=by
    unfold au;rw[HS,Kx hi',IR,getD_some hp]
   rw[Jb,ep];simp[bB,NR]
 ·rintro ρ S1 ⟨a4,a5,rfl,e1,k1⟩;rw[HY,<- bq bs u ps,Jm]at e1;refine hK _ _ (st ?_);dsimp only[wS,wE,wA,wV,wG];exact fg e1 (k _ k1)
theorem km (G:Gen defs)(k:Q (.ref S.length,S++[.lst (aw.map λt=>W.tup (aI t))])):wO (bj (ay defs fuel (d+1)) "_law_turns" 0 [] S) Q:=by
 refine aB G.turns rfl rfl λQ' hR=>?_
 dsimp only[gb];refine st ?_;dsimp only[wS,wE,wA];exact hR _ _ k
theorem dy (bt:HM->HM->Iy):∀n:HM,argBest bt n<=n
 | 0=>HZ _
 | n+1=>by have:=dy bt n; simp only[argBest]; split <;> omega
theorem gd (G:Gen defs){m0 b0:W}{ns:HF Ik}{bs:HF Ig}{a:HM}{u:Wd}(hb:GoodB bs)(hl:ns.length=bs.length)(hu:GoodW a bs.length u)(h3:u.length=3)(k:∀S',Ka S S'->Q (aG (eF bs u),S')) :
  wO (bj (ay defs fuel (d+3)) "_law_figure" 2 [.tup [m0,.tup (Il bp ns bs),b0],aG u] S) Q:=by
 refine aB G.figure rfl rfl λQ' hR=>?_
 replace k:∀S',Ka S S'->Q' (.rt (aG (eF bs u)),S'):=λS' a=>hR _ _ (k S' a)
 clear hR;show wZ _ _ dY [gV (.tup [m0,.tup (Il bp ns bs),b0]),gV (aG u)] S Q';generalize hR0:W.tup [m0,.tup (Il bp ns bs),b0]=R;dsimp only[dY];refine st ?_;dsimp only[wS,wE,wA];refine tR S.length (aw.map λt=>W.tup (aI t)) (λi ys ρ2 S2=>(∃a1,ρ2=[td,a1,gV R,gV (aG u)])/\ys=((aw.take i).map λt=>aG (au bs u t))/\Ka (S++[.lst (aw.map λt=>W.tup (aI t))]) S2) rfl rfl rfl ?_ ?_ ?_ ?_
 ·dsimp only[wE,wA];exact km (d:=d+1) G #[rfl,#[td,rfl],rfl,.refl]
 ·rintro i ys ρ2 S2 ⟨_,_,k2⟩;exact k2.get _ _ ak
 ·rintro i w ys ρ2 S2 hw ⟨⟨a1,rfl⟩,rfl,k2⟩;rw[HS,HJ]at hw;obtain⟨t,ht,rfl⟩:=hw;have ht3:(∀p∈t,p < 3)/\t.Nodup/\t.length < 1000:=by
   have:∀t∈aw,(∀p∈t,p < 3)/\t.Nodup/\t.length < 1000:=by decide
   exact this t (Ij ht)
  refine ac (show gI (.nm 1) (.tup (aI t)) [td,a1,gV R,gV (aG u)] S2=gV ([td,gV (.tup (aI t)),gV R,gV (aG u)],S2)from rfl) ?_
  dsimp only[jf,wC,wE,wA,wV,wG];subst hR0;refine#[λ_=>rX (d:=d) G hb hl hu (λp hp=>by rw[h3]; exact ht3.1 p hp) ht3.2.1 ht3.2.2 λS3 k3=>#[#[_,rfl],?_,k2.trans k3],λz=>by cases z]
  rw[Jb,ht];simp
 ·rintro ys ρ2 S2 ⟨_,rfl,k2⟩;have e:((aw.take (aw.map λt=>W.tup (aI t)).length).map λt=>aG (au bs u t))=(aw.map (au bs u)).map aG:=by
   rw[HI,Jm,J8]; rfl
  rw[e];refine#[gc rfl,ac (a:=(aG (eF bs u),S2++[.lst ((aw.map (au bs u)).map aG)])) ?_ (k _ ((Ka.push.trans k2).trans .push))];simp only[Bi.fn,zX,bc ak,xX];rw[Iw #[by have:=gx (aw.map (au bs u)); unfold eI; omega,gy _]]
  unfold eF;have hlt:hJ ((aw.map (au bs u)).map cb) < (aw.map (au bs u)).length:=Nv (dy _ _) (by decide:5 < 6)
  rw[HS,az (d:=[]) hlt];rfl
end
noncomputable def ab (xs:HF Ig):HF W:=xs.map W.int
noncomputable def gX (us:HF Wd):HF Wd:=eX (uS (us.map cb)) [] us
theorem yb {α β:Type}{lt:HM->HM->Iy}{d:α}{d':β}{f:α->β}{us:HF α}:eX lt d' (us.map f)=(eX lt d us).map f:=by
 unfold eX;rw[HI];split
 ·rfl
 ·rw[J8];refine Jw λi hi=>?_
  have hl:i < us.length:=nW ∅ i hi
  simp[hl]
theorem rY {S:aa}{x:W}{us:HF Wd}(h:eh S x=gV (us.map aG))(h64:us.length < 64)(hne:∀u∈us,u≠[]):iC [x] S=gV (.ref S.length,S++[.lst ((gX us).map aG)]):=by
 have ok:nV (us.map cb)=true:=by
  unfold nV;simp only[HN,J4,Ix,HI];exact#[#[h64,by have:=gx us; unfold eI; omega],.inr #[Dt us hne,gy us]]
 simp only[iC,h,xX];rw[Iw ok,yb (d:=[])];rfl
noncomputable def cK (ms ns:HF Ik)(bs:HF Ig)(us:HF Wd):W:=.tup [.tup (ms.map W.str),.tup (Il bp ns bs),.tup (us.map aG)]
structure GoodN (ms ns:HF Ik):Prop where
 name:∀y∈ms++ns,Name y
 nd:(rV++(ms++ns)).Nodup
theorem GoodW.nil {a n:HM}:GoodW a n []:=#[λk p h=>(by simp at h),λk p h=>(by simp at h),λk p h=>(by simp at h)]
theorem GoodW.snoc {a n:HM}{u:Wd}{m:Ig}{ws:HF Ig}(h:GoodW a n u)(h1:0<=m/\m < a)(h2:ws.length=u.length)(h3:∀w∈ws,0<=w/\w < (n:Ig)):GoodW a n (u++[(m,ws)]):=by
 have key:∀(k:HM) (p:Pt),(u++[(m,ws)])[k]?=gV p->u[k]?=gV p\/(k=u.length/\p=(m,ws)):=λk p e=>by
  rcases Nat.lt_or_ge k u.length with hk|hk
  ·rw[IQ hk]at e; exact .inl e
  ·rw[JS hk]at e;have:k - u.length=0:=by
    have:=(Ii.mp e).1;simp at this; omega
   rw[this]at e;cases e;exact .inr #[∅,rfl]
 refine#[λk p e=>?_,λk p e=>?_,λk p e=>?_] <;> rcases key k p e with e|⟨rfl,rfl⟩
 ·exact h.mark k p e
 ·exact h1
 ·exact h.len k p e
 ·exact h2
 ·exact h.way k p e
 ·exact h3
theorem GoodB.inv {bs:HF Ig}(h:GoodB bs):∀k:HM,k < bs.length->bs.getD (bs.getD k 0).toNat 0=k:=by
 rcases h with rfl|rfl|rfl|rfl|rfl|rfl <;> decide
theorem GoodB.at {bs:HF Ig}(h:GoodB bs){x:Ig}(h0:0<=x)(h1:x < bs.length):bs[x.toNat]?=gV (bs.getD x.toNat 0)/\0<=bs.getD x.toNat 0/\bs.getD x.toNat 0 < bs.length:=by
 obtain⟨b,h2,h3⟩:=h.rng x.toNat ∅
 rw[getD_some h2];exact#[h2,h3]
theorem yc {S:aa}{x:W}{us:HF Wd}{Q:QW}(h:eh S x=gV (us.map aG))(h64:us.length < 64)(hne:∀u∈us,u≠[])(q:Q (.ref S.length,S++[.lst ((gX us).map aG)])):wO (Bi.sorted.fn [x] S) Q:=by
 refine ac ?_ q;exact rY h h64 hne
noncomputable def yd:HF (HM×HM):=[(1,1),(2,1),(3,1),(1,2),(1,2),(2,2),(2,2),(3,2),(1,3),(1,3),(2,3)]
theorem ye:∀p∈yd,1<=p.1/\p.1<=3/\1<=p.2/\p.2<=3/\p.1*p.2<=6:=by decide
noncomputable def lh:HM->HF (HF Ig)
 | 1=>[[0]]
 | 2=>[[0,1],[1,0]]
 | _=>[[0,1,2],[1,0,2],[0,2,1]]
theorem yf:∀n:HM,1<=n->n<=3->(∀b∈lh n,GoodB b/\b.length=n)/\0 < (lh n).length/\(lh n).length<=3
 | 1,_,_=>#[λb h=>by cases Ip.mp h; exact#[.inl rfl,rfl],#v[],#v[]]
 | 2,_,_=>#[λb h=>by
   rcases Iz.mp h with rfl|h
   ·exact#[.inr (.inl rfl),rfl]
   ·cases Ip.mp h; exact#[.inr (.inr (.inl rfl)),rfl],#v[],#v[]]
 | 3,_,_=>#[λb h=>by
   rcases Iz.mp h with rfl|h
   ·exact#[.inr (.inr (.inr (.inl rfl))),rfl]
   ·rcases Iz.mp h with rfl|h
    ·exact#[.inr (.inr (.inr (.inr (.inl rfl)))),rfl]
    ·cases Ip.mp h; exact#[.inr (.inr (.inr (.inr (.inr rfl)))),rfl],#v[],#v[]]
 | 0,h,_=>absurd h #v[]
 | n+4,_,h=>absurd h ∅
section
variable{defs:HF (Ik×Df)}{fuel d:HM}{S:aa}{r:HM}{Q:QW}
theorem tZ (G:Gen defs)(hf:Fl S r)(k:∀(a n:HM) S',1<=a->a<=3->1<=n->n<=3->a*n<=6->Fl S' r->Kp r S S'->Q (.tup [.int a,.int n],S')) :
  wO (bj (ay defs fuel (d+2)) "_law_sizes" 1 [.ref r] S) Q:=by
 refine aB G.sizes rfl rfl λQ' hR=>?_
 show wZ _ _ eM [gV (.ref r),td] S Q';dsimp only[eM];refine st ?_;dsimp only[wS,wE,wA,HX];refine st ?_;dsimp only[wS,wE,wA,wV,wG];refine bn (d:=d) G.pick (hf.ka .push) #v[] #v[] λv S1 v0 v1 f1 k1=>?_
 have e:=k1.get _ _ (KF hf.lt) ak;obtain⟨p,hp,ep⟩:=ox (f:=λp:HM×HM=>W.tup [.int p.1,.int p.2]) (xs:=yd) (i:=v.toNat) (by show v.toNat < 11; omega)
 obtain⟨a1,a3,n1,n3,an⟩:=ye p hp;exact la e v0 ep (hR _ _ (k _ _ _ a1 a3 n1 n3 an f1 (Kp.push.trans k1)))
theorem t4 (G:Gen defs){n:HM}(hf:Fl S r)(h1:1<=n)(h3:n<=3)(k:∀(bs:HF Ig) S',GoodB bs->bs.length=n->Fl S' r->Kp r S S'->Q (.tup (ab bs),S')) :
  wO (bj (ay defs fuel (d+2)) "_law_backs" 2 [.ref r,.int n] S) Q:=by
 refine aB G.backs rfl rfl λQ' hR=>?_
 replace k:∀(bs:HF Ig) S',GoodB bs->bs.length=n->Fl S' r->Kp r S S'->Q' (.rt (.tup (ab bs)),S'):=λz S' a b c e=>hR _ _ (k z S' a b c e)
 clear hR;show wZ _ _ eL [gV (.ref r),gV (.int n),td] S Q';dsimp only[eL];refine aW λK hK=>?_
 dsimp only[wS,wE,wA,wV,wG,HX];dsimp only[mU,aO];obtain⟨hg,g0,g3⟩:=yf n h1 h3;have fin:∀(t:HM) (S1:aa),S.length<=t->S1[t]?=gV (.lst ((lh n).map λb=>.tup (ab b)))->Ka S S1->K [gV (.ref r),gV (.int n),gV (.ref t)] S1:=by
  intro t S1 ht et ka;refine hK _ _ (st ?_);dsimp only[wS,wE,wA,wV,wG];refine tU et ?_;rw[HI];refine bn (d:=d) G.pick (hf.ka ka) ∅ ∅ λv S2 v0 v1 f2 k2=>?_
  have e2:=k2.get _ _ (by have:=hf.lt; omega) et
  obtain⟨b,hb,eb⟩:=ox (f:=λb:HF Ig=>W.tup (ab b)) (xs:=lh n) (i:=v.toNat) ∅
  exact la e2 v0 eb (k b S2 (hg b hb).1 (hg b hb).2 f2 ((ka.kp r).trans k2))
 clear hK g0 g3 hg;rcases(show n=1\/n=2\/n=3 by omega)with rfl|rfl|rfl
 ·exact d3 (i:=0) ak rfl (fin _ _ (HZ _) (aq (aq (aq ak))) (Ka.push.trans (Ka.push.trans (Ka.push.trans .push))))
 ·exact d3 (i:=1) ak rfl (fin _ _ (by simp) (aq (aq ak)) (Ka.push.trans (Ka.push.trans (Ka.push.trans .push))))
 ·exact d3 (i:=2) ak rfl (fin _ _ (by simp only[HQ]; omega) (aq ak) (Ka.push.trans (Ka.push.trans (Ka.push.trans .push))))
theorem gz (hfu:20 < fuel)(G:Gen defs){a:HM}{bs:HF Ig}{x:W}{us:HF Wd}(hf:Fl S r)(ha:a<=3)(hb:bs.length<=3)(hx:∀S',Kp r S S'->eh S' x=gV (us.map aG))(h64:us.length < 64)(hne:∀u∈us,u≠[])
  (k:∀(ms ns:HF Ik) S',ms.length=a->ns.length=bs.length->GoodN ms ns->Fl S' r->Kp r S S'->Q (cK ms ns bs (gX us),S')) :
  wO (bj (ay defs fuel (d+5)) "_law_rule_of" 4 [.ref r,.int a,.tup (ab bs),x] S) Q:=by
 refine aB G.rule_of rfl rfl λQ' hR=>?_
 replace k:∀(ms ns:HF Ik) S',ms.length=a->ns.length=bs.length->GoodN ms ns->Fl S' r->Kp r S S'->Q' (.rt (cK ms ns bs (gX us)),S'):=λz y S' a b c e f=>hR _ _ (k z y S' a b c e f)
 clear hR;show wZ _ _ dE [gV (.ref r),gV (.int a),gV (.tup (ab bs)),gV x,td,td] S Q';have hbl:(ab bs).length=bs.length:=HI ..;dsimp only[dE];refine aW λK hK=>?_
 dsimp only[wS,wE,wA,wV,wG,HX];refine bo ?_;rw[hbl];dsimp only[dR,aO];refine AV (d:=d) (m:=a+bs.length) hfu G hf ∅ λys S1 q2 q3 q4 f1 k1=>hK _ _ ?_
 clear hK K;have hzl:(Il bp (ys.drop a) bs).length=bs.length:=by
  rw[Ky,Kz]; omega
 refine aW λK hK=>?_
 dsimp only[wS,wE,wA,HX];refine dX (bs.length:Ig) (λk zs ρ2 S2=>(∃a1,ρ2=[td,a1,gV (.tup (ab bs)),gV (.int a),gV (.tup (ys.map W.str))])/\zs=((Il bp (ys.drop a) bs).take k)/\S2=S1) rfl rfl rfl ∅ ?_ ?_ ?_
 ·dsimp only[wE,wA,wV,wG];refine bo ?_;rw[hbl];exact#[rfl,#[td,rfl],rfl,rfl]
 ·rintro i zs ρ2 S2 hi ⟨⟨a1,rfl⟩,rfl,rfl⟩;clear hK;have hi':i < bs.length:=∅
  have h1:a+i < ys.length:=∅
  dsimp only[jf,wC,wE,wA,wV,wG,HX,dR,aO];refine#[λ_=>ah ∅ (w:=.str ys[a+i]) ?_ (ah ∅ (w:=.int bs[i]) ?_ #[#[_,rfl],?_,rfl]),λz=>by cases z]
  ·rw[show((a:Ig)+(i:Ig)).toNat=a+i by omega,HS,Ic h1]; rfl
  ·unfold ab;rw[HY,HS,Ic hi']; rfl
  ·have ez:(Il bp (ys.drop a) bs)[i]?=gV (bp ys[a+i] bs[i]):=jh (by rw[List.getElem?_drop]; exact Ic h1) (Ic hi')
   rw[Jb,ez];rfl
 ·rintro zs ρ2 S2 ⟨_,rfl,rfl⟩;rw[HY,<- hzl,Jm];refine#[lP ∅,fg ak (hK _ _ ?_)]
  clear hK K;refine st ?_;dsimp only[wS,wE,wA,wP,wV,wG,wN];have hs:nI (.tup (ys.map W.str)) td (gV (a:Ig)) (S2++[O.lst (Il bp (ys.drop a) bs)])=gV (.tup ((ys.take a).map W.str),S2++[O.lst (Il bp (ys.drop a) bs)]):=by
   simp only[nI,fj];rw[Lz]
  refine ac hs (yc (hx _ (k1.trans .push)) h64 hne (fg ak ?_));refine k (ys.take a) (ys.drop a) _ ?_ ?_ #[?_,?_] ((f1.ka .push).ka .push) (k1.trans (Kp.push.trans .push))
  ·rw[IN]; omega
  ·rw[Kz]; omega
  ·rw[Lr]; exact q3
  ·rw[Lr]; exact q4
theorem fG (hfu:20 < fuel)(G:Gen defs){a:HM}{bs:HF Ig}(hf:Fl S r)(ha:a<=3)(hb:bs.length<=3)
  (k:∀(ms ns:HF Ik) S',ms.length=a->ns.length=bs.length->GoodN ms ns->Fl S' r->Kp r S S'->Q (cK ms ns bs [],S')) :
  wO (bj (ay defs fuel (d+5)) "_law_rule_of" 4 [.ref r,.int a,.tup (ab bs),.tup []] S) Q:=
 gz hfu G hf ha hb (us:=[]) (λ_ _=>rfl) #v[] (λ_ h=>nomatch h) k
theorem draws {Φ:Ik->FF}{ρ:Fm}{elt e:E}{cap:HF (HL HM)}{n i:HM}{R:Fm}(oe:eJ elt=true)(oi:eJ e=true)(h1:i<=1000)(hc:fN cap ρ=td::td::R)(hf:Fl S r)(he:∀Q:QW,Q (.int i,S)->wE Φ e ρ S Q)
  (hp:∀(a:HL W) (S1:aa) (Q:QW),Fl S1 r->(∀v S',0<=v->v < (n:Ig)->Fl S' r->Kp r S1 S'->Q (.int v,S'))->wE Φ elt (td::a::R) S1 Q)
  (k:∀(vs:HF Ig) S',vs.length=i->(∀w∈vs,0<=w/\w < (n:Ig))->Fl S' r->Kp r S S'->Q (.ref S'.length,S'++[.lst (ab vs)])) :
  Wp (aK Φ (.comp elt (.nm 1) (.rng #v[e]) .nil cap) ρ S) Q:=by
 refine dX (i:Ig) (λj ys ρ2 S3=>(∃a1,ρ2=td::a1::R)/\(∃vs:HF Ig,ys=ab vs/\vs.length=j/\∀w∈vs,0<=w/\w < (n:Ig))/\Fl S3 r/\Kp r S S3) oi oe rfl ∅ (he _ #[rfl,#[td,hc],#[[],rfl,rfl,λ_ h=>nomatch h],hf,.refl]) ?_ ?_
 ·rintro j ys ρ2 S3 hj ⟨⟨a1,rfl⟩,⟨vs,rfl,hvl,hv⟩,f3,k3⟩;refine#[λ_=>hp _ _ _ f3 λv S4 v0 v1 f4 k4=>#[#[_,rfl],#[vs++[v],(IA (l₁:=vs) (l₂:=[v])).symm,by rw[HQ,hvl]; rfl,λw hw=>?_],f4,k3.trans k4],λz=>by cases z]
  rcases IU.mp hw with h|h
  ·exact hv w h
  ·rw[Ip.mp h]; exact#[v0,v1]
 ·rintro ys ρ2 S3 ⟨_,⟨vs,rfl,hvl,hv⟩,f3,k3⟩;rw[HY]at hvl;exact#[lP (by rw[show(ab vs).length=vs.length from HI ..]; omega),k vs S3 hvl hv f3 k3]
theorem iI (G:Gen defs){a n:HM}(hf:Fl S r)(ha:0 < a)(ha3:a<=3)(hn:0 < n)(hn3:n<=3)(k:∀(u:Wd) S',u.length=3->GoodW a n u->Fl S' r->Kp r S S'->Q (aG u,S')) :
  wO (bj (ay defs fuel (d+2)) "_law_free_three" 3 [.ref r,.int a,.int n] S) Q:=by
 refine aB G.free_three rfl rfl λQ' hR=>?_
 replace k:∀(u:Wd) S',u.length=3->GoodW a n u->Fl S' r->Kp r S S'->Q' (.rt (aG u),S'):=λz S' a b c e=>hR _ _ (k z S' a b c e)
 clear hR;show wZ _ _ cJ [gV (.ref r),gV (.int a),gV (.int n),td,td] S Q';dsimp only[cJ];have hrt:=hf.lt;refine st ?_;dsimp only[wS,wE,wA,HX];refine aW λK hK=>?_
 refine dc 3 (λk ρ S'=>∃a4 u,ρ=[gV (.ref r),gV (.int a),gV (.int n),gV (.ref S.length),a4]/\S'[S.length]?=gV (.lst (u.map bB))/\u.length=k/\GoodW a n u/\Fl S' r/\Kp r S S') rfl rfl #v[] #[rfl,td,[],rfl,ak,rfl,.nil,hf.ka .push,.push] ?_ ?_
 ·rintro i ρ S1 hi ⟨a4,u,rfl,e1,hul,hu,f1,k1⟩ Q2 hn' _;clear hK;refine st ?_;dsimp only[wS,wE,wA,wV,wG,HX];refine#[eT e1,bn (d:=d) G.pick f1 ∅ ∅ λv S2 v0 v1 f2 k2=>?_]
  have e2:=k2.get _ _ ∅ e1
  refine draws (n:=n) (i:=i) (R:=[gV (.ref r),gV (.int n)]) rfl rfl ∅ rfl f2 (λQ q=>q) (λa S1 Q f q=>bn (d:=d) G.pick f ∅ ∅ q) λvs S3 hvl hv f3 k3=>?_
  have e3:=aq (u:=O.lst (ab vs)) (k3.get _ _ ∅ e2)
  refine fg ak (qg e3 (by rw[HI]; omega) (bX (hn' _ _ #[_,u++[(v,vs)],rfl,?_,by rw[HQ,hul]; rfl,hu.snoc #[v0,v1] (hvl.trans hul.symm) hv,(f3.ka .push).own hrt,(k1.trans (k2.trans (k3.trans .push))).late (HZ _)])))
  rw[cj e3,IA]; rfl
 ·rintro ρ S1 ⟨a4,u,rfl,e1,hul,hu,f1,k1⟩;refine hK _ _ (st ?_);dsimp only[wS,wE,wA,wV,wG];exact fg e1 (k u _ hul hu f1 k1)
end
noncomputable def eG (n:HM):HF Ig:=(Im n).map λ(k:HM)=>(k:Ig)
noncomputable def qi (a n:HM):HF Wd:=(eG a).flatMap λm0=>(eG a).flatMap λm1=>(eG a).flatMap λm2=>(eG n).flatMap λw1=>(eG n).flatMap λw2=>(eG n).map λw3=>[(m0,[]),(m1,[w1]),(m2,[w2,w3])]
noncomputable def aX (a:HM)(bs:HF Ig):HF Wd:=((qi a bs.length).map (eF bs)).eraseDups
theorem dg {n:HM}{x:Ig}(h0:0<=x)(h1:x < n):x∈eG n:=Ir.mpr #[x.toNat,IT.mpr ∅,∅]
theorem vg {a n:HM}{u:Wd}(h:GoodW a n u)(h3:u.length=3):u∈qi a n:=by
 match u,h3 with
 | [(m0,w0),(m1,w1),(m2,w2)],_=>
  have l0:=h.len 0 _ rfl;have l1:=h.len 1 _ rfl;have l2:=h.len 2 _ rfl;simp only at l0 l1 l2
  match w0,l0 with
  | [],_=>
   match w1,l1 with
   | [x],_=>
    match w2,l2 with
    | [y,z],_=>
     have a0:=h.mark 0 _ rfl;have a1:=h.mark 1 _ rfl;have a2:=h.mark 2 _ rfl;have b1:=h.way 1 _ rfl x (by simp)
     have b2:=h.way 2 _ rfl y (by simp)
     have b3:=h.way 2 _ rfl z (by simp)
     unfold qi;simp only[KZ,Ir];exact#[m0,dg a0.1 a0.2,m1,dg a1.1 a1.2,m2,dg a2.1 a2.2,x,dg b1.1 b1.2,y,dg b2.1 b2.2,z,dg b3.1 b3.2,rfl]
theorem AW {a:HM}{bs:HF Ig}{u:Wd}(h:GoodW a bs.length u)(h3:u.length=3):eF bs u∈aX a bs:=by
 unfold aX;rw[Lf];exact Ir.mpr #[u,vg h h3,rfl]
structure SizeOk (a:HM)(bs:HF Ig):Prop where
 pos:0 < a
 good:GoodB bs
 most:a*bs.length<=6
 a3:a<=3
theorem G7:(aX 1 [0]).length < 64/\(aX 2 [0]).length < 64/\(aX 3 [0]).length < 64:=by decide +kernel
theorem F3:(aX 1 [0,1]).length < 64/\(aX 2 [0,1]).length < 64/\(aX 1 [1,0]).length < 64/\(aX 2 [1,0]).length < 64:=by decide +kernel
theorem G8:(aX 1 [0,1,2]).length < 64/\(aX 1 [1,0,2]).length < 64/\(aX 1 [0,2,1]).length < 64:=by decide +kernel
theorem G9:(aX 3 [0,1]).length < 64:=by decide +kernel
theorem Ha:(aX 3 [1,0]).length < 64:=by decide +kernel
theorem Hb:(aX 2 [0,1,2]).length < 64:=by decide +kernel
theorem Hc:(aX 2 [1,0,2]).length < 64:=by decide +kernel
theorem Hd:(aX 2 [0,2,1]).length < 64:=by decide +kernel
theorem oA {a:HM}{bs:HF Ig}(h:SizeOk a bs):(aX a bs).length < 64:=by
 obtain⟨h0,hb,hm,h3⟩:=h;have ha:a=1\/a=2\/a=3:=∅
 rcases hb with rfl|rfl|rfl|rfl|rfl|rfl <;> rcases ha with rfl|rfl|rfl
 ·exact G7.1
 ·exact G7.2.1
 ·exact G7.2.2
 ·exact F3.1
 ·exact F3.2.1
 ·exact G9
 ·exact F3.2.2.1
 ·exact F3.2.2.2
 ·exact Ha
 ·exact G8.1
 ·exact Hb
 ·simp at hm
 ·exact G8.2.1
 ·exact Hc
 ·simp at hm
 ·exact G8.2.2
 ·exact Hd
 ·simp at hm
theorem yg (bs:HF Ig)(u:Wd):∃t∈aw,eF bs u=au bs u t:=by
 have h7:(aw.map (au bs u)).length=6:=by rw[HI]; rfl
 have h8:((aw.map (au bs u)).map cb).length=6:=by rw[HI,h7]
 have hlt:hJ ((aw.map (au bs u)).map cb) < (aw.map (au bs u)).length:=by
  unfold hJ;have h6:=dy (uS ((aw.map (au bs u)).map cb)) (((aw.map (au bs u)).map cb).length - 1);rw[h7]; omega
 unfold eF;rw[getD_some (Ic hlt)];obtain⟨t,ht,e⟩:=Ir.mp (IX hlt);exact#[t,ht,e.symm]
theorem AX (bs:HF Ig)(u:Wd):eF bs u≠[]:=by
 obtain⟨t,ht,e⟩:=yg bs u;rw[e];have:∀t∈aw,t≠[]:=by decide
 have h:=this t ht;intro z;have hl:(au bs u t).length=t.length:=by simp[au]
 rw[z]at hl;exact h (Lh.mp hl.symm)
theorem qj:∀ {xs ys:HF Ig},xs.map T.int=ys.map T.int->xs=ys
 | [],[],_=>rfl
 | [],_::_,h=>by cases h
 | _::_,[],h=>by cases h
 | x::xs,y::ys,h=>by
  rw[JI,JI]at h;injection h with h1 h2
  injection h1 with h1
  rw[h1,qj h2]
theorem AY {p q:Pt}(h:gW p=gW q):p=q:=by
 unfold gW at h;injection h with h
 injection h with h1 h2
 injection h1 with h1
 injection h2 with h2 _
 injection h2 with h2
 exact P3 h1 (qj h2)
theorem gA {u v:Wd}(h:cb u=cb v):u=v:=by
 unfold cb at h;injection h with h
 have inj:∀ {u v:Wd},u.map gW=v.map gW->u=v:=by
  intro u
  induction u with
  | nil=>intro v h; cases v with
   | nil=>rfl
   | cons _ _=>cases h
  | cons p u ih=>intro v h; cases v with
   | nil=>cases h
   | cons q v=>
    rw[JI,JI]at h;injection h with h1 h2
    rw[AY h1,ih h2]
 exact inj h
theorem ji {kvs:HF (T×W)}{k:T}{v:W}:(eE kvs k v).map (·.1)=if k∈kvs.map (·.1)then kvs.map (·.1)else kvs.map (·.1)++[k]:=by
 have hany:(kvs.any λp=>decide (p.1=k))=decide (k∈kvs.map (·.1)):=by
  induction kvs with
  | nil=>rfl
  | cons p kvs ih=>
   rw[Kt,ih,JI]
   by_cases e:p.1=k
   ·subst e; simp
   ·rw[IF e,Nf];have:(k∈p.1::kvs.map (·.1))=(k∈kvs.map (·.1)):=by simp[Ne.symm e]
    simp only[this]
 unfold eE;rw[hany]
 by_cases h:k∈kvs.map (·.1)
 ·rw[Iw h,Iw (Jt h),J8];refine Jw λp _=>?_
  show(if p.1=k then(p.1,v)else p).1=p.1
  split <;> rfl
 ·rw[IH h,IH (by simpa using h),IA]
  rfl
structure FigD (L:HF Wd)(kvs:HF (T×W))(fs:HF Wd):Prop where
 keys:kvs.map (·.1)=fs.map cb
 nd:fs.Nodup
 mem:∀f∈fs,f∈L
theorem FigD.nil {L:HF Wd}:FigD L [] []:=#[rfl,Ln,λ_ h=>nomatch h]
theorem FigD.len {L:HF Wd}{kvs:HF (T×W)}{fs:HF Wd}(h:FigD L kvs fs):kvs.length=fs.length/\fs.length<=L.length:=by
 have:=congrArg Pj h.keys;rw[HI,HI]at this;exact#[this,jg fs L h.nd h.mem]
theorem FigD.put {L:HF Wd}{kvs:HF (T×W)}{fs:HF Wd}{f:Wd}{v:W}(h:FigD L kvs fs)(hf:f∈L):∃fs',FigD L (eE kvs (cb f) v) fs':=by
 by_cases hm:f∈fs
 ·refine#[fs,?_,h.nd,h.mem];rw[ji,Iw (by rw[h.keys]; exact Ir.mpr #[f,hm,rfl]),h.keys]
 ·refine#[fs++[f],?_,?_,λg hg=>?_]
  ·rw[ji,IH,h.keys,IA]
   ·rfl
   ·rw[h.keys];intro z;obtain⟨g,hg,e⟩:=Ir.mp z;exact hm (gA e ▸ hg)
  ·rw[Mb];refine#[h.nd,by simp,λa ha b hb e=>?_]
   rw[Ip.mp hb]at e;exact hm (e ▸ ha)
  ·rcases IU.mp hg with h'|h'
   ·exact h.mem g h'
   ·rw[Ip.mp h']; exact hf
theorem FigD.items {S:aa}{t:HM}{L:HF Wd}{kvs:HF (T×W)}{fs:HF Wd}(h:FigD L kvs fs)(e:S[t]?=gV (.dic kvs)):eh S (.ref t)=gV (fs.map aG):=by
 simp only[eh,ou e,cH e,IR];congr 1;have:(kvs.map (·.1)).map T.w=(fs.map cb).map T.w:=by rw[h.keys]
 rw[J8,J8]at this
 calc kvs.map (λp=>p.1.w)=kvs.map (T.w∘λx=>x.1):=rfl
  _=fs.map (T.w∘cb):=this
  _=fs.map aG:=by
   refine Jw λf _=>?_
   exact xV f
theorem qk {a:HM}{bs:HF Ig}{f:Wd}(h:f∈aX a bs):f≠[]:=by
 unfold aX at h;rw[Lf]at h;obtain⟨u,_,rfl⟩:=Ir.mp h;exact AX bs u
theorem yh {S:aa}{t:HM}{kvs:HF (T×W)}{u:Wd}{v:W}(h:S[t]?=gV (.dic kvs))(hl:kvs.length < sizeLine):iB (.ref t) (aG u) v S=gV (S.set t (.dic (eE kvs (cb u) v))):=by
 have hk:=oy u;unfold aG at hk ⊢;simp only[iB,nP,h,hk];rw[Iw hl]
structure RuleAt (a:HM)(bs:HF Ig)(ms ns:HF Ik)(gs:HF Wd):Prop where
 size:SizeOk a bs
 ml:ms.length=a
 nl:ns.length=bs.length
 nm:GoodN ms ns
 nd:gs.Nodup
 mem:∀g∈gs,g∈aX a bs
noncomputable def dz (w:W):Prop:=∃a bs ms ns gs,w=cK ms ns bs (gX gs)/\RuleAt a bs ms ns gs
section
variable{Φ:Ik->FF}{fuel:HM}{ρ:Fm}{S:aa}{K:Fm->aa->Prop}{Q:QO}
theorem ll {i0:HM}{e:E}{b:Ss}(oe:eJ e=true)(ok:gJ b=true)(he:wE Φ e ρ S λp=>∃(j:Ig) (I:HM->Fm->aa->Prop),p.1=.int j/\(-(2 ^ 62)<=j/\j < 2 ^ 62)/\I 0 ρ p.2/\
  (∀(i:HM) (ρ:Fm) (S:aa),(i:Ig) < j->I i ρ S->vG Φ fuel b (ρ.set i0 (gV (.int i))) S (I (i+1)) Q)/\∀ρ S,I j.toNat ρ S->K ρ S):Wp (fY Φ fuel (.loop (.nm i0) (.rng #v[e]) b) ρ S) (qY K Q):=by
 obtain⟨w,S1,e1,j,I,rfl,hj,h0,hs,hend⟩:=cY oe he;have hl:(dj 0 j.toNat).length=j.toNat:=by simp[dj]
 refine ic (mi:=.its (dj 0 j.toNat)) (S1:=S1) (xs:=dj 0 j.toNat) I ok ?_ (λ_ _ _ _=>rfl) rfl h0 (λi w ρ S hw hI=>?_) λρ S hI=>hend ρ S (hl ▸ hI)
 ·simp only[lJ,dq,en,i8,rM,e1];rw[Iw hj]
 ·rw[eu]at hw;split at hw
  ·rename_i hk;cases hw;rw[LL];exact hs i ρ S ∅ hI
  ·cases hw
theorem fq {tg:Tg}{e:E}{b:Ss}(oe:eJ e=true)(ok:gJ b=true)(he:wE Φ e ρ S λp=>∃(t:HM) (xs:HF W) (I:HM->Fm->aa->Prop),p.1=.ref t/\I 0 ρ p.2/\(∀i ρ S,I i ρ S->S[t]?=gV (.lst xs))/\
  (∀(i:HM) (w:W) (ρ:Fm) (S:aa),xs[i]?=gV w->I i ρ S->wO (gI tg w ρ S) λq=>vG Φ fuel b q.1 q.2 (I (i+1)) Q)/\∀ρ S,I xs.length ρ S->K ρ S):Wp (fY Φ fuel (.loop tg (.seq e) b) ρ S) (qY K Q):=by
 obtain⟨w,S1,e1,t,xs,I,rfl,h0,hat,hs,hend⟩:=cY oe he;exact ic (mi:=.live t) (S1:=S1) I ok (by simp only[lJ,fX,e1,bc (hat _ _ _ h0)]) (λi ρ S h=>by simp only[MI.at,bc (hat _ _ _ h)]) (by simp only[MI.len,bc (hat _ _ _ h0),IR]) h0 hs hend
end
section
variable{defs:HF (Ik×Df)}{fuel d:HM}{S:aa}{r:HM}{Q:QW}
theorem t8 {q:HM}{a:HM}{bs:HF Ig}{ms ns:HF Ik}{fs0:HF Wd}{kvs:HF (T×W)}{fs:HF Wd}(h3:S[q]?=gV (.dic kvs))(h4:FigD (aX a bs) kvs fs)(hs:SizeOk a bs)(hml:ms.length=a)(hnl:ns.length=bs.length)(hnm:GoodN ms ns)(k:∀w S',dz w->Ka S S'->Q (w,S')) :
  wO (lM (cK ms ns bs fs0) (.int 0) S) λp=>wO (lM (cK ms ns bs fs0) (.int 1) p.2) λq'=>wO (Bi.sorted.fn [.ref q] q'.2) λs=>wO (Bi.tuple.fn [s.1] s.2) λz=>Q (.tup [p.1,q'.1,z.1],z.2):=by
 refine ah #v[] rfl (ah #v[] rfl ?_)
 have hl:=h4.len;exact yc (h4.items h3) (by have:=oA hs; omega) (λf hf=>qk (h4.mem f hf)) (fg ak (k _ _ #[a,bs,ms,ns,fs,rfl,hs,hml,hnl,hnm,h4.nd,h4.mem] .push))
theorem t9 {q:HM}{a:HM}{bs:HF Ig}{u:Wd}{kvs:HF (T×W)}{fs:HF Wd}{Q:aa->Prop}(h3:S[q]?=gV (.dic kvs))(h4:FigD (aX a bs) kvs fs)(hs:SizeOk a bs)(hu:GoodW a bs.length u)(hu3:u.length=3)
  (k:∀o,(∃kvs fs,(S.set q o)[q]?=gV (.dic kvs)/\FigD (aX a bs) kvs fs)->Q (S.set q o)):wO (iB (.ref q) (aG (eF bs u)) (.bl true) S) Q:=by
 have hl:=h4.len;have:=oA hs;obtain⟨fs',h5⟩:=h4.put (v:=.bl true) (AW hu hu3);exact ac (yh h3 (by rw[Je]; omega)) (k _ #[_,fs',cj h3,h5])
theorem rZ (hfu:20 < fuel)(G:Gen defs)(hf:Fl S r)(k:∀w S',dz w->Fl S' r->Kp r S S'->Q (w,S')):wO (bj (ay defs fuel (d+6)) "_law_any_rule" 1 [.ref r] S) Q:=by
 refine aB G.any_rule rfl rfl λQ' hR=>?_
 replace k:∀w S',dz w->Fl S' r->Kp r S S'->Q' (.rt w,S'):=λz S' a b c=>hR _ _ (k z S' a b c)
 clear hR;show wZ _ _ de [gV (.ref r),td,td,td,td,td] S Q';dsimp only[de];refine aW λK hK=>?_
 dsimp only[wS,wE,wA,wV,wG];refine tZ (d:=d+3) G hf λa n S1 a1 a3 n1 n3 an f1 k1=>?_
 dsimp only[wU];refine ac (show dv [1,2] [.int a,.int n] [gV (.ref r),td,td,td,td,td]=gV [gV (.ref r),gV (.int a),gV (.int n),td,td,td]from rfl) (hK _ _ ?_)
 clear hK K;refine aW λK hK=>?_
 dsimp only[wS,wE,wA,wV,wG,HX];refine t4 (d:=d+3) G f1 n1 n3 λbs S2 hb hbl f2 k2=>?_
 have hsz:SizeOk a bs:=#[∅,hb,by rw[hbl]; exact an,a3]
 refine fG (d:=d) hfu G f2 a3 ∅ λms ns S3 hml hnl hnm f3 k3=>hK _ _ ?_
 clear hK K;have hrt:=f3.lt;replace k3:Kp r S S3:=k1.trans (k2.trans k3);clear k1 k2 f1 f2;refine st ?_;dsimp only[wS,wE,HX];refine aW λK hK=>?_
 refine ll rfl rfl ?_;dsimp only[wE,wA,wV,wG];refine bn (d:=d+4) G.pick (f3.ka .push) #v[] #v[] λv S4 v0 v9 f4 k4=>?_
 refine#[v,λk ρ S'=>(∃a5,ρ=[gV (.ref r),gV (.int a),gV (.int n),gV (cK ms ns bs []),gV (.ref S3.length),a5])/\(∃kvs fs,S'[S3.length]?=gV (.dic kvs)/\FigD (aX a bs) kvs fs)/\Fl S' r/\Kp r S S',rfl,∅,#[#[td,rfl],#[[],[],k4.get _ _ ∅ ak,.nil],f4,(k3.trans .push).trans k4],?_,?_]
 ·rintro i ρ S5 hi ⟨⟨a5,rfl⟩,⟨kvs,fs,e5,hd⟩,f5,k5⟩ Q2 hn _;clear hK;refine st ?_;dsimp only[wS,wE,wA,wV,wG,HX];refine iI (d:=d+3) G f5 ∅ a3 ∅ n3 λu S6 hu3 hu f6 k6=>?_
  have hu:GoodW a bs.length u:=hbl.symm ▸ hu;refine gd (d:=d+2) G hb hnl hu hu3 λS7 k7=>?_
  have e7:=k7.get _ _ (k6.get _ _ ∅ e5)
  exact t9 e7 hd hsz hu hu3 λo ho=>bX (hn _ _ #[#[_,rfl],ho,(f6.ka k7).own hrt,((k5.trans k6).trans (k7.kp r)).late k3.len])
 ·rintro ρ S5 ⟨⟨a5,rfl⟩,⟨kvs,fs,e5,hd⟩,f5,k5⟩;refine hK _ _ (st ?_);dsimp only[wS,wE,wA,wV,wG];exact t8 (Q:=λp=>Q' (.rt p.1,p.2)) e5 hd hsz hml hnl hnm λw S6 hw k6=>k w S6 hw (f5.ka k6) (k5.trans (k6.kp r))
end
noncomputable def ft (t:Ig×Ig×Ig):W:=.tup [.int t.1,.int t.2.1,.int t.2.2]
noncomputable def ql (a:HM)(t:Ig×Ig×Ig):Prop:=(0<=t.1/\t.1 < a)/\(0<=t.2.1/\t.2.1 < a)/\(0<=t.2.2/\t.2.2 < a)
noncomputable def yi (k:Ig):Wd:=[(k,[]),(k,[0]),(k,[0,0])]
theorem He:∀k∈eG 1,yi k∈aX 1 [0]:=by decide +kernel
theorem Hf:∀k∈eG 2,yi k∈aX 2 [0]:=by decide +kernel
theorem Hg:∀k∈eG 3,yi k∈aX 3 [0]:=by decide +kernel
theorem AZ {a:HM}{k:Ig}(h0:1<=a)(h3:a<=3)(hk:0<=k)(hk2:k < a):yi k∈aX a [0]:=by
 have ha:a=1\/a=2\/a=3:=∅
 rcases ha with rfl|rfl|rfl
 ·exact He k (dg hk hk2)
 ·exact Hf k (dg hk hk2)
 ·exact Hg k (dg hk hk2)
theorem A6 {a b:Ig}(h:yi a=yi b):a=b:=by
 unfold yi at h;injection h with h1 h2
 injection h1
theorem iJ:GoodB [0]:=.inl rfl
theorem BU {S:aa}{i j:HM}{xs:HF W}(h1:S[i]?=gV (.lst xs))(h2:S[j]?=gV (.lst [])):ce .eq (.ref i) (.ref j) S=gV (.bl xs.isEmpty,S):=by
 show(jL S (19+1) (.ref i) (.ref j)).map _=_;simp only[jL,dW h1,dW h2];cases xs with
 | nil=>rfl
 | cons x xs=>rfl
theorem A7 {S:aa}{f:Ig}{ws:HF Ig}:∃b,ce .notin (.int f) (.tup (ab ws)) S=gV (.bl b,S):=by
 have hf:(cv (.int f)&&(ab ws).all cv)=true:=by
  simp only[cv,Ly,IB];intro x hx;obtain⟨z,_,rfl⟩:=Ir.mp hx;rfl
 refine#[!(ab ws).any λz=>yV z (.int f),?_]
 show iq .notin (.int f) (.tup (ab ws)) S=_;simp only[iq,DU,BA,fL,hf,KG,IR]
section
variable{Φ:Ik->FF}{fuel:HM}{ρ:Fm}{S:aa}{K:Fm->aa->Prop}{Q:QO}
theorem iK {i0:HM}{a b:E}{bd:Ss}(i j:Ig)(I:HM->Fm->aa->Prop)(oa:eJ a=true)(ob:eJ b=true)(ok:gJ bd=true)(hj : -(2 ^ 62)<=i/\i < 2 ^ 62/\-(2 ^ 62)<=j/\j < 2 ^ 62)(he:wE Φ a ρ S λp=>p.1=.int i/\wE Φ b ρ p.2 λq=>q.1=.int j/\I 0 ρ q.2)
  (hstep:∀(k:HM) (ρ:Fm) (S:aa),(k:Ig) < j - i->I k ρ S->vG Φ fuel bd (ρ.set i0 (gV (.int (i+k)))) S (I (k+1)) Q) (hend:∀ρ S,I (j - i).toNat ρ S->K ρ S):Wp (fY Φ fuel (.loop (.nm i0) (.rng2 #v[a,b]) bd) ρ S) (qY K Q):=by
 obtain⟨w,S1,e1,rfl,h1⟩:=cY oa he;obtain⟨w,S2,e2,rfl,h0⟩:=cY ob h1;have hl:(dj i (j - i).toNat).length=(j - i).toNat:=by simp[dj]
 refine ic (mi:=.its (dj i (j - i).toNat)) (S1:=S2) (xs:=dj i (j - i).toNat) I ok ?_ (λ_ _ _ _=>rfl) rfl h0 (λk w ρ S hw hI=>?_) λρ S hI=>hend ρ S (hl ▸ hI)
 ·simp only[lJ,dq,en,i8,iRng2,e1,e2];rw[Iw hj]
 ·rw[eu]at hw;split at hw
  ·rename_i hk;cases hw;exact hstep k ρ S ∅ hI
  ·cases hw
theorem yj {elt a b:E}{i0:HM}{cs:Es}{cap:HF (HL HM)}{Q:QW}(i j:Ig)(I:HM->HF W->Fm->aa->Prop)(oa:eJ a=true)(ob:eJ b=true)(oe:eJ elt=true)(oc:qZ cs=true)(hj : -(2 ^ 62)<=i/\i < 2 ^ 62/\-(2 ^ 62)<=j/\j < 2 ^ 62)(he:wE Φ a ρ S λp=>p.1=.int i/\wE Φ b ρ p.2 λq=>q.1=.int j/\I 0 [] (fN cap ρ) q.2)
  (hstep:∀(k:HM) (ys:HF W) (ρ:Fm) (S:aa),(k:Ig) < j - i->I k ys ρ S->jf Φ elt cs (ρ.set i0 (gV (.int (i+k)))) S (λy=>I (k+1) (ys++[y])) (I (k+1) ys))
  (hend:∀ys ρ S,I (j - i).toNat ys ρ S->ys.length<=sizeLine/\Q (.ref S.length,S++[.lst ys])):Wp (aK Φ (.comp elt (.nm i0) (.rng2 #v[a,b]) cs cap) ρ S) Q:=by
 obtain⟨w,S1,e1,rfl,h1⟩:=cY oa he;obtain⟨w,S2,e2,rfl,h0⟩:=cY ob h1;have hl:(dj i (j - i).toNat).length=(j - i).toNat:=by simp[dj]
 refine kZ (mi:=.its (dj i (j - i).toNat)) (S1:=S2) (xs:=dj i (j - i).toNat) I oe oc ?_ (λ_ _ _ _ _=>rfl) rfl h0 (λk w ys ρ S hw hI=>?_) λys ρ S hI=>hend ys ρ S (hl ▸ hI)
 ·simp only[lJ,dq,en,i8,iRng2,e1,e2];rw[Iw hj]
 ·rw[eu]at hw;split at hw
  ·rename_i hk;cases hw;exact hstep k ys ρ S ∅ hI
  ·cases hw
end
section
variable{defs:HF (Ik×Df)}{fuel d:HM}{S:aa}{r:HM}{Q:QW}
theorem qm (G:Gen defs){a:HM}(ha:a<=3)(k:∀(q:HM) (ts:HF (Ig×Ig×Ig)) (S':aa),S'[q]?=gV (.lst (ts.map ft))->(∀t∈ts,ql a t)->S.length<=q->Ka S S'->Q (.ref q,S')) :
  wO (bj (ay defs fuel (d+1)) "_law_rising" 1 [.int a] S) Q:=by
 refine aB G.rising rfl rfl λQ' hR=>?_
 replace k:∀(q:HM) (ts:HF (Ig×Ig×Ig)) (S':aa),S'[q]?=gV (.lst (ts.map ft))->(∀t∈ts,ql a t)->S.length<=q->Ka S S'->Q' (.rt (.ref q),S'):=λq ts S' a b c e=>hR _ _ (k q ts S' a b c e)
 clear hR;show wZ _ _ d0 [gV (.int a),td,td,td] S Q';dsimp only[d0];refine st ?_;dsimp only[wS,wE,wA,HX];refine aW λK hK=>?_
 refine dc (a:Ig) (λi ρ S'=>∃(q:HM) (ts:HF (Ig×Ig×Ig)) (a2 a3:HL W),ρ=[gV (.int a),gV (.ref q),a2,a3]/\S'[q]?=gV (.lst (ts.map ft))/\(∀t∈ts,ql a t)/\S.length<=q/\ts.length<=9*i/\Ka S S') rfl rfl ∅ #[rfl,_,[],_,_,rfl,ak,λ_ h=>(nomatch h),HZ _,Ko _,.push] ?_ ?_
 ·rintro i ρ S1 hi ⟨q,ts,a2,a3,rfl,e1,ht,hq,hl,k1⟩ Q2 hn _;clear hK k;refine aW λK hK=>?_
  refine iK (i:Ig) (a:Ig) (λj ρ S'=>∃(q:HM) (ts:HF (Ig×Ig×Ig)) (a3:HL W),ρ=[gV (.int a),gV (.ref q),gV (.int i),a3]/\S'[q]?=gV (.lst (ts.map ft))/\(∀t∈ts,ql a t)/\S.length<=q/\ts.length<=9*i+3*j/\Ka S S') rfl rfl rfl ∅ #[rfl,rfl,q,ts,a3,rfl,e1,ht,hq,∅,k1] ?_ ?_
  ·rintro j ρ S2 hj ⟨q,ts,a3,rfl,e2,ht,hq,hl,k2⟩ Q3 hn3 _;clear hK hn;refine st ?_;dsimp only[wS,wE,wV,wG,HX];refine yj ((i:Ig)+j) (a:Ig) (λm ys ρ2 S3=>(∃a1,ρ2=[td,a1,gV (.int i),gV (.int ((i:Ig)+j))])/\(∃us:HF (Ig×Ig×Ig),ys=us.map ft/\us.length=m/\∀t∈us,ql a t)/\S3=S2) rfl rfl rfl rfl ∅ #[rfl,rfl,#[td,rfl],#[[],rfl,rfl,λ_ h=>nomatch h],rfl] ?_ ?_
   ·rintro m ys ρ2 S3 hm ⟨⟨a1,rfl⟩,⟨us,rfl,hul,hu⟩,rfl⟩;refine#[λ_=>#[#[_,rfl],#[us++[((i:Ig),(i:Ig)+j,(i:Ig)+j+m)],by rw[IA]; rfl,by rw[HQ,hul]; rfl,λt h=>?_],rfl],λz=>by cases z]
    rcases IU.mp h with h|h
    ·exact hu t h
    ·rw[Ip.mp h];exact#[#[∅,∅],#[by dsimp only; omega,by dsimp only; omega],#[by dsimp only; omega,by dsimp only; omega]]
   ·rintro ys ρ2 S3 ⟨_,⟨us,rfl,hul,hu⟩,rfl⟩;refine#[lP (by rw[HI]; omega),ac (jd (aq e2) ak ?_) (bX (hn3 _ _ #[_,ts++us,_,rfl,?_,λt h=>(IU.mp h).elim (ht t) (hu t),?_,?_,k2.trans (Ka.push.trans .push)]))]
    ·refine lP ?_;rw[HQ,HI,HI];omega
    ·rw[IA]; exact ak
    ·have:=k2.len;simp only[HQ]; omega
    ·rw[HQ]; omega
  ·rintro ρ S2 ⟨q,ts,a3,rfl,e2,ht,hq,hl,k2⟩;exact hK _ _ (bX (hn _ _ #[q,ts,_,_,rfl,e2,ht,hq,∅,k2]))
 ·rintro ρ S1 ⟨q,ts,a2,a3,rfl,e1,ht,hq,hl,k1⟩;refine hK _ _ (st ?_);exact k q ts S1 e1 ht hq k1
theorem vh (hfu:20 < fuel)(G:Gen defs)(hf:Fl S r)(k:∀w S',dz w->Fl S' r->Kp r S S'->Q (w,S')):wO (bj (ay defs fuel (d+6)) "_law_one_way_rule" 1 [.ref r] S) Q:=by
 refine aB G.one_way_rule rfl rfl λQ' hR=>?_
 replace k:∀w S',dz w->Fl S' r->Kp r S S'->Q' (.rt w,S'):=λz S' a b c=>hR _ _ (k z S' a b c)
 clear hR;show wZ _ _ cm [gV (.ref r),td,td] S Q';dsimp only[cm];refine aW λK hK=>?_
 dsimp only[wS,wE,wA,wV,wG,HX];refine bn (d:=d+4) G.pick hf #v[] #v[] λv S1 v0 v3 f1 k1=>?_
 dsimp only[dR,aO];obtain⟨a,ea⟩ : ∃a:HM,1+v=a:=#[(1+v).toNat,∅]
 rw[ea];refine hK _ _ ?_;clear hK K;refine aW λK hK=>?_
 dsimp only[wS,wE,HX];refine dX (a:Ig) (λk zs ρ2 S2=>(∃a1,ρ2=[td,a1,gV (.ref r)])/\(∃ks:HF Ig,zs=(ks.map yi).map aG/\ks.Pairwise (·≠·)/\ks.length<=k/\∀x∈ks,0<=x/\x < k)/\Fl S2 r/\Kp r S1 S2) rfl rfl rfl ∅ #[rfl,#[td,rfl],#[[],rfl,.nil,HZ _,λ_ h=>(nomatch h)],f1,.refl] ?_ ?_
 ·rintro i zs ρ2 S2 hi ⟨⟨a1,rfl⟩,⟨ks,rfl,hkp,hkl,hks⟩,f2,k2⟩;clear hK k;dsimp only[jf,wC,wT,wE,wA,wV,wG,HX];refine bn (d:=d+4) G.pick f2 #v[] #v[] λv S3 _ _ f3 k3=>?_
  dsimp only[iF,aO,wB];refine#[λ_=>#[#[_,rfl],#[ks++[(i:Ig)],by simp[yi,aG,bB],?_,by rw[HQ]; exact Lv hkl,λx hx=>?_],f3,k2.trans k3],λ_=>#[#[_,rfl],#[ks,rfl,hkp,∅,λx hx=>#[(hks x hx).1,by have:=(hks x hx).2; omega]],f3,k2.trans k3]]
  ·rw[List.pairwise_append];refine#[hkp,by simp,λx hx y hy e=>?_]
   have:=(hks x hx).2;rw[Ip.mp hy]at e;omega
  ·rcases IU.mp hx with h|h
   ·exact#[(hks x h).1,by have:=(hks x h).2; omega]
   ·rw[Ip.mp h]; omega
 ·rintro zs ρ2 S2 ⟨_,⟨ks,rfl,hkp,hkl,hks⟩,f2,k2⟩;rw[HY]at hkl hks;refine#[lP (by rw[HI,HI]; omega),hK _ _ (st ?_)]
  clear hK K;dsimp only[wS,wE,wA,wV,wG,HX];have hlt:=f2.lt;refine gz (d:=d) (a:=a) (bs:=[0]) (us:=ks.map yi) hfu G (f2.ka .push) ∅ #v[] (λS' kk=>?_) (by rw[HI]; omega) (λu hu=>by obtain⟨x,_,rfl⟩:=Ir.mp hu; exact Od _ _) λms ns S3 hml hnl hnm f3 k3=>?_
  ·simp only[eh,bc (kk.get _ _ ∅ ak)]
  refine k _ _ #[a,[0],ms,ns,ks.map yi,rfl,#[#[∅,iJ,by simp; omega,∅],hml,hnl,hnm,?_,λg hg=>?_]] f3 (k1.trans (k2.trans (Kp.push.trans k3)))
  ·unfold PM;rw[KN];exact hkp.imp λh e=>h (A6 e)
  ·obtain⟨x,hx,rfl⟩:=Ir.mp hg;exact AZ ∅ ∅ (hks x hx).1 (hks x hx).2
theorem qo (hfu:20 < fuel)(G:Gen defs)(hf:Fl S r)(k:∀w S',dz w->Fl S' r->Kp r S S'->Q (w,S')):wO (bj (ay defs fuel (d+6)) "_law_free_rule" 1 [.ref r] S) Q:=by
 refine aB G.free_rule rfl rfl λQ' hR=>?_
 replace k:∀w S',dz w->Fl S' r->Kp r S S'->Q' (.rt w,S'):=λz S' a b c=>hR _ _ (k z S' a b c)
 clear hR;show wZ _ _ cR [gV (.ref r),td,td,td,td,td,td,td,td] S Q';dsimp only[cR];refine aW λK hK=>?_
 dsimp only[wS,wE,wA,wV,wG];refine tZ (d:=d+3) G hf λa n S1 a1 a3 n1 n3 an f1 k1=>?_
 dsimp only[wU];refine ac (show dv [1,2] [.int a,.int n] [gV (.ref r),td,td,td,td,td,td,td,td]=gV [gV (.ref r),gV (.int a),gV (.int n),td,td,td,td,td,td]from rfl) (hK _ _ ?_)
 clear hK K;refine aW λK hK=>?_
 dsimp only[wS,wE,wA,wV,wG,HX];refine t4 (d:=d+3) G f1 n1 n3 λbs S2 hb hbl f2 k2=>?_
 have hsz:SizeOk a bs:=#[∅,hb,by rw[hbl]; exact an,a3]
 refine fG (d:=d) hfu G f2 a3 ∅ λms ns S3 hml hnl hnm f3 k3=>hK _ _ ?_
 clear hK K;have hrt:=f3.lt;replace k3:Kp r S S3:=k1.trans (k2.trans k3);clear k1 k2 f1 f2;refine aW λK hK=>?_
 dsimp only[wS,wE,HX];refine dX (n:Ig) (λi zs ρ2 S2=>(∃a1,ρ2=[td,a1,gV (cK ms ns bs [])])/\(∃ks:HF Ig,zs=ab ks/\ks.length<=i)/\S2=S3) rfl rfl rfl ∅ #[rfl,#[td,rfl],#[[],rfl,HZ _],rfl] ?_ ?_
 ·rintro i zs ρ2 S2 hi ⟨⟨a1,rfl⟩,⟨ks,rfl,hkl⟩,rfl⟩;clear hK k;have hi':i < bs.length:=∅
  dsimp only[jf,wC,wT,wE,wA,wV,wG,HX];refine ah #v[] rfl (ah (HV i) (by rw[HY]; exact jh (Ic ∅) (Ic hi')) (ah #v[] rfl ?_))
  dsimp only[iF,aO,wB];exact#[λ_=>#[#[_,rfl],#[ks++[(i:Ig)],by unfold ab; rw[IA]; rfl,by rw[HQ]; exact Lv hkl],rfl],λ_=>#[#[_,rfl],#[ks,rfl,∅],rfl]]
 ·rintro zs ρ2 S2 ⟨_,⟨ks,rfl,hkl⟩,rfl⟩;rw[HY]at hkl;have il:(ab ks).length=ks.length:=HI ..;refine#[lP ∅,hK _ _ ?_]
  clear hK K;refine aW λK hK=>?_
  dsimp only[wS,wT,wE,wA,wV,wG,HX];refine ac (BU (aq ak) ak) ?_;dsimp only[wB];have f4:=(f3.ka (Ka.push (o:=O.lst (ab ks)))).ka (Ka.push (o:=O.lst []));have k4:=k3.trans ((Kp.push (o:=O.lst (ab ks))).trans (Kp.push (o:=O.lst [])));have e4:=aq (u:=O.lst []) (ak (S:=S2) (o:=O.lst (ab ks)));have hl4:S2.length < (S2++[O.lst (ab ks)]++[O.lst []]).length:=by simp
  generalize hS4:S2++[O.lst (ab ks)]++[O.lst []]=S4 at f4 k4 e4 hl4;clear hS4;have ret:∀Q2:QO,(∀w S',Q' (.rt w,S')->Q2 (.rt w,S'))->wZ (ay defs fuel (d+5)) fuel #v[.ret (.v 3)] [gV (.ref r),gV (.int a),gV (.int n),gV (cK ms ns bs []),td,gV (.ref S2.length),td,td,td] S4 Q2:=λQ2 hr=>st (hr _ _ (k _ _ #[a,bs,ms,ns,[],rfl,hsz,hml,hnl,hnm,.nil,λ_ h=>(nomatch h)] f4 k4))
  refine#[λ_=>ar (Q0:=Q') (λ_ Q2 _ hr=>ret Q2 hr) (λz=>by cases z),λhne=>?_]
  dsimp only[iF,aO,wB];refine ar (Q0:=Q') (λ_ Q2 _ hr=>ret Q2 hr) (λ_ Q2 hn _=>bX (hn _ _ (hK _ _ ?_)))
  clear hK ret hn;have hk0:0 < ks.length:=by
   cases ks with
   | nil=>cases hne
   | cons x ks=>exact Nat.succ_pos _
  refine aW λK hK=>?_
  dsimp only[wS,wE,wA,wV,wG,HX];refine tU e4 ?_;rw[il];refine bn (d:=d+4) G.pick f4 ∅ ∅ λv S5 v0 v1 f5 k5=>?_
  have e5:=k5.get _ _ ∅ e4
  obtain⟨x,_,ex⟩:=ox (f:=W.int) (xs:=ks) (i:=v.toNat) ∅
  refine la e5 v0 ex (hK _ _ ?_);clear hK K;replace k5:Kp r S S5:=k4.trans k5;have hrt5:=f5.lt;refine st ?_;dsimp only[wS,wE,HX];refine aW λK hK=>?_
  refine ll rfl rfl ?_;dsimp only[wE,wA,wV,wG];refine bn (d:=d+4) G.pick (f5.ka .push) #v[] #v[] λv S6 v0 v9 f6 k6=>?_
  refine#[v,λ_ ρ S'=>(∃a4 a8,ρ=[gV (.ref r),gV (.int a),gV (.int n),gV (cK ms ns bs []),a4,gV (.ref S2.length),gV (.int x),gV (.ref S5.length),a8])/\(∃kvs fs,S'[S5.length]?=gV (.dic kvs)/\FigD (aX a bs) kvs fs)/\Fl S' r/\Kp r S S',rfl,∅,#[#[td,td,rfl],#[[],[],k6.get _ _ ∅ ak,.nil],f6,(k5.trans .push).trans k6],?_,?_]
  ·rintro i ρ S7 hi ⟨⟨a4,a8,rfl⟩,⟨kvs,fs,e7,hd⟩,f7,k7⟩ Q2 hn _;clear hK k;refine st ?_;dsimp only[wS,wE,wA,wV,wG,HX];refine iI (d:=d+3) G f7 ∅ a3 ∅ n3 λu S8 hu3 hu f8 k8=>?_
   have hu:GoodW a bs.length u:=hbl.symm ▸ hu;have e8:=k8.get _ _ ∅ e7
   obtain⟨p0,p1,p2,rfl⟩ : ∃p0 p1 p2,u=[p0,p1,p2]:=by
    match u,hu3 with
    | [p0,p1,p2],_=>exact#[p0,p1,p2,rfl]
   have l1:=hu.len 1 p1 rfl;obtain⟨m1,ws1⟩:=p1;obtain⟨w1,rfl⟩ : ∃w1,ws1=[w1]:=by
    match ws1,l1 with
    | [w1],_=>exact#[w1,rfl]
   obtain⟨b,hb2⟩:=A7 (S:=S8) (f:=x) (ws:=p2.2);have kk:=k7.trans k8;refine aW λK hK=>?_
   dsimp only[wS,wT,wE,wA,wV,wG];refine ah #v[] rfl (ah #v[] rfl (ah #v[] rfl ?_))
   dsimp only[xN,aO,wB];have skip:K [gV (.ref r),gV (.int a),gV (.int n),gV (cK ms ns bs []),gV (.int i),gV (.ref S2.length),gV (.int x),gV (.ref S5.length),gV (aG [p0,(m1,[w1]),p2])] S8:=hK _ _ (bX (hn _ _ #[#[_,_,rfl],#[kvs,fs,e8,hd],f8,kk]));refine#[λ_=>?_,λ_=>ar (Q0:=Q2) (λz=>by cases z) λ_ Q3 hn3 _=>bX (hn3 _ _ skip)]
   refine ah #v[] rfl (ah #v[] rfl (ac hb2 ?_))
   dsimp only[wB];refine ar (Q0:=Q2) (λ_ Q3 hn3 _=>?_) λ_ Q3 hn3 _=>bX (hn3 _ _ skip)
   clear skip;refine st ?_;dsimp only[wS,wE,wA,wV,wG];refine gd (d:=d+2) G hb hnl hu hu3 λS9 k9=>?_
   exact t9 (k9.get _ _ e8) hd hsz hu hu3 λo ho=>bX (hn3 _ _ (hK _ _ (bX (hn _ _ #[#[_,_,rfl],ho,(f8.ka k9).own hrt5,(kk.trans (k9.kp r)).late k5.len]))))
  ·rintro ρ S7 ⟨⟨a4,a8,rfl⟩,⟨kvs,fs,e7,hd⟩,f7,k7⟩;refine hK _ _ (st ?_);dsimp only[wS,wE,wA,wV,wG];exact t8 (Q:=λp=>Q' (.rt p.1,p.2)) e7 hd hsz hml hnl hnm λw S8 hw k8=>k w S8 hw (f7.ka k8) (k7.trans (k8.kp r))
end
noncomputable def ci (u v:Ig):T:=.tup [.int u,.int v]
noncomputable def dH (u v:Ig):W:=.tup [.int u,.int v]
theorem iL {u v:Ig}:gE (dH u v)=gV (ci u v):=rfl
theorem yk {kvs:HF (T×W)}{k:T}{v:W}{p:T×W}(h:p∈eE kvs k v):p∈kvs\/p=(k,v):=by
 unfold eE at h;split at h
 ·obtain⟨q,hq,rfl⟩:=Ir.mp h;split
  ·rename_i e; exact .inr (by rw[e])
  ·exact .inl hq
 ·rcases IU.mp h with h|h
  ·exact .inl h
  ·exact .inr (Ip.mp h)
theorem ln {kvs:HF (T×W)}{k:T}{v:W}(h:cr kvs k=gV v):(k,v)∈kvs:=by
 unfold cr at h;rw[HJ]at h;obtain⟨p,h1,rfl⟩:=h;have:=MF h1;rw[<- Jg this];exact List.mem_of_find?_eq_some h1
theorem ub {kvs:HF (T×W)}{p:T×W}(h:p∈kvs):∃v,cr kvs p.1=gV v:=by
 unfold cr;cases e:kvs.find? λq=>decide (q.1=p.1)with
 | some q=>exact#[q.2,rfl]
 | none=>exact absurd (LV.mp e p h) (by simp)
noncomputable def MustE (S:aa)(n b:HM)(kvs:HF (T×W)):Prop:=∀p∈kvs,∃(u v:Ig) (l:HM) (ws:HF Ig),p=(ci u v,W.ref l)/\(0<=u/\u < n)/\(0<=v/\v < n)/\b<=l/\S[l]?=gV (.lst (ab ws))/\ws.length<=3/\∀w∈ws,0<=w/\w < (n:Ig)
theorem MustE.mono {S S':aa}{n b:HM}{kvs:HF (T×W)}(h:MustE S n b kvs)(k:∀(l:HM) (ws:HF Ig),b<=l->S[l]?=gV (.lst (ab ws))->S'[l]?=gV (.lst (ab ws))):MustE S' n b kvs:=λp hp=>
 let ⟨u,v,l,ws,h1,h2,h3,h4,h5,h6⟩:=h p hp
 #[u,v,l,ws,h1,h2,h3,h4,k l ws h4 h5,h6]
theorem MustE.ka {S S':aa}{n b:HM}{kvs:HF (T×W)}(h:MustE S n b kvs)(k:Ka S S'):MustE S' n b kvs:=h.mono λl ws _ e=>k.get _ _ e
theorem MustE.kp {S S':aa}{n b r:HM}{kvs:HF (T×W)}(h:MustE S n b kvs)(hr:r < b)(k:Kp r S S'):MustE S' n b kvs:=h.mono λl ws hl e=>k.get _ _ ∅ e
theorem MustE.set {S:aa}{n b t:HM}{kvs k:HF (T×W)}{o:O}(h:MustE S n b kvs)(ht:S[t]?=gV (.dic k)):MustE (S.set t o) n b kvs:=h.mono λl ws hl e=>by
 rw[cg (by rintro rfl; rw[ht]at e; cases e)]; exact e
theorem MustE.put {S:aa}{n b:HM}{kvs:HF (T×W)}{u v:Ig}{l:HM}{ws:HF Ig}(h:MustE S n b kvs)(h2:0<=u/\u < n)(h3:0<=v/\v < n)(h4:b<=l)(h5:S[l]?=gV (.lst (ab ws)))(h6:ws.length<=3)(h7:∀w∈ws,0<=w/\w < (n:Ig)):MustE S n b (eE kvs (ci u v) (.ref l)):=λp hp=>by
 rcases yk hp with hp|rfl
 ·exact h p hp
 ·exact#[u,v,l,ws,rfl,h2,h3,h4,h5,h6,h7]
noncomputable abbrev Ba:=Ig×Ig×HF Ig
noncomputable def qp (ws:HF Ig):Es:=ws.foldr (λw es=>.cons (.c (.int w)) es) .nil
noncomputable def uc:HF Ba->Es
 | []=>.nil
 | e::L=>.cons (.tup #v[.c (.int e.1),.c (.int e.2.1)]) (.cons (.lst (qp e.2.2)) (uc L))
noncomputable def vk:HF Ba->HM->HF W
 | [],_=>[]
 | e::L,s=>dH e.1 e.2.1::.ref s::vk L (s+1)
noncomputable def vm (L:HF Ba):aa:=L.map λe=>O.lst (ab e.2.2)
noncomputable def ud (n:HM)(e:Ba):Iy:=decide ((0<=e.1/\e.1 < n)/\(0<=e.2.1/\e.2.1 < n)/\e.2.2.length<=3)&&e.2.2.all λw=>decide (0<=w/\w < (n:Ig))
section
variable{Φ:Ik->FF}{ρ:Fm}
theorem r0 {S:aa}:∀ {ws:HF Ig} {Q:HF W×aa->Prop},Q (ab ws,S)->wA Φ (qp ws) ρ S Q
 | [],Q,q=>by show wA Φ .nil ρ S Q; rw[wA]; exact q
 | w::ws,Q,q=>by show wA Φ (.cons (.c (.int w)) (qp ws)) ρ S Q; rw[wA,wE]; exact r0 q
theorem ym:∀ {L:HF Ba} {S:aa} {Q:HF W×aa->Prop},Q (vk L S.length,S++vm L)->wA Φ (uc L) ρ S Q
 | [],S,Q,q=>by
  show wA Φ .nil ρ S Q;rw[wA]
  rwa [show S++vm []=S from JJ S]at q
 | e::L,S,Q,q=>by
  show wA Φ (.cons (.tup #v[.c (.int e.1),.c (.int e.2.1)]) (.cons (.lst (qp e.2.2)) (uc L))) ρ S Q;dsimp only[wA,wE];refine r0 (ym ?_);rw[HQ,KM];exact q
end
theorem mX {S:aa}{n b:HM}:∀(L:HF Ba) (s:HM) (kvs:HF (T×W)),MustE S n b kvs->b<=s->(∀e∈L,ud n e=true)->(∀i e,L[i]?=gV e->S[s+i]?=gV (.lst (ab e.2.2)))->∃kvs',dM kvs (vk L s)=gV kvs'/\MustE S n b kvs'/\kvs'.length<=kvs.length+L.length
 | [],s,kvs,hm,hb,hL,hS=>#[kvs,by simp[vk,dM],hm,by simp]
 | e::L,s,kvs,hm,hb,hL,hS=>by
  have h1:=hL e (by simp)
  unfold ud at h1;rw[HN,IB]at h1;obtain⟨h2,h3,h4⟩:=Jg h1.1;obtain⟨kvs',k1,k2,k3⟩:=mX L (s+1) (eE kvs (ci e.1 e.2.1) (.ref s)) (hm.put h2 h3 hb (by have:=hS 0 e rfl; simpa using this) h4 (λw hw=>Jg (h1.2 w hw))) ∅ (λx hx=>hL x (by simp[hx])) (λi x hx=>by have:=hS (i+1) x (by simpa using hx); rw[show s+1+i=s+(i+1) by omega]; exact this)
  refine#[kvs',?_,k2,?_]
  ·simp only[vk,dM,iL]; exact k1
  ·have:=c7 kvs (ci e.1 e.2.1) (.ref s);rw[IW]; omega
noncomputable def KB:HF (HF Ig):=[[1,0],[0,2,1],[0,1],[0,1,2]]
noncomputable def KindOk (S:aa)(b:HM)(w:W):Prop:=∃(bs:HF Ig) (q:HM) (kvs:HF (T×W)) (most:Ig),w=.tup [.tup (ab bs),.ref q,.int most]/\bs∈KB/\1<=most/\most<=3/\most*bs.length<=6/\S[q]?=gV (.dic kvs)/\b<=q/\kvs.length<=4/\MustE S bs.length b kvs
theorem KindOk.mono {S S':aa}{b:HM}{w:W}(h:KindOk S b w)(k1:∀(l:HM) (ws:HF Ig),b<=l->S[l]?=gV (.lst (ab ws))->S'[l]?=gV (.lst (ab ws)))(k2:∀(l:HM) (kvs:HF (T×W)),b<=l->S[l]?=gV (.dic kvs)->S'[l]?=gV (.dic kvs)):KindOk S' b w:=
 let ⟨bs,q,kvs,most,h1,h2,h3,h4,h5,h6,h7,h8,h9⟩:=h
 #[bs,q,kvs,most,h1,h2,h3,h4,h5,k2 _ _ h7 h6,h7,h8,h9.mono k1]
theorem KindOk.ka {S S':aa}{b:HM}{w:W}(h:KindOk S b w)(k:Ka S S'):KindOk S' b w:=h.mono (λl ws _ e=>k.get _ _ e) (λl ws _ e=>k.get _ _ e)
noncomputable def yn (bs:HF Ig)(L:HF Ba)(most:Ig):E:=.tup #v[.tup (qp bs),.disp (uc L),.c (.int most)]
section
variable{Φ:Ik->FF}{ρ:Fm}{S:aa}
theorem oB (bs:HF Ig)(L:HF Ba)(most:Ig){b:HM}{Q:QW}(hb:b<=S.length)(h1:bs∈KB)(h2:1<=most/\most<=3/\most*bs.length<=6)(hL:∀e∈L,ud bs.length e=true)(h4:L.length<=4)(k:∀w S',KindOk S' b w->Ka S S'->Q (w,S')) :
  wE Φ (yn bs L most) ρ S Q:=by
 unfold yn;dsimp only[wE,wA];refine r0 (ym ?_);obtain⟨kvs,k1,k2,k3⟩:=mX (S:=S++[O.dic []]++vm L) (n:=bs.length) (b:=b) L (S.length+1) [] (λ_ h=>nomatch h) ∅ hL (λi e he=>by
  rw[JS (by simp),show S.length+1+i - (S++[O.dic []]).length=i by simp]
  simp[vm,he])
 have hat:(S++[O.dic []]++vm L)[S.length]?=gV (.dic []):=by
  rw[IQ (by simp)]; exact ak
 refine#[hat,ac (show dM [] (vk L (S++[O.dic []]).length)=gV kvs by rw[HQ]; exact k1) (k _ _ #[bs,S.length,kvs,most,rfl,h1,h2.1,h2.2.1,h2.2.2,cj hat,hb,?_,k2.set hat] #[λj o h=>?_,by simp])]
 ·simp only[JK]at k3; omega
 ·have:j < S.length:=db h;show((S++[O.dic []]++vm L).set S.length (O.dic kvs))[j]?=gV o;rw[cg ∅,IQ (by simp; omega)]
  exact aq h
structure Menu (S0 S:aa)(r t m:HM):Prop where
 at_t:∃xs:HF W,S[t]?=gV (.lst xs)/\xs.length=m/\∀x∈xs,KindOk S S0.length x
 pos:0 < m
 lP:m<=9
 fl:Fl S r
 kp:Kp r S0 S
 lt:S0.length<=t
 rlt:r < S0.length
theorem qr {S0 S S':aa}{r t m:HM}{w:W}(h:Menu S0 S r t m)(hw:KindOk S' S0.length w)(k:Ka S S')(hm:m < 9):∃xs,S'[t]?=gV (.lst xs)/\xs.length < sizeLine/\Menu S0 (S'.set t (.lst (xs++[w]))) r t (m+1):=by
 obtain⟨⟨xs,h1,h2,h3⟩,hp,hf,fl,kp,lt,rlt⟩:=h;have e:S'[t]?=gV (.lst xs):=k.get _ _ h1;have stay:∀x,KindOk S' S0.length x->KindOk (S'.set t (.lst (xs++[w]))) S0.length x:=λx hx=>hx.mono (λl ws hl el=>by
  by_cases hlt:t=l
  ·exfalso;subst hlt;rw[e]at el;injection el with el
   injection el with el
   match xs,h2,h3 with
   | [],h2,_=>simp at h2; omega
   | x::xs,_,h3=>
    obtain⟨bs,q,kvs,most,hx,_⟩:=h3 x (by simp)
    subst hx
    match ws with
    | []=>simp[ab]at el
    | w::ws=>simp[ab]at el
  ·rw[cg hlt]; exact el) (λl kvs hl el=>by
  rw[cg (by rintro rfl; rw[e]at el; cases el)]; exact el)
 refine#[xs,e,(by rw[Je]; omega),#[xs++[w],cj e,by simp; omega,λx hx=>?_],∅,∅,(fl.ka k).own ∅,(kp.trans (k.kp r)).late lt,lt,rlt]
 rcases IU.mp hx with hx|hx
 ·exact stay x ((h3 x hx).ka k)
 ·rw[Ip.mp hx]; exact stay w hw
theorem qt (bs:HF Ig)(L:HF Ba)(most:Ig){fuel:HM}{S0:aa}{r t m:HM}{x0:HL W}{K:Fm->aa->Prop}{Q:QO}(h:Menu S0 S r t m)(hm:m < 9)(h1:bs∈KB)(h2:1<=most/\most<=3/\most*bs.length<=6)(hL:∀e∈L,ud bs.length e=true)(h4:L.length<=4)(k:∀S',Menu S0 S' r t (m+1)->K [x0,gV (.ref t)] S') :
  wS Φ fuel (.ex (.me .append (.v 1) #v[yn bs L most])) [x0,gV (.ref t)] S K Q:=by
 dsimp only[wS,wE,wA,wV,wG];obtain⟨xs,e1,e2,e3⟩:=h.at_t;refine#[eT e1,oB bs L most (IS h.lt (Lj (db e1))) h1 h2 hL h4 λw S' k1 k2=>?_]
 obtain⟨xs',f1,f2,f3⟩:=qr h k1 k2 hm;exact ac (tM f1 f2) (k _ f3)
theorem lQ {defs:HF (Ik×Df)}{fuel d:HM}{r:HM}{Q:QW}(G:Gen defs)(hf:Fl S r)(k:∀w S',KindOk S' S.length w->Fl S' r->Kp r S S'->Q (w,S')):wO (bj (ay defs fuel (d+2)) "_law_laying_kind" 1 [.ref r] S) Q:=by
 refine aB G.laying_kind rfl rfl λQ' hR=>?_
 replace k:∀w S',KindOk S' S.length w->Fl S' r->Kp r S S'->Q' (.rt w,S'):=λz S' a b c=>hR _ _ (k z S' a b c)
 clear hR;show wZ _ _ cy [gV (.ref r),td] S Q';have hrt:=hf.lt;unfold cy;refine aW λK hK=>?_
 refine FB ?_;rw[wE,wA];refine oB [1,0] [(0,0,[0])] 3 (b:=S.length) (HZ _) #v[] #v[] #v[] #v[] λw1 S1 k1 a1=>?_
 rw[wA];refine oB [0,2,1] [(1,1,[1])] 2 (b:=S.length) a1.len #v[] #v[] #v[] #v[] λw2 S2 k2 a2=>?_
 have a12:=a1.trans a2;rw[wA];refine oB [0,1] [(1,1,[1])] 3 (b:=S.length) a12.len #v[] #v[] #v[] #v[] λw3 S3 k3 a3=>?_
 have a13:=a12.trans a3;rw[wA];refine hK _ _ ?_;clear hK K;have m3:Menu S (S3++[O.lst [w1,w2,w3]]) r S3.length 3:=by
  refine#[#[[w1,w2,w3],ak,rfl,λx hx=>?_],#v[],#v[],(hf.ka a13).ka .push,(a13.trans .push).kp r,a13.len,hrt]
  rcases Iz.mp hx with rfl|hx
  ·exact(k1.ka (a2.trans a3)).ka .push
  ·rcases Iz.mp hx with rfl|hx
   ·exact(k2.ka a3).ka .push
   ·rw[Ip.mp hx];exact k3.ka .push
 dsimp only[HX];clear k1 k2 k3 a1 a2 a3 a12 a13;generalize S3.length=t at m3;generalize S3++[O.lst [w1,w2,w3]]=S3' at m3;refine aW λK hK=>qt [0,1] [(1,1,[1]),(0,0,[1])] 3 m3 #v[] #v[] #v[] #v[] #v[] λS4 m4=>hK _ _ ?_
 refine aW λK hK=>qt [0,1] [(1,1,[])] 1 m4 #v[] #v[] #v[] #v[] #v[] λS5 m5=>hK _ _ ?_
 refine aW λK hK=>qt [0,2,1] [(0,0,[0]),(0,1,[1]),(1,0,[1]),(1,1,[1])] 2 m5 #v[] #v[] #v[] #v[] #v[] λS6 m6=>hK _ _ ?_
 refine aW λK hK=>?_
 dsimp only[wS,wE,wA,wV,wG];obtain⟨xs,e1,e2,e3⟩:=m6.at_t;obtain⟨xs',f1,f2,m7⟩:=qr (S':=S6++[O.dic []]) (w:=.tup [.tup (ab [1,0]),.ref S6.length,.int 3]) m6 #[[1,0],S6.length,[],3,rfl,#v[],#v[],#v[],#v[],ak,m6.kp.len,#v[],λ_ h=>(nomatch h)] .push #v[]
 refine#[eT e1,ac (tM f1 f2) (hK _ _ ?_)];refine aW λK hK=>qt [0,1,2] [(2,2,[2]),(1,2,[1]),(2,1,[1]),(1,1,[1,2])] 2 m7 #v[] #v[] #v[] #v[] #v[] λS8 m8=>hK _ _ ?_
 refine aW λK hK=>qt [0,1,2] [(0,0,[0,1])] 2 m8 #v[] #v[] #v[] #v[] #v[] λS9 m9=>hK _ _ ?_
 refine st ?_;dsimp only[wS,wE,wA,wV,wG];refine bn (d:=d) G.pick m9.fl #v[] #v[] λv S10 v0 v9 f10 k10=>?_
 obtain⟨xs,g1,g2,g3⟩:=m9.at_t;have hlt:=m9.lt;have hv:v.toNat < xs.length:=∅
 exact la (k10.get _ _ ∅ g1) v0 (Ic hv) (k _ _ ((g3 _ (IX hv)).mono (λl ws hl e=>k10.get _ _ ∅ e) (λl ws hl e=>k10.get _ _ ∅ e)) f10 (m9.kp.trans k10))
end
noncomputable def qu (bs:HF Ig):HF (HF Ig):=if bs=[0,1,2]then[[0,1,2],[0,2,1],[1,0,2],[1,2,0],[2,0,1],[2,1,0]]else if bs.length=2 then[[0,1],[1,0]]else[[0,1,2],[0,2,1],[2,0,1],[2,1,0]]
noncomputable def gY (bs nm:HF Ig):HM->HF Ig
 | 0=>IJ bs.length 0
 | k+1=>(gY bs nm k).set (nm.getD k 0).toNat (nm.getD (bs.getD k 0).toNat 0)
theorem jj (bs nm:HF Ig):∀k,(gY bs nm k).length=bs.length
 | 0=>by simp[gY]
 | k+1=>by simp[gY,jj bs nm k]
theorem Bb:∀bs∈KB,∀nm∈qu bs,nm.length=bs.length/\(∀x∈nm,0<=x/\x < (bs.length:Ig))/\(∀x∈bs,0<=x/\x < (bs.length:Ig))/\GoodB (gY bs nm bs.length):=by
 unfold GoodB;decide +kernel
theorem yo:∀bs∈KB,(bs.length=2\/bs.length=3)/\0 < (qu bs).length/\(qu bs).length < 10:=by decide
section
variable{Φ:Ik->FF}{fuel:HM}{ρ:Fm}{S:aa}{K:Fm->aa->Prop}{Q:QO}
theorem Bc {tg:Tg}{e:E}{b:Ss}(r:HM)(kvs:HF (T×W))(I:HM->Fm->aa->Prop)(oe:eJ e=true)(ok:gJ b=true)(he:wE Φ e ρ S λp=>p.1=.ref r/\p.2[r]?=gV (.dic kvs)/\I 0 ρ (p.2.set r (.frd kvs)))
  (hstep:∀(i:HM) (p:T×W) (ρ:Fm) (S:aa),kvs[i]?=gV p->I i ρ S->wO (gI tg p.1.w ρ S) λq=>vG Φ fuel b q.1 q.2 (I (i+1)) Q) (hend:∀ρ S,I kvs.length ρ S->K ρ S):Wp (fY Φ fuel (.loop tg (.seq e) b) ρ S) (qY K Q):=by
 obtain⟨w,S1,e1,rfl,e2,h0⟩:=cY oe he;refine ic (mi:=.its (kvs.map λp=>p.1.w)) (S1:=S1.set r (.frd kvs)) (xs:=kvs.map λp=>p.1.w) I ok (by simp only[lJ,fX,e1,ou e2,cH e2]) (λ_ _ _ _=>rfl) rfl h0 (λi w ρ S hw hI=>?_) λρ S hI=>hend ρ S (by rwa [HI]at hI)
 rw[HS,HJ]at hw;obtain⟨p,hp,rfl⟩:=hw;exact hstep i p ρ S hp hI
end
section
variable{defs:HF (Ik×Df)}{fuel d:HM}{S:aa}{r:HM}{Q:QW}
theorem BV {i n:HM}{x:W}(h:S[i]?=gV (.lst [x]))(hn:n<=1000)(q:Q (.ref S.length,S++[.lst (IJ n x)])):wO (ip .mul (.ref i) (.int (n:Ig)) S) Q:=by
 refine ac ?_ q;have:n<=sizeLine:=lP hn;simp only[ip,zD,dW h];rw[Iw #[∅,∅,by simpa using this]]
 unfold lL;simp[this]
theorem mY {q:HM}{kvs:HF (T×W)}{u v:Ig}{w:W}(h:jZ S q=gV kvs)(hg:cr kvs (ci u v)=gV w):lM (.ref q) (.tup [.int u,.int v]) S=gV (w,S):=by
 have hk:gE (.tup [.int u,.int v])=gV (ci u v):=iL;simp only[lM,h,hk,hg,IR]
theorem yp {q:HM}{kvs:HF (T×W)}{u v:Ig}{w:W}(h:S[q]?=gV (.dic kvs))(hl:kvs.length < sizeLine):iB (.ref q) (.tup [.int u,.int v]) w S=gV (S.set q (.dic (eE kvs (ci u v) w))):=by
 have hk:gE (.tup [.int u,.int v])=gV (ci u v):=iL;simp only[iB,nP,h,hk];rw[Iw hl]
theorem jk {xs:HF Ig}{x:Ig}(h0:0<=x)(h1:x.toNat < xs.length):(ab xs)[x.toNat]?=gV (.int (xs.getD x.toNat 0)):=by
 unfold ab;rw[HS,az (d:=0) h1]; rfl
theorem gf {xs:HF Ig}{i:HM}(h:i < xs.length):xs.getD i 0∈xs:=Ij (az (d:=0) h)
theorem lR (G:Gen defs){Q:QO}{bs:HF Ig}{x0 x2:HL W}(hb:bs∈KB)
  (hk:∀(m s:HM) (S':aa),Ka S S'->S'[s]?=gV (.lst ((qu bs).map λnm=>W.tup (ab nm)))->S.length<=s->wZ (ay defs fuel (d+1)) fuel (dr 5 bT) [x0,gV (.tup (ab bs)),x2,gV (.int bs.length),gV (.ref m),gV (.ref s),td,td,td,td,td,td] S' Q) :
  wZ (ay defs fuel (d+1)) fuel bT [x0,gV (.tup (ab bs)),x2,td,td,td,td,td,td,td,td,td] S Q:=by
 generalize hd5:dr 5 bT=dh at hk;unfold bT at hd5 ⊢;dsimp only[dr]at hd5;rw[hd5];clear hd5;refine aW λK hK=>?_
 dsimp only[wS,wE,wA,wV,wG,HX];refine bo ?_;rw[show(ab bs).length=bs.length from HI ..]
 refine hK _ _ ?_;clear hK K;refine aW λK hK=>?_
 dsimp only[wS,wE,wA,wV,wG,HX];have hm:(((S++[O.lst [.tup [.int 0]]])++[O.lst [.tup [.int 0,.int 1],.tup [.int 1,.int 0]]])++[O.lst [.ref S.length,.ref (S++[O.lst [.tup [.int 0]]]).length]])[((S++[O.lst [.tup [.int 0]]])++[O.lst [.tup [.int 0,.int 1],.tup [.int 1,.int 0]]]).length]?=gV (.lst [.ref S.length,.ref (S++[O.lst [.tup [.int 0]]]).length]):=ak;refine hK _ _ ?_;clear hK K;generalize hS1:S++[O.lst [.tup [.int 0]]]=S1 at hm ⊢;generalize hS2:S1++[O.lst [.tup [.int 0,.int 1],.tup [.int 1,.int 0]]]=S2 at hm ⊢;generalize hS3:S2++[O.lst [.ref S.length,.ref S1.length]]=S3 at hm ⊢;have l1:S1.length=S.length+1:=by rw[<- hS1]; simp
 have l2:S2.length=S1.length+1:=by rw[<- hS2]; simp
 have l3:S3.length=S2.length+1:=by rw[<- hS3]; simp
 have kS2:Ka S S2:=by rw[<- hS2,<- hS1]; exact Ka.push.trans .push
 refine aW λK hK=>?_
 dsimp only[wS,wE,wA,wV,wG,HX];refine#[eT hm,qg (aq hm) (by decide:2 < 1000) (hK _ _ ?_)]
 clear hK K;generalize hS5:(S3++[O.lst [.tup [.int 0,.int 1,.int 2],.tup [.int 0,.int 2,.int 1],.tup [.int 2,.int 0,.int 1],.tup [.int 2,.int 1,.int 0]]]).set S2.length (.lst ([.ref S.length,.ref S1.length]++[.ref S3.length]))=S5;have k5:Ka S S5:=by
  rw[<- hS5,<- hS3];exact Ka.late (kS2.trans (Ka.push.trans .push)) ∅
 have m5:S5[S2.length]?=gV (.lst [.ref S.length,.ref S1.length,.ref S3.length]):=by
  rw[<- hS5]; exact cj (aq hm)
 have p5:S5[S1.length]?=gV (.lst [.tup [.int 0,.int 1],.tup [.int 1,.int 0]]):=by
  rw[<- hS5,cg ∅,<- hS3,<- hS2]
  exact aq (aq ak)
 have t5:S5[S3.length]?=gV (.lst [.tup [.int 0,.int 1,.int 2],.tup [.int 0,.int 2,.int 1],.tup [.int 2,.int 0,.int 1],.tup [.int 2,.int 1,.int 0]]):=by
  rw[<- hS5,cg ∅]
  exact ak
 have h1:S.length<=S1.length:=∅
 have h3:S.length<=S3.length:=∅
 clear hS1 hS2 hS3 hS5 hm l1 l2 l3 kS2;refine aW λK hK=>?_
 dsimp only[wS,wE,wA,wV,wG,HX,mU,aO];have hb':bs=[1,0]\/bs=[0,2,1]\/bs=[0,1]\/bs=[0,1,2]:=by simpa [KB]using hb
 rcases hb' with rfl|rfl|rfl|rfl
 ·refine d3 (i:=1) m5 rfl (hK _ _ (aW λK hK=>dt (λQ q=>q) (hK _ _ (hk _ _ _ k5 p5 h1))))
 ·refine d3 (i:=2) m5 rfl (hK _ _ (aW λK hK=>dt (λQ q=>q) (hK _ _ (hk _ _ _ k5 t5 h3))))
 ·refine d3 (i:=1) m5 rfl (hK _ _ (aW λK hK=>dt (λQ q=>q) (hK _ _ (hk _ _ _ k5 p5 h1))))
 ·refine d3 (i:=2) m5 rfl (hK _ _ (aW λK hK=>lc (λQ q=>q) λQ2 hn _=>?_))
  refine st ?_;dsimp only[wS,wE,wA,wV,wG,HX];exact km (d:=d) G (bX (hn _ _ (hK _ _ (hk _ _ _ (k5.trans .push) ak k5.len))))
theorem r4 (G:Gen defs){S0:aa}{bs:HF Ig}{q:HM}{kvs:HF (T×W)}(hb:bs∈KB)(hf:Fl S r)(hr:r < S0.length)(kp:Kp r S0 S)(hq:S[q]?=gV (.dic kvs))(hq0:S0.length<=q)(h4:kvs.length<=4)(hm:MustE S bs.length S0.length kvs)
  (k:∀(bs':HF Ig) (q':HM) (kvs':HF (T×W)) S',GoodB bs'->bs'.length=bs.length->S'[q']?=gV (.dic kvs')->S0.length<=q'->MustE S' bs.length S0.length kvs'->Fl S' r->Kp r S0 S'->Q (.tup [.tup (ab bs'),.ref q'],S')) :
  wO (bj (ay defs fuel (d+2)) "_law_numbered" 3 [.ref r,.tup (ab bs),.ref q] S) Q:=by
 refine aB G.numbered rfl rfl λQ' hR=>?_
 replace k:∀(bs':HF Ig) (q':HM) (kvs':HF (T×W)) S',GoodB bs'->bs'.length=bs.length->S'[q']?=gV (.dic kvs')->S0.length<=q'->MustE S' bs.length S0.length kvs'->Fl S' r->Kp r S0 S'->Q' (.rt (.tup [.tup (ab bs'),.ref q']),S'):=λa b c e f g h i j l m=>hR _ _ (k a b c e f g h i j l m)
 clear hR;refine lR (d:=d) G hb ?_;intro m s S1 k1 e1 hs;dsimp only[dr,bT];have hrt:=hf.lt;obtain⟨hb1,hb2,hb3⟩:=yo bs hb;refine aW λK hK=>?_
 dsimp only[wS,wE,wA,wV,wG,HX];refine tU e1 ?_;rw[HI];refine bn (d:=d) G.pick (hf.ka k1) ∅ ∅ λv S2 v0 v1 f2 k2=>?_
 obtain⟨nm,hnmm,enm⟩:=ox (f:=λnm=>W.tup (ab nm)) (xs:=qu bs) (i:=v.toNat) ∅
 obtain⟨n1,n2,n3,n4⟩:=Bb bs hb nm hnmm;refine la (k2.get _ _ ∅ e1) v0 enm (hK _ _ ?_)
 clear hK K;refine aW λK hK=>?_
 dsimp only[wS,wE,wA,wV,wG,HX];refine BV ak ∅ (hK _ _ ?_)
 clear hK K;generalize hS4:S2++[O.lst [.int 0]]=S4;have k24:Ka S2 S4:=hS4 ▸ .push;have f4:Fl S4 r:=f2.ka k24;have kp4:Kp r S0 S4:=(kp.trans (k1.kp r)).trans (k2.trans (k24.kp r));have q4:S4[q]?=gV (.dic kvs):=k24.get _ _ (k2.get _ _ ∅ (k1.get _ _ hq))
 have m4:MustE S4 bs.length S0.length kvs:=((hm.ka k1).kp hr k2).ka k24;clear hS4 k24 hm hq f2 k2 k1 e1 enm hf;refine aW λK hK=>?_
 refine dc (bs.length:Ig) (λk ρ S'=>(∃x8,ρ=[gV (.ref r),gV (.tup (ab bs)),gV (.ref q),gV (.int bs.length),gV (.ref m),gV (.ref s),gV (.tup (ab nm)),gV (.ref S4.length),x8,td,td,td])/\S'[S4.length]?=gV (.lst (ab (gY bs nm k)))/\Ka S4 S') rfl rfl ∅ #[rfl,#[_,rfl],?_,.push] ?_ ?_
 ·rw[ak]; simp[gY,ab]
 ·rintro i ρ S5 hi ⟨⟨x8,rfl⟩,e5,k5⟩ Q2 hn _;clear hK k;have hi':i < bs.length:=∅
  have hi1:i < nm.length:=∅
  have c:=n3 _ (gf hi');have c2:=n2 _ (gf hi1);refine st ?_;dsimp only[wS,wE,wA,wV,wG,HX];refine ah (HV i) (jk (HV i) hi') (ah c.1 (jk c.1 (by rw[HY]; omega)) (ah (HV i) (jk (HV i) hi1) ?_))
  rw[HY];refine ac (BN e5 c2.1 (by rw[show(ab (gY bs nm i)).length=_ from HI ..,jj]; omega)) (bX (hn _ _ #[#[_,rfl],?_,k5.late (HZ _)]))
  rw[cj e5];unfold ab;rw[gY,Pf]
 ·rintro ρ S5 ⟨⟨x8,rfl⟩,e5,k5⟩;rw[HY]at e5;refine hK _ _ (st ?_);clear hK K;dsimp only[wS,wE,HX];have f5:Fl S5 r:=f4.ka k5;have q5:S5[q]?=gV (.dic kvs):=k5.get _ _ q4;have m5:MustE S5 bs.length S0.length kvs:=m4.ka k5;have kp5:Kp r S0 S5:=kp4.trans (k5.kp r);have hq5:=db q5;have ht5:=db e5;have hqt:q≠S4.length:=by rintro rfl; rw[e5]at q5; cases q5
  have hn9:(bs.length:Ig)<=3:=∅
  have hr5:=f5.lt;clear k5 m4 q4 f4;refine aW λK hK=>?_
  refine Bc q kvs (λk ρ S'=>(∃x10 x11,ρ=[gV (.ref r),gV (.tup (ab bs)),gV (.ref q),gV (.int bs.length),gV (.ref m),gV (.ref s),gV (.tup (ab nm)),gV (.ref S4.length),x8,gV (.ref S5.length),x10,x11])/\S'[q]?=gV (.frd kvs)/\MustE S' bs.length S0.length kvs/\S'[S4.length]?=gV (.lst (ab (gY bs nm bs.length)))/\(∃kvs',S'[S5.length]?=gV (.dic kvs')/\kvs'.length<=k/\MustE S' bs.length S0.length kvs')/\Fl S' r/\Kp r S0 S') rfl rfl #[rfl,aq q5,#[td,td,rfl],cj (aq q5),(m5.ka .push).set (aq q5),?_,#[[],?_,HZ _,λ_ h=>(nomatch h)],(f5.ka .push).own ∅,(kp5.trans .push).late hq0] ?_ ?_
  ·rw[cg hqt]; exact aq e5
  ·rw[cg ∅]; exact ak
  ·rintro i p ρ S6 hp ⟨⟨x10,x11,rfl⟩,q6,m6,t6,⟨kvs',o6,l6,mm6⟩,f6,kp6⟩;clear hK k;have hpm:=Ij hp;have hil:=(Ii.mp hp).1;obtain⟨u,v',l,ws,rfl,hu,hv',hl,hws,hl3,hw3⟩:=m6 p hpm;obtain⟨g,hg⟩:=ub hpm;obtain⟨u2,v2,l2,ws2,he2,_,_,hl2,hws2,hl32,hw32⟩:=m6 _ (ln hg);injection he2 with _ he2
   subst he2;have hul:u.toNat < nm.length:=∅
   have hvl:v'.toNat < nm.length:=∅
   refine ac (show gI (.tp [10,11]) (ci u v',W.ref l).1.w [gV (.ref r),gV (.tup (ab bs)),gV (.ref q),gV (.int bs.length),gV (.ref m),gV (.ref s),gV (.tup (ab nm)),gV (.ref S4.length),x8,gV (.ref S5.length),x10,x11] S6=gV ([gV (.ref r),gV (.tup (ab bs)),gV (.ref q),gV (.int bs.length),gV (.ref m),gV (.ref s),gV (.tup (ab nm)),gV (.ref S4.length),x8,gV (.ref S5.length),gV (.int u),gV (.int v')],S6)from rfl) λQ2 hn _=>?_
   refine st ?_;dsimp only[wS,wE,wA,wV,wG,HX];refine tR l2 (ab ws2) (λi zs ρ2 S7=>(∃a1,ρ2=[td,a1,gV (.tup (ab nm))])/\zs=ab ((ws2.take i).map λw=>nm.getD w.toNat 0)/\S7=S6) rfl rfl rfl ?_ ?_ ?_ ?_
   ·dsimp only[wE,wA,wV,wG];exact ac (mY (AR q6) hg) #[rfl,#[_,rfl],rfl,rfl]
   ·rintro i zs ρ2 S7 ⟨_,_,rfl⟩;exact hws2
   ·rintro i w zs ρ2 S7 hw ⟨⟨a1,rfl⟩,rfl,rfl⟩;unfold ab at hw;rw[HS,HJ]at hw;obtain⟨x,hx,rfl⟩:=hw;obtain⟨x0,x1⟩:=hw32 x (Ij hx);have hxl:x.toNat < nm.length:=∅
    refine ac (show gI (.nm 1) (.int x) [td,a1,gV (.tup (ab nm))] S7=gV ([td,gV (.int x),gV (.tup (ab nm))],S7)from rfl) ?_
    dsimp only[jf,wC,wE,wA,wV,wG];refine#[λ_=>ah x0 (jk x0 hxl) #[#[_,rfl],?_,rfl],λz=>by cases z]
    rw[Jb,hx];simp[ab]
   ·rintro zs ρ2 S7 ⟨_,rfl,rfl⟩;rw[show(ab ws2).length=ws2.length from HI ..,Jm]
    refine#[lP (by simp[ab]; omega),ah hu.1 (jk hu.1 hul) (ah hv'.1 (jk hv'.1 hvl) ?_)]
    refine ac (yp (aq o6) (by rw[Je]; omega)) (bX (hn _ _ #[#[_,_,rfl],?_,(m6.ka .push).set (aq o6),?_,#[_,cj (aq o6),?_,?_],(f6.ka .push).own ∅,(kp6.trans .push).late kp5.len]))
    ·rw[cg ∅]; exact aq q6
    ·rw[cg ∅]; exact aq t6
    ·exact IS (c7 ..) (Lv l6)
    ·refine((mm6.ka .push).put (n2 _ (gf hul)) (n2 _ (gf hvl)) kp6.len ak (by simp; omega) ?_).set (aq o6)
     intro w hw;obtain⟨x,hx,rfl⟩:=Ir.mp hw;obtain⟨x0,x1⟩:=hw32 x hx;exact n2 _ (gf ∅)
  ·rintro ρ S6 ⟨⟨x10,x11,rfl⟩,q6,m6,t6,⟨kvs',o6,l6,mm6⟩,f6,kp6⟩;refine hK _ _ (st ?_);dsimp only[wS,wE,wA,wV,wG];exact fg t6 (k _ _ kvs' _ n4 (jj _ _ _) o6 kp5.len mm6 f6 kp6)
end
noncomputable def vn (x y z:Ig):HF (T×W):=[(ci 1 0,.int x),(ci 2 0,.int y),(ci 2 1,.int z)]
noncomputable def Bd (x y z a b c:Ig):HM->HF (T×W)
 | 0=>vn x y z
 | 1=>vn x y z++[(ci 0 1,.int a)]
 | 2=>vn x y z++[(ci 0 1,.int a),(ci 0 2,.int b)]
 | _=>vn x y z++[(ci 0 1,.int a),(ci 0 2,.int b),(ci 1 2,.int c)]
theorem Du {n x y z a b c:Ig}(hx:0<=x/\x < n)(hy:0<=y/\y < n)(hz:0<=z/\z < n)(ha:0<=a/\a < n)(hb:0<=b/\b < n)(hc:0<=c/\c < n):∀i j:HM,i < 3->j < 3->i≠j->∃p:Ig,cr (Bd x y z a b c 3) (ci i j)=gV (.int p)/\0<=p/\p < n:=by
 intro i j hi hj hij
 match i,j,hi,hj,hij with
 | 0,0,_,_,h=>exact absurd rfl h
 | 0,1,_,_,_=>exact#[a,by rfl,ha]
 | 0,2,_,_,_=>exact#[b,by rfl,hb]
 | 1,0,_,_,_=>exact#[x,by rfl,hx]
 | 1,1,_,_,h=>exact absurd rfl h
 | 1,2,_,_,_=>exact#[c,by rfl,hc]
 | 2,0,_,_,_=>exact#[y,by rfl,hy]
 | 2,1,_,_,_=>exact#[z,by rfl,hz]
 | 2,2,_,_,h=>exact absurd rfl h
theorem qv:∀t∈aw,t.length=3/\t.getD 0 0 < 3/\t.getD 1 0 < 3/\t.getD 2 0 < 3/\t.getD 0 0≠t.getD 1 0/\t.getD 1 0≠t.getD 2 0/\t.getD 0 0≠t.getD 2 0:=by decide
theorem yq {t:HF HM}(h:t∈aw):∃i j k:HM,t=[i,j,k]/\i < 3/\j < 3/\k < 3/\i≠j/\j≠k/\i≠k:=by
 obtain⟨h1,h2⟩:=qv t h
 match t,h1,h2 with
 | [i,j,k],_,h2=>exact#[i,j,k,rfl,h2]
section
variable{defs:HF (Ik×Df)}{fuel d:HM}{S:aa}{r:HM}{Q:QW}
theorem yr {l:HM}{f:Ig}{ws:HF Ig}(h:S[l]?=gV (.lst (ab ws))):∃b,ce .notin (.int f) (.ref l) S=gV (.bl b,S):=by
 have hf:(cv (.int f)&&(ab ws).all cv)=true:=by
  simp only[cv,Ly,IB];intro x hx;obtain⟨z,_,rfl⟩:=Ir.mp hx;rfl
 refine#[!(ab ws).any λz=>yV z (.int f),?_]
 simp only[ce,oq h,iq,DU,BA,fL,bc h,hf,KG,IR]
theorem Dv {q:HM}{kvs:HF (T×W)}(h:S[q]?=gV (.dic kvs)):tyOk "dict" S (.ref q)=true:=by simp[tyOk,cH h]
theorem Be {q:HM}{kvs:HF (T×W)}(h:S[q]?=gV (.dic kvs))(k:Q (.ref S.length,S++[.lst (kvs.map λp=>p.1.w)])):wO (Bi.list.fn [.ref q] S) Q:=by
 refine ac ?_ k;have h1:zS S q=td:=by simp[zS,h]
 have h2:mG [.ref q] S=td:=by simp[mG,h1,iw,fL,ou h]
 simp only[Bi.fn,EY,h2,mK,cH h]
theorem yt (G:Gen defs){bs:HF Ig}{q b0:HM}{kvs:HF (T×W)}{x y z:Ig}(hb:GoodB bs)(hx:0<=x/\x < bs.length)(hy:0<=y/\y < bs.length)(hz:0<=z/\z < bs.length)(hq:S[q]?=gV (.dic kvs))(hm:MustE S bs.length b0 kvs)
  (k:∀b S',Ka S S'->Q (.bl b,S')):wO (bj (ay defs fuel (d+2)) "_law_breaks" 5 [.tup (ab bs),.ref q,.int x,.int y,.int z] S) Q:=by
 refine aB G.breaks rfl rfl λQ' hR=>?_
 replace k:∀b S',Ka S S'->Q' (.rt (.bl b),S'):=λa b c=>hR _ _ (k a b c)
 clear hR;show wZ _ _ dZ [gV (.tup (ab bs)),gV (.ref q),gV (.int x),gV (.int y),gV (.int z),td,td,td,td,td] S Q';obtain⟨a,ha1,ha⟩:=hb.rng x.toNat ∅
 obtain⟨b,hb1,hb2⟩:=hb.rng y.toNat ∅
 obtain⟨c,hc1,hc⟩:=hb.rng z.toNat ∅
 have hqt:=db hq;unfold dZ;refine aW λK hK=>?_
 dsimp only[wS,wE,wA,wV,wG,HX];refine#[ak,ac (show dM [] [.tup [.int 1,.int 0],.int x,.tup [.int 2,.int 0],.int y,.tup [.int 2,.int 1],.int z]=gV (vn x y z)from rfl) (hK _ _ ?_)]
 clear hK K;have e1:((S++[O.dic []]).set S.length (.dic (vn x y z)))[S.length]?=gV (.dic (vn x y z)):=cj ak;have k1:Ka S ((S++[O.dic []]).set S.length (.dic (vn x y z))):=Ka.push.late (HZ _);have l1:((S++[O.dic []]).set S.length (.dic (vn x y z))).length=S.length+1:=by simp
 generalize(S++[O.dic []]).set S.length (.dic (vn x y z))=S1 at e1 k1 l1 ⊢;refine aW λK hK=>?_
 refine fq rfl rfl ?_;dsimp only[wE,wA,wV,wG];refine Be e1 #[S1.length,[dH 1 0,dH 2 0,dH 2 1],(λk ρ S'=>(∃x6,ρ=[gV (.tup (ab bs)),gV (.ref q),gV (.int x),gV (.int y),gV (.int z),gV (.ref S.length),x6,td,td,td])/\S'[S.length]?=gV (.dic (Bd x y z a b c k))/\S'[S1.length]?=gV (.lst [dH 1 0,dH 2 0,dH 2 1])/\Ka S S'),rfl,#[#[_,rfl],aq e1,ak,k1.trans .push],λi ρ S' h=>h.2.2.1,?_,?_]
 ·have step:∀(u v f g:Ig) (kv kv':HF (T×W)) (S':aa) (i:HM),cr kv (ci u v)=gV (.int f)->0<=f->bs[f.toNat]?=gV g->kv.length < 10->eE kv (ci v u) (.int g)=kv'->Bd x y z a b c (i+1)=kv'->∀x6:HL W,S'[S.length]?=gV (.dic kv)->S'[S1.length]?=gV (.lst [dH 1 0,dH 2 0,dH 2 1])->Ka S S'->
    wO (gI (.nm 6) (dH u v) [gV (.tup (ab bs)),gV (.ref q),gV (.int x),gV (.int y),gV (.int z),gV (.ref S.length),x6,td,td,td] S') λp=>vG (ay defs fuel (d+1)) fuel #v[.put (.v 5) (.tup #v[.ix (.v 6) (.c (.int 1)),.ix (.v 6) (.c (.int 0))]) (.ix (.v 0) (.ix (.v 5) (.v 6)))] p.1 p.2 (λρ S'=>(∃x6,ρ=[gV (.tup (ab bs)),gV (.ref q),gV (.int x),gV (.int y),gV (.int z),gV (.ref S.length),x6,td,td,td])/\S'[S.length]?=gV (.dic (Bd x y z a b c (i+1)))/\S'[S1.length]?=gV (.lst [dH 1 0,dH 2 0,dH 2 1])/\Ka S S') Q':=by
   clear hK k;intro u v f g kv kv' S' i h1 h2 h3 h4 h5 h6 x6 e e' k;refine ac (show gI (.nm 6) (dH u v) [gV (.tup (ab bs)),gV (.ref q),gV (.int x),gV (.int y),gV (.int z),gV (.ref S.length),x6,td,td,td] S'=gV ([gV (.tup (ab bs)),gV (.ref q),gV (.int x),gV (.int y),gV (.int z),gV (.ref S.length),gV (dH u v),td,td,td],S')from rfl) λQ2 hn _=>?_
   refine st ?_;dsimp only[wS,wE,wA,wV,wG];refine ac (mY (cH e) h1) (ah h2 (w:=.int g) (by unfold ab; rw[HS,h3]; rfl) (ah #v[] rfl (ah #v[] rfl ?_)))
   refine ac (yp e (by rw[Je]; omega)) (bX (hn _ _ #[#[_,rfl],?_,?_,k.late (HZ _)]))
   ·rw[cj e,h5,h6]
   ·rw[cg ∅]; exact e'
  rintro i w ρ S2 hw ⟨⟨x6,rfl⟩,e2,l2,k2⟩
  match i,hw,e2 with
  | 0,hw,e2=>cases hw; exact step 1 0 x a _ _ S2 0 (by rfl) hx.1 ha1 (by simp[Bd,vn]) (by rfl) (by rfl) x6 e2 l2 k2
  | 1,hw,e2=>cases hw; exact step 2 0 y b _ _ S2 1 (by rfl) hy.1 hb1 (by simp[Bd,vn]) (by rfl) (by rfl) x6 e2 l2 k2
  | 2,hw,e2=>cases hw; exact step 2 1 z c _ _ S2 2 (by rfl) hz.1 hc1 (by simp[Bd,vn]) (by rfl) (by rfl) x6 e2 l2 k2
  | n+3,hw,_=>simp at hw
 ·rintro ρ S2 ⟨⟨x6,rfl⟩,e2,l2,k2⟩;have hv:=Du hx hy hz ha hb2 hc;have e2:S2[S.length]?=gV (.dic (Bd x y z a b c 3)):=e2;refine hK _ _ ?_;clear hK K;have hlt2:=db e2;refine aW λK hK=>?_
  refine fq rfl rfl ?_;dsimp only[wE,wA,wV,wG];refine km (d:=d) G #[S2.length,aw.map (λt=>W.tup (aI t)),(λk ρ S'=>(∃x7 x8 x9,ρ=[gV (.tup (ab bs)),gV (.ref q),gV (.int x),gV (.int y),gV (.int z),gV (.ref S.length),x6,x7,x8,x9])/\S'[S.length]?=gV (.dic (Bd x y z a b c 3))/\S'[S2.length]?=gV (.lst (aw.map (λt=>W.tup (aI t))))/\Ka S S'),rfl,#[#[_,_,_,rfl],aq e2,ak,k2.trans .push],λi ρ S' h=>h.2.2.1,?_,?_]
  ·rintro i w ρ S3 hw ⟨⟨x7,x8,x9,rfl⟩,e3,l3,k3⟩;clear hK;rw[HS,HJ]at hw;obtain⟨t,ht,rfl⟩:=hw;obtain⟨i1,j1,h1,rfl,hi1,hj1,hh1,n1,n2,n3⟩:=yq (Ij ht);obtain⟨p1,g1,r1⟩:=hv i1 j1 hi1 hj1 n1;obtain⟨p2,g2,r2⟩:=hv j1 h1 hj1 hh1 n2;obtain⟨p3,g3,r3⟩:=hv i1 h1 hi1 hh1 n3;have q3:=k3.get _ _ hq;refine ac (show gI (.tp [7,8,9]) (W.tup (aI [i1,j1,h1])) [gV (.tup (ab bs)),gV (.ref q),gV (.int x),gV (.int y),gV (.int z),gV (.ref S.length),x6,x7,x8,x9] S3=gV ([gV (.tup (ab bs)),gV (.ref q),gV (.int x),gV (.int y),gV (.int z),gV (.ref S.length),x6,gV (.int i1),gV (.int j1),gV (.int h1)],S3)from rfl) λQ2 hn hr=>?_
   refine aW λK hK=>?_
   dsimp only[wS,wT,wE,wA,wV,wG];refine ac (mY (cH e3) g3) #[Dv q3,ac (mY (cH e3) g1) (ac (mY (cH e3) g2) (ac (mY (cH e3) g3) ?_))];have hget:Me.get.fn (.ref q) [.tup [.int p1,.int p2],.ref S3.length] (S3++[O.lst [.int p3]])=gV ((cr kvs (ci p1 p2)).getD (.ref S3.length),S3++[O.lst [.int p3]]):=by
    have hk:gE (.tup [.int p1,.int p2])=gV (ci p1 p2):=iL;simp only[Me.fn,sP,cH (aq q3),hk]
   refine ac hget ?_;have hres:∃(l:HM) (ws:HF Ig),(cr kvs (ci p1 p2)).getD (.ref S3.length)=.ref l/\(S3++[O.lst [.int p3]])[l]?=gV (.lst (ab ws)):=by
    cases hg:cr kvs (ci p1 p2)with
    | none=>exact#[S3.length,[p3],rfl,ak]
    | some g=>
     obtain⟨u,v,l,ws,he,_,_,_,hl,_⟩:=(hm.ka k3) _ (ln hg);injection he with _ he
     subst he;exact#[l,ws,rfl,aq hl]
   obtain⟨l,ws,hl1,hl2⟩:=hres;dsimp only;rw[hl1];obtain⟨kb,hkb⟩:=yr (f:=p3) hl2;refine ac hkb ?_;dsimp only[wB];refine ar (Q0:=Q2) (λ_ Q3 _ hr3=>st (hr3 _ _ (hr _ _ (k _ _ (k3.trans .push))))) λ_ Q3 hn3 _=>bX (hn3 _ _ (hK _ _ (bX (hn _ _ #[#[_,_,_,rfl],aq e3,aq l3,k3.trans .push]))))
  ·rintro ρ S3 ⟨⟨x7,x8,x9,rfl⟩,e3,l3,k3⟩;exact hK _ _ (st (k _ _ k3))
end
noncomputable def DY (k:Ig):Wd:=[(0,[]),(0,[k]),(0,[k,k])]
theorem Bf:∀g∈[DY 0,DY 1],g∈aX 1 [0,1]:=by decide +kernel
noncomputable def yu (a k:Ig):Wd:=[(0,[]),(k,[0]),(a - 1,[0,0])]
theorem yv:∀k∈eG 2,yu 2 k∈aX 2 [0]:=by decide +kernel
theorem yw:∀k∈eG 3,yu 3 k∈aX 3 [0]:=by decide +kernel
theorem Bg {a x y:Ig}(h:yu a x=yu a y):x=y:=by
 unfold yu at h;injection h with _ h
 injection h with h _
 injection h
theorem BW {a n:HM}{m0 m1 m2 x y z:Ig}(h0:0<=m0/\m0 < a)(h1:0<=m1/\m1 < a)(h2:0<=m2/\m2 < a)(hx:0<=x/\x < n)(hy:0<=y/\y < n)(hz:0<=z/\z < n):GoodW a n [(m0,[]),(m1,[x]),(m2,[y,z])]:=by
 refine#[λk p h=>?_,λk p h=>?_,λk p h=>?_] <;> match k,h with
 | 0,h=>cases h; first|exact h0|rfl|(intro w hw; cases hw)
 | 1,h=>cases h; first|exact h1|rfl|(intro w hw; rw[Ip.mp hw]; exact hx)
 | 2,h=>cases h; first|exact h2|rfl|(intro w hw; rcases Iz.mp hw with e|hw <;> first|exact e ▸ hy|(rw[Ip.mp hw]; exact hz))
 | n+3,h=>simp at h
theorem Dw {Φ:Ik->FF}{ρ:Fm}{S:aa}{i n:HM}{Q:QW}(hv:∀Q:W->Prop,Q (.int n)->wV ρ i Q)(hn:n<=3)(k:∀j:Ig,0<=j->j<=27->j=(n:Ig)*n*n->Q (.int j,S)):wE Φ (.op .mul (.op .mul (.v i) (.v i)) (.v i)) ρ S Q:=by
 have b1 : -(2 ^ 64) < (n:Ig):=∅
 have b2:(n:Ig) < 2 ^ 64:=∅
 have hc:(n:Ig)*n*n<=27/\0<=(n:Ig)*n*n:=by rcases(show n=0\/n=1\/n=2\/n=3 by omega)with h|h|h|h <;> rw[h] <;> decide
 dsimp only[wE];have em:∀m:Ig,ip .mul (.int m) (.int n) S=gV (.int (m*n),S):=λm=>tL b1 b2
 generalize ip .mul=B at em ⊢;refine hv _ ?_;refine hv _ ?_;refine ac (em _) ?_;refine hv _ ?_;refine ac (em _) ?_;have:=k _ hc.2 hc.1 rfl;exact this
theorem yy {Φ:Ik->FF}{fuel:HM}{ρ:Fm}{S:aa}{K:Fm->aa->Prop}{Q:QO}{i0 i n:HM}{b:Ss}(hv:∀Q:W->Prop,Q (.int n)->wV ρ i Q)(hn:n<=3)(ok:gJ b=true)
  (h:∀j:Ig,0<=j->j<=27->j=(n:Ig)*n*n->∃I:HM->Fm->aa->Prop,I 0 ρ S/\(∀(i:HM) (ρ:Fm) (S:aa),(i:Ig) < j->I i ρ S->vG Φ fuel b (ρ.set i0 (gV (.int i))) S (I (i+1)) Q)/\∀ρ S,I j.toNat ρ S->K ρ S) :
  Wp (fY Φ fuel (.loop (.nm i0) (.rng #v[.op .mul (.op .mul (.v i) (.v i)) (.v i)]) b) ρ S) (qY K Q):=
 have hw:=Dw (Φ:=Φ) (S:=S) (Q:=λp=>∃(j:Ig) (I:HM->Fm->aa->Prop),p.1=.int j/\(-(2 ^ 62)<=j/\j < 2 ^ 62)/\I 0 ρ p.2/\(∀(i:HM) (ρ:Fm) (S:aa),(i:Ig) < j->I i ρ S->vG Φ fuel b (ρ.set i0 (gV (.int i))) S (I (i+1)) Q)/\∀ρ S,I j.toNat ρ S->K ρ S) hv hn λj j0 j27 e=>let ⟨I,h0,h1,h2⟩:=h j j0 j27 e; #[j,I,rfl,∅,h0,h1,h2]
 ll rfl ok hw
section
variable{defs:HF (Ik×Df)}{fuel d:HM}{S:aa}{r:HM}{Q:QW}
theorem yz (hfu:20 < fuel)(G:Gen defs)(hf:Fl S r)(k:∀w S',dz w->Fl S' r->Kp r S S'->Q (w,S')):wO (bj (ay defs fuel (d+7)) "_law_laying_rule" 1 [.ref r] S) Q:=by
 refine aB G.laying_rule rfl rfl λQ' hR=>?_
 replace k:∀w S',dz w->Fl S' r->Kp r S S'->Q' (.rt w,S'):=λz S' a b c=>hR _ _ (k z S' a b c)
 clear hR;show wZ _ _ cz [gV (.ref r),td,td,td,td,td,td,td,td,td,td,td,td,td,td] S Q';unfold cz;refine aW λK hK=>?_
 dsimp only[wS,wE,wA,wV,wG,HX];refine bn (d:=d+5) G.pick hf #v[] #v[] λv S1 v0 v7 f1 k1=>hK _ _ ?_
 clear hK K;refine aW λK hK=>?_
 dsimp only[wS,wT,wE,wV,wG,iF,aO,wB];refine ar (Q0:=Q') (λ_ Q2 _ hr=>?_) (λ_ Q2 hn _=>bX (hn _ _ (hK _ _ ?_)))
 ·refine st ?_;dsimp only[wS,wE,wA,wV,wG];exact qo (d:=d) hfu G f1 λw S2 a b c=>hr _ _ (k w S2 a b (k1.trans c))
 clear hK K hn;refine aW λK hK=>?_
 dsimp only[wS,wT,wE,wV,wG,iF,aO,wB];refine ar (Q0:=Q') (λ_ Q2 _ hr=>?_) (λ_ Q2 hn _=>bX (hn _ _ (hK _ _ ?_)))
 ·refine st ?_;dsimp only[wS,wE,wA,wV,wG];exact vh (d:=d) hfu G f1 λw S2 a b c=>hr _ _ (k w S2 a b (k1.trans c))
 clear hK K hn;have hr1:=f1.lt;refine aW λK hK=>?_
 dsimp only[wS,wE,wA,wV,wG];refine lQ (d:=d+4) G f1 λw2 S2 hw2 f2 k2=>?_
 obtain⟨bs0,q0,kvs0,most,rfl,hbs0,m1,m3,m6,hq0,hq0l,h40,hm0⟩:=hw2;dsimp only[wU];refine ac (show dv [2,3,4] [.tup (ab bs0),.ref q0,.int most] [gV (.ref r),gV (.int v),td,td,td,td,td,td,td,td,td,td,td,td,td]=gV [gV (.ref r),gV (.int v),gV (.tup (ab bs0)),gV (.ref q0),gV (.int most),td,td,td,td,td,td,td,td,td,td]from rfl) (hK _ _ ?_)
 clear hK K;refine aW λK hK=>?_
 dsimp only[wS,wE,wA,wV,wG,HX];refine bn (d:=d+5) G.pick f2 ∅ ∅ λv3 S3 v30 v3m f3 k3=>?_
 dsimp only[dR,aO];obtain⟨a,ea⟩ : ∃a:HM,1+v3=a:=#[(1+v3).toNat,∅]
 rw[ea];refine hK _ _ ?_;clear hK K;refine aW λK hK=>?_
 dsimp only[wS,wE,wA,wV,wG];refine r4 (d:=d+4) G (S0:=S1) hbs0 f3 hr1 (k2.trans k3) (k3.get _ _ ∅ hq0) hq0l h40 (hm0.kp hr1 k3) λbs q kvs S4 hb hbl hq hql hm f4 k4=>?_
 dsimp only[wU];refine ac (show dv [2,3] [.tup (ab bs),.ref q] [gV (.ref r),gV (.int v),gV (.tup (ab bs0)),gV (.ref q0),gV (.int most),gV (.int a),td,td,td,td,td,td,td,td,td]=gV [gV (.ref r),gV (.int v),gV (.tup (ab bs)),gV (.ref q),gV (.int most),gV (.int a),td,td,td,td,td,td,td,td,td]from rfl) (hK _ _ ?_)
 clear hK K;rw[<- hbl]at hm m6;have hn:bs.length=2\/bs.length=3:=by rw[hbl]; exact(yo bs0 hbs0).1
 have hsz:SizeOk a bs:=#[∅,hb,by
  have h1:(a:Ig)*bs.length<=most*bs.length:=Int.mul_le_mul_of_nonneg_right ∅ ∅
  exact_mod_cast Int.le_trans h1 m6,∅]
 clear m6 hm0 hq0 hq0l h40 hbl hbs0 k2 k3 f2 f3;refine aW λK hK=>?_
 dsimp only[wS,wE,wA,wV,wG,HX];refine fG (d:=d+1) hfu G f4 ∅ ∅ λms ns S5 hml hnl hnm f5 k5=>hK _ _ ?_
 clear hK K;have kk:Kp r S S5:=k1.trans (k4.trans k5);have hrt:=f5.lt;have hq5:S5[q]?=gV (.dic kvs):=k5.get _ _ ∅ hq
 have hm5:MustE S5 bs.length S1.length kvs:=hm.kp hr1 k5;have hqn:q < S5.length:=db hq5;clear k1 k4 k5 f4 hm hq hql f1;refine st ?_;dsimp only[wS,wE,HX];refine aW λK hK=>?_
 dsimp only[wS,wE,wA,wV,wG,HX];refine bo ?_;rw[show(ab bs).length=bs.length from HI ..]
 refine hK _ _ ?_;clear hK K;refine aW λK hK=>?_
 refine yy (n:=bs.length) (λQ q=>q) ∅ rfl λj j0 j27 hj=>?_
 refine#[(λ_ ρ S'=>(∃x9 x10 x11 x12 x13 x14,ρ=[gV (.ref r),gV (.int v),gV (.tup (ab bs)),gV (.ref q),gV (.int most),gV (.int a),gV (cK ms ns bs []),gV (.ref S5.length),gV (.int bs.length),x9,x10,x11,x12,x13,x14])/\(∃kvs fs,S'[S5.length]?=gV (.dic kvs)/\FigD (aX a bs) kvs fs)/\S'[q]?=gV (.dic kvs)/\MustE S' bs.length S1.length kvs/\Fl S' r/\Kp r S S'),#[#[_,_,_,_,_,_,rfl],#[[],[],ak,.nil],aq hq5,hm5.ka .push,f5.ka .push,kk.trans .push],?_,?_]
 ·rintro i ρ S6 hi ⟨⟨x9,x10,x11,x12,x13,x14,rfl⟩,⟨kvd,fs,e6,hd⟩,hq6,hm6,f6,k6⟩ Q2 hn2 _;clear hK k;have hnp:(0:Ig) < bs.length:=∅
  have hnb:(bs.length:Ig) < 1073741824:=∅
  have y1:0<=(i:Ig) % bs.length/\(i:Ig) % bs.length < bs.length:=#[Kl _ ∅,JX _ hnp]
  have y2:0<=(i:Ig) / bs.length % bs.length/\(i:Ig) / bs.length % bs.length < bs.length:=#[Kl _ ∅,JX _ hnp]
  have y3:0<=(i:Ig) / bs.length / bs.length/\(i:Ig) / bs.length / bs.length < bs.length:=by
   rcases hn with h|h <;> rw[h]at hj ⊢ <;> omega
  refine aW λK hK=>?_
  dsimp only[wS,wE,wA,wV,wG,HX];refine ac (kY hnp) (ac (oo hnp hnb) (ac (kY hnp) ?_));dsimp only[w2];refine hK _ _ ?_;clear hK K;refine aW λK hK=>?_
  dsimp only[wS,wE,wA,wV,wG,HX];refine ac (oo hnp hnb) (ac (oo hnp hnb) (hK _ _ ?_));clear hK K;dsimp only;generalize(i:Ig) % bs.length=z1 at y1 ⊢;generalize(i:Ig) / bs.length % bs.length=z2 at y2 ⊢;generalize(i:Ig) / bs.length / bs.length=z3 at y3 ⊢;refine aW λK hK=>?_
  dsimp only[wS,wT,wA,wE,wV,wG];refine yt (d:=d+4) G hb y1 y2 y3 hq6 hm6 λb S7 k7=>?_
  dsimp only[eQ,aO];refine ar (Q0:=Q2) (λ_ Q3 hn3 _=>?_) (λ_ Q3 hn3 _=>bX (hn3 _ _ (hK _ _ (bX (hn2 _ _ #[#[_,_,_,_,_,_,rfl],#[kvd,fs,k7.get _ _ e6,hd],k7.get _ _ hq6,hm6.ka k7,f6.ka k7,k6.trans (k7.kp r)])))))
  refine aW λK3 hK3=>?_
  refine fq rfl rfl ?_;dsimp only[wE,wA,wV,wG];have h56:S5.length < S6.length:=db e6;have h67:=k7.len;refine qm (d:=d+5) G (a:=a) ∅ λt ts S8 e8 ht ht7 k8=>?_
  refine#[t,ts.map ft,(λ_ ρ S'=>(∃x9 x13 x14,ρ=[gV (.ref r),gV (.int v),gV (.tup (ab bs)),gV (.ref q),gV (.int most),gV (.int a),gV (cK ms ns bs []),gV (.ref S5.length),gV (.int bs.length),x9,gV (.int z1),gV (.int z2),gV (.int z3),x13,x14])/\(∃kvs fs,S'[S5.length]?=gV (.dic kvs)/\FigD (aX a bs) kvs fs)/\S'[q]?=gV (.dic kvs)/\MustE S' bs.length S1.length kvs/\S'[t]?=gV (.lst (ts.map ft))/\Fl S' r/\Kp r S S'),rfl,#[#[_,_,_,rfl],#[kvd,fs,k8.get _ _ (k7.get _ _ e6),hd],k8.get _ _ (k7.get _ _ hq6),(hm6.ka k7).ka k8,e8,(f6.ka k7).ka k8,k6.trans ((k7.trans k8).kp r)],λi ρ S' h=>h.2.2.2.2.1,?_,?_]
  ·rintro j w ρ S9 hw ⟨⟨x9,x13,x14,rfl⟩,⟨kvd,fs,e9,hd⟩,hq9,hm9,ht9,f9,k9⟩;clear hK3 hn3 hK hn2;rw[HS,HJ]at hw;obtain⟨⟨tr1,tr2,tr3⟩,htr,rfl⟩:=hw;obtain⟨t1,t2,t3⟩:=ht _ (Ij htr);refine ac (show gI (.nm 13) (ft (tr1,tr2,tr3)) [gV (.ref r),gV (.int v),gV (.tup (ab bs)),gV (.ref q),gV (.int most),gV (.int a),gV (cK ms ns bs []),gV (.ref S5.length),gV (.int bs.length),x9,gV (.int z1),gV (.int z2),gV (.int z3),x13,x14] S9=gV ([gV (.ref r),gV (.int v),gV (.tup (ab bs)),gV (.ref q),gV (.int most),gV (.int a),gV (cK ms ns bs []),gV (.ref S5.length),gV (.int bs.length),x9,gV (.int z1),gV (.int z2),gV (.int z3),gV (ft (tr1,tr2,tr3)),x14],S9)from rfl) λQ4 hn4 _=>?_
   have hu:GoodW a bs.length [(tr1,[]),(tr2,[z1]),(tr3,[z2,z3])]:=BW t1 t2 t3 y1 y2 y3;refine aW λK hK=>?_
   dsimp only[wS,wE,wA,wV,wG,HX];refine ah #v[] rfl (ah #v[] rfl (hK _ _ ?_))
   clear hK K;refine st ?_;dsimp only[wS,wE,wA,wV,wG];refine ah #v[] rfl (ac (dO (gc rfl)) ?_)
   refine gd (d:=d+3) (m0:=.tup (ms.map W.str)) (b0:=.tup []) (u:=[(tr1,[]),(tr2,[z1]),(tr3,[z2,z3])]) G hb hnl hu rfl λS10 k10=>?_
   have e10:=k10.get _ _ e9;exact t9 e10 hd hsz hu rfl λo ho=>bX (hn4 _ _ #[#[_,_,_,rfl],ho,by rw[cg ∅]; exact k10.get _ _ hq9,(hm9.ka k10).set e10,by rw[cg ∅]; exact k10.get _ _ ht9,(f9.ka k10).own hrt,(k9.trans (k10.kp r)).late kk.len])
  ·rintro ρ S9 ⟨⟨x9,x13,x14,rfl⟩,hdd,hq9,hm9,ht9,f9,k9⟩;exact hK3 _ _ (bX (hn3 _ _ (hK _ _ (bX (hn2 _ _ #[#[_,_,_,_,_,_,rfl],hdd,hq9,hm9,f9,k9])))))
 ·rintro ρ S6 ⟨⟨x9,x10,x11,x12,x13,x14,rfl⟩,⟨kvd,fs,e6,hd⟩,hq6,hm6,f6,k6⟩;refine hK _ _ (st ?_);dsimp only[wS,wE,wA,wV,wG];exact t8 (Q:=λp=>Q' (.rt p.1,p.2)) e6 hd hsz hml hnl hnm λw S8 hw k8=>k w S8 hw (f6.ka k8) (k6.trans (k8.kp r))
end
section
variable{defs:HF (Ik×Df)}{fuel d:HM}{S:aa}{r:HM}{Q:QW}
theorem r6 (hfu:20 < fuel)(G:Gen defs)(hun:Is defs ("_law_unlaying_rule" : Ik) 1 10 bE)(hf:Fl S r)(k:∀w S',dz w->Fl S' r->Kp r S S'->Q (w,S')):wO (bj (ay defs fuel (d+6)) "_law_unlaying_rule" 1 [.ref r] S) Q:=by
 refine aB hun rfl rfl λQ' hR=>?_
 replace k:∀w S',dz w->Fl S' r->Kp r S S'->Q' (.rt w,S'):=λz S' a b c=>hR _ _ (k z S' a b c)
 clear hR;show wZ _ _ bE [gV (.ref r),td,td,td,td,td,td,td,td,td] S Q';unfold bE;refine aW λK hK=>?_
 dsimp only[wS,wE,wA,wV,wG,HX];refine bn (d:=d+4) G.pick hf #v[] #v[] λv S1 v0 v7 f1 k1=>hK _ _ ?_
 clear hK K;have hlt:=f1.lt;refine aW λK hK=>?_
 dsimp only[wS,wT,wE,wV,wG,iF,aO,wB];refine ar (Q0:=Q') (λ_ Q2 _ hr=>?_) (λ_ Q2 hn _=>bX (hn _ _ (hK _ _ ?_)))
 ·
  refine st ?_;dsimp only[wS,wE,wA,wV,wG];refine dX 2 (λi zs ρ2 S2=>(∃a1,ρ2=[td,a1])/\zs=([DY 0,DY 1].take i).map aG/\S2=S1) rfl rfl rfl #v[] #[rfl,#[td,rfl],rfl,rfl] ?_ ?_
  ·rintro i zs ρ2 S2 hi ⟨⟨a1,rfl⟩,rfl,rfl⟩;clear k hr hK;dsimp only[jf,wC,wE,wA,wV,wG,HX];refine#[λ_=>#[#[_,rfl],?_,rfl],λz=>by cases z]
   rcases(show i=0\/i=1 by omega)with h|h
   ·subst h; rfl
   ·subst h; rfl
  ·rintro zs ρ2 S2 ⟨_,rfl,rfl⟩;refine#[gc rfl,?_];refine gz (d:=d) (a:=1) (bs:=[0,1]) (us:=[DY 0,DY 1]) hfu G (f1.ka .push) #v[] #v[] (λS' kk=>?_) #v[] #v[] λms ns S3 hml hnl hnm f3 k3=>?_
   ·simp only[eh,bc (kk.get _ _ ∅ ak)]; rfl
   exact hr _ _ (k _ _ #[1,[0,1],ms,ns,_,rfl,#[#[#v[],.inr (.inl rfl),#v[],#v[]],hml,hnl,hnm,#v[],Bf]] f3 (k1.trans (Kp.push.trans k3)))
 clear hK K hn;refine aW λK hK=>?_
 dsimp only[wS,wT,wE,wV,wG,iF,aO,wB];refine ar (Q0:=Q') (λ_ Q2 _ hr=>?_) (λ_ Q2 hn _=>bX (hn _ _ (hK _ _ ?_)))
 ·
  clear hK;refine aW λK hK=>?_
  dsimp only[wS,wE,wA,wV,wG,HX];refine fG (d:=d) (a:=2) (bs:=[0,1]) hfu G f1 #v[] #v[] λms ns S3 hml hnl hnm f3 k3=>hK _ _ ?_
  clear hK K;have hsz:SizeOk 2 [0,1]:=#[#v[],.inr (.inl rfl),#v[],#v[]]
  have hrt:=f3.lt;have kk:Kp r S S3:=k1.trans k3;refine st ?_;dsimp only[wS,wE,HX];refine aW λK hK=>?_
  refine fq rfl rfl ?_;dsimp only[wE,wA,wV,wG];refine qm (d:=d+4) G (a:=2) #v[] λq ts S4 e4 ht hq k4=>?_
  have hq':S3.length < q:=by simp only[HQ,IW,JK]at hq; omega
  refine#[q,ts.map ft,(λ_ ρ S'=>(∃x4 x5 x6 x7 x8 x9,ρ=[gV (.ref r),gV (.int v),gV (cK ms ns [0,1] []),gV (.ref S3.length),x4,x5,x6,x7,x8,x9])/\(∃kvs fs,S'[S3.length]?=gV (.dic kvs)/\FigD (aX 2 [0,1]) kvs fs)/\S'[q]?=gV (.lst (ts.map ft))/\Fl S' r/\Kp r S S'),rfl,#[#[_,_,_,_,_,_,rfl],#[[],[],k4.get _ _ ak,.nil],e4,(f3.ka .push).ka k4,(kk.trans .push).trans (k4.kp r)],λi ρ S' h=>h.2.2.1,?_,?_]
  ·rintro i w ρ S5 hw ⟨⟨x4,x5,x6,x7,x8,x9,rfl⟩,⟨kvs,fs,e5,hd⟩,hq5,f5,k5⟩;clear hK;rw[HS,HJ]at hw;obtain⟨⟨tr1,tr2,tr3⟩,htt,rfl⟩:=hw;obtain⟨t1,t2,t3⟩:=ht _ (Ij htt);have h53:S3.length < S5.length:=db e5;have hq5l:q < S5.length:=db hq5;refine ac (show gI (.nm 4) (ft (tr1,tr2,tr3)) [gV (.ref r),gV (.int v),gV (cK ms ns [0,1] []),gV (.ref S3.length),x4,x5,x6,x7,x8,x9] S5=gV ([gV (.ref r),gV (.int v),gV (cK ms ns [0,1] []),gV (.ref S3.length),gV (ft (tr1,tr2,tr3)),x5,x6,x7,x8,x9],S5)from rfl) λQ3 hn3 _=>?_
   refine aW λK hK=>?_
   refine fq rfl rfl ?_;dsimp only[wE,wA,wV,wG];refine#[S5.length,[(1,1,0),(1,1,1),(1,0,1),(0,1,1)].map ft,(λ_ ρ S'=>(∃x5 x6 x7 x8 x9,ρ=[gV (.ref r),gV (.int v),gV (cK ms ns [0,1] []),gV (.ref S3.length),gV (ft (tr1,tr2,tr3)),x5,x6,x7,x8,x9])/\(∃kvs fs,S'[S3.length]?=gV (.dic kvs)/\FigD (aX 2 [0,1]) kvs fs)/\S'[q]?=gV (.lst (ts.map ft))/\S'[S5.length]?=gV (.lst ([(1,1,0),(1,1,1),(1,0,1),(0,1,1)].map ft))/\Fl S' r/\Kp r S S'),rfl,#[#[_,_,_,_,_,rfl],#[kvs,fs,aq e5,hd],aq hq5,ak,f5.ka .push,k5.trans .push],λi ρ S' h=>h.2.2.2.1,?_,?_]
   ·rintro i w ρ S6 hw ⟨⟨x5,x6,x7,x8,x9,rfl⟩,⟨kvs,fs,e6,hd⟩,hq6,hl6,f6,k6⟩;clear hK hn3;rw[HS,HJ]at hw;obtain⟨⟨y1,y2,y3⟩,hy,rfl⟩:=hw;have hy':(0<=y1/\y1 < 2)/\(0<=y2/\y2 < 2)/\(0<=y3/\y3 < 2):=by
     have:∀p∈([(1,1,0),(1,1,1),(1,0,1),(0,1,1)]:HF (Ig×Ig×Ig)),(0<=p.1/\p.1 < 2)/\(0<=p.2.1/\p.2.1 < 2)/\(0<=p.2.2/\p.2.2 < 2):=by decide
     exact this _ (Ij hy)
    refine ac (show gI (.tp [5,6,7]) (ft (y1,y2,y3)) [gV (.ref r),gV (.int v),gV (cK ms ns [0,1] []),gV (.ref S3.length),gV (ft (tr1,tr2,tr3)),x5,x6,x7,x8,x9] S6=gV ([gV (.ref r),gV (.int v),gV (cK ms ns [0,1] []),gV (.ref S3.length),gV (ft (tr1,tr2,tr3)),gV (.int y1),gV (.int y2),gV (.int y3),x8,x9],S6)from rfl) λQ4 hn4 _=>?_
    refine aW λK hK=>?_
    dsimp only[wS,wE,wA,wV,wG,HX];refine ah #v[] rfl (ah #v[] rfl (hK _ _ ?_))
    clear hK K;have hu:GoodW 2 2 [(tr1,[]),(tr2,[y1]),(tr3,[y2,y3])]:=BW t1 t2 t3 hy'.1 hy'.2.1 hy'.2.2;refine st ?_;dsimp only[wS,wE,wA,wV,wG];refine ah #v[] rfl (ac (dO (gc rfl)) ?_)
    refine gd (d:=d+2) (m0:=.tup (ms.map W.str)) (b0:=.tup []) (bs:=[0,1]) (u:=[(tr1,[]),(tr2,[y1]),(tr3,[y2,y3])]) G (.inr (.inl rfl)) hnl hu rfl λS7 k7=>?_
    have e7:=k7.get _ _ e6;exact t9 e7 hd hsz hu rfl λo ho=>bX (hn4 _ _ #[#[_,_,_,_,_,rfl],ho,by rw[cg ∅]; exact k7.get _ _ hq6,by rw[cg ∅]; exact k7.get _ _ hl6,(f6.ka k7).own hrt,(k6.trans (k7.kp r)).late kk.len])
   ·rintro ρ S6 ⟨⟨x5,x6,x7,x8,x9,rfl⟩,hdd,hq6,hl6,f6,k6⟩;exact hK _ _ (bX (hn3 _ _ #[#[_,_,_,_,_,_,rfl],hdd,hq6,f6,k6]))
  ·rintro ρ S5 ⟨⟨x4,x5,x6,x7,x8,x9,rfl⟩,⟨kvs,fs,e5,hd⟩,hq5,f5,k5⟩;refine hK _ _ (st ?_);dsimp only[wS,wE,wA,wV,wG];exact t8 (Q:=λp=>Q2 (.rt p.1,p.2)) e5 hd hsz hml hnl hnm λw S8 hw k8=>hr _ _ (k w S8 hw (f5.ka k8) (k5.trans (k8.kp r)))
 clear hK K hn;refine aW λK hK=>?_
 dsimp only[wS,wE,wA,wV,wG,HX];refine bn (d:=d+4) G.pick f1 #v[] #v[] λv2 S2 v20 v22 f2 k2=>?_
 dsimp only[dR,aO];obtain⟨a,ea⟩ : ∃a:HM,2+v2=a:=#[(2+v2).toNat,∅]
 rw[ea];have ha:a=2\/a=3:=∅
 refine hK _ _ ?_;clear hK K;refine aW λK hK=>?_
 dsimp only[wS,wE,HX];refine dX (a:Ig) (λi zs ρ2 S3=>(∃a1,ρ2=[td,a1,gV (.int a)])/\zs=((eG i).map (yu a)).map aG/\S3=S2) rfl rfl rfl ∅ #[rfl,#[td,rfl],rfl,rfl] ?_ ?_
 ·rintro i zs ρ2 S3 hi ⟨⟨a1,rfl⟩,rfl,rfl⟩;dsimp only[jf,wC,wE,wA,wV,wG,HX,mU,aO];refine#[λ_=>#[#[_,rfl],?_,rfl],λz=>by cases z]
  simp[eG,Km,yu,aG,bB]
 ·rintro zs ρ2 S3 ⟨_,rfl,rfl⟩;rw[HY];have hul:(eG a).length=a:=by simp[eG]
  refine#[lP (by rw[HI,HI,hul]; omega),hK _ _ (st ?_)]
  clear hK K;dsimp only[wS,wE,wA,wP,wV,wG];refine bn (d:=d+4) G.pick (f2.ka .push) ∅ ∅ λv4 S4 v40 v4a f4 k4=>?_
  dsimp only[dR,aO,wN];obtain⟨mm,em⟩ : ∃mm:HM,1+v4=mm:=#[(1+v4).toNat,∅]
  rw[em];have hlt2:=f2.lt;have e4:S4[S3.length]?=gV (.lst (((eG a).map (yu a)).map aG)):=k4.get _ _ ∅ ak
  have hsl:nI (.ref S3.length) td (gV (mm:Ig)) S4=gV (.ref S4.length,S4++[.lst ((((eG a).map (yu a)).take mm).map aG)]):=by
   simp only[nI,bc e4,fj,Lz]
  refine ac hsl ?_;have hlt4:=f4.lt;have hmem:∀g∈((eG a).map (yu a)).take mm,g∈aX a [0]:=λg hg=>by
   obtain⟨x,hx,rfl⟩:=Ir.mp (LB hg);rcases ha with rfl|rfl
   ·exact yv x hx
   ·exact yw x hx
  refine gz (d:=d) (a:=a) (bs:=[0]) (us:=((eG a).map (yu a)).take mm) hfu G (f4.ka .push) ∅ #v[] (λS' kk=>?_) (by rw[IN,HI,hul]; omega) (λu hu=>qk (hmem u hu)) λms ns S5 hml hnl hnm f5 k5=>?_
  ·simp only[eh,bc (kk.get _ _ ∅ ak)]
  refine k _ _ #[a,[0],ms,ns,_,rfl,#[#[∅,iJ,by simp; omega,∅],hml,hnl,hnm,?_,hmem]] f5 (k1.trans (k2.trans (Kp.push.trans (k4.trans (Kp.push.trans k5)))))
  refine PN (NF _ _) ?_;unfold PM eG;rw[KN,KN];exact(Oe (n:=a)).imp λh e=>h (by have:=Bg e; omega)
end
noncomputable def Tr:HM->W->Prop
 | _,.int _=>Ny
 | _,.str _=>Ny
 | _,.non=>Ny
 | n+1,.tup xs=>xs.length<=1000/\∀x∈xs,Tr n x
 | _,_=>Jq
theorem mZ:∀n:HM,hW (IJ n (.bl true))=gV (IJ n true)
 | 0=>rfl
 | n+1=>by rw[JD,hW,mZ n]; rfl
theorem Bh (n:HM):(IJ n true).all id=true:=by
 rw[IB];intro x hx;rw[(List.mem_replicate.mp hx).2]; rfl
section
variable{defs:HF (Ik×Df)}{fuel:HM}
theorem Bj (hg:Is defs ("_law_alike" : Ik) 2 2 cC):∀(n d:HM) (w:W) (S:aa) (Q:QW),Tr n w->(∀S',Ka S S'->Q (.bl true,S'))->wO (bj (ay defs fuel (d+n+1)) "_law_alike" 2 [w,w] S) Q:=by
 intro n
 induction n with
 | zero=>
  intro d w S Q hw k;refine aB hg rfl rfl λQ' hR=>?_
  replace k:=hR _ _ (k S .refl);clear hR;show wZ _ _ cC [gV w,gV w] S Q';dsimp only[cC];cases w with
  | int x=>
   refine aW λK hK=>dt (λQ q=>q) (hK _ _ ?_)
   refine aW λK hK=>dt (λQ q=>#[λz=>(by cases z),λ_=>q]) (hK _ _ ?_)
   refine aW λK hK=>lc (λQ q=>q) λQ2 _ hr=>st ?_
   dsimp only[wS,wE,wV,wG];refine ac (show xp S (.int x) "int" = gV true from rfl) #[λ_=>?_,λz=>by cases z]
   dsimp only[iF,aO];rw[Jh];exact hr _ _ k
  | str x=>
   refine aW λK hK=>dt (λQ q=>q) (hK _ _ ?_)
   refine aW λK hK=>dt (λQ q=>#[λz=>(by cases z),λ_=>q]) (hK _ _ ?_)
   refine aW λK hK=>dt (λQ q=>q) (hK _ _ ?_)
   refine aW λK hK=>lc (λQ q=>q) λQ2 _ hr=>st ?_
   dsimp only[wS,wE,wV,wG];refine ac (show xp S (.str x) "str" = gV true from rfl) #[λ_=>?_,λz=>by cases z]
   dsimp only[BM,aO];rw[Jh];exact hr _ _ k
  | non=>
   refine aW λK hK=>lc (λQ q=>q) λQ2 _ hr=>st ?_
   dsimp only[wS,wE,wV,wG];exact ac (show ce .is .non .non S=gV (.bl true,S)from rfl) (hr _ _ k)
  | _=>exact hw.elim
 | succ n ih=>
  intro d w S Q hw k;refine aB hg rfl rfl λQ' hR=>?_
  replace k:∀S',Ka S S'->Q' (.rt (.bl true),S'):=λS' a=>hR _ _ (k S' a)
  clear hR;show wZ _ _ cC [gV w,gV w] S Q';dsimp only[cC];cases w with
  | int x=>
   refine aW λK hK=>dt (λQ q=>q) (hK _ _ ?_)
   refine aW λK hK=>dt (λQ q=>#[λz=>(by cases z),λ_=>q]) (hK _ _ ?_)
   refine aW λK hK=>lc (λQ q=>q) λQ2 _ hr=>st ?_
   dsimp only[wS,wE,wV,wG];refine ac (show xp S (.int x) "int" = gV true from rfl) #[λ_=>?_,λz=>by cases z]
   dsimp only[iF,aO];rw[Jh];exact hr _ _ (k _ .refl)
  | str x=>
   refine aW λK hK=>dt (λQ q=>q) (hK _ _ ?_)
   refine aW λK hK=>dt (λQ q=>#[λz=>(by cases z),λ_=>q]) (hK _ _ ?_)
   refine aW λK hK=>dt (λQ q=>q) (hK _ _ ?_)
   refine aW λK hK=>lc (λQ q=>q) λQ2 _ hr=>st ?_
   dsimp only[wS,wE,wV,wG];refine ac (show xp S (.str x) "str" = gV true from rfl) #[λ_=>?_,λz=>by cases z]
   dsimp only[BM,aO];rw[Jh];exact hr _ _ (k _ .refl)
  | tup xs=>
   obtain⟨hl,hx⟩:=hw;refine aW λK hK=>dt (λQ q=>q) (hK _ _ ?_)
   refine aW λK hK=>dt (λQ q=>#[λz=>(by cases z),λ_=>q]) (hK _ _ ?_)
   refine aW λK hK=>dt (λQ q=>q) (hK _ _ ?_)
   refine aW λK hK=>dt (λQ q=>q) (hK _ _ ?_)
   refine aW λK hK=>dt (λQ q=>#[λz=>(by cases z),λ_=>q]) (hK _ _ ?_)
   refine st ?_;dsimp only[wS,wE,wA,wV,wG];refine bo (bo ?_);dsimp only[iF,aO,wB];rw[Jh];refine#[λ_=>?_,λz=>by cases z]
   refine dX (xs.length:Ig) (λi ys ρ2 S2=>(∃a1,ρ2=[td,a1,gV (.tup xs),gV (.tup xs)])/\ys=IJ i (.bl true)/\Ka S S2) rfl rfl rfl ∅ ?_ ?_ ?_
   ·dsimp only[wE,wA,wV,wG];exact bo #[rfl,#[td,rfl],rfl,.refl]
   ·rintro i ys ρ2 S2 hi ⟨⟨a1,rfl⟩,rfl,k2⟩;have hi':i < xs.length:=∅
    dsimp only[jf,wC,wE,wA,wV,wG,HX];refine#[λ_=>ah (HV i) (by rw[HY]; exact Ic hi') (ah (HV i) (by rw[HY]; exact Ic hi') (ih d _ _ _ (hx _ (IX hi')) λS3 k3=>#[#[_,rfl],?_,k2.trans k3])),λz=>by cases z]
    rw[List.replicate_succ']
   ·rintro ys ρ2 S2 ⟨_,rfl,k2⟩;rw[HY];refine#[lP (by rw[Lq]; exact hl),ac (a:=(.bl true,S2++[.lst (IJ xs.length (.bl true))])) ?_ (k _ (k2.trans .push))]
    simp only[Bi.fn,CJ,bc ak,mZ,IR,Bh]
  | non=>
   refine aW λK hK=>lc (λQ q=>q) λQ2 _ hr=>st ?_
   dsimp only[wS,wE,wV,wG];exact ac (show ce .is .non .non S=gV (.bl true,S)from rfl) (hr _ _ (k _ .refl))
  | _=>exact hw.elim
end
noncomputable def ue:Ss:=
 #v[.ite (.cmp .gt (.v 2) (.v 3)) #v[.ret (.ix (.ix (.ix (.v 1) (.v 2)) (.c (.int 1))) (.v 3))] .nil,.ret (.ix (.ix (.ix (.v 0) (.c (.int 1))) (.ix (.ix (.ix (.v 1) (.v 3)) (.c (.int 1))) (.v 2))) (.c (.int 1)))]
noncomputable def jl:Ss:=
 #v[.ret (.bi .tuple #v[.comp (.own "point_over" 4 #v[.v 4,.v 5,.sl (.v 3) .no (.yes (.v 1)),.v 2]) (.tp [1,2]) (.enu #v[.v 2]) .nil [td,td,td,gV 2,gV 0,gV 1]])]
noncomputable def d4:Ss:=
 #v[.ret (.tup #v[.ix (.ix (.v 1) (.v 3)) (.c (.int 0)),.bi .tuple #v[.comp (.own "way" 4 #v[.v 3,.v 4,.v 2,.v 1]) (.nm 1) (.seq (.v 2)) .nil [td,td,gV 3,gV 0,gV 1]]])]
section
variable{defs:HF (Ik×Df)}{fuel d:HM}{S:aa}{r:HM}{Q:QW}
theorem yA {Φ:Ik->FF}{m0 b0:W}{ns:HF Ik}{bs:HF Ig}{a:HM}{u:Wd}{i j:HM}{Q:QO}(hb:GoodB bs)(hl:ns.length=bs.length)(hu:GoodW a bs.length u)(hi:i < u.length)(hj:j < u.length)(hij:i≠j)(k:Q (.rt (.int (cD bs u i j)),S)) :
  wZ Φ fuel ue [gV (.tup [m0,.tup (Il bp ns bs),b0]),gV (aG u),gV (.int i),gV (.int j)] S Q:=by
 have hpi:=az (d:=(0,[])) hi;have hpj:=az (d:=(0,[])) hj;unfold cD at k;dsimp only[ue];refine aW λK hK=>?_
 dsimp only[wS,wT,wE,wV,wG,Dq,wO,wB,aG];refine ar (Q0:=Q) (λh Q2 _ hr=>?_) (λh Q2 hn _=>?_)
 ·have hji:j < i:=by have:=Jg h; omega
  rw[Iw hji]at k;have hw:j < (u.getD i (0,[])).2.length:=by rw[hu.len i _ hpi]; exact hji
  refine st ?_;dsimp only[wS,wE,wV,wG];refine ah (HV i) (dG hi) (ah #v[] rfl (ah (HV j) ?_ (hr _ _ k)))
  rw[HY,HS,az (d:=0) hw]; rfl
 ·have hji:¬ j < i:=by have:=Le h; omega
  rw[IH hji]at k;refine bX (hn _ _ (hK _ _ ?_));clear hn hK;have hw:i < (u.getD j (0,[])).2.length:=by rw[hu.len j _ hpj]; omega
  have hg:=az (d:=0) hw;obtain⟨g1,g2⟩:=hu.way j _ hpj _ (Ij hg);obtain⟨b,hb1,hb2,hb3⟩:=hb.rng ((u.getD j (0,[])).2.getD i 0).toNat ∅
  have hn:((u.getD j (0,[])).2.getD i 0).toNat < ns.length:=∅
  rw[getD_some hb1]at k;refine st ?_;dsimp only[wS,wE,wV,wG];refine ah #v[] rfl (ah (HV j) (dG hj) (ah #v[] rfl (ah (HV i) ?_ (ah g1 (jh (Ic hn) hb1) (ah #v[] rfl k)))))
  rw[HY,HS,hg]; rfl
structure Parts (defs:HF (Ik×Df)):Prop where
 way:Is defs ("way" : Ik) 4 4 ue
 over:Is defs ("point_over" : Ik) 4 4 d4
theorem FH (P:Parts defs){m0 b0:W}{ns:HF Ik}{bs:HF Ig}{a:HM}{u:Wd}{i j:HM}(hb:GoodB bs)(hl:ns.length=bs.length)(hu:GoodW a bs.length u)(hi:i < u.length)(hj:j < u.length)(hij:i≠j)(k:Q (.int (cD bs u i j),S)) :
  wO (bj (ay defs fuel (d+1)) "way" 4 [.tup [m0,.tup (Il bp ns bs),b0],aG u,.int i,.int j] S) Q:=
 aB P.way rfl rfl λQ' hR=>yA hb hl hu hi hj hij (hR _ _ k)
theorem Dx (P:Parts defs){m0 b0:W}{ns:HF Ik}{bs:HF Ig}{a:HM}{u:Wd}{ps:HF HM}{i:HM}(hb:GoodB bs)(hl:ns.length=bs.length)(hu:GoodW a bs.length u)(hps:∀p∈ps,p < u.length/\i≠p)(hi:i < u.length)(hsz:ps.length<=1000)(k:∀S',Ka S S'->Q (bB ((u.getD i (0,[])).1,ps.map λq=>cD bs u i q),S')) :
  wO (bj (ay defs fuel (d+2)) "point_over" 4 [.tup [m0,.tup (Il bp ns bs),b0],aG u,.tup (aI ps),.int i] S) Q:=by
 refine aB P.over rfl rfl λQ' hR=>?_
 replace k:∀S',Ka S S'->Q' (.rt (bB ((u.getD i (0,[])).1,ps.map λq=>cD bs u i q)),S'):=λS' a=>hR _ _ (k S' a)
 clear hR;show wZ _ _ d4 [gV (.tup [m0,.tup (Il bp ns bs),b0]),gV (aG u),gV (.tup (aI ps)),gV (.int i)] S Q';generalize hR0:W.tup [m0,.tup (Il bp ns bs),b0]=R;dsimp only[d4];refine st ?_;dsimp only[wS,wE,wA,wV,wG];refine ah (HV i) (dG hi) (ah #v[] rfl ?_)
 refine tQ (aI ps) (λj ys ρ2 S2=>(∃a1,ρ2=[td,a1,gV (.int i),gV R,gV (aG u)])/\ys=(ps.take j).map (λq=>W.int (cD bs u i q))/\Ka S S2) rfl rfl rfl #[rfl,#[td,rfl],rfl,.refl] ?_ ?_
 ·rintro j w ys ρ2 S2 hw ⟨⟨a1,rfl⟩,rfl,k2⟩;unfold aI at hw;rw[HS,HJ]at hw;obtain⟨q,hq,rfl⟩:=hw;obtain⟨hqu,hqi⟩:=hps q (Ij hq);refine ac (show gI (.nm 1) (.int (q:Ig)) [td,a1,gV (.int i),gV R,gV (aG u)] S2=gV ([td,gV (.int (q:Ig)),gV (.int i),gV R,gV (aG u)],S2)from rfl) ?_
  dsimp only[jf,wC,wE,wA,wV,wG];subst hR0;refine#[λ_=>FH (d:=d) P hb hl hu hi hqu hqi #[#[_,rfl],?_,k2],λz=>by cases z]
  rw[Jb,hq];simp
 ·rintro ys ρ2 S2 ⟨_,rfl,k2⟩;rw[show(aI ps).length=ps.length from HI ..,Jm]
  refine#[lP (by rw[HI]; exact hsz),fg ak ?_]
  have:=k _ (k2.trans (Ka.push (o:=O.lst (ps.map λq=>W.int (cD bs u i q)))))
  unfold bB at this;rw[J8]at this;exact this
theorem FJ (P:Parts defs)(hp:Is defs ("part" : Ik) 3 3 jl){m0 b0:W}{ns:HF Ik}{bs:HF Ig}{a:HM}{u:Wd}{ps:HF HM}(hb:GoodB bs)(hl:ns.length=bs.length)(hu:GoodW a bs.length u)(hps:∀p∈ps,p < u.length)(hnd:ps.Nodup)(hsz:ps.length<=1000)(k:∀S',Ka S S'->Q (aG (au bs u ps),S')) :
  wO (bj (ay defs fuel (d+3)) "part" 3 [.tup [m0,.tup (Il bp ns bs),b0],aG u,.tup (aI ps)] S) Q:=by
 refine aB hp rfl rfl λQ' hR=>?_
 replace k:∀S',Ka S S'->Q' (.rt (aG (au bs u ps)),S'):=λS' a=>hR _ _ (k S' a)
 clear hR;show wZ _ _ jl [gV (.tup [m0,.tup (Il bp ns bs),b0]),gV (aG u),gV (.tup (aI ps))] S Q';generalize hR0:W.tup [m0,.tup (Il bp ns bs),b0]=R;dsimp only[jl];refine st ?_;dsimp only[wS,wE,wA];refine AS (aI ps) (λj ys ρ2 S2=>(∃a1 a2,ρ2=[td,a1,a2,gV (.tup (aI ps)),gV R,gV (aG u)])/\ys=((au bs u ps).take j).map bB/\Ka S S2) rfl rfl rfl #[rfl,#[td,td,rfl],rfl,.refl] ?_ ?_
 ·rintro j w ys ρ2 S2 hw ⟨⟨a1,a2,rfl⟩,rfl,k2⟩;unfold aI at hw;rw[HS,HJ]at hw;obtain⟨q,hq,rfl⟩:=hw;have hj:j < ps.length:=(Ii.mp hq).1;have eq:q=ps[j]:=(Ii.mp hq).2.symm;refine ac (show gI (.tp [1,2]) (.tup [.int (j:Ig),.int (q:Ig)]) [td,a1,a2,gV (.tup (aI ps)),gV R,gV (aG u)] S2=gV ([td,gV (.int (j:Ig)),gV (.int (q:Ig)),gV (.tup (aI ps)),gV R,gV (aG u)],S2)from rfl) ?_
  dsimp only[jf,wC,wE,wA,wP,wV,wG,wN];refine#[λ_=>ac (a:=(.tup (aI (ps.take j)),S2)) ?_ ?_,λz=>by cases z]
  ·simp only[nI,fj];unfold aI;rw[Lz]
  ·subst hR0;refine Dx (d:=d) P hb hl hu (λp hp=>#[hps p (LB hp),?_]) (hps q (Ij hq)) (by rw[IN]; omega) λS3 k3=>#[#[_,_,rfl],?_,k2.trans k3]
   ·obtain⟨m,hm,e⟩:=KW.mp hp;rw[IN]at hm;rw[Lp]at e;rw[eq,<- e];intro z;have:=(Kb hnd).mp z;omega
   ·have ep:(au bs u ps)[j]?=gV ((u.getD q (0,[])).1,(ps.take j).map λq'=>cD bs u q q'):=by
     unfold au;rw[HS,Kx hj,IR,getD_some hq]
    rw[Jb,ep];simp
 ·rintro ys ρ2 S2 ⟨_,rfl,k2⟩;rw[show(aI ps).length=ps.length from HI ..,<- bq bs u ps,Jm]
  exact#[lP (by rw[HI,bq]; exact hsz),fg ak (k _ (k2.trans .push))]
end
noncomputable def jR (bs:HF Ig)(v:Wd)(ps:HF HM)(i:HM):Pt:=((v.getD i (0,[])).1,ps.map λq=>cD bs v i q)
noncomputable def cL (n:HM)(os:HF (HF HM)):HF (HF HM):=os.flatMap λo=>((Im n).filter λp=>decide (p∉o)).map λp=>o++[p]
theorem gB (bs:HF Ig)(v:Wd)(o:HF HM)(p:HM):au bs v (o++[p])=au bs v o++[jR bs v o p]:=by
 unfold au jR;rw[HQ,Jx,Km,IA];congr 1
 ·refine Jw λk hk=>?_
  have hk:=IT.mp hk;rw[show(o++[p]).getD k 0=o.getD k 0 by simp[IQ hk],List.take_append_of_le_length ∅]
 ·simp
theorem r8 {xs:HF Ig}{k:HM}(h:xs.length=k):(Im k).map (λq=>xs.getD q 0)=xs:=by
 apply KY
 ·simp[h]
 ·intro i h1 h2; simp[h2]
theorem vo {bs:HF Ig}{a n:HM}{u:Wd}{k:HM}(hu:GoodW a n u)(hk:k < u.length):jR bs u (Im k) k=u.getD k (0,[]):=by
 unfold jR;have hl:=hu.len k _ (az (d:=(0,[])) hk);have e:((Im k).map λq=>cD bs u k q)=(u.getD k (0,[])).2:=by
  refine Eq.trans (Jw λq hq=>?_) (r8 hl)
  have hq:=IT.mp hq;unfold cD;rw[Iw hq]
 rw[e]
theorem qw {n:HM}:∀os:HF (HF HM),(cL n os).length<=os.length*n
 | []=>by simp[cL]
 | o::os=>by
  have ih:=qw (n:=n) os;unfold cL at ih ⊢;rw[NU,HQ,HI,IW,Pb];have:=JG (λp=>decide (p∉o)) (Im n)
  rw[IM]at this;omega
theorem vp {n:HM}{os:HF (HF HM)}{i:HM}:(cL n (os.take i)).length<=os.length*n:=by
 refine IS (qw _) (Nat.mul_le_mul_right _ ?_);rw[IN]; omega
theorem nb {S:aa}{d:HM}:∀xs ys:HF Ig,jY (jL S d) (xs.map W.int) (ys.map W.int)=gV (decide (xs=ys))
 | [],[]=>rfl
 | [],_::_=>rfl
 | _::_,[]=>rfl
 | x::xs,y::ys=>by
  have e:jL S d (.int x) (.int y)=gV (x==y):=by cases d <;> rfl
  simp only[JI,jY,e,nb xs ys]
  by_cases h:x=y
  ·subst h; by_cases h2:xs=ys <;> simp[h2]
  ·have h':(x==y)=false:=by simpa using h
   simp[h,h']
theorem qx {p:HM}:∀ps:HF HM,((aI ps).any λz=>yV z (.int p))=decide (p∈ps)
 | []=>rfl
 | q::ps=>by
  show((q:Ig)==(p:Ig)||(aI ps).any _)=_
  rw[qx ps]
  by_cases h:q=p
  ·subst h; simp
  ·have h1:((q:Ig)==(p:Ig))=false:=by simp; omega
   have h2:¬ p=q:=λe=>h e.symm
   rw[h1]; simp[h2]
theorem vt (ps:HF HM):(aI ps).all cv=true:=by
 rw[IB];intro x hx;obtain⟨p,_,rfl⟩:=Ir.mp hx;rfl
theorem yB {S:aa}{p:HM}{ps:HF HM}:ce .notin (.int p) (.tup (aI ps)) S=gV (.bl (decide (p∉ps)),S):=by
 show iq .notin (.int p) (.tup (aI ps)) S=_;have hf:(cv (.int p)&&(aI ps).all cv)=true:=by rw[vt]; rfl
 simp only[iq,DU,BA,fL,hf,KG,IR,qx];congr 3
 by_cases h:p∈ps <;> simp[h]
theorem yC {xs:HF W}:iu xs td (gV (-1))=xs.dropLast:=by
 unfold iu;rw[HT.kA,OM,Pe,List.dropLast_eq_take];congr 1;show(if (-1:Ig) < 0 then((-1:Ig)+(xs.length:Ig)).toNat else min (-1:Ig).toNat xs.length)=_
 rw[Iw #v[]]; omega
noncomputable def bV:Ss:=
 #v[.set 2 (.lst .nil),.loop (.nm 3) (.seq (.v 0)) #v[.ex (.me .extend (.v 2) #v[.comp (.op .add (.v 2) (.tup #v[.v 1])) (.nm 1) (.rng #v[.v 1]) #v[.cmp .notin (.v 1) (.v 2)] [td,td,gV 3]])],.ret (.v 2)]
noncomputable def cM (os:HF (HF HM)):HF W:=os.map λo=>.tup (aI o)
section
variable{defs:HF (Ik×Df)}{fuel d:HM}{S:aa}{Q:QW}
theorem Dy {t l:HM}{xs ys:HF W}(h:S[t]?=gV (.lst xs))(h2:S[l]?=gV (.lst ys))(hl:xs.length+ys.length<=1000000)(q:Q (.non,S.set t (.lst (xs++ys)))):wO (Me.extend.fn (.ref t) [.ref l] S) Q:=by
 refine ac ?_ q;simp only[Me.fn,kg,dW h,dW h2];rw[Iw (by rw[Je]; omega)]
theorem gh {n:HM}(h:n<=1000000):n<=sizeLine:=by rw[Je]; omega
theorem yD (hg:Is defs ("longer_orders" : Ik) 2 4 bV){n l:HM}{os:HF (HF HM)}(e:S[l]?=gV (.lst (cM os)))(hn:n<=100)(hol:∀o∈os,o.length<=100)(hos:os.length*n<=100000)
  (k:∀(q:HM) (S':aa),S'[q]?=gV (.lst (cM (cL n os)))->S.length<=q->Ka S S'->Q (.ref q,S')) :
  wO (bj (ay defs fuel (d+1)) "longer_orders" 2 [.ref l,.int n] S) Q:=by
 refine aB hg rfl rfl λQ' hR=>?_
 replace k:∀(q:HM) (S':aa),S'[q]?=gV (.lst (cM (cL n os)))->S.length<=q->Ka S S'->Q' (.rt (.ref q),S'):=λa b c e f=>hR _ _ (k a b c e f)
 clear hR;show wZ _ _ bV [gV (.ref l),gV (.int n),td,td] S Q';have hlS:=db e;dsimp only[bV];refine st ?_;dsimp only[wS,wE,wA,HX];refine aW λK hK=>?_
 refine tP l (cM os) (λi ρ S'=>(∃a3,ρ=[gV (.ref l),gV (.int n),gV (.ref S.length),a3])/\S'[l]?=gV (.lst (cM os))/\S'[S.length]?=gV (.lst (cM (cL n (os.take i))))/\Ka S S') rfl rfl #[rfl,#[td,rfl],aq e,ak,.push] (λi ρ S' h=>h.2.1) ?_ ?_
 ·rintro i w ρ S1 hw ⟨⟨a3,rfl⟩,e0,e1,k1⟩;clear hK k;unfold cM at hw;rw[HS,HJ]at hw;obtain⟨o,ho,rfl⟩:=hw;have hol:=hol o (Ij ho);refine ac (show gI (.nm 3) (.tup (aI o)) [gV (.ref l),gV (.int n),gV (.ref S.length),a3] S1=gV ([gV (.ref l),gV (.int n),gV (.ref S.length),gV (.tup (aI o))],S1)from rfl) ?_
  intro Q2 hn _;refine st ?_;dsimp only[wS,wE,wA,wV,wG];refine#[eT e1,?_];refine dX (n:Ig) (λj ys ρ2 S2=>(∃a1,ρ2=[td,a1,gV (.tup (aI o))])/\ys=cM (((Im j).filter λp=>decide (p∉o)).map λp=>o++[p])/\S2=S1) rfl rfl rfl ∅ #[rfl,#[td,rfl],rfl,rfl] ?_ ?_
  ·rintro j ys ρ2 S2 hj ⟨⟨a1,rfl⟩,rfl,rfl⟩;dsimp only[jf,wC,wE,wA,wV,wG,HX];refine ac yB ?_;dsimp only[wB];have er:(Im (j+1)).filter (λp=>decide (p∉o))=(Im j).filter (λp=>decide (p∉o))++(if j∉o then[j]else[]):=by
    rw[Km,LW];congr 1
    by_cases h:j∈o <;> simp[h]
   refine#[λh=>?_,λh=>#[#[_,rfl],?_,rfl]]
   ·have h:j∉o:=Jg h;refine ac (dO (gh (by rw[HQ,show(aI o).length=o.length from HI ..]; show _+1<=_; omega))) #[#[_,rfl],?_,rfl]
    rw[er,Iw h,IA];unfold cM;rw[IA];simp[aI]
   ·have h:¬ j∉o:=Le h;rw[er,IH h,JJ]
  ·rintro ys ρ2 S2 ⟨_,rfl,rfl⟩;rw[HY];have hlen:(cM (((Im n).filter λp=>decide (p∉o)).map λp=>o++[p])).length<=n:=by
    unfold cM;rw[HI,HI];exact IS (JG _ _) (by rw[IM]; exact HZ _)
   have e1':=aq (u:=O.lst (cM (((Im n).filter λp=>decide (p∉o)).map λp=>o++[p]))) e1
   have hlt:=vp (n:=n) (os:=os) (i:=i);have hlw:(cM (cL n (os.take i))).length=(cL n (os.take i)).length:=HI ..;refine#[gh ∅,Dy e1' ak ∅ (bX (hn _ _ #[#[_,rfl],?_,?_,(k1.trans .push).late (HZ _)]))]
   ·rw[cg ∅]; exact aq e0
   ·rw[cj e1'];unfold cL cM;rw[Jb,ho];simp
 ·rintro ρ S1 ⟨⟨a3,rfl⟩,e0,e1,k1⟩;rw[show(cM os).length=os.length from HI ..,Jm]at e1
  exact hK _ _ (st (k _ _ e1 (HZ _) k1))
end
section
variable{defs:HF (Ik×Df)}{fuel d:HM}{S:aa}{Q:QW}
theorem yE {t:HM}{xs:HF W}{y:W}(h:S[t]?=gV (.lst xs))(hl:xs.length < 1000000)(q:Q (.non,S.set t (.lst (xs++[y])))):wO (Me.append.fn (.ref t) [y] S) Q:=ac (tM h (by rw[Je]; omega)) q
end
theorem Dz {S:aa}{i j:HM}{xs ys:HF Ig}(h1:S[i]?=gV (.lst (xs.map W.int)))(h2:S[j]?=gV (.lst (ys.map W.int))):ce .eq (.ref i) (.ref j) S=gV (.bl (decide (xs=ys)),S):=by
 show(jL S (19+1) (.ref i) (.ref j)).map _=_;simp only[jL,dW h1,dW h2,nb];split
 ·rfl
 ·rename_i h;have:xs≠ys:=λe=>h (by rw[e])
  simp[this]
theorem qy:∀xs:HF Ig,eH (xs.map T.int)=true
 | []=>rfl
 | _::xs=>qy xs
theorem kn:∀u:Wd,eH (u.map gW)=true
 | []=>rfl
 | p::u=>by
  simp only[JI,eH,HN];refine#[?_,kn u];simp[gW,kJ,eH,qy]
theorem oD (u:Wd):kJ (cb u)=true:=kn u
section
variable{Φ:Ik->FF}{ρ:Fm}{S:aa}
theorem DA {α:Type}{elt:E}{it:Ie}{cs:Es}{cap:HF (HL HM)}{mi:MI}{S1:aa}{Q:QW}(L:HF α)(f:α->W)(p:α->Iy)(g:α->W)(R:Fm)(oe:eJ elt=true)(oc:qZ cs=true)(hc:fN cap ρ=td::td::R)(hl:L.length<=1000000)(hi:lJ Φ it ρ S=gV (mi,S1))(k1:Ka S S1)(hat:∀i S',Ka S1 S'->mi.at S' i=gV (L.map f)[i]?)(hn:mi.len S1=gV (L.map f).length)
  (hstep:∀x∈L,∀S',Ka S S'->jf Φ elt cs (td::gV (f x)::R) S' (λy _ S2=>p x=true/\y=g x/\Ka S' S2) (λ_ S2=>p x=false/\Ka S' S2))
  (k:∀S',Ka S S'->Q (.ref S'.length,S'++[.lst ((L.filter p).map g)])):Wp (aK Φ (.comp elt (.nm 1) it cs cap) ρ S) Q:=by
 rw[xM];refine#[_,hi,_,hn,?_];refine(dU (xs:=L.map f) (Q:=λq=>q.1.length<=sizeLine/\Q (.ref q.2.length,q.2++[.lst q.1])) (λi ys ρ' S'=>(∃a1,ρ'=td::a1::R)/\ys=((L.take i).filter p).map g/\Ka S1 S') (λi ys ρ' S' h=>hat i S' h.2.2) (λi w ys ρ' S' hw h=>?_) (λys ρ' S' h=>?_) (L.map f).length 0 [] _ S1 ∅ #[#[td,hc],rfl,.refl]).mono λq hq=>by simpa using hq
 ·obtain⟨⟨a1,rfl⟩,rfl,k2⟩:=h;rw[HS,HJ]at hw;obtain⟨x,hx,rfl⟩:=hw;refine G4.mpr ?_;refine(BR oc (hstep x (Ij hx) S' (k1.trans k2))).mono λc hc=>#[λz=>(bF elt oe (hc.1 z)).mono λy hy=>#[#[_,rfl],?_,k2.trans hy.2.2],λz=>#[#[_,rfl],?_,k2.trans (hc.2 z).2]]
  ·rw[Jb,hx,LW,show(O3 (gV x)).filter p=[x]from List.filter_cons_of_pos hy.1,IA,hy.2.1]; rfl
  ·rw[Jb,hx,LW,show(O3 (gV x)).filter p=[]from List.filter_cons_of_neg (by rw[(hc.2 z).1]; exact Iu),JJ]
 ·obtain⟨_,rfl,k2⟩:=h;dsimp only;rw[show(L.map f).length=L.length from HI ..,Jm]
  refine#[gh ?_,k S' (k1.trans k2)];rw[HI];exact IS (JG _ _) hl
theorem qz (n:HM):dj 0 n=(Im n).map λi=>W.int (i:HM):=by
 unfold dj;refine Jw λi _=>?_
 rw[LL]
theorem jm {elt e:E}{cs:Es}{cap:HF (HL HM)}{Q:QW}(n:HM)(p:HM->Iy)(g:HM->W)(R:Fm)(oi:eJ e=true)(oe:eJ elt=true)(oc:qZ cs=true)(hc:fN cap ρ=td::td::R)(hl:n<=1000000)
  (he:wE Φ e ρ S λq=>q.1=.int n/\Ka S q.2)
  (hstep:∀x < n,∀S',Ka S S'->jf Φ elt cs (td::gV (.int (x:HM))::R) S' (λy _ S2=>p x=true/\y=g x/\Ka S' S2) (λ_ S2=>p x=false/\Ka S' S2))
  (k:∀S',Ka S S'->Q (.ref S'.length,S'++[.lst (((Im n).filter p).map g)])):Wp (aK Φ (.comp elt (.nm 1) (.rng #v[e]) cs cap) ρ S) Q:=by
 obtain⟨w,S1,e1,rfl,k1⟩:=cY oi he;refine DA (mi:=.its (dj 0 n)) (Im n) (λi=>W.int (i:HM)) p g R oe oc hc (by rw[IM]; exact hl) ?_ k1 (λi S' _=>by rw[<- qz]; rfl) (by rw[<- qz]; rfl) (λx hx=>hstep x (IT.mp hx)) k
 simp only[lJ,dq,en,i8,rM,e1];rw[Iw #[∅,∅]]; rfl
theorem yF {α:Type}(L:HF α):L.filter (λ_=>true)=L:=List.filter_eq_self.mpr λ_ _=>rfl
end
theorem DB {bs:HF Ig}{a:HM}{v:Wd}{i j:HM}(hb:GoodB bs)(hv:GoodW a bs.length v)(hi:i < v.length)(hj:j < v.length)(hij:i≠j):0<=cD bs v i j/\cD bs v i j < (bs.length:Ig):=by
 unfold cD
 by_cases h:j < i
 ·rw[Iw h];have hp:=az (d:=(0,[])) hi;have hw:j < (v.getD i (0,[])).2.length:=by rw[hv.len i _ hp]; exact h
  exact hv.way i _ hp _ (Ij (az (d:=0) hw))
 ·rw[IH h];have hp:=az (d:=(0,[])) hj;have hw:i < (v.getD j (0,[])).2.length:=by rw[hv.len j _ hp]; omega
  obtain⟨g1,g2⟩:=hv.way j _ hp _ (Ij (az (d:=0) hw));exact(hb.at g1 g2).2
theorem nh {bs:HF Ig}{a:HM}{v:Wd}{ps:HF HM}(hb:GoodB bs)(hv:GoodW a bs.length v)(hps:∀p∈ps,p < v.length)(hnd:ps.Nodup):GoodW a bs.length (au bs v ps):=by
 have at':∀(k:HM) (q:Pt),(au bs v ps)[k]?=gV q->∃hk:k < ps.length,q=((v.getD ps[k] (0,[])).1,(ps.take k).map λj=>cD bs v ps[k] j):=λk q e=>by
  have hk:k < ps.length:=by
   have:=(Ii.mp e).1;rw[bq]at this; exact this
  refine#[hk,?_];unfold au at e;rw[HS,Kx hk,IR,show ps.getD k 0=ps[k] by simp[hk]]at e
  exact(Jn e).symm
 refine#[λk q e=>?_,λk q e=>?_,λk q e=>?_]
 ·obtain⟨hk,rfl⟩:=at' k q e;have:=hv.mark _ _ (az (d:=(0,[])) (hps _ (IX hk)));exact this
 ·obtain⟨hk,rfl⟩:=at' k q e;dsimp only;rw[HI,IN]; omega
 ·obtain⟨hk,rfl⟩:=at' k q e;intro w hw;obtain⟨j,hj,rfl⟩:=Ir.mp hw;have hjm:=LB hj;refine DB hb hv (hps _ (IX hk)) (hps _ hjm) λe=>?_
  obtain⟨m,hm,e2⟩:=KW.mp hj;rw[IN]at hm;rw[Lp]at e2;have:=(Kb hnd).mp (e.trans e2.symm);omega
section
variable{defs:HF (Ik×Df)}{fuel d:HM}{S:aa}{Q:QW}
theorem DC (hd:Is defs ("_law_flow" : Ik) 1 1 eB){ns:HF Ig}{u:HM}(hu:S[u]?=gV (.fro (ns.map W.int)))(k:∀r S',Ka S S'->Fl S' r->Q (.ref r,S')) :
  wO (bj (ay defs fuel (d+1)) "_law_flow" 1 [.ref u] S) Q:=by
 refine aB hd rfl rfl λQ' hR=>?_
 show wZ _ _ eB [gV (.ref u)] S Q';dsimp only[eB];refine st ?_;dsimp only[wS,wE,wA,wV,wG];have e:Bi.list.fn [.ref u] S=gV (.ref S.length,S++[.lst (ns.map W.int)]):=by
  have h1:zS S u=td:=by simp[zS,hu]
  simp only[Bi.fn,EY,mG,h1,iw,fL,AQ hu]
 refine ac e (hR _ _ (k _ _ (Ka.push.trans .push) #[S.length,ns,0,0,1,0,?_,?_,?_,#v[],#v[],#v[],#v[]]))
 ·exact ak
 ·exact aq ak
 ·simp
end
noncomputable def dA:Ss:=
 #v[.set 4 (.tup #v[.ix (.ix (.v 0) (.v 1)) (.c (.int 0)),.tup .nil]),.set 5 (.tup #v[.ix (.ix (.v 0) (.v 2)) (.c (.int 0)),.tup #v[.ix (.ix (.ix (.v 0) (.v 2)) (.c (.int 1))) (.v 1)]]),.ret (.tup #v[.v 4,.v 5,.tup #v[.ix (.ix (.v 0) (.v 3)) (.c (.int 0)),.tup #v[.ix (.ix (.ix (.v 0) (.v 3)) (.c (.int 1))) (.v 1),.ix (.ix (.ix (.v 0) (.v 3)) (.c (.int 1))) (.v 2)]]])]
noncomputable def jn (u:Wd)(i j k:HM):Wd:=[((u.getD i (0,[])).1,[]),((u.getD j (0,[])).1,[(u.getD j (0,[])).2.getD i 0]),((u.getD k (0,[])).1,[(u.getD k (0,[])).2.getD i 0,(u.getD k (0,[])).2.getD j 0])]
theorem r9 {bs:HF Ig}{u:Wd}{i j k:HM}(h1:i < j)(h2:j < k):au bs u [i,j,k]=jn u i j k:=by
 show[((u.getD i (0,[])).1,[]),((u.getD j (0,[])).1,[cD bs u j i]),((u.getD k (0,[])).1,[cD bs u k i,cD bs u k j])]=_;unfold cD jn;rw[Iw h1,Iw h2,Iw (Pc h1 h2)]
section
variable{defs:HF (Ik×Df)}{fuel d:HM}{S:aa}{Q:QW}
theorem Bk (hg:Is defs ("three_at" : Ik) 4 6 dA){a n:HM}{u:Wd}{i j k:HM}(hu:GoodW a n u)(h1:i < j)(h2:j < k)(h3:k < u.length)(q:Q (aG (jn u i j k),S)) :
  wO (bj (ay defs fuel (d+1)) "three_at" 4 [aG u,.int i,.int j,.int k] S) Q:=by
 refine aB hg rfl rfl λQ' hR=>?_
 replace q:=hR _ _ q;clear hR;show wZ _ _ dA [gV (aG u),gV (.int i),gV (.int j),gV (.int k),td,td] S Q';have hi:i < u.length:=∅
 have hj:j < u.length:=∅
 have lj:i < (u.getD j (0,[])).2.length:=by rw[hu.len j _ (az (d:=(0,[])) hj)]; exact h1
 have lk:j < (u.getD k (0,[])).2.length:=by rw[hu.len k _ (az (d:=(0,[])) h3)]; exact h2
 have lki:i < (u.getD k (0,[])).2.length:=∅
 have w:∀ {p m:HM},m < (u.getD p (0,[])).2.length->((u.getD p (0,[])).2.map W.int)[((m:HM):Ig).toNat]?=gV (.int ((u.getD p (0,[])).2.getD m 0)):=λ{p m} h=>by
  rw[HY,HS,az (d:=0) h]; rfl
 dsimp only[dA];refine st ?_;dsimp only[wS,wE,wA,wV,wG,HX];refine ah (HV i) (dG hi) (ah #v[] rfl ?_)
 refine st ?_;dsimp only[wS,wE,wA,wV,wG,HX];refine ah (HV j) (dG hj) (ah #v[] rfl (ah (HV j) (dG hj) (ah #v[] rfl (ah (HV i) (w lj) ?_))))
 refine st ?_;dsimp only[wS,wE,wA,wV,wG,HX];exact ah (HV k) (dG h3) (ah #v[] rfl (ah (HV k) (dG h3) (ah #v[] rfl (ah (HV i) (w lki) (ah (HV k) (dG h3) (ah #v[] rfl (ah (HV j) (w lk) q)))))))
end
noncomputable def oE (kvs:HF (T×W))(u:Wd)(i j k:HM):Iy:=(cr kvs (cb (jn u i j k))).isSome
structure HasD (kvs:HF (T×W))(L:HF Wd):Prop where
 iff:∀t,t∈kvs.map (·.1)↔t∈L.map cb
 len:kvs.length<=L.length
theorem yG {kvs:HF (T×W)}{t:T}:(cr kvs t).isSome=true↔t∈kvs.map (·.1):=by
 constructor
 ·intro h;obtain⟨v,hv⟩:=Jc.mp h;exact Ir.mpr #[_,ln hv,rfl]
 ·intro h;obtain⟨p,hp,rfl⟩:=Ir.mp h;obtain⟨v,hv⟩:=ub hp;rw[hv]; rfl
theorem HasD.get {kvs:HF (T×W)}{L:HF Wd}(h:HasD kvs L)(t:T):(cr kvs t).isSome=decide (t∈L.map cb):=by
 rw[MG,yG,h.iff,Ix]
theorem HasD.nil:HasD [] []:=#[λt=>by simp,HZ _]
theorem HasD.put {kvs:HF (T×W)}{L:HF Wd}{f:Wd}{v:W}(h:HasD kvs L):HasD (eE kvs (cb f) v) (L++[f]):=by
 refine#[λt=>?_,?_]
 ·rw[ji,IA,IU,<- h.iff t]
  by_cases hk:cb f∈kvs.map (·.1)
  ·rw[Iw hk];constructor
   ·exact .inl
   ·rintro(z|z)
    ·exact z
    ·rw[Ip.mp z]; exact hk
  ·rw[IH hk,IU]; rfl
 ·have:=c7 kvs (cb f) v;have:=h.len;rw[HQ,Jx]; omega
noncomputable def fu:Ss:=
 #v[.set 1 .dnew,.loop (.nm 2) (.seq (.ix (.v 0) (.c (.int 2)))) #v[.loop (.nm 3) (.seq (.own "_law_turns" 0 .nil)) #v[.put (.v 1) (.own "_law_part" 3 #v[.v 0,.v 2,.v 3]) (.c (.bl true))]],.ret (.v 1)]
noncomputable def bm (bs:HF Ig)(gs:HF Wd):HF Wd:=gs.flatMap λg=>aw.map (au bs g)
theorem lp (bs:HF Ig):∀gs:HF Wd,(bm bs gs).length=6*gs.length
 | []=>rfl
 | g::gs=>by
  have:=lp bs gs;unfold bm at this ⊢;rw[NU,HQ,this,IW,HI,show aw.length=6 from rfl]; omega
section
variable{defs:HF (Ik×Df)}{fuel d:HM}{S:aa}{Q:QW}
theorem FK (G:Gen defs)(hg:Is defs ("_law_bad" : Ik) 1 4 fu){m0:W}{ns:HF Ik}{bs:HF Ig}{a:HM}{gs:HF Wd}(hb:GoodB bs)(hnl:ns.length=bs.length)(hgs:∀g∈gs,GoodW a bs.length g/\g.length=3)(h64:gs.length<=100)
  (k:∀(q:HM) (kvs:HF (T×W)) (S':aa),S'[q]?=gV (.dic kvs)->HasD kvs (bm bs gs)->S.length<=q->Ka S S'->Q (.ref q,S')) :
  wO (bj (ay defs fuel (d+3)) "_law_bad" 1 [.tup [m0,.tup (Il bp ns bs),.tup (gs.map aG)]] S) Q:=by
 refine aB hg rfl rfl λQ' hR=>?_
 replace k:∀(q:HM) (kvs:HF (T×W)) (S':aa),S'[q]?=gV (.dic kvs)->HasD kvs (bm bs gs)->S.length<=q->Ka S S'->Q' (.rt (.ref q),S'):=λa b c e f g h=>hR _ _ (k a b c e f g h)
 clear hR;show wZ _ _ fu [gV (.tup [m0,.tup (Il bp ns bs),.tup (gs.map aG)]),td,td,td] S Q';generalize hR0:W.tup [m0,.tup (Il bp ns bs),.tup (gs.map aG)]=R;dsimp only[fu];refine st ?_;dsimp only[wS,wE,HX];refine aW λK hK=>?_
 refine for_tup (gs.map aG) (λi ρ S'=>(∃a2 a3,ρ=[gV R,gV (.ref S.length),a2,a3])/\(∃kvs,S'[S.length]?=gV (.dic kvs)/\HasD kvs (bm bs (gs.take i)))/\Ka S S') rfl rfl ?_ ?_ ?_
 ·dsimp only[wE,wV,wG];subst hR0;exact ah #v[] rfl #[rfl,#[_,_,rfl],#[[],ak,.nil],.push]
 ·rintro i w ρ S1 hw ⟨⟨a2,a3,rfl⟩,⟨kvs,e1,h1⟩,k1⟩;clear hK k;rw[HS,HJ]at hw;obtain⟨g,hg1,rfl⟩:=hw;obtain⟨gg,g3⟩:=hgs g (Ij hg1);have hi:i < gs.length:=(Ii.mp hg1).1;refine ac (show gI (.nm 2) (aG g) [gV R,gV (.ref S.length),a2,a3] S1=gV ([gV R,gV (.ref S.length),gV (aG g),a3],S1)from rfl) ?_
  intro Q2 hn _;refine aW λK hK=>?_
  refine fq rfl rfl ?_;dsimp only[wE,wA];refine km (d:=d+1) G ?_;refine#[S1.length,aw.map (λt=>W.tup (aI t)),(λj ρ S'=>(∃a3,ρ=[gV R,gV (.ref S.length),gV (aG g),a3])/\(∃kvs,S'[S.length]?=gV (.dic kvs)/\HasD kvs (bm bs (gs.take i)++(aw.take j).map (au bs g)))/\S'[S1.length]?=gV (.lst (aw.map λt=>W.tup (aI t)))/\Ka S S'),rfl,#[#[_,rfl],#[kvs,aq e1,by rw[ON,NM,JJ]; exact h1],ak,k1.trans .push],λj ρ S' h=>h.2.2.1,?_,?_]
  ·rintro j w ρ S2 hw ⟨⟨a3,rfl⟩,⟨kvs2,e2,h2⟩,el,k2⟩;clear hK hn;rw[HS,HJ]at hw;obtain⟨t,ht,rfl⟩:=hw;have htm:=Ij ht;have tk:t.length<=3/\t.Nodup/\∀p∈t,p < 3:=by
    have:∀t∈aw,t.length<=3/\t.Nodup/\∀p∈t,p < 3:=by decide
    exact this t htm
   refine ac (show gI (.nm 3) (.tup (aI t)) [gV R,gV (.ref S.length),gV (aG g),a3] S2=gV ([gV R,gV (.ref S.length),gV (aG g),gV (.tup (aI t))],S2)from rfl) ?_
   intro Q3 hn3 _;refine st ?_;dsimp only[wS,wE,wA,wV,wG];subst hR0;refine rX (d:=d) G hb hnl gg (λp hp=>by have:=tk.2.2 p hp; omega) tk.2.1 ∅ λS3 k3=>?_
   have e3:=k3.get _ _ e2;have hlt:kvs2.length < sizeLine:=by
    have b1:=h2.len;have b2:=lp bs (gs.take i);rw[HQ,b2,HI,IN,IN,show aw.length=6 from rfl]at b1
    rw[Je]; omega
   refine ac (yh e3 hlt) (bX (hn3 _ _ #[#[_,rfl],#[_,cj e3,?_],?_,(k2.trans k3).late (HZ _)]))
   ·rw[Jb,ht,IA,<- KM];exact h2.put
   ·rw[cg (by have:=k1.len; have:=db e1; omega)]; exact k3.get _ _ el
  ·rintro ρ S2 ⟨⟨a3,rfl⟩,⟨kvs2,e2,h2⟩,el,k2⟩;rw[HI,Jm]at h2;refine hK _ _ (bX (hn _ _ #[#[_,_,rfl],#[kvs2,e2,?_],k2]));unfold bm at h2 ⊢;rw[Jb,hg1,M9]
   simpa using h2
 ·rintro ρ S1 ⟨⟨a2,a3,rfl⟩,⟨kvs,e1,h1⟩,k1⟩;rw[HI,Jm]at h1;exact hK _ _ (st (k _ kvs S1 e1 h1 (HZ _) k1))
end
noncomputable def cq:Ss:=
 #v[.set 1 (.lst #v[.tup .nil]),.whl (.cmp .lt (.bi .len #v[.ix (.v 1) (.c (.int 0))]) (.c (.int 3))) #v[.set 1 (.own "longer_orders" 2 #v[.v 1,.c (.int 3)])],.set 2 .dnew,.loop (.nm 3) (.seq (.ix (.v 0) (.c (.int 2)))) #v[.loop (.nm 4) (.seq (.v 1)) #v[.put (.v 2) (.own "part" 3 #v[.v 0,.v 3,.v 4]) (.c (.bl true))]],.ret (.v 2)]
noncomputable def vw:HM->HF (HF HM)
 | 0=>[[]]
 | i+1=>cL 3 (vw i)
theorem vx:vw 3=aw:=by decide
theorem DD:∀i,i<=3->(∃o,(vw i)[0]?=gV o/\o.length=i)/\(vw i).length<=6/\∀o∈vw i,o.length<=3:=λi hi=>by
 rcases(show i=0\/i=1\/i=2\/i=3 by omega)with rfl|rfl|rfl|rfl
 ·exact#[#[[],rfl,rfl],#v[],#v[]]
 ·exact#[#[[0],rfl,rfl],#v[],#v[]]
 ·exact#[#[[0,1],rfl,rfl],#v[],#v[]]
 ·exact#[#[[0,1,2],rfl,rfl],#v[],#v[]]
section
variable{defs:HF (Ik×Df)}{fuel d:HM}{S:aa}{Q:QW}
theorem yH (hfu:20 < fuel)(P:Parts defs)(hp:Is defs ("part" : Ik) 3 3 jl)(hl:Is defs ("longer_orders" : Ik) 2 4 bV)(hg:Is defs ("barred_threes" : Ik) 1 5 cq){m0:W}{ns:HF Ik}{bs:HF Ig}{a:HM}{gs:HF Wd}(hb:GoodB bs)(hnl:ns.length=bs.length)(hgs:∀g∈gs,GoodW a bs.length g/\g.length=3)(h64:gs.length<=100)
  (k:∀(q:HM) (kvs:HF (T×W)) (S':aa),S'[q]?=gV (.dic kvs)->HasD kvs (bm bs gs)->S.length<=q->Ka S S'->Q (.ref q,S')) :
  wO (bj (ay defs fuel (d+4)) "barred_threes" 1 [.tup [m0,.tup (Il bp ns bs),.tup (gs.map aG)]] S) Q:=by
 refine aB hg rfl rfl λQ' hR=>?_
 replace k:∀(q:HM) (kvs:HF (T×W)) (S':aa),S'[q]?=gV (.dic kvs)->HasD kvs (bm bs gs)->S.length<=q->Ka S S'->Q' (.rt (.ref q),S'):=λa b c e f g h=>hR _ _ (k a b c e f g h)
 clear hR;show wZ _ _ cq [gV (.tup [m0,.tup (Il bp ns bs),.tup (gs.map aG)]),td,td,td,td] S Q';generalize hR0:W.tup [m0,.tup (Il bp ns bs),.tup (gs.map aG)]=R;dsimp only[cq];refine st ?_;dsimp only[wS,wE,wA,HX];refine aW λK hK=>?_
 refine Fz (λm ρ S'=>∃(i q:HM),i+m=3/\ρ=[gV R,gV (.ref q),td,td,td]/\S'[q]?=gV (.lst (cM (vw i)))/\S.length<=q/\Ka S S') 3 rfl rfl ∅ #[0,S.length,rfl,rfl,ak,HZ _,.push] ?_
 rintro m ρ S1 ⟨i,q,him,rfl,e1,hq,k1⟩;obtain⟨⟨o,ho,hol⟩,l6,l3⟩:=DD i ∅
 dsimp only[wT,wE,wA,wV,wG];refine la (w:=.tup (aI o)) e1 #v[] (by unfold cM; rw[HS,show((0:Ig).toNat)=0 from rfl,ho]; rfl) (bo ?_)
 rw[show(aI o).length=o.length from HI ..,hol]
 dsimp only[xO,aO,wB];refine#[λh=>?_,λh=>?_]
 ·have h:(i:Ig) < 3:=Jg h;refine#[m - 1,∅,λQ2 hn _=>?_]
  clear hK k;refine st ?_;dsimp only[wS,wE,wA,wV,wG,HX];refine yD (n:=3) (d:=d+2) hl e1 #v[] (λo ho=>by have:=l3 o ho; omega) ∅ λq2 S2 e2 hq2 k2=>bX (hn _ _ #[i+1,q2,∅,rfl,e2,?_,k1.trans k2])
  exact IS k1.len hq2
 ·have h:¬ (i:Ig) < 3:=Le h;obtain rfl:i=3:=∅
  rw[vx]at e1;refine hK _ _ ?_;clear hK K l6 l3 ho hol h him;refine st ?_;dsimp only[wS,wE,HX];refine aW λK hK=>?_
  have hq1:=db e1;refine for_tup (gs.map aG) (λi ρ S'=>(∃a3 a4,ρ=[gV R,gV (.ref q),gV (.ref S1.length),a3,a4])/\(∃kvs,S'[S1.length]?=gV (.dic kvs)/\HasD kvs (bm bs (gs.take i)))/\S'[q]?=gV (.lst (cM aw))/\Ka S S') rfl rfl ?_ ?_ ?_
  ·dsimp only[wE,wV,wG];subst hR0;exact ah #v[] rfl #[rfl,#[_,_,rfl],#[[],ak,.nil],aq e1,k1.trans .push]
  ·rintro i w ρ S2 hw ⟨⟨a3,a4,rfl⟩,⟨kvs,e2,h2⟩,el2,k2⟩;clear hK k;rw[HS,HJ]at hw;obtain⟨g,hg1,rfl⟩:=hw;obtain⟨gg,g3⟩:=hgs g (Ij hg1);have hi:i < gs.length:=(Ii.mp hg1).1;refine ac (show gI (.nm 3) (aG g) [gV R,gV (.ref q),gV (.ref S1.length),a3,a4] S2=gV ([gV R,gV (.ref q),gV (.ref S1.length),gV (aG g),a4],S2)from rfl) ?_
   intro Q2 hn _;refine aW λK hK=>?_
   refine tP q (cM aw) (λj ρ S'=>(∃a4,ρ=[gV R,gV (.ref q),gV (.ref S1.length),gV (aG g),a4])/\(∃kvs,S'[S1.length]?=gV (.dic kvs)/\HasD kvs (bm bs (gs.take i)++(aw.take j).map (au bs g)))/\S'[q]?=gV (.lst (cM aw))/\Ka S S') rfl rfl #[rfl,#[_,rfl],#[kvs,e2,by rw[ON,NM,JJ]; exact h2],el2,k2] (λj ρ S' h=>h.2.2.1) ?_ ?_
   ·rintro j w ρ S3 hw ⟨⟨a4,rfl⟩,⟨kvs3,e3,h3⟩,el3,k3⟩;clear hK hn;unfold cM at hw;rw[HS,HJ]at hw;obtain⟨t,ht,rfl⟩:=hw;have tk:t.length<=3/\t.Nodup/\∀p∈t,p < 3:=by
     have:∀t∈aw,t.length<=3/\t.Nodup/\∀p∈t,p < 3:=by decide
     exact this t (Ij ht)
    refine ac (show gI (.nm 4) (.tup (aI t)) [gV R,gV (.ref q),gV (.ref S1.length),gV (aG g),a4] S3=gV ([gV R,gV (.ref q),gV (.ref S1.length),gV (aG g),gV (.tup (aI t))],S3)from rfl) ?_
    intro Q3 hn3 _;refine st ?_;dsimp only[wS,wE,wA,wV,wG];subst hR0;refine FJ (d:=d) P hp hb hnl gg (λp hp=>by have:=tk.2.2 p hp; omega) tk.2.1 ∅ λS4 k4=>?_
    have e4:=k4.get _ _ e3;have hlt:kvs3.length < sizeLine:=by
     have b1:=h3.len;have b2:=lp bs (gs.take i);rw[HQ,b2,HI,IN,IN,show aw.length=6 from rfl]at b1
     rw[Je]; omega
    refine ac (yh e4 hlt) (bX (hn3 _ _ #[#[_,rfl],#[_,cj e4,?_],?_,(k3.trans k4).late k1.len]))
    ·rw[Jb,ht,IA,<- KM];exact h3.put
    ·rw[cg ∅]; exact k4.get _ _ el3
   ·rintro ρ S3 ⟨⟨a4,rfl⟩,⟨kvs3,e3,h3⟩,el3,k3⟩;rw[show(cM aw).length=aw.length from HI ..,Jm]at h3
    refine hK _ _ (bX (hn _ _ #[#[_,_,rfl],#[kvs3,e3,?_],el3,k3]));unfold bm at h3 ⊢;rw[Jb,hg1,M9]
    simpa using h3
  ·rintro ρ S2 ⟨⟨a3,a4,rfl⟩,⟨kvs,e2,h2⟩,el2,k2⟩;rw[HI,Jm]at h2;exact hK _ _ (st (k _ kvs S2 e2 h2 k1.len k2))
end
noncomputable def bh:Ss:=
 #v[.loop (.nm 6) (.rng2 #v[.bi .len #v[.v 5],.bi .len #v[.v 3]]) #v[.set 7 (.lst .nil),.loop (.nm 8) (.rng #v[.bi .len #v[.ix (.v 1) (.c (.int 1))]]) #v[.set 9 (.lst .nil),.loop (.nm 10) (.rng #v[.v 6]) #v[.ex (.me .append (.v 9) #v[.cmp .isin (.tup #v[.tup #v[.ix (.ix (.v 3) (.v 10)) (.c (.int 0)),.tup .nil],.tup #v[.ix (.ix (.v 3) (.v 6)) (.c (.int 0)),.tup #v[.ix (.ix (.ix (.v 3) (.v 6)) (.c (.int 1))) (.v 10)]],.tup #v[.v 4,.tup #v[.ix (.v 5) (.v 10),.v 8]]]) (.v 2)])],.ite (.cmp .notin (.c (.bl true)) (.v 9)) #v[.ex (.me .append (.v 7) #v[.v 8])] .nil],.ite (.cmp .eq (.v 7) (.lst .nil)) #v[.ret (.c .non)] .nil,.set 5 (.op .add (.v 5) (.tup #v[.ix (.v 7) (.own "_law_pick" 2 #v[.v 0,.bi .len #v[.v 7]])]))],.ret (.v 5)]
theorem yI {S:aa}{l:HM}{bl:HF Iy}(h:S[l]?=gV (.lst (bl.map W.bl))):∃b,ce .notin (.bl true) (.ref l) S=gV (.bl b,S):=by
 have hf:(cv (.bl true)&&(bl.map W.bl).all cv)=true:=by
  simp only[cv,Ly,IB];intro x hx;obtain⟨z,_,rfl⟩:=Ir.mp hx;rfl
 refine#[!(bl.map W.bl).any λz=>yV z (.bl true),?_]
 simp only[ce,oq h,iq,DU,BA,fL,bc h,hf,KG,IR]
section
variable{defs:HF (Ik×Df)}{fuel d:HM}{S:aa}{r:HM}{Q:QW}
theorem lq (G:Gen defs)(hg:Is defs ("_law_new_ways" : Ik) 6 11 bh){m0 b0:W}{N:HF W}{a n q:HM}{u:Wd}{mk:Ig}{kvs:HF (T×W)}(hN:N.length=n)(hn3:n<=3)(hu:GoodW a n u)(hl:u.length<=900)(e:S[q]?=gV (.dic kvs))(hqr:q≠r)(hf:Fl S r)
  (k:∀w S',(w=.non\/∃to:HF Ig,w=.tup (ab to)/\to.length=u.length/\∀x∈to,0<=x/\x < (n:Ig))->Fl S' r->Kp r S S'->Q (w,S')) :
  wO (bj (ay defs fuel (d+2)) "_law_new_ways" 6 [.ref r,.tup [m0,.tup N,b0],.ref q,aG u,.int mk,.tup []] S) Q:=by
 refine aB hg rfl rfl λQ' hR=>?_
 replace k:∀w S',(w=.non\/∃to:HF Ig,w=.tup (ab to)/\to.length=u.length/\∀x∈to,0<=x/\x < (n:Ig))->Fl S' r->Kp r S S'->Q' (.rt w,S'):=λw S' h1 h2 h3=>hR _ _ (k w S' h1 h2 h3)
 clear hR;show wZ _ _ bh [gV (.ref r),gV (.tup [m0,.tup N,b0]),gV (.ref q),gV (aG u),gV (.int mk),gV (.tup (ab [])),td,td,td,td,td] S Q';generalize hR0:W.tup [m0,.tup N,b0]=R;have ul:(u.map bB).length=u.length:=HI ..;have hqS:=db e;have hrS:=hf.lt;dsimp only[bh];refine aW λK hK=>?_
 refine iK 0 (u.length:Ig) (λm ρ S'=>∃(to:HF Ig) (a6 a7 a8 a9 a10:HL W),ρ=[gV (.ref r),gV R,gV (.ref q),gV (aG u),gV (.int mk),gV (.tup (ab to)),a6,a7,a8,a9,a10]/\to.length=m/\(∀x∈to,0<=x/\x < (n:Ig))/\Fl S' r/\Kp r S S') rfl rfl rfl ∅ ?_ ?_ ?_
 ·dsimp only[wE,wA,wV,wG];refine bo #[rfl,bo ?_];rw[ul];exact#[rfl,[],_,_,_,_,_,rfl,rfl,(λx hx=>nomatch hx),hf,.refl]
 ·rintro m ρ S1 hm ⟨to,a6,a7,a8,a9,a10,rfl,htl,hto,f1,k1⟩ Q2 hn2 hr2;clear hK;rw[LL];have hmu:m < u.length:=∅
  have e1:S1[q]?=gV (.dic kvs):=k1.get _ _ hqr e;have s1:S.length<=S1.length:=k1.len;have lm:=hu.len m _ (az (d:=(0,[])) hmu);dsimp only[HX];refine st ?_;dsimp only[wS,wE,wA,HX];refine aW λK hK=>?_
  refine dc (n:Ig) (λx ρ S'=>(∃a8 a9 a10,ρ=[gV (.ref r),gV R,gV (.ref q),gV (aG u),gV (.int mk),gV (.tup (ab to)),gV (.int m),gV (.ref S1.length),a8,a9,a10])/\(∃ls:HF Ig,S'[S1.length]?=gV (.lst (ab ls))/\ls.length<=x/\∀y∈ls,0<=y/\y < (n:Ig))/\S'[q]?=gV (.dic kvs)/\Fl S' r/\Kp r S S') rfl rfl ∅ ?_ ?_ ?_
  ·dsimp only[wE,wA,wV,wG];subst hR0;refine ah #v[] rfl (bo ?_)
   rw[hN];exact#[rfl,#[_,_,_,rfl],#[[],ak,HZ _,(λy hy=>nomatch hy)],aq e1,f1.ka .push,k1.trans .push]
  ·rintro x ρ S2 hx ⟨⟨a8,a9,a10,rfl⟩,⟨ls,e2,hll,hls⟩,q2,f2,k2⟩ Q3 hn3' hr3;clear hK;have l2:=db e2;dsimp only[HX];refine st ?_;dsimp only[wS,wE,wA,HX];refine aW λK hK=>?_
   refine dc (m:Ig) (λi ρ S'=>(∃a10,ρ=[gV (.ref r),gV R,gV (.ref q),gV (aG u),gV (.int mk),gV (.tup (ab to)),gV (.int m),gV (.ref S1.length),gV (.int x),gV (.ref S2.length),a10])/\(∃bl:HF Iy,S'[S2.length]?=gV (.lst (bl.map W.bl))/\bl.length=i)/\S'[S1.length]?=gV (.lst (ab ls))/\S'[q]?=gV (.dic kvs)/\Fl S' r/\Kp r S S') rfl rfl ∅ #[rfl,#[_,rfl],#[[],ak,rfl],aq e2,aq q2,f2.ka .push,k2.trans .push] ?_ ?_
   ·rintro i ρ S3 hi ⟨⟨a10,rfl⟩,⟨bl,e3,hbl⟩,el3,q3,f3,k3⟩ Q4 hn4 _;clear hK;have hiu:i < u.length:=∅
    have him:i < (u.getD m (0,[])).2.length:=∅
    have hit:i < to.length:=∅
    dsimp only[HX];refine st ?_;dsimp only[wS,wE,wA,wV,wG];refine#[eT e3,?_];refine ah (HV i) (dG hiu) (ah #v[] rfl (ah (HV m) (dG hmu) (ah #v[] rfl (ah (HV m) (dG hmu) (ah #v[] rfl (ah (w:=.int ((u.getD m (0,[])).2.getD i 0)) (HV i) (by rw[HY,HS,az (d:=0) him]; rfl) (ah (w:=.int (to.getD i 0)) (HV i) (by rw[HY]; unfold ab; rw[HS,az (d:=0) hit]; rfl) ?_)))))))
    refine ac (a:=(.bl (cr kvs (cb [((u.getD i (0,[])).1,[]),((u.getD m (0,[])).1,[(u.getD m (0,[])).2.getD i 0]),(mk,[to.getD i 0,(x:Ig)])])).isSome,S3)) ?_ ?_
    ·show ce .isin (aG [((u.getD i (0,[])).1,[]),((u.getD m (0,[])).1,[(u.getD m (0,[])).2.getD i 0]),(mk,[to.getD i 0,(x:Ig)])]) (.ref q) S3=_;simp only[ce,cH q3,oy]; rfl
    refine qg e3 (by rw[HI]; omega) (bX (hn4 _ _ #[#[_,rfl],#[bl++[(cr kvs (cb [((u.getD i (0,[])).1,[]),((u.getD m (0,[])).1,[(u.getD m (0,[])).2.getD i 0]),(mk,[to.getD i 0,(x:Ig)])])).isSome],?_,by rw[HQ,hbl]; rfl],?_,?_,f3.own ∅,k3.late ∅]))
    ·rw[cj e3,IA]; rfl
    ·rw[cg ∅]; exact el3
    ·rw[cg ∅]; exact q3
   ·rintro ρ S3 ⟨⟨a10,rfl⟩,⟨bl,e3,hbl⟩,el3,q3,f3,k3⟩;refine hK _ _ ?_;clear hK K;refine aW λK hK=>?_
    dsimp only[wS,wT,wE,wA,wV,wG];obtain⟨b,eb⟩:=yI e3;refine ac eb ?_;dsimp only[wB];refine ar (Q0:=Q3) (λ_ Q5 hn5 _=>?_) (λ_ Q5 hn5 _=>bX (hn5 _ _ (hK _ _ (bX (hn3' _ _ #[#[_,_,_,rfl],#[ls,el3,∅,hls],q3,f3,k3])))))
    refine st ?_;dsimp only[wS,wE,wA,wV,wG];refine#[eT el3,qg el3 (by unfold ab; rw[HI]; omega) (bX (hn5 _ _ (hK _ _ (bX (hn3' _ _ #[#[_,_,_,rfl],#[ls++[(x:Ig)],?_,by rw[HQ,Jx]; omega,λy hy=>?_],?_,f3.own ∅,k3.late ∅])))))]
    ·rw[cj el3]; unfold ab; rw[IA]; rfl
    ·rcases IU.mp hy with h|h
     ·exact hls y h
     ·rw[Ip.mp h]; omega
    ·rw[cg ∅]; exact q3
  ·rintro ρ S2 ⟨⟨a8,a9,a10,rfl⟩,⟨ls,e2,hll,hls⟩,q2,f2,k2⟩;refine hK _ _ ?_;clear hK K;rw[HY]at hll;refine aW λK hK=>?_
   dsimp only[wS,wT,wE,wA,wV,wG];refine ac (BU (aq e2) ak) ?_;dsimp only[wB];refine ar (Q0:=Q2) (λ_ Q5 _ hr5=>?_) (λhne Q5 hn5 _=>bX (hn5 _ _ (hK _ _ ?_)))
   ·refine st ?_;dsimp only[wS,wE];exact hr5 _ _ (hr2 _ _ (k _ _ (.inl rfl) (f2.ka .push) (k2.trans .push)))
   clear hn5 hK;have hpos:0 < ls.length:=by
    cases ls with
    | nil=>cases hne
    | cons _ _=>simp
   refine st ?_;dsimp only[wS,wE,wA,wV,wG,HX];have e2':=aq (u:=O.lst []) e2;refine tU e2' ?_;rw[show(ab ls).length=ls.length from HI ..]
   refine bn (d:=d) G.pick (f2.ka .push) ∅ ∅ λv S4 v0 v1 f4 k4=>?_
   have hv:v.toNat < ls.length:=∅
   have e4:=k4.get _ _ (by have:=db e2; omega) e2'
   refine la (w:=.int ls[v.toNat]) e4 v0 (by unfold ab; rw[HS,Ic hv]; rfl) ?_
   refine ac (dO (gh (by rw[HQ,show(ab to).length=to.length from HI ..]; show _+1<=_; omega))) (bX (hn2 _ _ #[to++[ls[v.toNat]],gV (.int m),gV (.ref S1.length),a8,a9,a10,?_,by rw[HQ,htl]; rfl,λy hy=>?_,f4,(k2.trans .push).trans k4]))
   ·rw[show ab to++[W.int ls[v.toNat]]=ab (to++[ls[v.toNat]]) by unfold ab; rw[IA]; rfl]
   ·rcases IU.mp hy with h|h
    ·exact hto y h
    ·rw[Ip.mp h]; exact hls _ (IX hv)
 ·rintro ρ S1 ⟨to,a6,a7,a8,a9,a10,rfl,htl,hto,f1,k1⟩;refine hK _ _ (st ?_);dsimp only[wS,wE,wV,wG];exact k _ _ (.inr #[to,rfl,∅,hto]) f1 k1
end
noncomputable def dI:Ss:=
 #v[.set 4 (.tup .nil),.loop (.nm 5) (.rng #v[.v 3]) #v[.set 6 (.own "_law_pick" 2 #v[.v 0,.bi .len #v[.ix (.v 1) (.c (.int 0))]]),.set 7 (.own "_law_new_ways" 6 #v[.v 0,.v 1,.v 2,.v 4,.v 6,.tup .nil]),.ite (.cmp .isnot (.v 7) (.c .non)) #v[.set 4 (.op .add (.v 4) (.tup #v[.tup #v[.v 6,.v 7]]))] .nil],.ret (.v 4)]
section
variable{defs:HF (Ik×Df)}{fuel d:HM}{S:aa}{r:HM}{Q:QW}
theorem Bl (G:Gen defs)(hw:Is defs ("_law_new_ways" : Ik) 6 11 bh)(hg:Is defs ("_law_world" : Ik) 4 8 dI){M N:HF W}{b0:W}{a n q many:HM}{kvs:HF (T×W)}(hM:M.length=a)(ha1:0 < a)(ha3:a<=3)(hN:N.length=n)(hn3:n<=3)(hm:many<=900)(e:S[q]?=gV (.dic kvs))(hqr:q≠r)(hf:Fl S r)
  (k:∀(u:Wd) S',u.length<=many->GoodW a n u->Fl S' r->Kp r S S'->Q (aG u,S')) :
  wO (bj (ay defs fuel (d+3)) "_law_world" 4 [.ref r,.tup [.tup M,.tup N,b0],.ref q,.int many] S) Q:=by
 refine aB hg rfl rfl λQ' hR=>?_
 replace k:∀(u:Wd) S',u.length<=many->GoodW a n u->Fl S' r->Kp r S S'->Q' (.rt (aG u),S'):=λu S' h1 h2 h3 h4=>hR _ _ (k u S' h1 h2 h3 h4)
 clear hR;show wZ _ _ dI [gV (.ref r),gV (.tup [.tup M,.tup N,b0]),gV (.ref q),gV (.int many),td,td,td,td] S Q';generalize hR0:W.tup [.tup M,.tup N,b0]=R;dsimp only[dI];refine st ?_;dsimp only[wS,wE,wA,HX];refine aW λK hK=>?_
 refine dc (many:Ig) (λi ρ S'=>∃(u:Wd) (a5 a6 a7:HL W),ρ=[gV (.ref r),gV R,gV (.ref q),gV (.int many),gV (aG u),a5,a6,a7]/\u.length<=i/\GoodW a n u/\Fl S' r/\Kp r S S') rfl rfl ∅ #[rfl,[],_,_,_,rfl,HZ _,.nil,hf,.refl] ?_ ?_
 ·rintro i ρ S1 hi ⟨u,a5,a6,a7,rfl,hul,hu,f1,k1⟩ Q2 hn _;clear hK;have e1:=k1.get _ _ hqr e;dsimp only[HX];refine st ?_;dsimp only[wS,wE,wA,wV,wG,HX];subst hR0;refine ah #v[] rfl (bo ?_)
  rw[hM];refine bn (d:=d+1) G.pick f1 ∅ ∅ λv S2 v0 v1 f2 k2=>?_
  have e2:=k2.get _ _ hqr e1;refine st ?_;dsimp only[wS,wE,wA,wV,wG,HX];refine lq (d:=d) G hw hN hn3 hu ∅ e2 hqr f2 λw S3 hw3 f3 k3=>?_
  refine aW λK hK=>?_
  dsimp only[wS,wT,wE,wA,wV,wG];rcases hw3 with rfl|⟨to,rfl,htl,hto⟩
  ·refine ac (show ce .isnot .non .non S3=gV (.bl false,S3)from rfl) ?_
   dsimp only[wB];exact ar (Q0:=Q2) (λz=>by cases z) (λ_ Q5 hn5 _=>bX (hn5 _ _ (hK _ _ (bX (hn _ _ #[u,_,_,_,rfl,∅,hu,f3,(k1.trans k2).trans k3])))))
  ·refine ac (show ce .isnot (.tup (ab to)) .non S3=gV (.bl true,S3)from rfl) ?_
   dsimp only[wB];refine ar (Q0:=Q2) (λ_ Q5 hn5 _=>?_) (λz=>by cases z)
   refine st ?_;dsimp only[wS,wE,wA,wV,wG,HX,aG];refine ac (dO (gh (by rw[HQ,HI]; show _+1<=_; omega))) (bX (hn5 _ _ (hK _ _ (bX (hn _ _ #[u++[(v,to)],gV (.int i),gV (.int v),gV (.tup (ab to)),?_,?_,hu.snoc #[v0,v1] htl hto,f3,(k1.trans k2).trans k3])))))
   ·unfold aG;rw[IA]; rfl
   ·rw[HQ,Jx]; omega
 ·rintro ρ S1 ⟨u,a5,a6,a7,rfl,hul,hu,f1,k1⟩;rw[HY]at hul;refine hK _ _ (st ?_);dsimp only[wS,wE,wV,wG];exact k u S1 hul hu f1 k1
end
theorem fA {n:HM}{x:Ig}(h:x∈eG n):0<=x/\x < n:=by
 obtain⟨k,hk,rfl⟩:=Ir.mp h;have:=IT.mp hk;omega
theorem lr {a n:HM}{u:Wd}(h:u∈qi a n):GoodW a n u/\u.length=3:=by
 unfold qi at h;simp only[KZ,Ir]at h;obtain⟨m0,h0,m1,h1,m2,h2,w1,g1,w2,g2,w3,g3,rfl⟩:=h;refine#[?_,rfl];have s1:GoodW a n ([]++[(m0,[])]):=GoodW.nil.snoc (fA h0) rfl (λw hw=>nomatch hw)
 have s2:GoodW a n ([(m0,[])]++[(m1,[w1])]):=s1.snoc (fA h1) rfl (λw hw=>by rw[Ip.mp hw]; exact fA g1)
 exact s2.snoc (fA h2) rfl (λw hw=>by
  simp only[Iz,Jl,KC]at hw;rcases hw with rfl|rfl
  ·exact fA g2
  ·exact fA g3)
theorem nj {a:HM}{bs:HF Ig}{g:Wd}(hb:GoodB bs)(h:g∈aX a bs):GoodW a bs.length g/\g.length=3:=by
 unfold aX at h;rw[Lf]at h;obtain⟨u,hu,rfl⟩:=Ir.mp h;obtain⟨gu,u3⟩:=lr hu;unfold eF;have hm:hJ ((aw.map (au bs u)).map cb) < (aw.map (au bs u)).length:=by
  unfold hJ;refine Nv (dy _ _) ?_;rw[HI,HI]; decide
 have:=Ij (az (d:=[]) hm);obtain⟨t,ht,e⟩:=Ir.mp this;rw[<- e];have tk:∀t∈aw,t.length=3/\t.Nodup/\∀p∈t,p < 3:=by decide
 obtain⟨t1,t2,t3⟩:=tk t ht;exact#[nh hb gu (λp hp=>by have:=t3 p hp; omega) t2,by rw[bq]; exact t1]
theorem vy {a n:HM}{u:Wd}(hu:GoodW a n u):GoodW a n u.dropLast:=by
 have key:∀(k:HM) (x:Pt),(u.dropLast)[k]?=gV x->u[k]?=gV x:=λk x e=>by
  rw[List.getElem?_dropLast]at e;split at e
  ·exact e
  ·cases e
 exact#[λk x e=>hu.mark k x (key k x e),λk x e=>hu.len k x (key k x e),λk x e=>hu.way k x (key k x e)]
noncomputable def qA (kvs:HF (T×W))(u:Wd)(h:Pt)(p q:HM):Iy:=(cr kvs (cb [((u.getD p (0,[])).1,[]),((u.getD q (0,[])).1,[(u.getD q (0,[])).2.getD p 0]),(h.1,[h.2.getD p 0,h.2.getD q 0])])).isSome
theorem sa {u:Wd}{h:Pt}{p:HM}(hp:p < u.length):(u++[h]).getD p (0,[])=u.getD p (0,[]):=by
 rw[Jf,Jf,IQ hp]
theorem sd {u:Wd}{h:Pt}:(u++[h]).getD u.length (0,[])=h:=by
 rw[Jf,JS (HZ _),Nat.sub_self]; rfl
noncomputable def dJ:Ss:=
 #v[.set 2 (.op .sub (.bi .len #v[.v 1]) (.c (.int 1))),.loop (.nm 3) (.rng #v[.op .sub (.v 2) (.c (.int 1))]) #v[.ite (.cmp .isin (.own "three_at" 4 #v[.v 1,.v 3,.op .sub (.v 2) (.c (.int 1)),.v 2]) (.v 0)) #v[.ret (.v 3)] .nil],.ret (.c .non)]
noncomputable def cF:Ss:=
 #v[.asg [4,5] (.ix (.v 2) (.v 3)),.loop (.nm 6) (.rng2 #v[.c (.int 1),.v 3]) #v[.loop (.nm 7) (.rng #v[.v 6]) #v[.ite (.cmp .isin (.tup #v[.tup #v[.ix (.ix (.v 2) (.v 7)) (.c (.int 0)),.tup .nil],.tup #v[.ix (.ix (.v 2) (.v 6)) (.c (.int 0)),.tup #v[.ix (.ix (.ix (.v 2) (.v 6)) (.c (.int 1))) (.v 7)]],.tup #v[.v 4,.tup #v[.ix (.v 5) (.v 7),.ix (.v 5) (.v 6)]]]) (.v 1)) #v[.ret (.c (.bl false))] .nil]],.ret (.c (.bl true))]
noncomputable def vz (kvs:HF (T×W))(u:Wd)(s:HM)(h:Pt):Iy:=(Im s).all λq=>(Im q).all λp=>!qA kvs u h p q
theorem uf {kvs:HF (T×W)}{u:Wd}{s:HM}{h:Pt}:vz kvs u s h=true↔∀q < s,∀p < q,qA kvs u h p q=false:=by
 unfold vz;simp only[IB,IT,Ma]
section
variable{defs:HF (Ik×Df)}{fuel d:HM}{S:aa}{Q:QW}
theorem se (hg:Is defs ("_law_last_may" : Ik) 4 8 cF){R:W}{a n q:HM}{u:Wd}{h:Pt}{kvs:HF (T×W)}(hu:GoodW a n u)(hh:h.2.length=u.length)(hl:u.length<=1000)(e:S[q]?=gV (.dic kvs))(k:Q (.bl (vz kvs u u.length h),S)) :
  wO (bj (ay defs fuel (d+1)) "_law_last_may" 4 [R,.ref q,aG (u++[h]),.int (u.length:Ig)] S) Q:=by
 refine aB hg rfl rfl λQ' hR=>?_
 replace k:=hR _ _ k;clear hR;show wZ _ _ cF [gV R,gV (.ref q),gV (aG (u++[h])),gV (.int (u.length:Ig)),td,td,td,td] S Q';have hvl:u.length < (u++[h]).length:=by rw[HQ,Jx]; omega
 have at':∀p < u.length,(((u++[h]).map bB)[((p:HM):Ig).toNat]?=gV (bB (u.getD p (0,[])))):=λp hp=>by
  rw[dG ∅,sa hp]
 have hw:∀p < u.length,(ab h.2)[((p:HM):Ig).toNat]?=gV (.int (h.2.getD p 0)):=λp hp=>by
  rw[HY]; unfold ab; rw[HS,az (d:=0) ∅]; rfl
 dsimp only[cF];refine st ?_;dsimp only[wS,wE,wV,wG];refine ah (HV _) (dG hvl) ?_;rw[sd];dsimp only[wU,bB];refine ac (show dv [4,5] [.int h.1,.tup (h.2.map W.int)] [gV R,gV (.ref q),gV (aG (u++[h])),gV (.int (u.length:Ig)),td,td,td,td]=gV [gV R,gV (.ref q),gV (aG (u++[h])),gV (.int (u.length:Ig)),gV (.int h.1),gV (.tup (ab h.2)),td,td]from rfl) ?_
 refine aW λK hK=>?_
 refine iK 1 (u.length:Ig) (λm ρ S'=>(∃a6 a7,ρ=[gV R,gV (.ref q),gV (aG (u++[h])),gV (.int (u.length:Ig)),gV (.int h.1),gV (.tup (ab h.2)),a6,a7])/\S'=S/\∀j < m+1,∀p < j,qA kvs u h p j=false) rfl rfl rfl ∅ #[rfl,rfl,#[_,_,rfl],rfl,λj hj p hp=>∅] ?_ ?_
 ·rintro m ρ S1 hm ⟨⟨a6,a7,rfl⟩,rfl,no⟩ Q2 hn2 hr2;clear hK;rw[show(1:Ig)+m=((m+1:HM):Ig) by omega]
  have hmu:m+1 < u.length:=∅
  generalize hj:m+1=j at hmu hn2 no;dsimp only[HX];refine aW λK hK=>?_
  refine dc (j:Ig) (λi ρ S'=>(∃a7,ρ=[gV R,gV (.ref q),gV (aG (u++[h])),gV (.int (u.length:Ig)),gV (.int h.1),gV (.tup (ab h.2)),gV (.int (j:Ig)),a7])/\S'=S1/\∀p < i,qA kvs u h p j=false) rfl rfl ∅ #[rfl,#[_,rfl],rfl,λp hp=>∅] ?_ ?_
  ·rintro i ρ S2 hi ⟨⟨a7,rfl⟩,rfl,no2⟩ Q3 hn3 hr3;clear hK;have hij:i < j:=∅
   have hiu:i < u.length:=∅
   have lj:i < (u.getD j (0,[])).2.length:=by rw[hu.len j _ (az (d:=(0,[])) hmu)]; exact hij
   dsimp only[HX];refine aW λK hK=>?_
   dsimp only[wS,wT,wE,wA,wV,wG];refine ah (HV i) (at' i hiu) (ah #v[] rfl (ah (HV j) (at' j hmu) (ah #v[] rfl (ah (HV j) (at' j hmu) (ah #v[] rfl (ah (w:=.int ((u.getD j (0,[])).2.getD i 0)) (HV i) (by rw[HY,HS,az (d:=0) lj]; rfl) (ah (HV i) (hw i hiu) (ah (HV j) (hw j hmu) ?_))))))))
   refine ac (show ce .isin (aG [((u.getD i (0,[])).1,[]),((u.getD j (0,[])).1,[(u.getD j (0,[])).2.getD i 0]),(h.1,[h.2.getD i 0,h.2.getD j 0])]) (.ref q) S2=gV (.bl (qA kvs u h i j),S2) by simp only[ce,cH e,oy]; rfl) ?_
   dsimp only[wB];refine ar (Q0:=Q3) (λhb Q5 _ hr5=>?_) (λhb Q5 hn5 _=>bX (hn5 _ _ (hK _ _ (bX (hn3 _ _ #[#[_,rfl],rfl,λp hp=>?_])))))
   ·refine st ?_;dsimp only[wS,wE];have:vz kvs u u.length h=false:=by
     rw[Bool.eq_false_iff];intro z;rw[uf.mp z j hmu i hij]at hb;cases hb
    rw[this]at k;exact hr5 _ _ (hr3 _ _ (hr2 _ _ k))
   ·by_cases ep:p=i
    ·rw[ep]; exact hb
    ·exact no2 p ∅
  ·rintro ρ S2 ⟨⟨a7,rfl⟩,rfl,no2⟩;rw[HY]at no2;refine hK _ _ (bX (hn2 _ _ #[#[_,_,rfl],rfl,λj' hj' p hp=>?_]))
   by_cases ej:j'=j
   ·subst ej; exact no2 p hp
   ·exact no j' ∅ p hp
 ·rintro ρ S1 ⟨⟨a6,a7,rfl⟩,rfl,no⟩;refine hK _ _ (st ?_);dsimp only[wS,wE];rw[uf.mpr λq hq p hp=>no q ∅ p hp]at k
  exact k
end
theorem jS {bt:HM->HM->Iy}{N:HM}(ir:∀i < N,bt i i=false)(tr:∀i j k,i < N->j < N->k < N->bt i j=true->bt j k=true->bt i k=true):∀n,n < N->∀j≤n,bt j (argBest bt n)=false
 | 0,hn,j,hj=>by
  obtain rfl:j=0:=∅
  exact ir 0 hn
 | n+1,hn,j,hj=>by
  have ih:=jS ir tr n ∅
  have hb:=dy bt n;simp only[argBest];cases c:bt (n+1) (argBest bt n)with
  | true=>
   rw[Iw rfl]
   by_cases e:j=n+1
   ·subst e; exact ir _ hn
   ·cases c2:bt j (n+1)with
    | false=>rfl
    | true=>
     have:=tr j (n+1) (argBest bt n) ∅ hn ∅ c2 c
     rw[ih j ∅]at this; cases this
  | false=>
   rw[IH (by exact Iu)]
   by_cases e:j=n+1
   ·subst e; exact c
   ·exact ih j ∅
theorem qB {ks:HF T}(hn:∀x∈ks,kJ x=true)(hl:fU ks=true)(hne:ks≠[]):∃x,ks[hJ ks]?=gV x/\x∈ks/\∀y∈ks,gF y x=gV false:=by
 have hp:0 < ks.length:=K8.mpr hne;have hm:hJ ks < ks.length:=by
  unfold hJ;have:=dy (uS ks) (ks.length - 1);omega
 have ltk:∀i j (hi:i < ks.length) (hj:j < ks.length),gF ks[i] ks[j]=gV (uS ks i j):=λi j hi hj=>rF hl hi hj
 have ir:∀i < ks.length,uS ks i i=false:=λi hi=>by
  cases c:uS ks i i with
  | false=>rfl
  | true=>
   have e:=ltk i i hi hi;rw[c]at e;have:=rH _ _ (hn _ (IX hi)) e;rw[e]at this; cases this
 have mn:=jS (bt:=uS ks) (N:=ks.length) ir (λi j k hi hj hk h1 h2=>by
  have e1:=ltk i j hi hj;have e2:=ltk j k hj hk;rw[h1]at e1;rw[h2]at e2;have:=wR _ _ _ (hn _ (IX hi)) (hn _ (IX hj)) e1 e2;rw[ltk i k hi hk]at this;exact Jn this) (ks.length - 1) ∅
 refine#[ks[hJ ks],Ic hm,IX hm,λy hy=>?_]
 obtain⟨j,hj,rfl⟩:=KW.mp hy;rw[ltk j _ hj hm];congr 1;exact mn j ∅
theorem ug {x y:T}(hx:kJ x=true)(h1:gF x y=gV false)(h2:gF y x=gV false):x=y:=by
 by_cases e:x=y
 ·exact e
 ·rw[rJ x y hx e h2]at h1; cases h1
theorem qC:∀ {xs ys as bs:HF T},xs.length=ys.length->di xs ys=gV true->di (xs++as) (ys++bs)=gV true
 | [],[],_,_,_,h=>by cases h
 | x::xs,y::ys,as,bs,hl,h=>by
  simp only[Of,di]at h ⊢
  by_cases e:x=y
  ·rw[Iw e]at h ⊢;exact qC (by simpa using hl) h
  ·rw[IH e]at h ⊢;exact h
 | [],_::_,_,_,hl,_=>by simp at hl
 | _::_,[],_,_,hl,_=>by simp at hl
theorem qD {as bs:HF T}:∀xs:HF T,di (xs++as) (xs++bs)=di as bs
 | []=>rfl
 | x::xs=>by
  simp only[Of,di,KG];exact qD xs
theorem DE {x y:T}(hx:kJ x=true)(h:di [x] [y]=gV true):gF x y=gV true:=by
 simp only[di]at h;split at h
 ·cases h
 ·exact h
structure Ord (n:HM)(o:HF HM):Prop where
 nd:o.Nodup
 lt:∀p∈o,p < n
noncomputable def yJ:HM->HF (HF HM)
 | 0=>[[]]
 | k+1=>(yJ k).flatMap λo=>(Im (k+1)).map λi=>o.take i++[k]++o.drop i
theorem oF:∀ {n:HM} {o:HF HM},o∈yJ n↔Ord n o/\o.length=n
 | 0,o=>by
  rw[yJ,Ip];exact#[λh=>by subst h; exact#[#[.nil,λp hp=>nomatch hp],rfl],λh=>KD h.2]
 | n+1,o=>by
  rw[yJ,KZ];constructor
  ·rintro⟨o',h1,h2⟩;obtain⟨i,hi,rfl⟩:=Ir.mp h2;obtain⟨⟨nd,lt⟩,hl⟩:=oF.mp h1;have hi:=IT.mp hi;have hp:(o'.take i++[n]++o'.drop i).Perm (n::o'):=by
    have e:o'.take i++[n]++o'.drop i=o'.take i++n::o'.drop i:=by simp
    rw[e];refine Og.trans ?_;rw[Lr]
   refine#[#[hp.nodup_iff.mpr (JU.mpr #[λz=>absurd (lt _ z) (Ju _),nd]),λp hpm=>?_],by rw[hp.length_eq,IW,hl]]
   rcases Iz.mp (hp.mem_iff.mp hpm)with z|z
   ·omega
   ·have:=lt p z; omega
  ·rintro⟨⟨nd,lt⟩,hl⟩;have hm:n∈o:=by
    by_cases z:n∈o
    ·exact z
    ·have h1:=jg o (Im n) nd λp hp=>IT.mpr (by
      have:=lt p hp;have:p≠n:=λe=>z (e ▸ hp)
      omega)
     rw[IM]at h1;omega
   obtain⟨a,b,rfl⟩:=List.append_of_mem hm;have hp:(a++n::b).Perm (n::(a++b)):=Og;have nd2:=hp.nodup_iff.mp nd;obtain⟨nn,nd3⟩:=JU.mp nd2;refine#[a++b,oF.mpr #[#[nd3,λp hpm=>?_],?_],Ir.mpr #[a.length,IT.mpr ?_,?_]]
   ·have h1:=lt p (hp.mem_iff.mpr (Jk _ hpm));have:p≠n:=λe=>nn (e ▸ hpm)
    omega
   ·have:=hp.length_eq;rw[hl,IW]at this;omega
   ·rw[HQ,IW]at hl;omega
   ·rw[List.take_left',List.drop_left'] <;> simp
noncomputable def gZ (bs:HF Ig)(u:Wd)(o:HF HM):Pt:=jR bs u o.dropLast (o.getLastD 0)
noncomputable def g5 (ps:HF Pt):Pt:=ps.getD (hJ (ps.map gW)) (0,[])
noncomputable def vA (bs:HF Ig)(u:Wd):HM->HF (HF HM)
 | 0=>[[]]
 | k+1=>(cL u.length (vA bs u k)).filter λo=>decide (gZ bs u o=g5 ((cL u.length (vA bs u k)).map (gZ bs u)))
noncomputable def yK (bs:HF Ig)(u:Wd):HM->Wd
 | 0=>[]
 | k+1=>yK bs u k++[g5 ((cL u.length (vA bs u k)).map (gZ bs u))]
theorem yL (p:Pt):kJ (gW p)=true:=by
 have:=kn [p]
 simpa [eH]using this
theorem vB (ps:HF Pt):fU (ps.map gW)=true:=by
 unfold fU;rw[IB];intro x hx;rw[IB];intro y hy;obtain⟨p,_,rfl⟩:=Ir.mp hx;obtain⟨q,_,rfl⟩:=Ir.mp hy;exact rW _ _ (xZ p q)
theorem vC {ps:HF Pt}(h:ps≠[]):ps[hJ (ps.map gW)]?=gV (g5 ps)/\g5 ps∈ps/\∀y∈ps,gF (gW y) (gW (g5 ps))=gV false:=by
 obtain⟨x,h1,h2,h3⟩:=qB (ks:=ps.map gW) (λx hx=>by obtain⟨p,_,rfl⟩:=Ir.mp hx; exact yL p) (vB ps) (by simpa using h)
 rw[HS,HJ]at h1;obtain⟨p,hp,rfl⟩:=h1;have e:g5 ps=p:=by unfold g5; rw[Jf,hp]; rfl
 rw[e];exact#[hp,Ij hp,λy hy=>h3 _ (Ir.mpr #[y,hy,rfl])]
theorem iM {n:HM}{os:HF (HF HM)}{o':HF HM}:o'∈cL n os↔∃o∈os,∃p,p < n/\p∉o/\o'=o++[p]:=by
 unfold cL;rw[KZ];constructor
 ·rintro⟨o,ho,h⟩;obtain⟨p,hp,rfl⟩:=Ir.mp h;obtain⟨h1,h2⟩:=Ki.mp hp;exact#[o,ho,p,IT.mp h1,Jg h2,rfl]
 ·rintro⟨o,ho,p,h1,h2,rfl⟩;exact#[o,ho,Ir.mpr #[p,Ki.mpr #[IT.mpr h1,Jt h2],rfl]]
theorem jo {bs:HF Ig}{u:Wd}{o:HF HM}{p:HM}:gZ bs u (o++[p])=jR bs u o p:=by
 unfold gZ;rw[List.dropLast_concat,List.getLastD_concat]
theorem iN {n:HM}{o:HF HM}{p:HM}:Ord n (o++[p])↔Ord n o/\p < n/\p∉o:=by
 constructor
 ·rintro⟨nd,lt⟩;rw[Mb]at nd;exact#[#[nd.1,λq hq=>lt q (JZ _ hq)],lt p (by simp),λz=>nd.2.2 p z p (by simp) rfl]
 ·rintro⟨⟨nd,lt⟩,h1,h2⟩;refine#[Mb.mpr #[nd,by simp,λa ha b hb e=>?_],λq hq=>?_]
  ·rw[Ip.mp hb]at e;exact h2 (e ▸ ha)
  ·rcases IU.mp hq with z|z
   ·exact lt q z
   ·rw[Ip.mp z]; exact h1
theorem yM {n:HM}{o:HF HM}(h:Ord n o)(hl:o.length < n):∃p,p < n/\p∉o:=by
 by_cases z:∃p,p < n/\p∉o
 ·exact z
 ·have h1:=jg (Im n) o Oe λp hp=>by
   by_cases z2:p∈o
   ·exact z2
   ·exact absurd #[p,IT.mp hp,z2] z
  rw[IM]at h1;omega
theorem FL (u v:Wd):(gF (cb u) (cb v)).isSome=true:=by
 have:=gy [u,v];unfold fU at this;rw[IB]at this;have:=this (cb u) (by simp)
 rw[IB]at this;exact this (cb v) (by simp)
theorem DF {u v:Wd}(h:gF (cb u) (cb v)≠gV true):gF (cb u) (cb v)=gV false:=by
 obtain⟨b,hb⟩:=Jc.mp (FL u v);cases b with
 | false=>exact hb
 | true=>exact absurd hb h
structure GrOk (bs:HF Ig)(u:Wd)(k:HM):Prop where
 mem:∀o,o∈vA bs u k↔Ord u.length o/\o.length=k/\au bs u o=yK bs u k
 least:∀o,Ord u.length o->o.length=k->gF (cb (au bs u o)) (cb (yK bs u k))=gV false
 ne:vA bs u k≠[]
 len:(yK bs u k).length=k
theorem uh {k:HM}{o:HF HM}(h:o.length=k+1):∃o' p,o=o'++[p]/\o'.length=k:=by
 have hne:o≠[]:=λz=>by rw[z]at h; cases h
 exact#[o.dropLast,o.getLast hne,(List.dropLast_concat_getLast hne).symm,by rw[LC]; omega]
theorem qE {bs:HF Ig}{u:Wd}:∀k,k<=u.length->GrOk bs u k
 | 0,_=>by
  refine#[λo=>?_,λo _ hl=>?_,Od _ _,rfl]
  ·rw[vA,Ip];exact#[λh=>by subst h; exact#[#[.nil,λp hp=>nomatch hp],rfl,rfl],λh=>KD h.2.1]
  ·rw[KD hl]; rfl
 | k+1,hk=>by
  have ih:=qE (bs:=bs) (u:=u) k ∅
  have lne:cL u.length (vA bs u k)≠[]:=by
   obtain⟨o,ho⟩:=L5 _ ih.ne;obtain⟨h1,h2,_⟩:=(ih.mem o).mp ho;obtain⟨p,hp,hpo⟩:=yM h1 ∅
   exact Nw (iM.mpr #[o,ho,p,hp,hpo,rfl])
  obtain⟨_,b2,b3⟩:=vC (ps:=(cL u.length (vA bs u k)).map (gZ bs u)) (by simpa using lne)
  have ef:yK bs u (k+1)=yK bs u k++[g5 ((cL u.length (vA bs u k)).map (gZ bs u))]:=rfl;have eo:vA bs u (k+1)=(cL u.length (vA bs u k)).filter λo=>decide (gZ bs u o=g5 ((cL u.length (vA bs u k)).map (gZ bs u))):=rfl
  generalize g5 ((cL u.length (vA bs u k)).map (gZ bs u))=best at b2 b3 ef eo;refine#[λo=>?_,λo hO hl=>?_,?_,by rw[ef,HQ,ih.len]; rfl]
  ·rw[eo,Ki,ef];constructor
   ·rintro⟨h1,h2⟩;obtain⟨o,ho,p,hp,hpo,rfl⟩:=iM.mp h1;obtain⟨g1,g2,g3⟩:=(ih.mem o).mp ho;have h2:=Jg h2;rw[jo]at h2;exact#[iN.mpr #[g1,hp,hpo],by rw[HQ,g2]; rfl,by rw[gB,g3,h2]]
   ·rintro⟨h1,h2,h3⟩;obtain⟨o,p,rfl,hl⟩:=uh h2;obtain⟨g1,g2,g3⟩:=iN.mp h1;rw[gB]at h3;obtain⟨e1,e2⟩:=List.append_inj h3 (by rw[bq,ih.len,hl])
    refine#[iM.mpr #[o,(ih.mem o).mpr #[g1,hl,e1],p,g2,g3,rfl],Jt ?_];rw[jo];exact List.singleton_inj.mp e2
  ·obtain⟨o,p,rfl,hl'⟩:=uh hl;clear hl;have hl:=hl';obtain⟨g1,g2,g3⟩:=iN.mp hO;refine DF λz=>?_
   rw[gB,ef]at z;have z:di ((au bs u o++[jR bs u o p]).map gW) ((yK bs u k++[best]).map gW)=gV true:=z;rw[IA,IA]at z
   by_cases e:au bs u o=yK bs u k
   ·rw[e,qD]at z;have:=DE (yL _) z;rw[b3 _ (Ir.mpr #[o++[p],iM.mpr #[o,(ih.mem o).mpr #[g1,hl,e],p,g2,g3,rfl],jo])]at this;cases this
   ·have h1:=rJ (cb (yK bs u k)) (cb (au bs u o)) (oD _) (λh=>e (gA h).symm) (ih.least o g1 hl)
    have h1:di ((yK bs u k).map gW) ((au bs u o).map gW)=gV true:=h1;have h2:=qC (as:=[best].map gW) (bs:=[jR bs u o p].map gW) (by rw[HI,HI,bq,ih.len,hl]) h1
    have h3:=nY _ _ (by rw[<- IA]; exact kn _) h2
    rw[z]at h3; cases h3
  ·obtain⟨o,ho,e⟩:=Ir.mp b2;rw[eo];exact Nw (Ki.mpr #[ho,Jt e])
noncomputable def lu (bs:HF Ig)(u:Wd):Wd:=yK bs u u.length
theorem lv {bs:HF Ig}{u:Wd}:∃o,Ord u.length o/\o.length=u.length/\au bs u o=lu bs u:=by
 have h:=qE (bs:=bs) (u:=u) u.length (HZ _);obtain⟨o,ho⟩:=L5 _ h.ne;exact#[o,(h.mem o).mp ho]
theorem gC {bs:HF Ig}{u:Wd}{o:HF HM}{i:HM}(hi:i < o.length):(au bs u o).getD i (0,[])=((u.getD (o.getD i 0) (0,[])).1,(o.take i).map λj=>cD bs u (o.getD i 0) j):=by
 unfold au;rw[Jf,HS,Kx hi]; rfl
theorem qF {bs:HF Ig}{u:Wd}{o:HF HM}{i j:HM}(hi:i < o.length)(hj:j < i):((au bs u o).getD i (0,[])).2.getD j 0=cD bs u (o.getD i 0) (o.getD j 0):=by
 rw[gC hi];dsimp only;rw[Jf,HS,Mf hj,az (d:=0) (show j < o.length by omega)]; rfl
theorem yN {bs:HF Ig}{a:HM}{u:Wd}{o:HF HM}{i j:HM}(hb:GoodB bs)(hu:GoodW a bs.length u)(hO:Ord u.length o)(hi:i < o.length)(hj:j < o.length)(hij:i≠j):cD bs (au bs u o) i j=cD bs u (o.getD i 0) (o.getD j 0):=by
 have gi:=az (d:=0) hi;have gj:=az (d:=0) hj;have li:=hO.lt _ (Ij gi);have lj:=hO.lt _ (Ij gj);have ne:o.getD i 0≠o.getD j 0:=λe=>by
  have h1:o[i]=o.getD i 0:=by simp[hi]
  have h2:o[j]=o.getD j 0:=by simp[hj]
  exact hij ((Kb hO.nd).mp (by rw[h1,h2,e]))
 by_cases h:j < i
 ·have:cD bs (au bs u o) i j=((au bs u o).getD i (0,[])).2.getD j 0:=by unfold cD; rw[Iw h]
  rw[this,qF hi h]
 ·have:cD bs (au bs u o) i j=bs.getD (((au bs u o).getD j (0,[])).2.getD i 0).toNat 0:=by unfold cD; rw[IH h]
  rw[this,qF hj ∅]
  generalize o.getD i 0=x at *
  generalize o.getD j 0=y at *
  unfold cD
  by_cases h2:x < y
  ·rw[Iw h2,IH ∅]
  ·rw[IH h2,Iw ∅]
   have hp:=az (d:=(0,[])) li;have hw:y < (u.getD x (0,[])).2.length:=by rw[hu.len x _ hp]; omega
   obtain⟨w0,w1⟩:=hu.way x _ hp _ (Ij (az (d:=0) hw));have:=hb.inv ((u.getD x (0,[])).2.getD y 0).toNat ∅
   rw[this]; omega
theorem jp {bs:HF Ig}{a:HM}{u:Wd}{o p:HF HM}(hb:GoodB bs)(hu:GoodW a bs.length u)(hO:Ord u.length o)(hP:Ord o.length p):au bs (au bs u o) p=au bs u (p.map λi=>o.getD i 0):=by
 refine KY (by rw[bq,bq,HI]) λk h1 h2=>?_
 rw[bq]at h1;have e1:=gC (bs:=bs) (u:=au bs u o) (o:=p) h1;have e2:=gC (bs:=bs) (u:=u) (o:=p.map λi=>o.getD i 0) (i:=k) (by rw[HI]; exact h1)
 have hk:p.getD k 0 < o.length:=hP.lt _ (Ij (az (d:=0) h1));have ek:(p.map λi=>o.getD i 0).getD k 0=o.getD (p.getD k 0) 0:=by
  rw[Jf,HS,az (d:=0) h1]; rfl
 rw[ek]at e2;rw[gC hk]at e1;have f:∀(v:Wd) (hv:k < v.length),v[k]=v.getD k (0,[]):=λv hv=>by simp[hv]
 rw[f _ (by rw[bq]; exact h1),f _ h2,e1,e2]
 congr 1;rw[<- Lz,J8];refine Jw λj hj=>?_
 obtain⟨m,hm,rfl⟩:=KW.mp hj;rw[IN]at hm;rw[Lp];have hpm:p[m]=p.getD m 0:=by simp[show m < p.length by omega]
 rw[hpm];refine yN hb hu hO hk (hP.lt _ (Ij (az (d:=0) (show m < p.length by omega)))) λe=>?_
 have h3:p[k]=p.getD k 0:=by simp[h1]
 have:=(Kb hP.nd).mp (h3.trans (e.trans hpm.symm));omega
theorem ko {n:HM}{o:HF HM}(h:Ord n o)(hl:o.length=n){p:HM}(hp:p < n):p∈o:=by
 by_cases z:p∈o
 ·exact z
 ·have:=(iN (n:=n) (o:=o) (p:=p)).mpr #[h,hp,z];have h1:=jg (o++[p]) (Im n) this.nd λq hq=>IT.mpr (this.lt q hq)
  rw[HQ,IM,Jx]at h1;omega
theorem yO {n:HM}{o p:HF HM}(h:Ord n o)(hp:Ord o.length p):Ord n (p.map λi=>o.getD i 0):=by
 have g:∀i,i < o.length->o[i]?=gV (o.getD i 0):=λi hi=>az hi
 refine#[?_,λq hq=>?_]
 ·rw[LX,KN];refine hp.nd.imp_of_mem λ{a b} ha hb hab e=>hab ?_
  have h1:=hp.lt a ha;have h2:=hp.lt b hb;have e1:o[a]=o.getD a 0:=by simp[h1]
  have e2:o[b]=o.getD b 0:=by simp[h2]
  exact(Kb h.nd).mp (by rw[e1,e2,e])
 ·obtain⟨i,hi,rfl⟩:=Ir.mp hq;exact h.lt _ (Ij (g i (hp.lt i hi)))
theorem sf {bs:HF Ig}{a:HM}{u:Wd}{o:HF HM}(hb:GoodB bs)(hu:GoodW a bs.length u)(hO:Ord u.length o)(hl:o.length=u.length):lu bs (au bs u o)=lu bs u:=by
 have pl:(au bs u o).length=u.length:=by rw[bq,hl]
 obtain⟨p,p1,p2,p3⟩:=lv (bs:=bs) (u:=au bs u o);obtain⟨q,q1,q2,q3⟩:=lv (bs:=bs) (u:=u);rw[pl]at p1 p2;have m1:=λo h1 h2=>(qE (bs:=bs) (u:=u) _ (HZ _)).least o h1 h2
 have m2:=λo2 h1 h2=>(qE (bs:=bs) (u:=au bs u o) _ (HZ _)).least o2 h1 h2
 refine gA (ug (oD _) ?_ ?_)
 ·rw[<- p3,jp hb hu hO (by rw[hl]; exact p1)]
  exact m1 _ (yO hO (by rw[hl]; exact p1)) (by rw[HI,p2])
 ·have e:q=(q.map λx=>o.idxOf x).map λi=>o.getD i 0:=by
   rw[J8]
   conv=>lhs; rw[<- List.map_id q]
   refine Jw λx hx=>?_
   have hm:=ko hO hl (q1.lt x hx);have hlt:=J9 hm;show x=o.getD (o.idxOf x) 0;rw[Jf,Ic hlt,LY]; rfl
  have hQ:Ord o.length (q.map λx=>o.idxOf x):=by
   refine#[?_,λi hi=>?_]
   ·rw[LX,KN];refine q1.nd.imp_of_mem λ{x y} hx hy hxy e=>hxy ?_
    have h1:=J9 (ko hO hl (q1.lt x hx));have h2:=J9 (ko hO hl (q1.lt y hy));have e1:=LY h1;have e2:=LY h2;rw[<- e1,<- e2];congr 1
   ·obtain⟨x,hx,rfl⟩:=Ir.mp hi;exact J9 (ko hO hl (q1.lt x hx))
  rw[<- q3,e,<- jp hb hu hO hQ];exact m2 _ (by rw[pl,<- hl]; exact hQ) (by rw[HI,pl,q2])
theorem fB {t:HF HM}:t∈aw↔Ord 3 t/\t.length=3:=by
 constructor
 ·intro h;have:∀t∈aw,t.Nodup/\(∀p∈t,p < 3)/\t.length=3:=by decide
  obtain⟨h1,h2,h3⟩:=this t h;exact#[#[h1,h2],h3]
 ·intro h;have h1:=oF.mpr h;have:∀t∈yJ 3,t∈aw:=by decide
  exact this t h1
theorem sg {bs:HF Ig}{u:Wd}:∃t∈aw,eF bs u=au bs u t/\∀s∈aw,gF (cb (au bs u s)) (cb (eF bs u))=gV false:=by
 obtain⟨x,h1,h2,h3⟩:=qB (ks:=(aw.map (au bs u)).map cb) (λx hx=>by obtain⟨p,_,rfl⟩:=Ir.mp hx; exact oD p) (gy _) (by simp[aw])
 rw[HS,HJ]at h1;obtain⟨v,hv,rfl⟩:=h1;have e:eF bs u=v:=by unfold eF; rw[Jf,hv]; rfl
 rw[e];obtain⟨t,ht,rfl⟩:=Ir.mp (Ij hv);exact#[t,ht,rfl,λs hs=>h3 _ (Ir.mpr #[_,Ir.mpr #[s,hs,rfl],rfl])]
theorem nk {bs:HF Ig}{u:Wd}(h:u.length=3):eF bs u=lu bs u:=by
 obtain⟨t,ht,e,mn⟩:=sg (bs:=bs) (u:=u);obtain⟨o,h1,h2,h3⟩:=lv (bs:=bs) (u:=u);have hl:∀t∈aw,gF (cb (au bs u t)) (cb (lu bs u))=gV false:=λt ht=>by
  obtain⟨g1,g2⟩:=fB.mp ht;rw[<- h]at g1 g2;exact(qE (bs:=bs) (u:=u) u.length (HZ _)).least t g1 g2
 refine gA (ug (oD _) ?_ ?_)
 ·rw[e]; exact hl t ht
 ·rw[<- h3];rw[h]at h1 h2;exact mn o (fB.mpr #[h1,h2])
theorem DG {bs:HF Ig}{a:HM}{gs:HF Wd}{w:Wd}(hb:GoodB bs)(hgs:∀g∈gs,g∈aX a bs)(hw:GoodW a bs.length w)(h3:w.length=3):eF bs w∈gs↔w∈bm bs gs:=by
 unfold bm;rw[KZ];have fp:∀(u:Wd) (t:HF HM),GoodW a bs.length u->u.length=3->t∈aw->eF bs (au bs u t)=eF bs u:=λu t hu hl ht=>by
  obtain⟨t1,t2⟩:=fB.mp ht;rw[nk hl,nk (by rw[bq,t2]),sf hb hu (by rw[hl]; exact t1) (by rw[t2,hl])]
 constructor
 ·intro h;obtain⟨t,ht,e,_⟩:=sg (bs:=bs) (u:=w);obtain⟨t1,t2⟩:=fB.mp ht;have inv:∀t∈aw,∃s∈aw,(s.map λi=>t.getD i 0)=[0,1,2]:=by decide
  obtain⟨s,hs,es⟩:=inv t ht;refine#[_,h,Ir.mpr #[s,hs,?_]];have:=jp (p:=s) hb hw (by rw[h3]; exact t1) (by rw[t2]; exact(fB.mp hs).1)
  rw[e,this,es];have r3:[0,1,2]=Im w.length:=by rw[h3]; rfl
  rw[r3];have self:∀k,k<=w.length->au bs w (Im k)=w.take k:=λk=>by
   induction k with
   | zero=>intro _; simp[au]
   | succ k ih=>
    intro hk;rw[Km,gB,ih ∅,vo hw ∅,Jb,az (d:=(0,[])) ∅]; rfl
  rw[self _ (HZ _),Jm]
 ·rintro⟨g,hg,h⟩;obtain⟨t,ht,rfl⟩:=Ir.mp h;have hf:=hgs g hg;obtain⟨gg,g3⟩:=nj hb hf;rw[fp g t gg g3 ht];unfold aX at hf;rw[Lf]at hf;obtain⟨u,hu,e⟩:=Ir.mp hf;obtain⟨gu,u3⟩:=lr hu;obtain⟨s,hs,es,_⟩:=sg (bs:=bs) (u:=u);have:eF bs g=g:=by
   rw[<- e]
   conv=>lhs; rw[es]
   rw[fp u s gu u3 hs]
  rw[this]; exact hg
theorem DH {S:aa}{f:Wd}{gs:HF Wd}:ce .isin (aG f) (.tup (gs.map aG)) S=gV (.bl (decide (f∈gs)),S):=by
 have e:wz (aG f) (gs.map aG)=gV (decide (f∈gs)):=by
  unfold wz;rw[BS,xX];dsimp only;rw[Iw #[by have:=lg f; unfold bC; omega,by have:=gx gs; unfold bC; omega]]
  congr 1;rw[MG,Ix,Ix,Ir];exact#[λ#[x,hx,e]=>gA e ▸ hx,λh=>#[f,h,rfl]]
 unfold aG at e ⊢;simp only[ce,e];rfl
noncomputable def jq:Ss:=
 #v[.ret (.ix (.ix (.ix (.v 0) (.c (.int 1))) (.v 1)) (.c (.int 1)))]
noncomputable def fH:Ss:=
 #v[.set 4 (.own "barred_by" 4 #v[.v 0,.v 1,.v 2,.v 3]),.set 5 (.comp (.v 1) (.nm 1) (.rng #v[.bi .len #v[.ix (.v 0) (.c (.int 1))]]) #v[.cmp .is (.ix (.v 2) (.v 1)) (.c .non)] [td,td,gV 4]),.ite (.cmp .is (.ix (.v 4) (.neg (.c (.int 1)))) (.c .non)) #v[.ex (.me .append (.v 5) #v[.neg (.c (.int 1))])] .nil,.ret (.v 5)]
noncomputable def eO:Ss:=
 #v[.ret (.own "all_bars" 5 #v[.v 0,.own "barred_threes" 1 #v[.v 0],.v 1,.v 2,.v 3])]
noncomputable def fI:Ss:=
 #v[.set 5 (.comp (.own "first_bar" 2 #v[.v 2,.own "with_both" 5 #v[.v 6,.v 3,.v 4,.v 5,.v 1]]) (.nm 1) (.rng #v[.bi .len #v[.ix (.v 0) (.c (.int 1))]]) .nil [td,td,gV 1,gV 2,gV 3,gV 4,gV 0]),.ret (.bi .tuple #v[.op .add (.v 5) (.lst #v[.own "same_bar" 2 #v[.v 3,.v 4]])])]
noncomputable def dL:Ss:=
 #v[.ret (.op .add (.v 1) (.tup #v[.v 2,.tup #v[.ix (.v 3) (.c (.int 0)),.op .add (.ix (.v 3) (.c (.int 1))) (.tup #v[.own "back" 2 #v[.v 0,.v 4]])]]))]
noncomputable def eC:Ss:=
 #v[.ite (.cmp .ne (.ix (.v 0) (.c (.int 0))) (.ix (.v 1) (.c (.int 0)))) #v[.ret (.neg (.c (.int 1)))] .nil,.set 2 (.comp (.v 1) (.nm 1) (.rng #v[.bi .len #v[.ix (.v 0) (.c (.int 1))]]) #v[.cmp .ne (.ix (.ix (.v 2) (.c (.int 1))) (.v 1)) (.ix (.ix (.v 3) (.c (.int 1))) (.v 1))] [td,td,gV 0,gV 1]),.ret (.ite (.v 2) (.ix (.v 2) (.c (.int 0))) (.c .non))]
noncomputable def cu (P:HM->Iy)(s:HM):W:=match (Im s).find? P with
 | some i=>.int (i:Ig)
 | none=>.non
theorem sh {P:HM->Iy}{s:HM}(h:∀i < s,P i=false):cu P s=.non:=by
 unfold cu;have:(Im s).find? P=td:=LV.mpr λi hi=>by rw[h i (IT.mp hi)]; exact Iu
 rw[this]
theorem lx {P:HM->Iy}:∀ {s i:HM},i < s->P i=true->(∀j < i,P j=false)->(Im s).find? P=gV i
 | s+1,i,hi,hp,hn=>by
  rw[Km,List.find?_append]
  by_cases e:i=s
  ·subst e;have:(Im i).find? P=td:=LV.mpr λj hj=>by rw[hn j (IT.mp hj)]; exact Iu
   rw[this];simp[hp]
  ·rw[lx ∅ hp hn]; rfl
theorem si {P:HM->Iy}{s i:HM}(hi:i < s)(hp:P i=true)(hn:∀j < i,P j=false):cu P s=.int (i:Ig):=by
 unfold cu;rw[lx hi hp hn]
theorem ie {P:HM->Iy}{s:HM}:(((Im s).filter P).map (λ(i:HM)=>W.int (i:Ig))++[.non])[0]?=gV (cu P s):=by
 unfold cu;rw[<- List.head?_filter];cases(Im s).filter P <;> rfl
theorem jT (P:HM->Iy)(s:HM):cu P s=.non\/∃i:Ig,cu P s=.int i:=by
 unfold cu;cases(Im s).find? P with
 | none=>exact .inl rfl
 | some i=>exact .inr #[_,rfl]
noncomputable def cG (bs:HF Ig)(u:Wd)(one other:Pt)(n:HM):Wd:=u++[one]++[(other.1,other.2++[bs.getD n 0])]
noncomputable def gk (one other:Pt):W:=if one.1=other.1 then cu (λp=>!(one.2.getD p 0==other.2.getD p 0)) one.2.length else .int (-1)
noncomputable def du (P:Wd->HM->Iy)(bs:HF Ig)(u:Wd)(one other:Pt):HF W:=(Im bs.length).map (λn=>cu (P (cG bs u one other n)) u.length)++[gk one other]
theorem sj (one other:Pt):gk one other=.non\/∃i:Ig,gk one other=.int i:=by
 unfold gk;split
 ·exact jT _ _
 ·exact .inr #[_,rfl]
structure GoodP (a n k:HM)(p:Pt):Prop where
 mark:0<=p.1/\p.1 < a
 len:p.2.length=k
 way:∀w∈p.2,0<=w/\w < (n:Ig)
theorem nq {bs:HF Ig}{a:HM}{u:Wd}{one other:Pt}{n:HM}(hb:GoodB bs)(hu:GoodW a bs.length u)(h1:GoodP a bs.length u.length one)(h2:GoodP a bs.length u.length other)(hn:n < bs.length):GoodW a bs.length (cG bs u one other n)/\(cG bs u one other n).length=u.length+2:=by
 refine#[(hu.snoc (m:=one.1) (ws:=one.2) h1.mark h1.len h1.way).snoc h2.mark ?_ λw hw=>?_,?_]
 ·rw[HQ,HQ,h2.len]; rfl
 ·rcases IU.mp hw with z|z
  ·exact h2.way w z
  ·rw[Ip.mp z];obtain⟨b,hb1,hb2,hb3⟩:=hb.rng n hn;rw[getD_some hb1]; exact#[hb2,hb3]
 ·unfold cG;rw[HQ,HQ]; rfl
section
variable{defs:HF (Ik×Df)}{fuel d:HM}{S:aa}{Q:QW}
theorem qG (h3:Is defs ("three_at" : Ik) 4 6 dA)(hg:Is defs ("first_bar" : Ik) 2 4 dJ){a n q s:HM}{v:Wd}{kvs:HF (T×W)}(hv:GoodW a n v)(hs:v.length=s+2)(hl:v.length<=1000)(e:S[q]?=gV (.dic kvs))(k:Q (cu (λp=>oE kvs v p s (s+1)) s,S)) :
  wO (bj (ay defs fuel (d+2)) "first_bar" 2 [.ref q,aG v] S) Q:=by
 refine aB hg rfl rfl λQ' hR=>?_
 replace k:=hR _ _ k;clear hR;show wZ _ _ dJ [gV (.ref q),gV (aG v),td,td] S Q';have ul:(v.map bB).length=v.length:=HI ..;dsimp only[dJ];refine st ?_;dsimp only[wS,wE,wA,wV,wG,HX];refine bo (ac mU ?_);rw[ul,show((v.length:HM):Ig) - 1=((s+1:HM):Ig) by omega]
 refine aW λK hK=>?_
 refine dc (s:Ig) (λi ρ S'=>(∃a3,ρ=[gV (.ref q),gV (aG v),gV (.int ((s+1:HM):Ig)),a3])/\S'=S/\∀i' < i,oE kvs v i' s (s+1)=false) rfl rfl ∅ ?_ ?_ ?_
 ·dsimp only[wE,wV,wG];refine ac mU #[?_,#[_,rfl],rfl,λi' z=>∅]
  dsimp only;rw[show((s+1:HM):Ig) - 1=(s:Ig) by omega]
 ·rintro i ρ S1 hi ⟨⟨a3,rfl⟩,rfl,no⟩ Q2 hn hr;clear hK;dsimp only[HX];refine aW λK hK=>?_
  dsimp only[wS,wT,wE,wA,wV,wG];refine ac mU ?_;dsimp only;rw[show((s+1:HM):Ig) - 1=(s:Ig) by omega]
  refine Bk (d:=d) h3 hv ∅ (KA s) ∅ ?_
  refine ac (show ce .isin (aG (jn v i s (s+1))) (.ref q) S1=gV (.bl (oE kvs v i s (s+1)),S1) by simp only[ce,cH e,oy]; rfl) ?_
  dsimp only[wB];refine ar (Q0:=Q2) (λh Q5 _ hr5=>?_) (λh Q5 hn5 _=>bX (hn5 _ _ (hK _ _ (bX (hn _ _ #[#[_,rfl],rfl,λi' z=>?_])))))
  ·refine st ?_;dsimp only[wS,wE,wV,wG];rw[si (P:=λp=>oE kvs v p s (s+1)) ∅ h no]at k
   exact hr5 _ _ (hr _ _ k)
  ·by_cases ei:i'=i
   ·rw[ei]; exact h
   ·exact no i' ∅
 ·rintro ρ S1 ⟨⟨a3,rfl⟩,rfl,no⟩;refine hK _ _ (st ?_);dsimp only[wS,wE];rw[sh (P:=λp=>oE kvs v p s (s+1)) λi hi=>no i ∅]at k
  exact k
theorem DI (hg:Is defs ("back" : Ik) 2 2 jq){m0 b0:W}{ns:HF Ik}{bs:HF Ig}{n:HM}(hnl:ns.length=bs.length)(hn:n < bs.length)(k:Q (.int (bs.getD n 0),S)) :
  wO (bj (ay defs fuel (d+1)) "back" 2 [.tup [m0,.tup (Il bp ns bs),b0],.int n] S) Q:=by
 refine aB hg rfl rfl λQ' hR=>?_
 replace k:=hR _ _ k;show wZ _ _ jq [gV (.tup [m0,.tup (Il bp ns bs),b0]),gV (.int n)] S Q';have hb:=az (d:=0) hn;dsimp only[jq];refine st ?_;dsimp only[wS,wE,wV,wG];exact ah #v[] rfl (ah (HV n) (by rw[HY]; exact jh (Ic ∅) hb) (ah #v[] rfl k))
theorem qH (hbk:Is defs ("back" : Ik) 2 2 jq)(hg:Is defs ("with_both" : Ik) 5 5 dL){m0 b0:W}{ns:HF Ik}{bs:HF Ig}{u:Wd}{one other:Pt}{n:HM}(hnl:ns.length=bs.length)(hn:n < bs.length)(hu:u.length<=900)(ho:other.2.length<=900)(k:Q (aG (cG bs u one other n),S)) :
  wO (bj (ay defs fuel (d+2)) "with_both" 5 [.tup [m0,.tup (Il bp ns bs),b0],aG u,bB one,bB other,.int n] S) Q:=by
 refine aB hg rfl rfl λQ' hR=>?_
 replace k:=hR _ _ k;show wZ _ _ dL [gV (.tup [m0,.tup (Il bp ns bs),b0]),gV (aG u),gV (bB one),gV (bB other),gV (.int n)] S Q';dsimp only[dL];refine st ?_;dsimp only[wS,wE,wA,wV,wG];refine ah #v[] rfl (ah #v[] rfl ?_)
 refine DI (d:=d) hbk hnl hn ?_;refine ac (dO (gh ?_)) ?_
 ·rw[HQ,HI]; show _+1<=_; omega
 dsimp only;have ev:u.map bB++[bB one,.tup [.int other.1,.tup (other.2.map W.int++[.int (bs.getD n 0)])]]=(cG bs u one other n).map bB:=by
  unfold cG;simp[bB]
 unfold aG at k ⊢;refine ac (dO (gh ?_)) ?_
 ·rw[HQ,HI]; show _+2<=_; omega
 dsimp only;rw[ev];exact k
theorem sm (hg:Is defs ("same_bar" : Ik) 2 3 eC){one other:Pt}(h:other.2.length=one.2.length)(hl:one.2.length<=900)(k:∀S',Ka S S'->Q (gk one other,S')) :
  wO (bj (ay defs fuel (d+1)) "same_bar" 2 [bB one,bB other] S) Q:=by
 refine aB hg rfl rfl λQ' hR=>?_
 replace k:∀S',Ka S S'->Q' (.rt (gk one other),S'):=λS' a=>hR _ _ (k S' a)
 clear hR;show wZ _ _ eC [gV (bB one),gV (bB other),td] S Q';have wl:∀(p:Pt) (i:HM),i < p.2.length->(p.2.map W.int)[((i:HM):Ig).toNat]?=gV (.int (p.2.getD i 0)):=λp i hi=>by
  rw[HY,HS,az (d:=0) hi]; rfl
 dsimp only[eC];refine aW λK hK=>?_
 dsimp only[wS,wT,wE,wV,wG];refine ah #v[] rfl (ah #v[] rfl (ac xN ?_))
 dsimp only[wB];unfold gk at k;refine ar (Q0:=Q') (λhm Q2 _ hr=>?_) (λhm Q2 hn _=>bX (hn _ _ (hK _ _ ?_)))
 ·have hm:one.1≠other.1:=λz=>by rw[z]at hm; simp at hm
  refine st ?_;dsimp only[wS,wE,wN];rw[IH hm]at k;exact hr _ _ (k S .refl)
 clear hK K hn;have hm:one.1=other.1:=by
  by_cases z:one.1=other.1
  ·exact z
  ·have:(!(one.1==other.1))=true:=by simp[z]
   rw[this]at hm; cases hm
 rw[Iw hm]at k;refine st ?_;dsimp only[wS,wE,HX];refine jm one.2.length (λp=>!(one.2.getD p 0==other.2.getD p 0)) (λ(i:HM)=>W.int (i:Ig)) [gV (bB one),gV (bB other)] rfl rfl rfl rfl ∅ ?_ (λi hi S2 k2=>?_) λS2 k2=>?_
 ·dsimp only[wE,wA,wV,wG];refine ah #v[] rfl (bo ?_)
  rw[HI];exact#[rfl,.refl]
 ·dsimp only[jf,wC,wT,wE,wV,wG];refine ah #v[] rfl (ah (HV i) (wl one i hi) (ah #v[] rfl (ah (HV i) (wl other i ∅) (ac xN ?_))))
  dsimp only[wB];exact#[λz=>#[z,rfl,.refl],λz=>#[z,.refl]]
 ·have hh:=ie (P:=λp=>!(one.2.getD p 0==other.2.getD p 0)) (s:=one.2.length)
  refine st ?_;dsimp only[wS,wE,wT,wV,wG];cases hL:((Im one.2.length).filter λp=>!(one.2.getD p 0==other.2.getD p 0))with
  | nil=>
   rw[hL]at hh;refine ac (show eQ (S2++[O.lst []]) (.ref S2.length)=gV false by simp only[eQ,bc ak]; rfl) #[λz=>(by cases z),λ_=>?_]
   have e:cu (λp=>!(one.2.getD p 0==other.2.getD p 0)) one.2.length=.non:=(Jn hh).symm
   rw[e]at k;exact k _ (k2.trans .push)
  | cons x L=>
   rw[hL]at hh;refine ac (show eQ (S2++[O.lst ((x::L).map λ(i:HM)=>W.int (i:Ig))]) (.ref S2.length)=gV true by simp only[eQ,bc ak]; rfl) #[λ_=>?_,λz=>by cases z]
   have e:cu (λp=>!(one.2.getD p 0==other.2.getD p 0)) one.2.length=.int (x:Ig):=(Jn hh).symm
   rw[e]at k;exact d3 (i:=0) ak rfl (k _ (k2.trans .push))
end
noncomputable def vH:W->Iy
 | .non=>true
 | _=>false
noncomputable def NI (w:W):Prop:=w=.non\/∃i:Ig,w=.int i
noncomputable def nr (xs:HF W)(n:HM):HF Ig:=((Im n).filter λi=>vH (xs.getD i (.int 0))).map (λ(i:HM)=>(i:Ig))++(if vH (xs.getLastD (.int 0))then[-1]else[])
noncomputable def PB (X:HF T)(s:HM)(v:Wd)(p:HM):Iy:=decide (cb (jn v p s (s+1))∈X)
theorem uj {S:aa}{w:W}(h:NI w):ce .is w .non S=gV (.bl (vH w),S):=by
 rcases h with rfl|⟨i,rfl⟩ <;> rfl
theorem oG {P:Wd->HM->Iy}{bs:HF Ig}{u:Wd}{one other:Pt}:∀w∈du P bs u one other,NI w:=λw hw=>by
 unfold du at hw;rcases IU.mp hw with z|z
 ·obtain⟨n,_,rfl⟩:=Ir.mp z;exact jT _ _
 ·rw[Ip.mp z]; exact sj _ _
theorem jr {P:Wd->HM->Iy}{bs:HF Ig}{u:Wd}{one other:Pt}:(du P bs u one other).length=bs.length+1:=by
 unfold du;rw[HQ,HI,IM]; rfl
theorem ly {S:aa}{xs:HF W}(h:xs≠[]):lM (.tup xs) (.int (-1)) S=gV (xs.getLastD (.int 0),S):=by
 have hp:0 < xs.length:=K8.mpr h;have hs:sD xs.length (-1)=gV (xs.length - 1):=by
  unfold sD;rw[IH #v[]]
  exact(Iw ∅).trans (by congr 1; omega)
 have hg:xs[xs.length - 1]?=gV (xs.getLastD (.int 0)):=by
  rw[K4,L6];have:xs.length - 1 < xs.length:=∅
  simp[this]
 simp only[lM,uI,pz,hs,hg,Option.bind_some,IR]
theorem uk {xs:HF W}(h:xs≠[])(hx:∀w∈xs,NI w):NI (xs.getLastD (.int 0)):=by
 rw[K4,List.getLast?_eq_some_getLast h];exact hx _ (List.getLast_mem h)
theorem um {xs:HF W}{i:HM}(h:i < xs.length)(hx:∀w∈xs,NI w):xs[i]?=gV (xs.getD i (.int 0))/\NI (xs.getD i (.int 0)):=by
 have:=az (d:=W.int 0) h;exact#[this,hx _ (Ij this)]
section
variable{defs:HF (Ik×Df)}{fuel d:HM}{S:aa}{Q:QW}
structure Fil (defs:HF (Ik×Df)):Prop where
 parts:Parts defs
 part:Is defs ("part" : Ik) 3 3 jl
 longer:Is defs ("longer_orders" : Ik) 2 4 bV
 barred:Is defs ("barred_threes" : Ik) 1 5 cq
 three:Is defs ("three_at" : Ik) 4 6 dA
 fbar:Is defs ("first_bar" : Ik) 2 4 dJ
 back:Is defs ("back" : Ik) 2 2 jq
 both:Is defs ("with_both" : Ik) 5 5 dL
 same:Is defs ("same_bar" : Ik) 2 3 eC
 all:Is defs ("all_bars" : Ik) 5 6 fI
 by':Is defs ("barred_by" : Ik) 4 4 eO
 fill:Is defs ("fillings" : Ik) 4 6 fH
theorem sn (F:Fil defs){m0 b0:W}{ns:HF Ik}{bs:HF Ig}{a q:HM}{u:Wd}{one other:Pt}{kvs:HF (T×W)}(hb:GoodB bs)(hnl:ns.length=bs.length)(hu:GoodW a bs.length u)(h1:GoodP a bs.length u.length one)(h2:GoodP a bs.length u.length other)(hul:u.length<=800)(e:S[q]?=gV (.dic kvs))
  (k:∀S',Ka S S'->Q (.tup (du (λv p=>oE kvs v p u.length (u.length+1)) bs u one other),S')) :
  wO (bj (ay defs fuel (d+3)) "all_bars" 5 [.tup [m0,.tup (Il bp ns bs),b0],.ref q,aG u,bB one,bB other] S) Q:=by
 refine aB F.all rfl rfl λQ' hR=>?_
 replace k:∀S',Ka S S'->Q' (.rt (.tup (du (λv p=>oE kvs v p u.length (u.length+1)) bs u one other)),S'):=λS' a=>hR _ _ (k S' a)
 clear hR;show wZ _ _ fI [gV (.tup [m0,.tup (Il bp ns bs),b0]),gV (.ref q),gV (aG u),gV (bB one),gV (bB other),td] S Q';generalize hR0:W.tup [m0,.tup (Il bp ns bs),b0]=R;have hb3:bs.length<=3:=by rcases hb with rfl|rfl|rfl|rfl|rfl|rfl <;> decide
 dsimp only[fI];refine st ?_;dsimp only[wS,wE,HX];refine jm bs.length (λ_=>true) (λn=>cu (λp=>oE kvs (cG bs u one other n) p u.length (u.length+1)) u.length) [gV (.ref q),gV (aG u),gV (bB one),gV (bB other),gV R] rfl rfl rfl rfl ∅ ?_ (λn hn S2 k2=>?_) λS2 k2=>?_
 ·dsimp only[wE,wA,wV,wG];subst hR0;refine ah #v[] rfl (bo ?_)
  rw[Ky,hnl,LJ];exact#[rfl,.refl]
 ·obtain⟨g1,g2⟩:=nq hb hu h1 h2 hn;dsimp only[jf,wC,wE,wA,wV,wG];subst hR0;refine#[λ_=>?_,λz=>by cases z]
  refine qH (d:=d) F.back F.both hnl hn ∅ (by rw[h2.len]; omega) ?_
  exact qG (d:=d) F.three F.fbar g1 g2 ∅ (k2.get _ _ e) #[rfl,rfl,.refl]
 ·rw[yF];refine st ?_;dsimp only[wS,wE,wA,wV,wG];refine sm (d:=d+1) F.same (by rw[h1.len,h2.len]) (by rw[h1.len]; omega) λS3 k3=>?_
  dsimp only;refine ac (jd (aq (k3.get _ _ ak)) ak (gh ?_)) (fg ak (k _ (((k2.trans .push).trans k3).trans (Ka.push.trans .push))));rw[HQ,HI,IM]; show _+1<=_; omega
theorem jU (hfu:20 < fuel)(F:Fil defs){m0:W}{ns:HF Ik}{bs:HF Ig}{a:HM}{gs:HF Wd}{u:Wd}{one other:Pt}(hb:GoodB bs)(hnl:ns.length=bs.length)(hgs:∀g∈gs,GoodW a bs.length g/\g.length=3)(h64:gs.length<=100)(hu:GoodW a bs.length u)(h1:GoodP a bs.length u.length one)(h2:GoodP a bs.length u.length other)(hul:u.length<=800)
  (k:∀S',Ka S S'->Q (.tup (du (PB ((bm bs gs).map cb) u.length) bs u one other),S')) :
  wO (bj (ay defs fuel (d+5)) "barred_by" 4 [.tup [m0,.tup (Il bp ns bs),.tup (gs.map aG)],aG u,bB one,bB other] S) Q:=by
 refine aB F.by' rfl rfl λQ' hR=>?_
 show wZ _ _ eO [gV (.tup [m0,.tup (Il bp ns bs),.tup (gs.map aG)]),gV (aG u),gV (bB one),gV (bB other)] S Q';dsimp only[eO];refine st ?_;dsimp only[wS,wE,wA,wV,wG];refine yH (d:=d) hfu F.parts F.part F.longer F.barred hb hnl hgs h64 λq kvs S1 e1 hk _ k1=>?_
 have ep:(λ(v:Wd) p=>oE kvs v p u.length (u.length+1))=PB ((bm bs gs).map cb) u.length:=funext λv=>funext λp=>hk.get _
 refine sn (d:=d+1) F hb hnl hu h1 h2 hul e1 λS2 k2=>hR _ _ ?_
 rw[ep];exact k S2 (k1.trans k2)
theorem sr (hfu:20 < fuel)(F:Fil defs){m0:W}{ns:HF Ik}{bs:HF Ig}{a:HM}{gs:HF Wd}{u:Wd}{one other:Pt}(hb:GoodB bs)(hnl:ns.length=bs.length)(hgs:∀g∈gs,GoodW a bs.length g/\g.length=3)(h64:gs.length<=100)(hu:GoodW a bs.length u)(h1:GoodP a bs.length u.length one)(h2:GoodP a bs.length u.length other)(hul:u.length<=800)
  (k:∀(l:HM) S',S'[l]?=gV (.lst (ab (nr (du (PB ((bm bs gs).map cb) u.length) bs u one other) bs.length)))->S.length<=l->Ka S S'->Q (.ref l,S')) :
  wO (bj (ay defs fuel (d+6)) "fillings" 4 [.tup [m0,.tup (Il bp ns bs),.tup (gs.map aG)],aG u,bB one,bB other] S) Q:=by
 refine aB F.fill rfl rfl λQ' hR=>?_
 replace k:∀(l:HM) S',S'[l]?=gV (.lst (ab (nr (du (PB ((bm bs gs).map cb) u.length) bs u one other) bs.length)))->S.length<=l->Ka S S'->Q' (.rt (.ref l),S'):=λl S' a b c=>hR _ _ (k l S' a b c)
 clear hR;show wZ _ _ fH [gV (.tup [m0,.tup (Il bp ns bs),.tup (gs.map aG)]),gV (aG u),gV (bB one),gV (bB other),td,td] S Q';have hb3:bs.length<=3:=by rcases hb with rfl|rfl|rfl|rfl|rfl|rfl <;> decide
 dsimp only[fH];refine st ?_;dsimp only[wS,wE,wA,wV,wG,HX];refine jU (d:=d) hfu F hb hnl hgs h64 hu h1 h2 hul λS1 k1=>?_
 have ni:=oG (P:=PB ((bm bs gs).map cb) u.length) (bs:=bs) (u:=u) (one:=one) (other:=other);have bl:=jr (P:=PB ((bm bs gs).map cb) u.length) (bs:=bs) (u:=u) (one:=one) (other:=other);generalize du (PB ((bm bs gs).map cb) u.length) bs u one other=X at ni bl k;have xne:X≠[]:=λz=>by rw[z]at bl; cases bl
 refine st ?_;dsimp only[wS,wE,HX];refine jm bs.length (λi=>vH (X.getD i (.int 0))) (λ(i:HM)=>W.int (i:Ig)) [gV (.tup X)] rfl rfl rfl rfl ∅ ?_ (λi hi S2 k2=>?_) λS2 k2=>?_
 ·dsimp only[wE,wA,wV,wG];refine ah #v[] rfl (bo ?_)
  rw[Ky,hnl,LJ];exact#[rfl,.refl]
 ·obtain⟨g1,g2⟩:=um (i:=i) ∅ ni
  dsimp only[jf,wC,wT,wE,wV,wG];refine ah (HV i) (by rw[HY]; exact g1) (ac (uj g2) ?_)
  dsimp only[wB];exact#[λz=>#[z,rfl,.refl],λz=>#[z,.refl]]
 ·have em:((Im bs.length).filter λi=>vH (X.getD i (.int 0))).map (λ(i:HM)=>W.int (i:Ig))=ab (((Im bs.length).filter λi=>vH (X.getD i (.int 0))).map λ(i:HM)=>(i:Ig)):=by unfold ab; rw[J8]; rfl
  rw[em];have hl:(ab (((Im bs.length).filter λi=>vH (X.getD i (.int 0))).map λ(i:HM)=>(i:Ig))).length<=3:=by
   unfold ab;rw[HI,HI];exact IS (JG _ _) (by rw[IM]; exact hb3)
  have kl:S.length<=S2.length:=(k1.trans k2).len;unfold nr at k;refine aW λK hK=>?_
  dsimp only[wS,wT,wE,wV,wG,wN];refine ac (ly xne) (ac (uj (uk xne ni)) ?_);dsimp only[wB];refine ar (Q0:=Q') (λz Q2 hn _=>?_) (λz Q2 hn _=>bX (hn _ _ (hK _ _ (st ?_))))
  ·rw[Iw z]at k;refine st ?_;dsimp only[wS,wE,wA,wV,wG,wN];refine#[eT ak,yE ak ∅ (bX (hn _ _ (hK _ _ (st ?_))))]
   dsimp only[wS,wE,wV,wG];refine k _ _ ?_ kl (((k1.trans k2).trans .push).late kl);rw[cj ak];unfold ab;rw[IA]; rfl
  ·rw[IH (by rw[z]; exact Iu),JJ]at k
   dsimp only[wS,wE,wV,wG];exact k _ _ ak kl ((k1.trans k2).trans .push)
end
noncomputable def cU:Ss:=
 #v[.set 1 (.own "_law_pick" 2 #v[.v 0,.c (.int 8)]),.ite (.cmp .lt (.v 1) (.c (.int 4))) #v[.ret (.own "_law_any_rule" 1 #v[.v 0])] .nil,.ite (.cmp .lt (.v 1) (.c (.int 7))) #v[.ret (.own "_law_laying_rule" 1 #v[.v 0])] .nil,.ret (.own "_law_unlaying_rule" 1 #v[.v 0])]
noncomputable def cV:Ss:=
 #v[.set 4 (.own "_law_pick" 2 #v[.v 0,.bi .len #v[.ix (.v 1) (.c (.int 0))]]),.loop (.nm 5) (.rng #v[.bi .len #v[.ix (.v 1) (.c (.int 0))]]) #v[.set 6 (.op .mod (.op .add (.v 4) (.v 5)) (.bi .len #v[.ix (.v 1) (.c (.int 0))])),.set 7 (.own "_law_new_ways" 6 #v[.v 0,.v 1,.v 2,.v 3,.v 6,.tup .nil]),.ite (.cmp .isnot (.v 7) (.c .non)) #v[.ret (.tup #v[.v 6,.v 7])] .nil],.ret (.c .non)]
noncomputable def fJ:Ss:=
 #v[.asg [5,6] (.v 4),.set 7 (.own "_law_pick" 2 #v[.v 0,.c (.int 4)]),.ite (.cmp .eq (.v 7) (.c (.int 1))) #v[.set 5 (.own "_law_pick" 2 #v[.v 0,.bi .len #v[.ix (.v 1) (.c (.int 0))]])] #v[.ite (.and (.cmp .gt (.v 7) (.c (.int 1))) (.cmp .ne (.v 6) (.tup .nil))) #v[.set 8 (.own "_law_pick" 2 #v[.v 0,.bi .len #v[.v 6]]),.set 6 (.op .add (.op .add (.sl (.v 6) .no (.yes (.v 8))) (.tup #v[.own "_law_pick" 2 #v[.v 0,.bi .len #v[.ix (.v 1) (.c (.int 1))]]])) (.sl (.v 6) (.yes (.op .add (.v 8) (.c (.int 1)))) .no))] .nil],.ite (.own "_law_last_may" 4 #v[.v 1,.v 2,.op .add (.v 3) (.tup #v[.tup #v[.v 5,.v 6]]),.bi .len #v[.v 3]]) #v[.ret (.tup #v[.v 5,.v 6])] .nil,.ret (.v 4)]
noncomputable def fK:Ss:=
 #v[.set 4 (.own "_law_world" 4 #v[.v 0,.v 1,.v 2,.v 3]),.set 5 (.own "_law_new_point" 4 #v[.v 0,.v 1,.v 2,.v 4]),.ite (.cmp .is (.v 5) (.c .non)) #v[.set 5 (.ix (.v 4) (.neg (.c (.int 1)))),.set 4 (.sl (.v 4) .no (.yes (.neg (.c (.int 1)))))] .nil,.set 6 (.c .non),.ite (.cmp .eq (.own "_law_pick" 2 #v[.v 0,.c (.int 2)]) (.c (.int 0))) #v[.set 6 (.own "_law_new_point" 4 #v[.v 0,.v 1,.v 2,.v 4])] .nil,.ite (.cmp .is (.v 6) (.c .non)) #v[.set 6 (.own "_law_near" 5 #v[.v 0,.v 1,.v 2,.v 4,.v 5])] .nil,.ret (.tup #v[.v 4,.v 5,.v 6])]
theorem FM {S:aa}{xs:HF Ig}:ce .ne (.tup (ab xs)) (.tup []) S=gV (.bl (!decide (xs=[])),S):=by
 cases xs <;> rfl
section
variable{defs:HF (Ik×Df)}{fuel d:HM}{S:aa}{r:HM}{Q:QW}
structure Pai (defs:HF (Ik×Df)):Prop where
 un:Is defs ("_law_unlaying_rule" : Ik) 1 10 bE
 some':Is defs ("_law_some_rule" : Ik) 1 2 cU
 ways:Is defs ("_law_new_ways" : Ik) 6 11 bh
 world:Is defs ("_law_world" : Ik) 4 8 dI
 lmay:Is defs ("_law_last_may" : Ik) 4 8 cF
 point:Is defs ("_law_new_point" : Ik) 4 8 cV
 near:Is defs ("_law_near" : Ik) 5 9 fJ
 pair:Is defs ("_law_pair" : Ik) 4 7 fK
theorem qI (hfu:20 < fuel)(G:Gen defs)(P:Pai defs)(hf:Fl S r)(k:∀w S',dz w->Fl S' r->Kp r S S'->Q (w,S')):wO (bj (ay defs fuel (d+8)) "_law_some_rule" 1 [.ref r] S) Q:=by
 refine aB P.some' rfl rfl λQ' hR=>?_
 replace k:∀w S',dz w->Fl S' r->Kp r S S'->Q' (.rt w,S'):=λz S' a b c=>hR _ _ (k z S' a b c)
 clear hR;show wZ _ _ cU [gV (.ref r),td] S Q';dsimp only[cU];refine aW λK hK=>?_
 dsimp only[wS,wE,wA,wV,wG,HX];refine bn (d:=d+6) G.pick hf #v[] #v[] λv S1 v0 v7 f1 k1=>hK _ _ ?_
 clear hK K;refine aW λK hK=>?_
 dsimp only[wS,wT,wE,wV,wG,xO,aO,wB];refine ar (Q0:=Q') (λ_ Q2 _ hr=>?_) (λ_ Q2 hn _=>bX (hn _ _ (hK _ _ ?_)))
 ·refine st ?_;dsimp only[wS,wE,wA,wV,wG];exact rZ (d:=d+1) hfu G f1 λw S2 a b c=>hr _ _ (k w S2 a b (k1.trans c))
 clear hK K hn;refine aW λK hK=>?_
 dsimp only[wS,wT,wE,wV,wG,xO,aO,wB];refine ar (Q0:=Q') (λ_ Q2 _ hr=>?_) (λ_ Q2 hn _=>bX (hn _ _ (hK _ _ ?_)))
 ·refine st ?_;dsimp only[wS,wE,wA,wV,wG];exact yz (d:=d) hfu G f1 λw S2 a b c=>hr _ _ (k w S2 a b (k1.trans c))
 refine st ?_;dsimp only[wS,wE,wA,wV,wG];exact r6 (d:=d+1) hfu G P.un f1 λw S2 a b c=>k w S2 a b (k1.trans c)
theorem su (G:Gen defs)(hg:Is defs ("_law_new_ways" : Ik) 6 11 bh){m0 b0:W}{N:HF W}{a n q:HM}{u:Wd}{mk:Ig}{kvs:HF (T×W)}(hN:N.length=n)(hn3:n<=3)(hu:GoodW a n u)(hl:u.length<=900)(e:S[q]?=gV (.dic kvs))(hqr:q≠r)(hf:Fl S r)
  (k:∀w S',((w=.non/\u≠[])\/∃to:HF Ig,w=.tup (ab to)/\to.length=u.length/\∀x∈to,0<=x/\x < (n:Ig))->Fl S' r->Kp r S S'->Q (w,S')) :
  wO (bj (ay defs fuel (d+2)) "_law_new_ways" 6 [.ref r,.tup [m0,.tup N,b0],.ref q,aG u,.int mk,.tup []] S) Q:=by
 by_cases z:u=[]
 ·subst z;refine aB hg rfl rfl λQ' hR=>?_
  show wZ _ _ bh [gV (.ref r),gV (.tup [m0,.tup N,b0]),gV (.ref q),gV (aG []),gV (.int mk),gV (.tup (ab [])),td,td,td,td,td] S Q';dsimp only[bh];refine aW λK hK=>?_
  refine iK 0 0 (λm ρ S'=>ρ=[gV (.ref r),gV (.tup [m0,.tup N,b0]),gV (.ref q),gV (aG []),gV (.int mk),gV (.tup (ab [])),td,td,td,td,td]/\S'=S) rfl rfl rfl #v[] ?_ (λm ρ S1 hm=>∅) ?_
  ·dsimp only[wE,wA,wV,wG];exact bo #[rfl,bo #[rfl,rfl,rfl]]
  ·rintro ρ S1 ⟨rfl,rfl⟩;refine hK _ _ (st ?_);dsimp only[wS,wE,wV,wG];exact hR _ _ (k _ _ (.inr #[[],rfl,rfl,λx hx=>nomatch hx]) hf .refl)
 ·refine lq G hg hN hn3 hu hl e hqr hf λw S' hw f' k'=>k w S' ?_ f' k'
  rcases hw with h|h
  ·exact .inl #[h,z]
  ·exact .inr h
theorem jV (G:Gen defs)(P:Pai defs){M N:HF W}{b0:W}{a n q:HM}{u:Wd}{kvs:HF (T×W)}(hM:M.length=a)(ha1:0 < a)(ha3:a<=3)(hN:N.length=n)(hn3:n<=3)(hu:GoodW a n u)(hl:u.length<=900)(e:S[q]?=gV (.dic kvs))(hqr:q≠r)(hf:Fl S r)
  (k:∀w S',((w=.non/\u≠[])\/∃p,w=bB p/\GoodP a n u.length p)->Fl S' r->Kp r S S'->Q (w,S')) :
  wO (bj (ay defs fuel (d+3)) "_law_new_point" 4 [.ref r,.tup [.tup M,.tup N,b0],.ref q,aG u] S) Q:=by
 refine aB P.point rfl rfl λQ' hR=>?_
 replace k:∀w S',((w=.non/\u≠[])\/∃p,w=bB p/\GoodP a n u.length p)->Fl S' r->Kp r S S'->Q' (.rt w,S'):=λw S' h1 h2 h3=>hR _ _ (k w S' h1 h2 h3)
 clear hR;show wZ _ _ cV [gV (.ref r),gV (.tup [.tup M,.tup N,b0]),gV (.ref q),gV (aG u),td,td,td,td] S Q';generalize hR0:W.tup [.tup M,.tup N,b0]=R;dsimp only[cV];refine aW λK hK=>?_
 dsimp only[wS,wE,wA,wV,wG,HX];have lm:∀(S:aa) (Q:QW),Q (.int (a:Ig),S)->wO (lM R (.int 0) S) λp=>wO (Bi.len.fn [p.1] p.2) Q:=λS Q q=>by
  subst hR0;refine ah #v[] rfl (bo ?_)
  rw[hM]; exact q
 refine lm _ _ ?_;refine bn (d:=d+1) G.pick hf ∅ ∅ λv S1 v0 v1 f1 k1=>hK _ _ ?_
 clear hK K;refine aW λK hK=>?_
 refine dc (a:Ig) (λi ρ S'=>(∃a5 a6 a7,ρ=[gV (.ref r),gV R,gV (.ref q),gV (aG u),gV (.int v),a5,a6,a7])/\(u=[]->i=0)/\Fl S' r/\Kp r S S') rfl rfl ∅ ?_ ?_ ?_
 ·dsimp only[wE,wA,wV,wG];exact lm _ _ #[rfl,#[_,_,_,rfl],λ_=>rfl,f1,k1]
 ·rintro i ρ S2 hi ⟨⟨a5,a6,a7,rfl⟩,_,f2,k2⟩ Q2 hn2 hr2;clear hK;dsimp only[HX];refine st ?_;dsimp only[wS,wE,wA,wV,wG,HX];refine ac dR (lm _ _ (ac (kY ∅) ?_))
  have m0:0<=(v+(i:Ig)) % (a:Ig):=Kl _ ∅
  have m1:(v+(i:Ig)) % (a:Ig) < a:=JX _ ∅
  generalize(v+(i:Ig)) % (a:Ig)=m at m0 m1;refine st ?_;dsimp only[wS,wE,wA,wV,wG,HX];subst hR0;refine su (d:=d) G P.ways hN hn3 hu hl (k2.get _ _ hqr e) hqr f2 λw S3 hw f3 k3=>?_
  refine aW λK hK=>?_
  dsimp only[wS,wT,wE,wA,wV,wG];rcases hw with⟨rfl,hne⟩|⟨to,rfl,htl,hto⟩
  ·refine ac (show ce .isnot .non .non S3=gV (.bl false,S3)from rfl) ?_
   dsimp only[wB];exact ar (Q0:=Q2) (λz=>by cases z) (λ_ Q5 hn5 _=>bX (hn5 _ _ (hK _ _ (bX (hn2 _ _ #[#[_,_,_,rfl],λz=>absurd z hne,f3,k2.trans k3])))))
  ·refine ac (show ce .isnot (.tup (ab to)) .non S3=gV (.bl true,S3)from rfl) ?_
   dsimp only[wB];refine ar (Q0:=Q2) (λ_ Q5 _ hr5=>?_) (λz=>by cases z)
   refine st ?_;dsimp only[wS,wE,wA,wV,wG];exact hr5 _ _ (hr2 _ _ (k _ _ (.inr #[(m,to),rfl,#[#[m0,m1],htl,hto]]) f3 (k2.trans k3)))
 ·rintro ρ S2 ⟨⟨a5,a6,a7,rfl⟩,hz,f2,k2⟩;rw[HY]at hz;refine hK _ _ (st ?_);dsimp only[wS,wE];exact k _ _ (.inl #[rfl,λz=>by have:=hz z; omega]) f2 k2
theorem DJ (G:Gen defs)(P:Pai defs){M N:HF W}{b0:W}{a n q:HM}{u:Wd}{p:Pt}{kvs:HF (T×W)}(hM:M.length=a)(ha1:0 < a)(ha3:a<=3)(hN:N.length=n)(hn1:0 < n)(hn3:n<=3)(hu:GoodW a n u)(hp:GoodP a n u.length p)(hl:u.length<=900)(e:S[q]?=gV (.dic kvs))(hqr:q≠r)(hf:Fl S r)
  (k:∀p' S',GoodP a n u.length p'->Fl S' r->Kp r S S'->Q (bB p',S')) :
  wO (bj (ay defs fuel (d+2)) "_law_near" 5 [.ref r,.tup [.tup M,.tup N,b0],.ref q,aG u,bB p] S) Q:=by
 refine aB P.near rfl rfl λQ' hR=>?_
 replace k:∀p' S',GoodP a n u.length p'->Fl S' r->Kp r S S'->Q' (.rt (bB p'),S'):=λw S' h1 h2 h3=>hR _ _ (k w S' h1 h2 h3)
 clear hR;show wZ _ _ fJ [gV (.ref r),gV (.tup [.tup M,.tup N,b0]),gV (.ref q),gV (aG u),gV (bB p),td,td,td,td] S Q';generalize hR0:W.tup [.tup M,.tup N,b0]=R;have lm:∀(S:aa) (Q:QW),Q (.int (a:Ig),S)->wO (lM R (.int 0) S) λp=>wO (Bi.len.fn [p.1] p.2) Q:=λS Q q=>by
  subst hR0;refine ah #v[] rfl (bo ?_)
  rw[hM]; exact q
 have lw:∀(S:aa) (Q:QW),Q (.int (n:Ig),S)->wO (lM R (.int 1) S) λp=>wO (Bi.len.fn [p.1] p.2) Q:=λS Q q=>by
  subst hR0;refine ah #v[] rfl (bo ?_)
  rw[hN]; exact q
 have ul:(u.map bB).length=u.length:=HI ..;dsimp only[fJ];refine st ?_;dsimp only[wS,wE,wV,wG,wU,bB];refine ac (show dv [5,6] [.int p.1,.tup (p.2.map W.int)] [gV (.ref r),gV R,gV (.ref q),gV (aG u),gV (.tup [.int p.1,.tup (p.2.map W.int)]),td,td,td,td]=gV [gV (.ref r),gV R,gV (.ref q),gV (aG u),gV (bB p),gV (.int p.1),gV (.tup (ab p.2)),td,td]from rfl) ?_
 refine aW λK hK=>?_
 dsimp only[wS,wE,wA,wV,wG,HX];refine bn (d:=d) G.pick hf #v[] #v[] λv S1 _ _ f1 k1=>hK _ _ ?_
 clear hK K;refine aW λK hK=>?_
 have tl:∀(m:Ig) (to:HF Ig) (a8:HL W) (S2:aa),GoodP a n u.length (m,to)->Fl S2 r->Kp r S S2->K [gV (.ref r),gV R,gV (.ref q),gV (aG u),gV (bB p),gV (.int m),gV (.tup (ab to)),gV (.int v),a8] S2:=by
  intro m to a8 S2 hg f2 k2;refine hK _ _ ?_;clear hK K;refine aW λK hK=>?_
  dsimp only[wS,wT,wE,wA,wV,wG,aG];have ev:u.map bB++[.tup [.int m,.tup (ab to)]]=(u++[(m,to)]).map bB:=by rw[IA]; rfl
  refine ac (dO (gh (by rw[ev,HI,HQ,Jx]; omega))) (bo ?_)
  dsimp only;rw[ev,ul];have lmay:=λ(Q:QW)=>se (fuel:=fuel) (d:=d) (Q:=Q) (R:=R) (h:=(m,to)) P.lmay hu hg.len ∅ (k2.get _ _ hqr e)
  unfold aG at lmay;refine lmay _ ?_;refine ac (show eQ S2 (.bl (vz kvs u u.length (m,to)))=gV (vz kvs u u.length (m,to))from rfl) ?_
  refine ar (Q0:=Q') (λ_ Q2 _ hr=>?_) (λ_ Q2 hn _=>bX (hn _ _ (hK _ _ (st ?_))))
  ·refine st ?_;dsimp only[wS,wE,wA,wV,wG];exact hr _ _ (k (m,to) S2 hg f2 k2)
  ·dsimp only[wS,wE,wV,wG];exact k p S2 hp f2 k2
 dsimp only[wS,wT,wE,wV,wG,iF,aO,wB];refine ar (Q0:=Q') (λ_ Q2 hn _=>?_) (λ_ Q2 hn _=>?_)
 ·refine st ?_;dsimp only[wS,wE,wA,wV,wG,HX];refine lm _ _ (bn (d:=d) G.pick f1 ∅ ∅ λm S2 m0 m1 f2 k2=>bX (hn _ _ (tl m p.2 td S2 #[#[m0,m1],hp.len,hp.way] f2 (k1.trans k2))))
 ·refine aW λK2 hK2=>?_
  dsimp only[wS,wT,wE,wA,wV,wG];have stay:K2 [gV (.ref r),gV R,gV (.ref q),gV (aG u),gV (bB p),gV (.int p.1),gV (.tup (ab p.2)),gV (.int v),td] S1:=hK2 _ _ (bX (hn _ _ (tl p.1 p.2 td S1 hp f1 k1)));refine ac Dq ?_;dsimp only[wB];refine#[λ_=>ac FM ?_,λ_=>ar (Q0:=Q2) (λz=>by cases z) λ_ Q3 hn3 _=>bX (hn3 _ _ stay)]
  dsimp only[wB];refine ar (Q0:=Q2) (λhne Q3 hn3 _=>?_) (λ_ Q3 hn3 _=>bX (hn3 _ _ stay))
  have hne:p.2≠[]:=by simpa using hne
  have hpl:0 < p.2.length:=K8.mpr hne;have il:(ab p.2).length=p.2.length:=HI ..;have hpe:=hp.len;refine st ?_;dsimp only[wS,wE,wA,wV,wG,HX];refine bo ?_;rw[il];refine bn (d:=d) G.pick f1 ∅ ∅ λv2 S2 v0 v1 f2 k2=>?_
  obtain⟨at',rfl⟩ : ∃k:HM,v2=k:=#[v2.toNat,∅]
  refine st ?_;dsimp only[wS,wE,wA,wP,wV,wG,wN,HX];refine ac (show nI (.tup (ab p.2)) td (gV ((at':HM):Ig)) S2=gV (.tup ((ab p.2).take at'),S2) by simp only[nI,fj]) ?_
  dsimp only;refine lw _ _ (bn (d:=d) G.pick f2 ∅ ∅ λw S3 w0 w1 f3 k3=>?_)
  refine ac (dO (gh (by rw[HQ,IN,il]; show _+1<=_; omega))) ?_
  dsimp only;refine ac dR ?_;dsimp only;refine ac (show nI (.tup (ab p.2)) (gV ((at':Ig)+1)) td S3=gV (.tup ((ab p.2).drop (at'+1)),S3) by rw[show(at':Ig)+1=((at'+1:HM):Ig) by omega]; simp only[nI,xS]) ?_
  dsimp only;refine ac (dO (gh (by rw[HQ,HQ,IN,Kz,il]; show _+1+_<=_; omega))) ?_
  have es:(ab p.2).take at'++[.int w]++(ab p.2).drop (at'+1)=ab (p.2.set at' w):=by
   unfold ab;rw[Pf,List.set_eq_take_append_cons_drop,Iw (by rw[HI]; omega)]
   simp
  dsimp only;rw[es];refine bX (hn3 _ _ (hK2 _ _ (bX (hn _ _ (tl p.1 (p.2.set at' w) _ S3 #[hp.mark,?_,λx hx=>?_] f3 ((k1.trans k2).trans k3))))))
  ·show(p.2.set at' w).length=_;rw[Om]; exact hpe
  ·rcases List.mem_or_eq_of_mem_set hx with z|z
   ·exact hp.way x z
   ·rw[z]; exact#[w0,w1]
theorem DK (G:Gen defs)(P:Pai defs){M N:HF W}{b0:W}{a n q many:HM}{kvs:HF (T×W)}(hM:M.length=a)(ha1:0 < a)(ha3:a<=3)(hN:N.length=n)(hn1:0 < n)(hn3:n<=3)(hm:many<=800)(e:S[q]?=gV (.dic kvs))(hqr:q≠r)(hf:Fl S r)
  (k:∀(u:Wd) (one other:Pt) S',u.length<=many->GoodW a n u->GoodP a n u.length one->GoodP a n u.length other->Fl S' r->Kp r S S'->Q (.tup [aG u,bB one,bB other],S')) :
  wO (bj (ay defs fuel (d+4)) "_law_pair" 4 [.ref r,.tup [.tup M,.tup N,b0],.ref q,.int many] S) Q:=by
 refine aB P.pair rfl rfl λQ' hR=>?_
 replace k:∀(u:Wd) (one other:Pt) S',u.length<=many->GoodW a n u->GoodP a n u.length one->GoodP a n u.length other->Fl S' r->Kp r S S'->Q' (.rt (.tup [aG u,bB one,bB other]),S'):=λu x y S' h1 h2 h3 h4 h5 h6=>hR _ _ (k u x y S' h1 h2 h3 h4 h5 h6)
 clear hR;show wZ _ _ fK [gV (.ref r),gV (.tup [.tup M,.tup N,b0]),gV (.ref q),gV (.int many),td,td,td] S Q';generalize hR0:W.tup [.tup M,.tup N,b0]=R;dsimp only[fK];refine aW λK hK=>?_
 dsimp only[wS,wE,wA,wV,wG,HX];subst hR0;refine Bl (d:=d) G P.ways P.world hM ha1 ha3 hN hn3 ∅ e hqr hf λu S1 hul hu f1 k1=>hK _ _ ?_
 clear hK K;refine aW λK hK=>?_
 dsimp only[wS,wE,wA,wV,wG,HX];refine jV (d:=d) G P hM ha1 ha3 hN hn3 hu ∅ (k1.get _ _ hqr e) hqr f1 λw S2 hw f2 k2=>hK _ _ ?_
 clear hK K;have k12:=k1.trans k2;clear f1 k1 k2;refine aW λK hK=>?_
 have tl:∀(u:Wd) (one:Pt),u.length<=many->GoodW a n u->GoodP a n u.length one->K [gV (.ref r),gV (.tup [.tup M,.tup N,b0]),gV (.ref q),gV (.int many),gV (aG u),gV (bB one),td] S2:=by
  intro u one hul hu h1;refine hK _ _ ?_;clear hK K;refine st ?_;dsimp only[wS,wE,HX];refine aW λK hK=>?_
  have tl2:∀(w:W) (S3:aa),(w=.non\/∃p,w=bB p/\GoodP a n u.length p)->Fl S3 r->Kp r S S3->K [gV (.ref r),gV (.tup [.tup M,.tup N,b0]),gV (.ref q),gV (.int many),gV (aG u),gV (bB one),gV w] S3:=by
   intro w S3 hw f3 k3;refine hK _ _ ?_;clear hK K;refine aW λK hK=>?_
   dsimp only[wS,wT,wE,wV,wG];have ret:∀(p:Pt) (S4:aa),GoodP a n u.length p->Fl S4 r->Kp r S S4->K [gV (.ref r),gV (.tup [.tup M,.tup N,b0]),gV (.ref q),gV (.int many),gV (aG u),gV (bB one),gV (bB p)] S4:=λp S4 hp f4 k4=>hK _ _ (st (by
    dsimp only[wS,wE,wA,wV,wG];exact k u one p S4 hul hu h1 hp f4 k4))
   rcases hw with rfl|⟨p,rfl,hp⟩
   ·refine ac (show ce .is .non .non S3=gV (.bl true,S3)from rfl) ?_
    dsimp only[wB];refine ar (Q0:=Q') (λ_ Q2 hn _=>?_) (λz=>by cases z)
    refine st ?_;dsimp only[wS,wE,wA,wV,wG,HX];exact DJ (d:=d+1) G P hM ha1 ha3 hN hn1 hn3 hu h1 ∅ (k3.get _ _ hqr e) hqr f3 λp S4 hp f4 k4=>bX (hn _ _ (ret p S4 hp f4 (k3.trans k4)))
   ·refine ac (show ce .is (bB p) .non S3=gV (.bl false,S3)from rfl) ?_
    dsimp only[wB];exact ar (Q0:=Q') (λz=>by cases z) (λ_ Q2 hn _=>bX (hn _ _ (ret p S3 hp f3 k3)))
  dsimp only[wS,wT,wE,wA,wV,wG];refine bn (d:=d+2) G.pick f2 #v[] #v[] λv S3 _ _ f3 k3=>?_
  dsimp only[iF,aO,wB];refine ar (Q0:=Q') (λ_ Q2 hn _=>?_) (λ_ Q2 hn _=>bX (hn _ _ (tl2 .non S3 (.inl rfl) f3 (k12.trans k3))))
  refine st ?_;dsimp only[wS,wE,wA,wV,wG,HX];refine jV (d:=d) G P hM ha1 ha3 hN hn3 hu ∅ (k3.get _ _ hqr (k12.get _ _ hqr e)) hqr f3 λw S4 hw f4 k4=>bX (hn _ _ (tl2 w S4 ?_ f4 ((k12.trans k3).trans k4)))
  rcases hw with⟨h,_⟩|h
  ·exact .inl h
  ·exact .inr h
 dsimp only[wS,wT,wE,wV,wG];rcases hw with⟨rfl,hne⟩|⟨p,rfl,hp⟩
 ·refine ac (show ce .is .non .non S2=gV (.bl true,S2)from rfl) ?_
  dsimp only[wB];refine ar (Q0:=Q') (λ_ Q2 hn _=>?_) (λz=>by cases z)
  have hup:0 < u.length:=K8.mpr hne;have hlt:u.length - 1 < u.length:=∅
  have gl:=az (d:=(0,[])) hlt;refine st ?_;dsimp only[wS,wE,wV,wG,wN,HX];have el:(u.map bB).getLastD (.int 0)=bB (u.getD (u.length - 1) (0,[])):=by
   rw[K4,L6,HI,HS,gl]; rfl
  refine ac (ly (xs:=u.map bB) (by simpa using hne)) ?_
  rw[el];refine st ?_;dsimp only[wS,wE,wP,wV,wG,wN,HX];refine ac (show nI (aG u) td (gV (-1)) S2=gV (aG u.dropLast,S2) by simp only[aG,nI,yC,List.map_dropLast]) ?_
  refine bX (hn _ _ (tl u.dropLast (u.getD (u.length - 1) (0,[])) (by rw[LC]; omega) (vy hu) #[hu.mark _ _ gl,?_,hu.way _ _ gl]))
  rw[hu.len _ _ gl,LC]
 ·refine ac (show ce .is (bB p) .non S2=gV (.bl false,S2)from rfl) ?_
  dsimp only[wB];exact ar (Q0:=Q') (λz=>by cases z) (λ_ Q2 hn _=>bX (hn _ _ (tl u p hul hu hp)))
end
noncomputable def dB:Ss:=
 #v[.ret (.op .add (.v 1) (.tup #v[.v 2,.tup #v[.ix (.v 3) (.c (.int 0)),.op .add (.ix (.v 3) (.c (.int 1))) (.tup #v[.ix (.ix (.ix (.v 0) (.c (.int 1))) (.v 4)) (.c (.int 1))])]]))]
noncomputable def eD:Ss:=
 #v[.set 4 (.bi .len #v[.v 1]),.set 5 (.lst .nil),.loop (.nm 6) (.rng #v[.bi .len #v[.ix (.v 0) (.c (.int 1))]]) #v[.set 7 (.own "_law_both" 5 #v[.v 0,.v 1,.v 2,.v 3,.v 6]),.set 8 (.comp (.v 1) (.nm 1) (.rng #v[.v 4]) #v[.cmp .isin (.own "_law_figure" 2 #v[.v 3,.own "_law_part" 3 #v[.v 3,.v 4,.tup #v[.v 1,.v 2,.op .add (.v 2) (.c (.int 1))]]]) (.ix (.v 3) (.c (.int 2)))] [td,td,gV 4,gV 0,gV 7]),.ex (.me .append (.v 5) #v[.ix (.op .add (.v 8) (.lst #v[.c .non])) (.c (.int 0))])],.set 9 (.comp (.v 1) (.nm 1) (.rng #v[.v 4]) #v[.cmp .ne (.ix (.ix (.v 2) (.c (.int 1))) (.v 1)) (.ix (.ix (.v 3) (.c (.int 1))) (.v 1))] [td,td,gV 2,gV 3]),.ite (.cmp .ne (.ix (.v 2) (.c (.int 0))) (.ix (.v 3) (.c (.int 0)))) #v[.set 9 (.lst #v[.neg (.c (.int 1))])] .nil,.ret (.bi .tuple #v[.op .add (.v 5) (.sl (.op .add (.v 9) (.lst #v[.c .non])) .no (.yes (.c (.int 1))))])]
theorem vD {P:HM->Iy}{s:HM}:iu (((Im s).filter P).map (λ(i:HM)=>W.int (i:Ig))++[.non]) td (gV 1)=[cu P s]:=by
 rw[show(gV (1:Ig))=gV (((1:HM)):Ig)from rfl,fj]
 have:=ie (P:=P) (s:=s);cases h:((Im s).filter P).map (λ(i:HM)=>W.int (i:Ig))++[W.non]with
 | nil=>rw[h]at this; cases this
 | cons x L=>
  rw[h]at this;cases(Jn this);rfl
section
variable{defs:HF (Ik×Df)}{fuel d:HM}{S:aa}{Q:QW}
theorem sv (hg:Is defs ("_law_both" : Ik) 5 5 dB){m0 b0:W}{ns:HF Ik}{bs:HF Ig}{u:Wd}{one other:Pt}{n:HM}(hnl:ns.length=bs.length)(hn:n < bs.length)(hu:u.length<=900)(ho:other.2.length<=900)(k:Q (aG (cG bs u one other n),S)) :
  wO (bj (ay defs fuel (d+1)) "_law_both" 5 [.tup [m0,.tup (Il bp ns bs),b0],aG u,bB one,bB other,.int n] S) Q:=by
 refine aB hg rfl rfl λQ' hR=>?_
 replace k:=hR _ _ k;show wZ _ _ dB [gV (.tup [m0,.tup (Il bp ns bs),b0]),gV (aG u),gV (bB one),gV (bB other),gV (.int n)] S Q';have hb:=az (d:=0) hn;dsimp only[dB];refine st ?_;dsimp only[wS,wE,wA,wV,wG];refine ah #v[] rfl (ah #v[] rfl ?_)
 refine ah #v[] rfl (ah (HV n) (by rw[HY]; exact jh (Ic ∅) hb) (ah #v[] rfl ?_))
 refine ac (dO (gh ?_)) ?_
 ·rw[HQ,HI]; show _+1<=_; omega
 dsimp only;have ev:u.map bB++[bB one,.tup [.int other.1,.tup (other.2.map W.int++[.int (bs.getD n 0)])]]=(cG bs u one other n).map bB:=by
  unfold cG;simp[bB]
 unfold aG at k ⊢;refine ac (dO (gh ?_)) ?_
 ·rw[HQ,HI]; show _+2<=_; omega
 dsimp only;rw[ev];exact k
theorem sw (G:Gen defs)(hbo:Is defs ("_law_both" : Ik) 5 5 dB)(hg:Is defs ("_law_bars" : Ik) 4 10 eD){m0:W}{ns:HF Ik}{bs:HF Ig}{a:HM}{gs:HF Wd}{u:Wd}{one other:Pt}(hb:GoodB bs)(hnl:ns.length=bs.length)(hgf:∀g∈gs,g∈aX a bs)(hu:GoodW a bs.length u)(h1:GoodP a bs.length u.length one)(h2:GoodP a bs.length u.length other)(hul:u.length<=800)
  (k:∀S',Ka S S'->Q (.tup (du (PB ((bm bs gs).map cb) u.length) bs u one other),S')) :
  wO (bj (ay defs fuel (d+4)) "_law_bars" 4 [.tup [m0,.tup (Il bp ns bs),.tup (gs.map aG)],aG u,bB one,bB other] S) Q:=by
 refine aB hg rfl rfl λQ' hR=>?_
 replace k:∀S',Ka S S'->Q' (.rt (.tup (du (PB ((bm bs gs).map cb) u.length) bs u one other)),S'):=λS' a=>hR _ _ (k S' a)
 clear hR;show wZ _ _ eD [gV (.tup [m0,.tup (Il bp ns bs),.tup (gs.map aG)]),gV (aG u),gV (bB one),gV (bB other),td,td,td,td,td,td] S Q';generalize hR0:W.tup [m0,.tup (Il bp ns bs),.tup (gs.map aG)]=R;have ul:(u.map bB).length=u.length:=HI ..;have hb3:bs.length<=3:=by rcases hb with rfl|rfl|rfl|rfl|rfl|rfl <;> decide
 have wl:∀(p:Pt) (i:HM),i < p.2.length->(p.2.map W.int)[((i:HM):Ig).toNat]?=gV (.int (p.2.getD i 0)):=λp i hi=>by
  rw[HY,HS,az (d:=0) hi]; rfl
 dsimp only[eD];refine st ?_;dsimp only[wS,wE,wA,wV,wG,HX];refine bo ?_;rw[ul];refine st ?_;dsimp only[wS,wE,wA,HX];refine aW λK hK=>?_
 refine dc (bs.length:Ig) (λi ρ S'=>(∃a6 a7 a8,ρ=[gV R,gV (aG u),gV (bB one),gV (bB other),gV (.int u.length),gV (.ref S.length),a6,a7,a8,td])/\S'[S.length]?=gV (.lst ((Im i).map λn=>cu (PB ((bm bs gs).map cb) u.length (cG bs u one other n)) u.length))/\Ka S S') rfl rfl ∅ ?_ ?_ ?_
 ·dsimp only[wE,wA,wV,wG];subst hR0;refine ah #v[] rfl (bo ?_)
  rw[Ky,hnl,LJ];exact#[rfl,#[_,_,_,rfl],ak,.push]
 ·rintro i ρ S1 hi ⟨⟨a6,a7,a8,rfl⟩,e1,k1⟩ Q2 hn2 _;clear hK k;have hi:i < bs.length:=∅
  obtain⟨g1,g2⟩:=nq hb hu h1 h2 hi;dsimp only[HX];refine st ?_;dsimp only[wS,wE,wA,wV,wG,HX];subst hR0;refine sv (d:=d+2) hbo hnl hi ∅ (by rw[h2.len]; omega) ?_
  refine st ?_;dsimp only[wS,wE,HX];refine jm u.length (PB ((bm bs gs).map cb) u.length (cG bs u one other i)) (λ(i:HM)=>W.int (i:Ig)) [gV (.int u.length),gV (.tup [m0,.tup (Il bp ns bs),.tup (gs.map aG)]),gV (aG (cG bs u one other i))] rfl rfl rfl rfl ∅ #[rfl,.refl] (λp hp S2 k2=>?_) λS2 k2=>?_
  ·dsimp only[jf,wC,wT,wE,wA,wV,wG];refine ac dR ?_;dsimp only;rw[show(u.length:Ig)+1=((u.length+1:HM):Ig) by omega]
   refine rX (d:=d+1) (ps:=[p,u.length,u.length+1]) G hb hnl g1 (λx hx=>?_) ?_ (by simp) λS3 k3=>?_
   ·simp only[Iz,Jl,KC]at hx;omega
   ·simp only[JU,Iz,Jl,KC,NV,Ln,and_true];omega
   have pg:GoodW a bs.length (au bs (cG bs u one other i) [p,u.length,u.length+1]):=by
    refine nh hb g1 (λx hx=>?_) ?_
    ·simp only[Iz,Jl,KC]at hx;omega
    ·simp only[JU,Iz,Jl,KC,NV,Ln,and_true];omega
   have ep:decide (eF bs (au bs (cG bs u one other i) [p,u.length,u.length+1])∈gs)=PB ((bm bs gs).map cb) u.length (cG bs u one other i) p:=by
    unfold PB;rw[<- r9 (bs:=bs) hp (KA _),MG,Ix,Ix,DG hb hgf pg (by rw[bq]; rfl),Ir]
    exact#[λh=>#[_,h,rfl],λ#[x,hx,e]=>gA e ▸ hx]
   have p3:(au bs (cG bs u one other i) [p,u.length,u.length+1]).length=3:=by rw[bq]; rfl
   generalize au bs (cG bs u one other i) [p,u.length,u.length+1]=pw at pg ep p3;refine gd (d:=d) G hb hnl pg p3 λS4 k4=>?_
   generalize eF bs pw=fw at ep;refine ah #v[] rfl (ac (DH (f:=fw) (gs:=gs)) ?_)
   dsimp only[wB];rw[ep];exact#[λz=>#[z,rfl,k3.trans k4],λz=>#[z,k3.trans k4]]
  ·have hfl:(((Im u.length).filter (PB ((bm bs gs).map cb) u.length (cG bs u one other i))).map λ(i:HM)=>W.int (i:Ig)).length<=800:=by
    rw[HI];exact IS (JG _ _) (by rw[IM]; exact hul)
   have e2:=aq (u:=O.lst (((Im u.length).filter (PB ((bm bs gs).map cb) u.length (cG bs u one other i))).map λ(i:HM)=>W.int (i:Ig))) (k2.get _ _ e1)
   refine st ?_;dsimp only[wS,wE,wA,wV,wG];refine#[eT e2,ac (jd (aq ak) ak (gh (by rw[HQ]; show _+1<=_; omega))) ?_]
   dsimp only;refine d3 (i:=0) ak ie ?_;have e4:=aq (u:=O.lst ((((Im u.length).filter (PB ((bm bs gs).map cb) u.length (cG bs u one other i))).map λ(i:HM)=>W.int (i:Ig))++[.non])) (aq (u:=O.lst [W.non]) e2)
   refine yE e4 (by rw[HI,IM]; omega) (bX (hn2 _ _ #[#[_,_,_,rfl],?_,((((k1.trans k2).trans .push).trans .push).trans .push).late (HZ _)]))
   rw[cj e4,Km,IA]; rfl
 ·rintro ρ S1 ⟨⟨a6,a7,a8,rfl⟩,e1,k1⟩;rw[HY]at e1;refine hK _ _ ?_;clear hK K;refine st ?_;dsimp only[wS,wE,HX];refine jm u.length (λp=>!(one.2.getD p 0==other.2.getD p 0)) (λ(i:HM)=>W.int (i:Ig)) [gV (bB one),gV (bB other)] rfl rfl rfl rfl ∅ #[rfl,.refl] (λi hi S2 k2=>?_) λS2 k2=>?_
  ·dsimp only[jf,wC,wT,wE,wV,wG];refine ah #v[] rfl (ah (HV i) (wl one i (by rw[h1.len]; exact hi)) (ah #v[] rfl (ah (HV i) (wl other i (by rw[h2.len]; exact hi)) (ac xN ?_))))
   dsimp only[wB];exact#[λz=>#[z,rfl,.refl],λz=>#[z,.refl]]
  have hfl:(((Im u.length).filter λp=>!(one.2.getD p 0==other.2.getD p 0)).map λ(i:HM)=>W.int (i:Ig)).length<=800:=by
   rw[HI];exact IS (JG _ _) (by rw[IM]; exact hul)
  have e2:=aq (u:=O.lst (((Im u.length).filter λp=>!(one.2.getD p 0==other.2.getD p 0)).map λ(i:HM)=>W.int (i:Ig))) (k2.get _ _ e1)
  have k3:=(k1.trans k2).trans (Ka.push (o:=O.lst (((Im u.length).filter λp=>!(one.2.getD p 0==other.2.getD p 0)).map λ(i:HM)=>W.int (i:Ig))))
  refine aW λK hK=>?_
  have fin:∀(l:HM) (L:HF W) (S3:aa),S3[l]?=gV (.lst L)->L.length<=800->iu (L++[.non]) td (gV 1)=[gk one other]->S3[S.length]?=gV (.lst ((Im bs.length).map λn=>cu (PB ((bm bs gs).map cb) u.length (cG bs u one other n)) u.length))->Ka S S3->K [gV R,gV (aG u),gV (bB one),gV (bB other),gV (.int u.length),gV (.ref S.length),a6,a7,a8,gV (.ref l)] S3:=by
   intro l L S3 el hL hc e3 k3;refine hK _ _ (st ?_);dsimp only[wS,wE,wA,wP,wV,wG,wN];refine ac (jd (aq el) ak (gh (by rw[HQ]; show _+1<=_; omega))) ?_
   dsimp only;refine ac (show nI (.ref (S3++[O.lst [.non]]).length) td (gV 1) (S3++[O.lst [.non]]++[O.lst (L++[.non])])=gV (.ref (S3++[O.lst [.non]]++[O.lst (L++[.non])]).length,S3++[O.lst [.non]]++[O.lst (L++[.non])]++[O.lst [gk one other]]) by simp only[nI,bc (ak (S:=S3++[O.lst [.non]]) (o:=O.lst (L++[.non]))),hc]) ?_
   dsimp only;refine ac (jd (aq (aq (aq e3))) ak (gh (by rw[HQ,HI,IM]; show _+1<=_; omega))) (fg ak (k _ ((((k3.trans .push).trans .push).trans .push).trans .push)))
  dsimp only[wS,wT,wE,wV,wG];refine ah #v[] rfl (ah #v[] rfl (ac xN ?_))
  dsimp only[wB];refine ar (Q0:=Q') (λhm Q2 hn _=>?_) (λhm Q2 hn _=>bX (hn _ _ (fin _ _ _ ak hfl ?_ e2 k3)))
  ·have hm:one.1≠other.1:=λz=>by rw[z]at hm; simp at hm
   refine st ?_;dsimp only[wS,wE,wA,wN,HX];refine bX (hn _ _ (fin _ _ _ ak #v[] ?_ (aq e2) (k3.trans .push)))
   unfold gk;rw[IH hm]; rfl
  ·have hm:one.1=other.1:=by
    by_cases z:one.1=other.1
    ·exact z
    ·have:(!(one.1==other.1))=true:=by simp[z]
     rw[this]at hm; cases hm
   unfold gk;rw[Iw hm,h1.len];exact vD
end
noncomputable def kq:Ss:=
 #v[.set 1 (.own "_law_flow" 1 #v[.v 0]),.set 2 (.own "_law_some_rule" 1 #v[.v 1]),.set 3 (.own "_law_bad" 1 #v[.v 2]),.set 4 (.own "_law_pick" 2 #v[.v 1,.c (.int 7)]),.ite (.cmp .eq (.own "_law_pick" 2 #v[.v 1,.c (.int 8)]) (.c (.int 0))) #v[.set 4 (.own "_law_pick" 2 #v[.v 1,.c (.int 29)])] .nil,.asg [5,6,7] (.own "_law_pair" 4 #v[.v 1,.v 2,.v 3,.v 4]),.set 8 (.own "_law_bars" 4 #v[.v 2,.v 5,.v 6,.v 7]),.ite (.not (.own "_law_alike" 2 #v[.own "barred_by" 4 #v[.v 2,.v 5,.v 6,.v 7],.v 8])) #v[.ret (.c (.bl false))] .nil,.ite (.not (.own "_law_alike" 2 #v[.own "barred_by" 4 #v[.v 2,.v 5,.v 7,.v 6],.own "_law_bars" 4 #v[.v 2,.v 5,.v 7,.v 6]])) #v[.ret (.c (.bl false))] .nil,.set 9 (.op .add (.comp (.v 1) (.nm 1) (.rng #v[.bi .len #v[.ix (.v 2) (.c (.int 1))]]) #v[.cmp .is (.ix (.v 2) (.v 1)) (.c .non)] [td,td,gV 8]) (.op .mul (.lst #v[.neg (.c (.int 1))]) (.bi .int #v[.cmp .is (.ix (.v 8) (.neg (.c (.int 1)))) (.c .non)]))),.ret (.and (.cmp .eq (.own "fillings" 4 #v[.v 2,.v 5,.v 6,.v 7]) (.v 9)) (.cmp .eq (.own "barred_by" 4 #v[.v 2,.v 5,.v 6,.v 7]) (.v 8)))]
structure Lw24 (defs:HF (Ik×Df)):Prop where
 gen:Gen defs
 fil:Fil defs
 pai:Pai defs
 flow:Is defs ("_law_flow" : Ik) 1 1 eB
 bad:Is defs ("_law_bad" : Ik) 1 4 fu
 alike:Is defs ("_law_alike" : Ik) 2 2 cC
 both:Is defs ("_law_both" : Ik) 5 5 dB
 bars:Is defs ("_law_bars" : Ik) 4 10 eD
 law:Is defs ("law" : Ik) 1 10 kq
theorem uq {S:aa}{d:HM}:∀ {xs:HF W},(∀w∈xs,NI w)->jY (jL S d) xs xs=gV true
 | [],_=>rfl
 | x::xs,h=>by
  have e:jL S d x x=gV true:=by
   rcases h x (JN ..)with rfl|⟨i,rfl⟩
   ·cases d <;> rfl
   ·cases d <;> simp[jL]
  simp only[jY,e,uq λw hw=>h w (Jk _ hw)]
  rfl
theorem DL {S:aa}{xs:HF W}(h:∀w∈xs,NI w):ce .eq (.tup xs) (.tup xs) S=gV (.bl true,S):=by
 show(jL S (19+1) (.tup xs) (.tup xs)).map _=_;simp only[jL,uq h];rfl
theorem FN {xs:HF W}(hl:xs.length<=1000)(h:∀w∈xs,NI w):Tr 1 (.tup xs):=#[hl,λx hx=>by
 rcases h x hx with rfl|⟨i,rfl⟩ <;> trivial]
section
variable{defs:HF (Ik×Df)}{fuel d:HM}
theorem Hh {Φ:Ik->FF}{ρ:Fm}{S:aa}{K:Fm->aa->Prop}{Q:QO}{m0 b0:W}{N X:HF W}{n:HM}(hN:N.length=n)(hn3:n<=3)(ni:∀w∈X,NI w)(bl:X.length=n+1)(h2:∀P:W->Prop,P (.tup [m0,.tup N,b0])->wV ρ 2 P)(h8:∀P:W->Prop,P (.tup X)->wV ρ 8 P)(hc:fN [td,td,gV 8] ρ=[td,td,gV (.tup X)])
  (k:∀l S',S'[l]?=gV (.lst (ab (nr X n)))->Ka S S'->K (ρ.set 9 (gV (.ref l))) S') :
  wS Φ fuel (.set 9 (.op .add (.comp (.v 1) (.nm 1) (.rng #v[.bi .len #v[.ix (.v 2) (.c (.int 1))]]) #v[.cmp .is (.ix (.v 2) (.v 1)) (.c .non)] [td,td,gV 8]) (.op .mul (.lst #v[.neg (.c (.int 1))]) (.bi .int #v[.cmp .is (.ix (.v 8) (.neg (.c (.int 1)))) (.c .non)])))) ρ S K Q:=by
 have xne:X≠[]:=λz=>by rw[z]at bl; cases bl
 dsimp only[wS,wE];refine jm n (λi=>vH (X.getD i (.int 0))) (λ(i:HM)=>W.int (i:Ig)) [gV (.tup X)] rfl rfl rfl hc ∅ ?_ (λi hi S2 k2=>?_) λS2 k2=>?_
 ·dsimp only[wE,wA];refine h2 _ (ah #v[] rfl (bo ?_))
  rw[hN];exact#[rfl,.refl]
 ·obtain⟨g1,g2⟩:=um (i:=i) ∅ ni
  dsimp only[jf,wC,wT,wE,wV,wG];refine ah (HV i) (by rw[HY]; exact g1) (ac (uj g2) ?_)
  dsimp only[wB];exact#[λz=>#[z,rfl,.refl],λz=>#[z,.refl]]
 ·have em:((Im n).filter λi=>vH (X.getD i (.int 0))).map (λ(i:HM)=>W.int (i:Ig))=ab (((Im n).filter λi=>vH (X.getD i (.int 0))).map λ(i:HM)=>(i:Ig)):=by unfold ab; rw[J8]; rfl
  rw[em];have hl:(ab (((Im n).filter λi=>vH (X.getD i (.int 0))).map λ(i:HM)=>(i:Ig))).length<=3:=by
   unfold ab;rw[HI,HI];exact IS (JG _ _) (by rw[IM]; exact hn3)
  unfold nr at k;dsimp only[wE,wA,wN];refine h8 _ ?_;refine ac (ly xne) (ac (uj (uk xne ni)) ?_);generalize vH (X.getLastD (.int 0))=c at k;obtain⟨g,hg,eg,er⟩ : ∃g:HM,g<=1/\(∀S,Bi.int.fn [.bl c] S=gV (.int (g:Ig),S))/\ab (if c then[-1]else[])=IJ g (W.int (-1)):=by
   cases c
   ·exact#[0,#v[],λ_=>rfl,rfl]
   ·exact#[1,#v[],λ_=>rfl,rfl]
  refine ac (eg _) ?_;dsimp only;refine BV ak ∅ ?_
  refine ac (jd (aq (aq ak)) ak (gh (by rw[HQ,Lq]; omega))) (k _ _ ?_ ((((k2.trans .push).trans .push).trans .push).trans .push))
  rw[<- er];unfold ab;rw[IA];exact ak
theorem yP (hfu:50 < fuel)(L:Lw24 defs){zs:HF Ig}:∃S',ay defs fuel (d+9) "law" [.ref 0] [.fro (zs.map W.int)]=gV (.bl true,S'):=by
 suffices h:wO (bj (ay defs fuel (d+9)) "law" 1 [.ref 0] [.fro (zs.map W.int)]) (λp=>p.1=.bl true) by
  obtain⟨⟨v,S'⟩,e,q⟩:=cO h;cases(show v=.bl true from q)
  exact#[S',e]
 have G:=L.gen;refine aB L.law rfl rfl λQ' hR=>?_
 show wZ _ _ kq [gV (.ref 0),td,td,td,td,td,td,td,td,td] [.fro (zs.map W.int)] Q';unfold kq;refine aW λK hK=>?_
 dsimp only[wS,wE,wA,wV,wG,HX];refine DC (d:=d+7) L.flow (ns:=zs) rfl λr S1 _ f1=>hK _ _ ?_
 clear hK K;refine aW λK hK=>?_
 dsimp only[wS,wE,wA,wV,wG,HX];refine qI (d:=d) ∅ G L.pai f1 λw S2 hw f2 _=>hK _ _ ?_
 clear hK K f1;obtain⟨a,bs,ms,ns,gs0,rfl,hr⟩:=hw;have hb:=hr.size.good;have hnl:=hr.nl;have hml:=hr.ml;have hpos:=hr.size.pos;have ha3:=hr.size.a3;have pm:(gX gs0).Perm gs0:=wW;have hgf:∀g∈gX gs0,g∈aX a bs:=λg hg=>hr.mem g (pm.mem_iff.mp hg)
 have hgs:∀g∈gX gs0,GoodW a bs.length g/\g.length=3:=λg hg=>nj hb (hgf g hg)
 have h64:(gX gs0).length<=100:=by
  have h1:=jg gs0 _ hr.nd hr.mem;have h2:=oA hr.size;rw[pm.length_eq]; omega
 clear hr pm;unfold cK;generalize gX gs0=gs at hgf hgs h64;clear gs0;have hb3:1<=bs.length/\bs.length<=3:=by rcases hb with rfl|rfl|rfl|rfl|rfl|rfl <;> decide
 have zl:(Il bp ns bs).length=bs.length:=by rw[Ky,hnl]; omega
 have ml:(ms.map W.str).length=a:=by rw[HI,hml]
 refine aW λK hK=>?_
 dsimp only[wS,wE,wA,wV,wG,HX];refine FK (d:=d+5) G L.bad hb hnl hgs h64 λq kvs S3 e3 h3 hq k3=>hK _ _ ?_
 clear hK K;have f3:=f2.ka k3;have hqr:q≠r:=by have:=f2.lt; omega
 clear h3 k3 hq f2;refine aW λK hK=>?_
 dsimp only[wS,wE,wA,wV,wG,HX];refine bn (d:=d+7) G.pick f3 #v[] #v[] λv S4 v0 v1 f4 k4=>hK _ _ ?_
 clear hK K;have e4:=k4.get _ _ hqr e3;clear e3 f3 k4;refine aW λK hK=>?_
 have tl:∀(n:HM) (S5:aa),n<=28->S5[q]?=gV (.dic kvs)->Fl S5 r->K [gV (.ref 0),gV (.ref r),gV (.tup [.tup (ms.map W.str),.tup (Il bp ns bs),.tup (gs.map aG)]),gV (.ref q),gV (.int (n:Ig)),td,td,td,td,td] S5:=by
  intro n S5 hn e5 f5;refine hK _ _ ?_;clear hK K e4 f4 v0 v1;refine aW λK hK=>?_
  dsimp only[wS,wE,wA,wV,wG];refine DK (d:=d+4) G L.pai ml hpos ha3 zl hb3.1 hb3.2 ∅ e5 hqr f5 λu one other S6 hul hu g1 g2 _ _=>?_
  dsimp only[wU];refine ac (show dv [5,6,7] [aG u,bB one,bB other] [gV (.ref 0),gV (.ref r),gV (.tup [.tup (ms.map W.str),.tup (Il bp ns bs),.tup (gs.map aG)]),gV (.ref q),gV (.int (n:Ig)),td,td,td,td,td]=gV [gV (.ref 0),gV (.ref r),gV (.tup [.tup (ms.map W.str),.tup (Il bp ns bs),.tup (gs.map aG)]),gV (.ref q),gV (.int (n:Ig)),gV (aG u),gV (bB one),gV (bB other),td,td]from rfl) (hK _ _ ?_)
  clear hK K;have lb:∀(x y:Pt) (S:aa) (Q:QW),GoodP a bs.length u.length x->GoodP a bs.length u.length y->(∀S',Q (.tup (du (PB ((bm bs gs).map cb) u.length) bs u x y),S'))->wO (bj (ay defs fuel (d+8)) "_law_bars" 4 [.tup [.tup (ms.map W.str),.tup (Il bp ns bs),.tup (gs.map aG)],aG u,bB x,bB y] S) Q:=λx y S Q h1 h2 h3=>sw (d:=d+4) G L.both L.bars hb hnl hgf hu h1 h2 ∅ λS' _=>h3 S'
  have bb:∀(x y:Pt) (S:aa) (Q:QW),GoodP a bs.length u.length x->GoodP a bs.length u.length y->(∀S',Ka S S'->Q (.tup (du (PB ((bm bs gs).map cb) u.length) bs u x y),S'))->wO (bj (ay defs fuel (d+8)) "barred_by" 4 [.tup [.tup (ms.map W.str),.tup (Il bp ns bs),.tup (gs.map aG)],aG u,bB x,bB y] S) Q:=λx y S Q h1 h2 h3=>jU (d:=d+3) ∅ L.fil hb hnl hgs h64 hu h1 h2 ∅ h3
  have al:∀(x y:Pt) (S:aa) (Q:QW),(∀S',Q (.bl true,S'))->wO (bj (ay defs fuel (d+8)) "_law_alike" 2 [.tup (du (PB ((bm bs gs).map cb) u.length) bs u x y),.tup (du (PB ((bm bs gs).map cb) u.length) bs u x y)] S) Q:=λx y S Q h=>Bj L.alike 1 (d+6) _ _ _ (FN (by rw[jr]; omega) oG) λS' _=>h S'
  refine aW λK hK=>?_
  dsimp only[wS,wE,wA,wV,wG,HX];refine lb one other _ _ g1 g2 λS7=>hK _ _ ?_
  clear hK K;refine aW λK hK=>?_
  dsimp only[wS,wT,wE,wA,wV,wG];refine bb one other _ _ g1 g2 λS8 _=>al one other _ _ λS9=>?_
  refine ac (show eQ S9 (.bl true)=gV true from rfl) ?_
  refine ar (Q0:=Q') (λz=>by cases z) (λ_ Q2 hn2 _=>bX (hn2 _ _ (hK _ _ ?_)))
  clear hn2 hK K;refine aW λK hK=>?_
  dsimp only[wS,wT,wE,wA,wV,wG];refine bb other one _ _ g2 g1 λS10 _=>lb other one _ _ g2 g1 λS11=>al other one _ _ λS12=>?_
  refine ac (show eQ S12 (.bl true)=gV true from rfl) ?_
  refine ar (Q0:=Q') (λz=>by cases z) (λ_ Q2 hn2 _=>bX (hn2 _ _ (hK _ _ ?_)))
  clear hn2 hK K;have ni:=oG (P:=PB ((bm bs gs).map cb) u.length) (bs:=bs) (u:=u) (one:=one) (other:=other);have bl:=jr (P:=PB ((bm bs gs).map cb) u.length) (bs:=bs) (u:=u) (one:=one) (other:=other);have bb1:=bb one other;have ff:∀(S:aa) (Q:QW),(∀(l:HM) S',S'[l]?=gV (.lst (ab (nr (du (PB ((bm bs gs).map cb) u.length) bs u one other) bs.length)))->Ka S S'->Q (.ref l,S'))->wO (bj (ay defs fuel (d+8)) "fillings" 4 [.tup [.tup (ms.map W.str),.tup (Il bp ns bs),.tup (gs.map aG)],aG u,bB one,bB other] S) Q:=λS Q h=>sr (d:=d+2) ∅ L.fil hb hnl hgs h64 hu g1 g2 ∅ λl S' x _ y=>h l S' x y
  clear bb al lb;generalize du (PB ((bm bs gs).map cb) u.length) bs u one other=X at ni bl bb1 ff;refine aW λK hK=>?_
  refine Hh zl hb3.2 ni bl (λ_ h=>h) (λ_ h=>h) rfl λl S13 e13 _=>hK _ _ ?_
  clear hK K;refine st ?_;dsimp only[wS,wE,wA,wV,wG,HX];refine ff _ _ λl2 S14 e14 k14=>ac (Dz e14 (k14.get _ _ e13)) ?_
  dsimp only[wB];rw[Jt rfl];refine#[λ_=>?_,λz=>by cases z]
  exact bb1 _ _ g1 g2 λS15 _=>ac (DL ni) (hR _ _ rfl)
 dsimp only[wS,wT,wE,wA,wV,wG];refine bn (d:=d+7) G.pick f4 #v[] #v[] λv2 S5 _ _ f5 k5=>?_
 have e5:=k5.get _ _ hqr e4;obtain⟨n,rfl⟩ : ∃n:HM,v=n:=#[v.toNat,∅]
 dsimp only[iF,aO,wB];refine ar (Q0:=Q') (λ_ Q2 hn2 _=>?_) (λ_ Q2 hn2 _=>bX (hn2 _ _ (tl n S5 ∅ e5 f5)))
 refine st ?_;dsimp only[wS,wE,wA,wV,wG,HX];refine bn (d:=d+7) G.pick f5 #v[] #v[] λv3 S6 u0 u1 f6 k6=>?_
 obtain⟨n3,rfl⟩ : ∃n:HM,v3=n:=#[v3.toNat,∅]
 exact bX (hn2 _ _ (tl n3 S6 ∅ (k6.get _ _ hqr e5) f6))
end
noncomputable def aj (i:HM):Ks:=PySem.Challenge.pw_layworld_k24_what_bars.main.body.getD i (.Pass #[0,0,0,0])
noncomputable def g6:Df:=#[["rule","world","i","j"],["rule","world","i","j"],ue]
noncomputable def eU:Df:=#[["rule","world","points"],["rule","world","points"],jl]
noncomputable def br:Df:=#[["rule","world","ahead","point"],["rule","world","ahead","point"],d4]
noncomputable def aP:Df:=#[["orders","size"],["orders","size","longer","order"],bV]
noncomputable def eV:Df:=#[["rule","way"],["rule","way"],jq]
noncomputable def aQ:Df:=#[["rule"],["rule","orders","barred","figure","order"],cq]
noncomputable def bY:Df:=#[["world","i","j","k"],["world","i","j","k","one","two"],dA]
noncomputable def bG:Df:=#[["barred","world"],["barred","world","last","point"],dJ]
noncomputable def bZ:Df:=#[["rule","base","one","other"],["rule","base","one","other","bars","found"],fH]
noncomputable def bH:Df:=#[["rule","base","one","other"],["rule","base","one","other"],eO]
noncomputable def b6:Df:=#[["rule","barred","base","one","other"],["rule","barred","base","one","other","bars"],fI]
noncomputable def bI:Df:=#[["rule","base","one","other","number"],["rule","base","one","other","number"],dL]
noncomputable def b7:Df:=#[["one","other"],["one","other","apart"],eC]
noncomputable def bJ:Df:=#[["_law_script"],["_law_script"],eB]
noncomputable def bK:Df:=#[["_law_flow_here","_law_many"],["_law_flow_here","_law_many","_law_cell","_law_digit"],cZ]
noncomputable def bu:Df:=#[["_law_flow_here","_law_many"],["_law_flow_here","_law_many"],eN]
noncomputable def aY:Df:=#[["_law_rule","_law_world_here","_law_i","_law_j"],["_law_rule","_law_world_here","_law_i","_law_j"],dD]
noncomputable def bL:Df:=#[["_law_rule","_law_world_here","_law_points"],["_law_rule","_law_world_here","_law_points","_law_told","_law_k","_law_i"],fF]
noncomputable def bv:Df:=#[[],[],gb]
noncomputable def be:Df:=#[["_law_rule","_law_three"],["_law_rule","_law_three"],dY]
noncomputable def b8:Df:=#[["_law_rule"],["_law_rule","_law_bad_here","_law_three","_law_points"],fu]
noncomputable def aR:Df:=#[["_law_rule","_law_bad_here","_law_world_here","_law_k"],["_law_rule","_law_bad_here","_law_world_here","_law_k","_law_mark","_law_to","_law_j","_law_i"],cF]
noncomputable def bw:Df:=#[["_law_flow_here","_law_many"],["_law_flow_here","_law_many","_law_menu"],eL]
noncomputable def aZ:Df:=#[["_law_flow_here","_law_marks","_law_backs_here","_law_barred"],["_law_flow_here","_law_marks","_law_backs_here","_law_barred","_law_names_here","_law_ways"],dE]
noncomputable def aJ:Df:=#[["_law_flow_here","_law_marks","_law_ways"],["_law_flow_here","_law_marks","_law_ways","_law_told","_law_k"],cJ]
noncomputable def bx:Df:=#[["_law_flow_here"],["_law_flow_here","_law_menu"],eM]
noncomputable def aS:Df:=#[["_law_flow_here"],["_law_flow_here","_law_marks","_law_ways","_law_rule","_law_barred","_law_k"],de]
noncomputable def aE:Df:=#[["_law_flow_here"],["_law_flow_here","_law_menu"],cy]
noncomputable def bf:Df:=#[["_law_backs_here","_law_must","_law_to_one","_law_to_two","_law_between_here"],["_law_backs_here","_law_must","_law_to_one","_law_to_two","_law_between_here","_law_to","_law_pair_here","_law_x","_law_y","_law_z"],dZ]
noncomputable def aT:Df:=#[["_law_flow_here","_law_backs_here","_law_must"],["_law_flow_here","_law_backs_here","_law_must","_law_many","_law_menu","_law_some","_law_numbers","_law_told","_law_k","_law_other","_law_u","_law_v"],bT]
noncomputable def aF:Df:=#[["_law_flow_here"],["_law_flow_here","_law_form","_law_backs_here","_law_must","_law_most","_law_marks","_law_rule","_law_barred","_law_many","_law_at","_law_one","_law_two","_law_between_here","_law_some","_law_first"],cz]
noncomputable def bg:Df:=#[["_law_marks"],["_law_marks","_law_told","_law_i","_law_j"],d0]
noncomputable def aL:Df:=#[["_law_flow_here"],["_law_flow_here","_law_marks","_law_ways","_law_rule","_law_k","_law_own","_law_free","_law_barred","_law_three"],cR]
noncomputable def aC:Df:=#[["_law_flow_here"],["_law_flow_here","_law_marks","_law_barred"],cm]
noncomputable def aA:Df:=#[["_law_flow_here"],["_law_flow_here","_law_form","_law_rule","_law_barred","_law_some","_law_one","_law_two","_law_between_here","_law_first","_law_marks"],bE]
noncomputable def aU:Df:=#[["_law_flow_here","_law_rule","_law_bad_here","_law_world_here","_law_mark","_law_to"],["_law_flow_here","_law_rule","_law_bad_here","_law_world_here","_law_mark","_law_to","_law_k","_law_left","_law_w","_law_seen","_law_i"],bh]
noncomputable def bz:Df:=#[["_law_flow_here","_law_rule","_law_bad_here","_law_many"],["_law_flow_here","_law_rule","_law_bad_here","_law_many","_law_world_here","_law_k","_law_mark","_law_to"],dI]
noncomputable def bA:Df:=#[["_law_found","_law_due"],["_law_found","_law_due"],cC]
noncomputable def aM:Df:=#[["_law_flow_here"],["_law_flow_here","_law_form"],cU]
noncomputable def aN:Df:=#[["_law_flow_here","_law_rule","_law_bad_here","_law_base"],["_law_flow_here","_law_rule","_law_bad_here","_law_base","_law_first","_law_k","_law_mark","_law_to"],cV]
noncomputable def bM:Df:=#[["_law_flow_here","_law_rule","_law_bad_here","_law_base","_law_point"],["_law_flow_here","_law_rule","_law_bad_here","_law_base","_law_point","_law_mark","_law_to","_law_kind","_law_at"],fJ]
noncomputable def bN:Df:=#[["_law_flow_here","_law_rule","_law_bad_here","_law_many"],["_law_flow_here","_law_rule","_law_bad_here","_law_many","_law_base","_law_one","_law_other"],fK]
noncomputable def bO:Df:=#[["_law_rule","_law_base","_law_one","_law_other","_law_number"],["_law_rule","_law_base","_law_one","_law_other","_law_number"],dB]
noncomputable def bP:Df:=#[["_law_rule","_law_base","_law_one","_law_other"],["_law_rule","_law_base","_law_one","_law_other","_law_many","_law_told","_law_number","_law_world_here","_law_barring","_law_unlike"],eD]
noncomputable def g7:Df:=#[["_law_script"],["_law_script","_law_flow_here","_law_rule","_law_bad_here","_law_many","_law_base","_law_one","_law_other","_law_due","_law_filled"],kq]
noncomputable def jW:HF (Ik×Df):=[(("way" : Ik),g6),(("part" : Ik),eU),(("point_over" : Ik),br),(("longer_orders" : Ik),aP),(("back" : Ik),eV),(("barred_threes" : Ik),aQ),(("three_at" : Ik),bY),(("first_bar" : Ik),bG),(("fillings" : Ik),bZ),(("barred_by" : Ik),bH),(("all_bars" : Ik),b6),(("with_both" : Ik),bI),(("same_bar" : Ik),b7),(("_law_flow" : Ik),bJ),(("_law_pick" : Ik),bK),(("_law_names" : Ik),bu),(("_law_between" : Ik),aY),(("_law_part" : Ik),bL),(("_law_turns" : Ik),bv),(("_law_figure" : Ik),be),(("_law_bad" : Ik),b8),(("_law_last_may" : Ik),aR),(("_law_backs" : Ik),bw),(("_law_rule_of" : Ik),aZ),(("_law_free_three" : Ik),aJ),(("_law_sizes" : Ik),bx),(("_law_any_rule" : Ik),aS),(("_law_laying_kind" : Ik),aE),(("_law_breaks" : Ik),bf),(("_law_numbered" : Ik),aT),(("_law_laying_rule" : Ik),aF),(("_law_rising" : Ik),bg),(("_law_free_rule" : Ik),aL),(("_law_one_way_rule" : Ik),aC),(("_law_unlaying_rule" : Ik),aA),(("_law_new_ways" : Ik),aU),(("_law_world" : Ik),bz),(("_law_alike" : Ik),bA),(("_law_some_rule" : Ik),aM),(("_law_new_point" : Ik),aN),(("_law_near" : Ik),bM),(("_law_pair" : Ik),bN),(("_law_both" : Ik),bO),(("_law_bars" : Ik),bP),(("law" : Ik),g7)]
noncomputable def Bm:HF (Ik×HM):=[(("way" : Ik),4),(("part" : Ik),3),(("point_over" : Ik),4),(("longer_orders" : Ik),2),(("back" : Ik),2),(("barred_threes" : Ik),1),(("three_at" : Ik),4),(("first_bar" : Ik),2),(("fillings" : Ik),4),(("barred_by" : Ik),4),(("all_bars" : Ik),5),(("with_both" : Ik),5),(("same_bar" : Ik),2),(("_law_flow" : Ik),1),(("_law_pick" : Ik),2),(("_law_names" : Ik),2),(("_law_between" : Ik),4),(("_law_part" : Ik),3),(("_law_turns" : Ik),0),(("_law_figure" : Ik),2),(("_law_bad" : Ik),1),(("_law_last_may" : Ik),4),(("_law_backs" : Ik),2),(("_law_rule_of" : Ik),4),(("_law_free_three" : Ik),3),(("_law_sizes" : Ik),1),(("_law_any_rule" : Ik),1),(("_law_laying_kind" : Ik),1),(("_law_breaks" : Ik),5),(("_law_numbered" : Ik),3),(("_law_laying_rule" : Ik),1),(("_law_rising" : Ik),1),(("_law_free_rule" : Ik),1),(("_law_one_way_rule" : Ik),1),(("_law_unlaying_rule" : Ik),1),(("_law_new_ways" : Ik),6),(("_law_world" : Ik),4),(("_law_alike" : Ik),2),(("_law_some_rule" : Ik),1),(("_law_new_point" : Ik),4),(("_law_near" : Ik),5),(("_law_pair" : Ik),4),(("_law_both" : Ik),5),(("_law_bars" : Ik),4),(("law" : Ik),1)]
noncomputable def DM:HF Ik:=["range","len","list","tuple","int","sorted","isinstance","bool","str","all","min","enumerate"]
noncomputable def dP:Md:=#[Bm,DM]
theorem DN:bR dP (aj 1) g6:=by rfl
theorem DO:FnScope g6.N g6.ps (ag (aj 1)):=#[rfl,rfl,rfl,by decide +kernel,rfl,by decide +kernel,by decide +kernel]
theorem Bn:bR dP (aj 3) eU:=by rfl
theorem Bo:FnScope eU.N eU.ps (ag (aj 3)):=#[rfl,rfl,rfl,by decide +kernel,rfl,by decide +kernel,by decide +kernel]
theorem lS:bR dP (aj 4) br:=by rfl
theorem lT:FnScope br.N br.ps (ag (aj 4)):=#[rfl,rfl,rfl,by decide +kernel,rfl,by decide +kernel,by decide +kernel]
theorem js:bR dP (aj 5) aP:=by rfl
theorem jt:FnScope aP.N aP.ps (ag (aj 5)):=#[rfl,rfl,rfl,by decide +kernel,rfl,by decide +kernel,by decide +kernel]
theorem Bp:bR dP (aj 7) eV:=by rfl
theorem Bq:FnScope eV.N eV.ps (ag (aj 7)):=#[rfl,rfl,rfl,by decide +kernel,rfl,by decide +kernel,by decide +kernel]
theorem ju:bR dP (aj 9) aQ:=by rfl
theorem jv:FnScope aQ.N aQ.ps (ag (aj 9)):=#[rfl,rfl,rfl,by decide +kernel,rfl,by decide +kernel,by decide +kernel]
theorem qJ:bR dP (aj 10) bY:=by rfl
theorem qK:FnScope bY.N bY.ps (ag (aj 10)):=#[rfl,rfl,rfl,by decide +kernel,rfl,by decide +kernel,by decide +kernel]
theorem oH:bR dP (aj 11) bG:=by rfl
theorem oI:FnScope bG.N bG.ps (ag (aj 11)):=#[rfl,rfl,rfl,by decide +kernel,rfl,by decide +kernel,by decide +kernel]
theorem qL:bR dP (aj 13) bZ:=by rfl
theorem qM:FnScope bZ.N bZ.ps (ag (aj 13)):=#[rfl,rfl,rfl,by decide +kernel,rfl,by decide +kernel,by decide +kernel]
theorem oJ:bR dP (aj 14) bH:=by rfl
theorem oK:FnScope bH.N bH.ps (ag (aj 14)):=#[rfl,rfl,rfl,by decide +kernel,rfl,by decide +kernel,by decide +kernel]
theorem qN:bR dP (aj 15) b6:=by rfl
theorem qO:FnScope b6.N b6.ps (ag (aj 15)):=#[rfl,rfl,rfl,by decide +kernel,rfl,by decide +kernel,by decide +kernel]
theorem oM:bR dP (aj 16) bI:=by rfl
theorem oN:FnScope bI.N bI.ps (ag (aj 16)):=#[rfl,rfl,rfl,by decide +kernel,rfl,by decide +kernel,by decide +kernel]
theorem qP:bR dP (aj 17) b7:=by rfl
theorem qQ:FnScope b7.N b7.ps (ag (aj 17)):=#[rfl,rfl,rfl,by decide +kernel,rfl,by decide +kernel,by decide +kernel]
theorem oO:bR dP (aj 19) bJ:=by rfl
theorem oP:FnScope bJ.N bJ.ps (ag (aj 19)):=#[rfl,rfl,rfl,by decide +kernel,rfl,by decide +kernel,by decide +kernel]
theorem oQ:bR dP (aj 20) bK:=by rfl
theorem oR:FnScope bK.N bK.ps (ag (aj 20)):=#[rfl,rfl,rfl,by decide +kernel,rfl,by decide +kernel,by decide +kernel]
theorem lU:bR dP (aj 21) bu:=by rfl
theorem lV:FnScope bu.N bu.ps (ag (aj 21)):=#[rfl,rfl,rfl,by decide +kernel,rfl,by decide +kernel,by decide +kernel]
theorem j4:bR dP (aj 22) aY:=by rfl
theorem j5:FnScope aY.N aY.ps (ag (aj 22)):=#[rfl,rfl,rfl,by decide +kernel,rfl,by decide +kernel,by decide +kernel]
theorem oS:bR dP (aj 23) bL:=by rfl
theorem oT:FnScope bL.N bL.ps (ag (aj 23)):=#[rfl,rfl,rfl,by decide +kernel,rfl,by decide +kernel,by decide +kernel]
theorem lW:bR dP (aj 24) bv:=by rfl
theorem lX:FnScope bv.N bv.ps (ag (aj 24)):=#[rfl,rfl,rfl,by decide +kernel,rfl,by decide +kernel,by decide +kernel]
theorem lz:bR dP (aj 25) be:=by rfl
theorem lA:FnScope be.N be.ps (ag (aj 25)):=#[rfl,rfl,rfl,by decide +kernel,rfl,by decide +kernel,by decide +kernel]
theorem qR:bR dP (aj 26) b8:=by rfl
theorem qS:FnScope b8.N b8.ps (ag (aj 26)):=#[rfl,rfl,rfl,by decide +kernel,rfl,by decide +kernel,by decide +kernel]
theorem jw:bR dP (aj 27) aR:=by rfl
theorem jx:FnScope aR.N aR.ps (ag (aj 27)):=#[rfl,rfl,rfl,by decide +kernel,rfl,by decide +kernel,by decide +kernel]
theorem lY:bR dP (aj 28) bw:=by rfl
theorem lZ:FnScope bw.N bw.ps (ag (aj 28)):=#[rfl,rfl,rfl,by decide +kernel,rfl,by decide +kernel,by decide +kernel]
theorem j6:bR dP (aj 29) aZ:=by rfl
theorem j7:FnScope aZ.N aZ.ps (ag (aj 29)):=#[rfl,rfl,rfl,by decide +kernel,rfl,by decide +kernel,by decide +kernel]
theorem ig:bR dP (aj 30) aJ:=by rfl
theorem ii:FnScope aJ.N aJ.ps (ag (aj 30)):=#[rfl,rfl,rfl,by decide +kernel,rfl,by decide +kernel,by decide +kernel]
theorem l4:bR dP (aj 31) bx:=by rfl
theorem l5:FnScope bx.N bx.ps (ag (aj 31)):=#[rfl,rfl,rfl,by decide +kernel,rfl,by decide +kernel,by decide +kernel]
theorem jy:bR dP (aj 32) aS:=by rfl
theorem jz:FnScope aS.N aS.ps (ag (aj 32)):=#[rfl,rfl,rfl,by decide +kernel,rfl,by decide +kernel,by decide +kernel]
theorem gK:bR dP (aj 33) aE:=by rfl
theorem gL:FnScope aE.N aE.ps (ag (aj 33)):=#[rfl,rfl,rfl,by decide +kernel,rfl,by decide +kernel,by decide +kernel]
theorem lB:bR dP (aj 34) bf:=by rfl
theorem lC:FnScope bf.N bf.ps (ag (aj 34)):=#[rfl,rfl,rfl,by decide +kernel,rfl,by decide +kernel,by decide +kernel]
theorem jA:bR dP (aj 35) aT:=by rfl
theorem jB:FnScope aT.N aT.ps (ag (aj 35)):=#[rfl,rfl,rfl,by decide +kernel,rfl,by decide +kernel,by decide +kernel]
theorem gM:bR dP (aj 36) aF:=by rfl
theorem gN:FnScope aF.N aF.ps (ag (aj 36)):=#[rfl,rfl,rfl,by decide +kernel,rfl,by decide +kernel,by decide +kernel]
theorem lD:bR dP (aj 37) bg:=by rfl
theorem lE:FnScope bg.N bg.ps (ag (aj 37)):=#[rfl,rfl,rfl,by decide +kernel,rfl,by decide +kernel,by decide +kernel]
theorem iO:bR dP (aj 38) aL:=by rfl
theorem iP:FnScope aL.N aL.ps (ag (aj 38)):=#[rfl,rfl,rfl,by decide +kernel,rfl,by decide +kernel,by decide +kernel]
theorem gm:bR dP (aj 39) aC:=by rfl
theorem gn:FnScope aC.N aC.ps (ag (aj 39)):=#[rfl,rfl,rfl,by decide +kernel,rfl,by decide +kernel,by decide +kernel]
theorem fO:bR dP (aj 40) aA:=by rfl
theorem fP:FnScope aA.N aA.ps (ag (aj 40)):=#[rfl,rfl,rfl,by decide +kernel,rfl,by decide +kernel,by decide +kernel]
theorem jC:bR dP (aj 41) aU:=by rfl
theorem jD:FnScope aU.N aU.ps (ag (aj 41)):=#[rfl,rfl,rfl,by decide +kernel,rfl,by decide +kernel,by decide +kernel]
theorem l7:bR dP (aj 42) bz:=by rfl
theorem l8:FnScope bz.N bz.ps (ag (aj 42)):=#[rfl,rfl,rfl,by decide +kernel,rfl,by decide +kernel,by decide +kernel]
theorem l9:bR dP (aj 43) bA:=by rfl
theorem ma:FnScope bA.N bA.ps (ag (aj 43)):=#[rfl,rfl,rfl,by decide +kernel,rfl,by decide +kernel,by decide +kernel]
theorem iQ:bR dP (aj 44) aM:=by rfl
theorem iR:FnScope aM.N aM.ps (ag (aj 44)):=#[rfl,rfl,rfl,by decide +kernel,rfl,by decide +kernel,by decide +kernel]
theorem iS:bR dP (aj 45) aN:=by rfl
theorem iT:FnScope aN.N aN.ps (ag (aj 45)):=#[rfl,rfl,rfl,by decide +kernel,rfl,by decide +kernel,by decide +kernel]
theorem oU:bR dP (aj 46) bM:=by rfl
theorem oV:FnScope bM.N bM.ps (ag (aj 46)):=#[rfl,rfl,rfl,by decide +kernel,rfl,by decide +kernel,by decide +kernel]
theorem oW:bR dP (aj 47) bN:=by rfl
theorem oX:FnScope bN.N bN.ps (ag (aj 47)):=#[rfl,rfl,rfl,by decide +kernel,rfl,by decide +kernel,by decide +kernel]
theorem oY:bR dP (aj 48) bO:=by rfl
theorem oZ:FnScope bO.N bO.ps (ag (aj 48)):=#[rfl,rfl,rfl,by decide +kernel,rfl,by decide +kernel,by decide +kernel]
theorem o4:bR dP (aj 49) bP:=by rfl
theorem o5:FnScope bP.N bP.ps (ag (aj 49)):=#[rfl,rfl,rfl,by decide +kernel,rfl,by decide +kernel,by decide +kernel]
theorem yQ:bR dP (aj 50) g7:=by rfl
theorem yR:FnScope g7.N g7.ps (ag (aj 50)):=#[rfl,rfl,rfl,by decide +kernel,rfl,by decide +kernel,by decide +kernel]
theorem am {α:Type}{x y:Ik}{n m:α}{L:HF (Ik×α)}(h:((y,m)::L).lookup x=gV n):(x=y/\n=m)\/L.lookup x=gV n:=by
 rw[JQ]at h;split at h
 ·rename_i e;cases h;exact .inl #[eq_of_beq e,rfl]
 ·exact .inr h
theorem FP:Lw24 jW:=#[#[#[bK,rfl,rfl,rfl,rfl],#[bu,rfl,rfl,rfl,rfl],#[aY,rfl,rfl,rfl,rfl],#[bL,rfl,rfl,rfl,rfl],#[bv,rfl,rfl,rfl,rfl],#[be,rfl,rfl,rfl,rfl],#[bw,rfl,rfl,rfl,rfl],#[aZ,rfl,rfl,rfl,rfl],#[aJ,rfl,rfl,rfl,rfl],#[bx,rfl,rfl,rfl,rfl],#[aS,rfl,rfl,rfl,rfl],#[aE,rfl,rfl,rfl,rfl],#[bf,rfl,rfl,rfl,rfl],#[aT,rfl,rfl,rfl,rfl],#[aF,rfl,rfl,rfl,rfl],#[bg,rfl,rfl,rfl,rfl],#[aL,rfl,rfl,rfl,rfl],#[aC,rfl,rfl,rfl,rfl]],#[#[#[g6,rfl,rfl,rfl,rfl],#[br,rfl,rfl,rfl,rfl]],#[eU,rfl,rfl,rfl,rfl],#[aP,rfl,rfl,rfl,rfl],#[aQ,rfl,rfl,rfl,rfl],#[bY,rfl,rfl,rfl,rfl],#[bG,rfl,rfl,rfl,rfl],#[eV,rfl,rfl,rfl,rfl],#[bI,rfl,rfl,rfl,rfl],#[b7,rfl,rfl,rfl,rfl],#[b6,rfl,rfl,rfl,rfl],#[bH,rfl,rfl,rfl,rfl],#[bZ,rfl,rfl,rfl,rfl]],#[#[aA,rfl,rfl,rfl,rfl],#[aM,rfl,rfl,rfl,rfl],#[aU,rfl,rfl,rfl,rfl],#[bz,rfl,rfl,rfl,rfl],#[aR,rfl,rfl,rfl,rfl],#[aN,rfl,rfl,rfl,rfl],#[bM,rfl,rfl,rfl,rfl],#[bN,rfl,rfl,rfl,rfl]],#[bJ,rfl,rfl,rfl,rfl],#[b8,rfl,rfl,rfl,rfl],#[bA,rfl,rfl,rfl,rfl],#[bO,rfl,rfl,rfl,rfl],#[bP,rfl,rfl,rfl,rfl],#[g7,rfl,rfl,rfl,rfl]]
noncomputable def BD (x:Ik)(st:Ks)(df:Df):Prop:=∀(kV doc pm:HH) (an:HL HR) (cdv ct:HH) (us:HF HH),us.length=df.ps.length->bindArgs (JY x x (dS st) (c9 st) (ag st) .none kV doc pm an cdv ct) #[us,[]]=pure (df.ps.zip us)
theorem HC {us:HF HH}(h:us.length=0):us=[]:=match us,h with|[],_=>rfl
theorem vE {us:HF HH}(h:us.length=1):∃a,us=[a]:=match us,h with|[a],_=>#[a,rfl]
theorem Br {us:HF HH}(h:us.length=2):∃a b,us=[a,b]:=match us,h with|[a,b],_=>#[a,b,rfl]
theorem F4 {us:HF HH}(h:us.length=3):∃a b c,us=[a,b,c]:=match us,h with|[a,b,c],_=>#[a,b,c,rfl]
theorem vI {us:HF HH}(h:us.length=4):∃a b c d,us=[a,b,c,d]:=match us,h with|[a,b,c,d],_=>#[a,b,c,d,rfl]
theorem FQ {us:HF HH}(h:us.length=5):∃a b c d e,us=[a,b,c,d,e]:=match us,h with|[a,b,c,d,e],_=>#[a,b,c,d,e,rfl]
theorem HD {us:HF HH}(h:us.length=6):∃a b c d e f,us=[a,b,c,d,e,f]:=match us,h with|[a,b,c,d,e,f],_=>#[a,b,c,d,e,f,rfl]
theorem DP:BD "way" (aj 1) g6:=λ_ _ _ _ _ _ us h=>by
 obtain⟨x0,x1,x2,x3,rfl⟩:=vI h;rfl
theorem Bs:BD "part" (aj 3) eU:=λ_ _ _ _ _ _ us h=>by
 obtain⟨x0,x1,x2,rfl⟩:=F4 h;rfl
theorem md:BD "point_over" (aj 4) br:=λ_ _ _ _ _ _ us h=>by
 obtain⟨x0,x1,x2,x3,rfl⟩:=vI h;rfl
theorem jE:BD "longer_orders" (aj 5) aP:=λ_ _ _ _ _ _ us h=>by
 obtain⟨x0,x1,rfl⟩:=Br h;rfl
theorem Bt:BD "back" (aj 7) eV:=λ_ _ _ _ _ _ us h=>by
 obtain⟨x0,x1,rfl⟩:=Br h;rfl
theorem jF:BD "barred_threes" (aj 9) aQ:=λ_ _ _ _ _ _ us h=>by
 obtain⟨x0,rfl⟩:=vE h;rfl
theorem qT:BD "three_at" (aj 10) bY:=λ_ _ _ _ _ _ us h=>by
 obtain⟨x0,x1,x2,x3,rfl⟩:=vI h;rfl
theorem o7:BD "first_bar" (aj 11) bG:=λ_ _ _ _ _ _ us h=>by
 obtain⟨x0,x1,rfl⟩:=Br h;rfl
theorem qU:BD "fillings" (aj 13) bZ:=λ_ _ _ _ _ _ us h=>by
 obtain⟨x0,x1,x2,x3,rfl⟩:=vI h;rfl
theorem o8:BD "barred_by" (aj 14) bH:=λ_ _ _ _ _ _ us h=>by
 obtain⟨x0,x1,x2,x3,rfl⟩:=vI h;rfl
theorem qV:BD "all_bars" (aj 15) b6:=λ_ _ _ _ _ _ us h=>by
 obtain⟨x0,x1,x2,x3,x4,rfl⟩:=FQ h;rfl
theorem o9:BD "with_both" (aj 16) bI:=λ_ _ _ _ _ _ us h=>by
 obtain⟨x0,x1,x2,x3,x4,rfl⟩:=FQ h;rfl
theorem qW:BD "same_bar" (aj 17) b7:=λ_ _ _ _ _ _ us h=>by
 obtain⟨x0,x1,rfl⟩:=Br h;rfl
theorem pb:BD "_law_flow" (aj 19) bJ:=λ_ _ _ _ _ _ us h=>by
 obtain⟨x0,rfl⟩:=vE h;rfl
theorem pc:BD "_law_pick" (aj 20) bK:=λ_ _ _ _ _ _ us h=>by
 obtain⟨x0,x1,rfl⟩:=Br h;rfl
theorem mf:BD "_law_names" (aj 21) bu:=λ_ _ _ _ _ _ us h=>by
 obtain⟨x0,x1,rfl⟩:=Br h;rfl
theorem j8:BD "_law_between" (aj 22) aY:=λ_ _ _ _ _ _ us h=>by
 obtain⟨x0,x1,x2,x3,rfl⟩:=vI h;rfl
theorem pd:BD "_law_part" (aj 23) bL:=λ_ _ _ _ _ _ us h=>by
 obtain⟨x0,x1,x2,rfl⟩:=F4 h;rfl
theorem mh:BD "_law_turns" (aj 24) bv:=λ_ _ _ _ _ _ us h=>by
 obtain rfl:=HC h;rfl
theorem lF:BD "_law_figure" (aj 25) be:=λ_ _ _ _ _ _ us h=>by
 obtain⟨x0,x1,rfl⟩:=Br h;rfl
theorem qX:BD "_law_bad" (aj 26) b8:=λ_ _ _ _ _ _ us h=>by
 obtain⟨x0,rfl⟩:=vE h;rfl
theorem jG:BD "_law_last_may" (aj 27) aR:=λ_ _ _ _ _ _ us h=>by
 obtain⟨x0,x1,x2,x3,rfl⟩:=vI h;rfl
theorem mj:BD "_law_backs" (aj 28) bw:=λ_ _ _ _ _ _ us h=>by
 obtain⟨x0,x1,rfl⟩:=Br h;rfl
theorem j9:BD "_law_rule_of" (aj 29) aZ:=λ_ _ _ _ _ _ us h=>by
 obtain⟨x0,x1,x2,x3,rfl⟩:=vI h;rfl
theorem ij:BD "_law_free_three" (aj 30) aJ:=λ_ _ _ _ _ _ us h=>by
 obtain⟨x0,x1,x2,rfl⟩:=F4 h;rfl
theorem mo:BD "_law_sizes" (aj 31) bx:=λ_ _ _ _ _ _ us h=>by
 obtain⟨x0,rfl⟩:=vE h;rfl
theorem jH:BD "_law_any_rule" (aj 32) aS:=λ_ _ _ _ _ _ us h=>by
 obtain⟨x0,rfl⟩:=vE h;rfl
theorem gO:BD "_law_laying_kind" (aj 33) aE:=λ_ _ _ _ _ _ us h=>by
 obtain⟨x0,rfl⟩:=vE h;rfl
theorem lG:BD "_law_breaks" (aj 34) bf:=λ_ _ _ _ _ _ us h=>by
 obtain⟨x0,x1,x2,x3,x4,rfl⟩:=FQ h;rfl
theorem jI:BD "_law_numbered" (aj 35) aT:=λ_ _ _ _ _ _ us h=>by
 obtain⟨x0,x1,x2,rfl⟩:=F4 h;rfl
theorem gP:BD "_law_laying_rule" (aj 36) aF:=λ_ _ _ _ _ _ us h=>by
 obtain⟨x0,rfl⟩:=vE h;rfl
theorem lH:BD "_law_rising" (aj 37) bg:=λ_ _ _ _ _ _ us h=>by
 obtain⟨x0,rfl⟩:=vE h;rfl
theorem iU:BD "_law_free_rule" (aj 38) aL:=λ_ _ _ _ _ _ us h=>by
 obtain⟨x0,rfl⟩:=vE h;rfl
theorem gp:BD "_law_one_way_rule" (aj 39) aC:=λ_ _ _ _ _ _ us h=>by
 obtain⟨x0,rfl⟩:=vE h;rfl
theorem fQ:BD "_law_unlaying_rule" (aj 40) aA:=λ_ _ _ _ _ _ us h=>by
 obtain⟨x0,rfl⟩:=vE h;rfl
theorem jJ:BD "_law_new_ways" (aj 41) aU:=λ_ _ _ _ _ _ us h=>by
 obtain⟨x0,x1,x2,x3,x4,x5,rfl⟩:=HD h;rfl
theorem mq:BD "_law_world" (aj 42) bz:=λ_ _ _ _ _ _ us h=>by
 obtain⟨x0,x1,x2,x3,rfl⟩:=vI h;rfl
theorem mr:BD "_law_alike" (aj 43) bA:=λ_ _ _ _ _ _ us h=>by
 obtain⟨x0,x1,rfl⟩:=Br h;rfl
theorem iV:BD "_law_some_rule" (aj 44) aM:=λ_ _ _ _ _ _ us h=>by
 obtain⟨x0,rfl⟩:=vE h;rfl
theorem iW:BD "_law_new_point" (aj 45) aN:=λ_ _ _ _ _ _ us h=>by
 obtain⟨x0,x1,x2,x3,rfl⟩:=vI h;rfl
theorem pe:BD "_law_near" (aj 46) bM:=λ_ _ _ _ _ _ us h=>by
 obtain⟨x0,x1,x2,x3,x4,rfl⟩:=FQ h;rfl
theorem pf:BD "_law_pair" (aj 47) bN:=λ_ _ _ _ _ _ us h=>by
 obtain⟨x0,x1,x2,x3,rfl⟩:=vI h;rfl
theorem ph:BD "_law_both" (aj 48) bO:=λ_ _ _ _ _ _ us h=>by
 obtain⟨x0,x1,x2,x3,x4,rfl⟩:=FQ h;rfl
theorem pi:BD "_law_bars" (aj 49) bP:=λ_ _ _ _ _ _ us h=>by
 obtain⟨x0,x1,x2,x3,rfl⟩:=vI h;rfl
theorem DQ:BD "law" (aj 50) g7:=λ_ _ _ _ _ _ us h=>by
 obtain⟨x0,rfl⟩:=vE h;rfl
section
variable{P:IC}{w:IP}{K:HW}{mg:Ik->HL HH}{base:IZ}
noncomputable def ap (K:HW)(mg:Ik->HL HH)(x:Ik)(st:Ks)(df:Df):Prop:=∃(f:HR) (fd:Kd),Fun K x x st f fd/\mg x=gV (.ref f)/\Jz K (.ref f)=true/\Binds K fd df.ps []
theorem yS {h:IZ}{x:Ik}{st:Ks}{df:Df}{f:HR}{oc:HH}{od an:HL HR}{osl:IY (HL HH)}{kV doc pm cdv ct:HH}(X:K.In h)(G:h.Ns mainGlobals mg)
  (b:BD x st df)
  (a:Jy K mainGlobals x=gV (gV (.ref f))) (l:K.lookup f=gV #[oc,od,.func (JY x x (dS st) (c9 st) (ag st) .none kV doc pm an cdv ct),osl]) (c:KR K cdv x=true) (k:Jz K (.ref f)=true):ap K mg x st df:=
 have F:=wg (st:=st) l c k
 #[f,_,F,O4 X G a,k,F.binds b]
theorem yT {fuel:HM}(hb:MdOk w K mg dP)(D:∀x n,Bm.lookup x=gV n->∃st df,jW.lookup x=gV df/\df.ps.length=n/\FnScope df.N df.ps (ag st)/\bR dP st df/\ap K mg x st df):∀d,BH P w K mg base dP jW fuel d
 | 0=>λf n h=>by
  obtain⟨st,df,h1,h2,h3,h4,fa,fd,F,m,kp,b⟩:=D f n h;refine#[fa,fd,df.ps,#[λvs H Q E z=>?_,λA outer s H args us vs Q E hr he hbd hv z=>?_],m,kp,b]
  all_goals
   obtain⟨_,_,_,_,_,_,_,_,z,_⟩:=z;cases z
 | d+1=>λf n h=>by
  obtain⟨st,df,h1,h2,h3,h4,fa,fd,F,m,kp,b⟩:=D f n h;refine#[fa,fd,df.ps,?_,m,kp,b];rw[<- h2];exact BI F h3 h1 h4 hb (yT hb D d)
theorem FR (D1:ap K mg "way" (aj 1) g6)(D3:ap K mg "part" (aj 3) eU)(D4:ap K mg "point_over" (aj 4) br)(D5:ap K mg "longer_orders" (aj 5) aP)(D7:ap K mg "back" (aj 7) eV)(D9:ap K mg "barred_threes" (aj 9) aQ)(D10:ap K mg "three_at" (aj 10) bY)(D11:ap K mg "first_bar" (aj 11) bG)(D13:ap K mg "fillings" (aj 13) bZ)(D14:ap K mg "barred_by" (aj 14) bH)(D15:ap K mg "all_bars" (aj 15) b6)(D16:ap K mg "with_both" (aj 16) bI)(D17:ap K mg "same_bar" (aj 17) b7)(D19:ap K mg "_law_flow" (aj 19) bJ)(D20:ap K mg "_law_pick" (aj 20) bK)(D21:ap K mg "_law_names" (aj 21) bu)(D22:ap K mg "_law_between" (aj 22) aY)(D23:ap K mg "_law_part" (aj 23) bL)(D24:ap K mg "_law_turns" (aj 24) bv)(D25:ap K mg "_law_figure" (aj 25) be)(D26:ap K mg "_law_bad" (aj 26) b8)(D27:ap K mg "_law_last_may" (aj 27) aR)(D28:ap K mg "_law_backs" (aj 28) bw)(D29:ap K mg "_law_rule_of" (aj 29) aZ)(D30:ap K mg "_law_free_three" (aj 30) aJ)(D31:ap K mg "_law_sizes" (aj 31) bx)(D32:ap K mg "_law_any_rule" (aj 32) aS)(D33:ap K mg "_law_laying_kind" (aj 33) aE)(D34:ap K mg "_law_breaks" (aj 34) bf)(D35:ap K mg "_law_numbered" (aj 35) aT)(D36:ap K mg "_law_laying_rule" (aj 36) aF)(D37:ap K mg "_law_rising" (aj 37) bg)(D38:ap K mg "_law_free_rule" (aj 38) aL)(D39:ap K mg "_law_one_way_rule" (aj 39) aC)(D40:ap K mg "_law_unlaying_rule" (aj 40) aA)(D41:ap K mg "_law_new_ways" (aj 41) aU)(D42:ap K mg "_law_world" (aj 42) bz)(D43:ap K mg "_law_alike" (aj 43) bA)(D44:ap K mg "_law_some_rule" (aj 44) aM)(D45:ap K mg "_law_new_point" (aj 45) aN)(D46:ap K mg "_law_near" (aj 46) bM)(D47:ap K mg "_law_pair" (aj 47) bN)(D48:ap K mg "_law_both" (aj 48) bO)(D49:ap K mg "_law_bars" (aj 49) bP)(D50:ap K mg "law" (aj 50) g7):∀x n,Bm.lookup x=gV n->∃st df,jW.lookup x=gV df/\df.ps.length=n/\FnScope df.N df.ps (ag st)/\bR dP st df/\ap K mg x st df:=by
 intro x n h;unfold Bm at h;rcases am h with⟨rfl,rfl⟩|h
 ·exact#[aj 1,g6,by rfl,rfl,DO,DN,D1]
 rcases am h with⟨rfl,rfl⟩|h
 ·exact#[aj 3,eU,by rfl,rfl,Bo,Bn,D3]
 rcases am h with⟨rfl,rfl⟩|h
 ·exact#[aj 4,br,by rfl,rfl,lT,lS,D4]
 rcases am h with⟨rfl,rfl⟩|h
 ·exact#[aj 5,aP,by rfl,rfl,jt,js,D5]
 rcases am h with⟨rfl,rfl⟩|h
 ·exact#[aj 7,eV,by rfl,rfl,Bq,Bp,D7]
 rcases am h with⟨rfl,rfl⟩|h
 ·exact#[aj 9,aQ,by rfl,rfl,jv,ju,D9]
 rcases am h with⟨rfl,rfl⟩|h
 ·exact#[aj 10,bY,by rfl,rfl,qK,qJ,D10]
 rcases am h with⟨rfl,rfl⟩|h
 ·exact#[aj 11,bG,by rfl,rfl,oI,oH,D11]
 rcases am h with⟨rfl,rfl⟩|h
 ·exact#[aj 13,bZ,by rfl,rfl,qM,qL,D13]
 rcases am h with⟨rfl,rfl⟩|h
 ·exact#[aj 14,bH,by rfl,rfl,oK,oJ,D14]
 rcases am h with⟨rfl,rfl⟩|h
 ·exact#[aj 15,b6,by rfl,rfl,qO,qN,D15]
 rcases am h with⟨rfl,rfl⟩|h
 ·exact#[aj 16,bI,by rfl,rfl,oN,oM,D16]
 rcases am h with⟨rfl,rfl⟩|h
 ·exact#[aj 17,b7,by rfl,rfl,qQ,qP,D17]
 rcases am h with⟨rfl,rfl⟩|h
 ·exact#[aj 19,bJ,by rfl,rfl,oP,oO,D19]
 rcases am h with⟨rfl,rfl⟩|h
 ·exact#[aj 20,bK,by rfl,rfl,oR,oQ,D20]
 rcases am h with⟨rfl,rfl⟩|h
 ·exact#[aj 21,bu,by rfl,rfl,lV,lU,D21]
 rcases am h with⟨rfl,rfl⟩|h
 ·exact#[aj 22,aY,by rfl,rfl,j5,j4,D22]
 rcases am h with⟨rfl,rfl⟩|h
 ·exact#[aj 23,bL,by rfl,rfl,oT,oS,D23]
 rcases am h with⟨rfl,rfl⟩|h
 ·exact#[aj 24,bv,by rfl,rfl,lX,lW,D24]
 rcases am h with⟨rfl,rfl⟩|h
 ·exact#[aj 25,be,by rfl,rfl,lA,lz,D25]
 rcases am h with⟨rfl,rfl⟩|h
 ·exact#[aj 26,b8,by rfl,rfl,qS,qR,D26]
 rcases am h with⟨rfl,rfl⟩|h
 ·exact#[aj 27,aR,by rfl,rfl,jx,jw,D27]
 rcases am h with⟨rfl,rfl⟩|h
 ·exact#[aj 28,bw,by rfl,rfl,lZ,lY,D28]
 rcases am h with⟨rfl,rfl⟩|h
 ·exact#[aj 29,aZ,by rfl,rfl,j7,j6,D29]
 rcases am h with⟨rfl,rfl⟩|h
 ·exact#[aj 30,aJ,by rfl,rfl,ii,ig,D30]
 rcases am h with⟨rfl,rfl⟩|h
 ·exact#[aj 31,bx,by rfl,rfl,l5,l4,D31]
 rcases am h with⟨rfl,rfl⟩|h
 ·exact#[aj 32,aS,by rfl,rfl,jz,jy,D32]
 rcases am h with⟨rfl,rfl⟩|h
 ·exact#[aj 33,aE,by rfl,rfl,gL,gK,D33]
 rcases am h with⟨rfl,rfl⟩|h
 ·exact#[aj 34,bf,by rfl,rfl,lC,lB,D34]
 rcases am h with⟨rfl,rfl⟩|h
 ·exact#[aj 35,aT,by rfl,rfl,jB,jA,D35]
 rcases am h with⟨rfl,rfl⟩|h
 ·exact#[aj 36,aF,by rfl,rfl,gN,gM,D36]
 rcases am h with⟨rfl,rfl⟩|h
 ·exact#[aj 37,bg,by rfl,rfl,lE,lD,D37]
 rcases am h with⟨rfl,rfl⟩|h
 ·exact#[aj 38,aL,by rfl,rfl,iP,iO,D38]
 rcases am h with⟨rfl,rfl⟩|h
 ·exact#[aj 39,aC,by rfl,rfl,gn,gm,D39]
 rcases am h with⟨rfl,rfl⟩|h
 ·exact#[aj 40,aA,by rfl,rfl,fP,fO,D40]
 rcases am h with⟨rfl,rfl⟩|h
 ·exact#[aj 41,aU,by rfl,rfl,jD,jC,D41]
 rcases am h with⟨rfl,rfl⟩|h
 ·exact#[aj 42,bz,by rfl,rfl,l8,l7,D42]
 rcases am h with⟨rfl,rfl⟩|h
 ·exact#[aj 43,bA,by rfl,rfl,ma,l9,D43]
 rcases am h with⟨rfl,rfl⟩|h
 ·exact#[aj 44,aM,by rfl,rfl,iR,iQ,D44]
 rcases am h with⟨rfl,rfl⟩|h
 ·exact#[aj 45,aN,by rfl,rfl,iT,iS,D45]
 rcases am h with⟨rfl,rfl⟩|h
 ·exact#[aj 46,bM,by rfl,rfl,oV,oU,D46]
 rcases am h with⟨rfl,rfl⟩|h
 ·exact#[aj 47,bN,by rfl,rfl,oX,oW,D47]
 rcases am h with⟨rfl,rfl⟩|h
 ·exact#[aj 48,bO,by rfl,rfl,oZ,oY,D48]
 rcases am h with⟨rfl,rfl⟩|h
 ·exact#[aj 49,bP,by rfl,rfl,o5,o4,D49]
 rcases am h with⟨rfl,rfl⟩|h
 ·exact#[aj 50,g7,by rfl,rfl,yR,yQ,D50]
 cases h
theorem FU {h:IZ}(X:K.In h)(G:h.Ns mainGlobals mg)(z0:Jy K mainGlobals "range" = gV td)(z1:Jy K mainGlobals "len" = gV td)(z2:Jy K mainGlobals "list" = gV td)(z3:Jy K mainGlobals "tuple" = gV td)(z4:Jy K mainGlobals "int" = gV td)(z5:Jy K mainGlobals "sorted" = gV td)(z6:Jy K mainGlobals "isinstance" = gV td)(z7:Jy K mainGlobals "bool" = gV td)(z8:Jy K mainGlobals "str" = gV td)(z9:Jy K mainGlobals "all" = gV td)(z10:Jy K mainGlobals "min" = gV td)(z11:Jy K mainGlobals "enumerate" = gV td):MdOk w K mg dP:=by
 refine#[?_];show ∀y∈DM,mg y=td;intro y hy;unfold DM at hy;simp only[Iz,Jl,KC]at hy;rcases hy with rfl|rfl|rfl|rfl|rfl|rfl|rfl|rfl|rfl|rfl|rfl|rfl
 ·exact Jo X G z0
 ·exact Jo X G z1
 ·exact Jo X G z2
 ·exact Jo X G z3
 ·exact Jo X G z4
 ·exact Jo X G z5
 ·exact Jo X G z6
 ·exact Jo X G z7
 ·exact Jo X G z8
 ·exact Jo X G z9
 ·exact Jo X G z10
 ·exact Jo X G z11
end
theorem DR {l:Mz}{w:IP}{K:HW}{h:IZ}{mg:Ik->HL HH}{fa f:HR}(X:K.In h)(G:h.Ns mainGlobals mg)(hfa:mg "law" = gV (.ref fa))(hb:MdOk w K mg dP)
  (D1:ap K mg "way" (aj 1) g6) (D3:ap K mg "part" (aj 3) eU) (D4:ap K mg "point_over" (aj 4) br) (D5:ap K mg "longer_orders" (aj 5) aP) (D7:ap K mg "back" (aj 7) eV) (D9:ap K mg "barred_threes" (aj 9) aQ) (D10:ap K mg "three_at" (aj 10) bY) (D11:ap K mg "first_bar" (aj 11) bG) (D13:ap K mg "fillings" (aj 13) bZ) (D14:ap K mg "barred_by" (aj 14) bH) (D15:ap K mg "all_bars" (aj 15) b6) (D16:ap K mg "with_both" (aj 16) bI) (D17:ap K mg "same_bar" (aj 17) b7) (D19:ap K mg "_law_flow" (aj 19) bJ) (D20:ap K mg "_law_pick" (aj 20) bK) (D21:ap K mg "_law_names" (aj 21) bu) (D22:ap K mg "_law_between" (aj 22) aY) (D23:ap K mg "_law_part" (aj 23) bL) (D24:ap K mg "_law_turns" (aj 24) bv) (D25:ap K mg "_law_figure" (aj 25) be) (D26:ap K mg "_law_bad" (aj 26) b8) (D27:ap K mg "_law_last_may" (aj 27) aR) (D28:ap K mg "_law_backs" (aj 28) bw) (D29:ap K mg "_law_rule_of" (aj 29) aZ) (D30:ap K mg "_law_free_three" (aj 30) aJ) (D31:ap K mg "_law_sizes" (aj 31) bx) (D32:ap K mg "_law_any_rule" (aj 32) aS) (D33:ap K mg "_law_laying_kind" (aj 33) aE) (D34:ap K mg "_law_breaks" (aj 34) bf) (D35:ap K mg "_law_numbered" (aj 35) aT) (D36:ap K mg "_law_laying_rule" (aj 36) aF) (D37:ap K mg "_law_rising" (aj 37) bg) (D38:ap K mg "_law_free_rule" (aj 38) aL) (D39:ap K mg "_law_one_way_rule" (aj 39) aC) (D40:ap K mg "_law_unlaying_rule" (aj 40) aA) (D41:ap K mg "_law_new_ways" (aj 41) aU) (D42:ap K mg "_law_world" (aj 42) bz) (D43:ap K mg "_law_alike" (aj 43) bA) (D44:ap K mg "_law_some_rule" (aj 44) aM) (D45:ap K mg "_law_new_point" (aj 45) aN) (D46:ap K mg "_law_near" (aj 46) bM) (D47:ap K mg "_law_pair" (aj 47) bN) (D48:ap K mg "_law_both" (aj 48) bO) (D49:ap K mg "_law_bars" (aj 49) bP)
  {oc:HH} {od an:HL HR} {osl:IY (HL HH)} {kV doc pm cdv ct:HH} (a:Jy K mainGlobals "law" = gV (gV (.ref f))) (l':K.lookup f=gV #[oc,od,.func (JY "law" "law" (dS (aj 50)) (c9 (aj 50)) (ag (aj 50)) .none kV doc pm an cdv ct),osl]) (c:KR K cdv "law" = true) (k:Jz K (.ref f)=true) :
  ∃fd:Kd,(∀(s:HK) (v:HH),NE s fd #[[v],[]] [("_law_script",v)])/\∀base:IZ,K.In base->base.Ns mainGlobals mg->FnOk l.prog w K mg base vF 9 fa fd ["_law_script"] (xj w K 1 (ay jW 100 9 "law")):=by
 have e:=hfa.symm.trans (O4 X G a);cases e;have D50:ap K mg "law" (aj 50) g7:=yS X G DQ a l' c k;have F:=wg (st:=aj 50) l' c k;exact#[JY "law" "law" (dS (aj 50)) (c9 (aj 50)) (ag (aj 50)) .none kV doc pm an cdv ct,λs v=>.of_eq rfl,λbase _ _=>BI (df:=g7) F yR (by rfl) yQ hb (yT hb (FR D1 D3 D4 D5 D7 D9 D10 D11 D13 D14 D15 D16 D17 D19 D20 D21 D22 D23 D24 D25 D26 D27 D28 D29 D30 D31 D32 D33 D34 D35 D36 D37 D38 D39 D40 D41 D42 D43 D44 D45 D46 D47 D48 D49 D50) 8)]
theorem Hi {l:Mz}{q:IC}{loose:HF Ik}{XP:(Ik->HL HH)->IZ->Prop}{YP:IP->IZ->Prop}{d:DefRec}{K:OB->HW}(hn:l.most=gV 63)(hdf:d.params.defaults=[])
  (hY:∀(w:IP) (h:IZ),YP w h->(K w.params).In h)
  (F:∀(w:IP) (mg:Ik->HL HH) (fa:HR) (h:IZ),(K w.params).In h->h.Ns mainGlobals mg->mg d.name=gV (.ref fa)->
   ∃fd:Kd,(∀(s:HK) (u:HH),NE s fd #[[u],[]] [("_law_script",u)])/\∀base:IZ,(K w.params).In base->base.Ns mainGlobals mg->FnOk l.prog w (K w.params) mg base vF 9 fa fd ["_law_script"] (xj w (K w.params) 1 (ay jW 100 9 "law"))) :
  OX q loose XP YP l.row.toRowW d [] (λf vs=>OC f vs):=
 L2.zB (n:=63) (k:=9) (x:="_law_script") (CX:=λ_=>vF) (sp:=λw=>xj w (K w.params) 1 (ay jW 100 9 "law")) hn #v[] hdf #[rfl,#v[],#v[]] hY F
  (λw H a ns hl hO hS=>De (yP (defs:=jW) (fuel:=100) (d:=0) #v[] FP) hO hS) λ_ _ _ _ _ z=>z
end Mi
open PySem PySem.W PyProof.Rows L2
set_option maxHeartbeats 0
namespace Mi
section
noncomputable def pw:IC:=MH
noncomputable def ge (P:OB)(n:Ik)(t:HM)(v:HH):J3:=#[PyData.keyHash P n,.str n t,v]
noncomputable def kd (a:HM)(es:HF J3)(n:HM):HR×JE:=(a,#[.type "dict",td,.dict es.toArray n,#[]])
noncomputable def kt (a:HM)(c:HH)(vs:HF HH)(n:HM):HR×JE:=(a,#[c,td,.seq vs.toArray n,#[]])
noncomputable def kc (a:HM)(vs:HF HH):HR×JE:=(a,#[.type "code",td,.fields vs.toArray,#[]])
noncomputable def kf (a:HM)(st:Ks)(n:Ik)(pm cd:HH):HR×JE:=(a,#[.type "function",td,.func (JY n n (dS st) (c9 st) (ag st) .none .none .none pm td cd .none),#[]])
noncomputable def K0 (P:OB):HW:=[kd 3 [ge P "__name__" 165 (.str "law_layworld_k24_what_bars" 305),ge P "__doc__" 166 .none,ge P "__package__" 167 .none,ge P "__loader__" 168 (.builtin "__main__.__loader__#opaque"),ge P "__spec__" 169 .none,ge P "__annotations__" 170 (.ref 6),ge P "__builtins__" 171 (.ref 4),ge P "__file__" 173 (.str "/claim/cut.py" 172),ge P "__cached__" 174 .none,ge P "way" 198 (.ref 21),ge P "part" 206 (.ref 26),ge P "point_over" 212 (.ref 31),ge P "longer_orders" 218 (.ref 36),ge P "back" 228 (.ref 43),ge P "barred_threes" 241 (.ref 50),ge P "three_at" 253 (.ref 57),ge P "first_bar" 263 (.ref 64),ge P "fillings" 271 (.ref 69),ge P "barred_by" 281 (.ref 76),ge P "all_bars" 287 (.ref 81),ge P "with_both" 298 (.ref 88),ge P "same_bar" 304 (.ref 93),ge P "_law_flow" 313 (.ref 100),ge P "_law_pick" 323 (.ref 107),ge P "_law_names" 329 (.ref 112),ge P "_law_between" 339 (.ref 119),ge P "_law_part" 345 (.ref 124),ge P "_law_turns" 351 (.ref 131),ge P "_law_figure" 357 (.ref 136),ge P "_law_bad" 367 (.ref 143),ge P "_law_last_may" 381 (.ref 150),ge P "_law_backs" 390 (.ref 157),ge P "_law_rule_of" 396 (.ref 162),ge P "_law_free_three" 402 (.ref 167),ge P "_law_sizes" 410 (.ref 174),ge P "_law_any_rule" 422 (.ref 181),ge P "_law_laying_kind" 430 (.ref 188),ge P "_law_breaks" 446 (.ref 195),ge P "_law_numbered" 452 (.ref 200),ge P "_law_laying_rule" 473 (.ref 207),ge P "_law_rising" 479 (.ref 212),ge P "_law_free_rule" 485 (.ref 217),ge P "_law_one_way_rule" 491 (.ref 222),ge P "_law_unlaying_rule" 497 (.ref 227),ge P "_law_new_ways" 514 (.ref 234),ge P "_law_world" 528 (.ref 241),ge P "_law_alike" 534 (.ref 246),ge P "_law_some_rule" 542 (.ref 253),ge P "_law_new_point" 556 (.ref 260),ge P "_law_near" 571 (.ref 267),ge P "_law_pair" 584 (.ref 274),ge P "_law_both" 595 (.ref 281),ge P "_law_bars" 601 (.ref 286),ge P "law" 607 (.ref 291)] 54,
 kc 20 [(.str "way" 189),(.str "way" 190),(.str "/claim/cut.py" 191),(.int 2 0),(.int 4 0),(.int 0 0),(.int 0 0),(.int 3 0),(.ref 15),(.bool true),(.int 181 0),(.ref 16),.none,(.ref 17),(.ref 18),(.ref 19),(.int 196 0),(.int 2 0),(.str "/claim/cut.py" 197)],
 kf 21 (aj 1) "way" (.str "layworld.worlds" 187) (.ref 20),
 kc 25 [(.str "part" 201),(.str "part" 202),(.str "/claim/cut.py" 203),(.int 7 0),(.int 3 0),(.int 0 0),(.int 0 0),(.int 3 0),(.ref 22),(.bool true),(.int 181 0),(.ref 23),.none,.none,.none,(.ref 24),(.int 204 0),(.int 7 0),(.str "/claim/cut.py" 205)],
 kf 26 (aj 3) "part" (.str "layworld.parts" 199) (.ref 25),
 kc 30 [(.str "point_over" 207),(.str "point_over" 208),(.str "/claim/cut.py" 209),(.int 9 0),(.int 4 0),(.int 0 0),(.int 0 0),(.int 3 0),(.ref 27),(.bool true),(.int 181 0),(.ref 28),.none,.none,.none,(.ref 29),(.int 210 0),(.int 9 0),(.str "/claim/cut.py" 211)],
 kf 31 (aj 4) "point_over" (.str "layworld.parts" 199) (.ref 30),
 kc 35 [(.str "longer_orders" 213),(.str "longer_orders" 214),(.str "/claim/cut.py" 215),(.int 11 0),(.int 2 0),(.int 0 0),(.int 0 0),(.int 3 0),(.ref 32),(.bool true),(.int 181 0),(.ref 33),.none,.none,.none,(.ref 34),(.int 216 0),(.int 11 0),(.str "/claim/cut.py" 217)],
 kf 36 (aj 5) "longer_orders" (.str "layworld.parts" 199) (.ref 35),
 kc 42 [(.str "back" 221),(.str "back" 222),(.str "/claim/cut.py" 223),(.int 17 0),(.int 2 0),(.int 0 0),(.int 0 0),(.int 3 0),(.ref 37),(.bool true),(.int 181 0),(.ref 38),.none,(.ref 39),(.ref 40),(.ref 41),(.int 226 0),(.int 17 0),(.str "/claim/cut.py" 227)],
 kf 43 (aj 7) "back" (.str "layworld.rules" 219) (.ref 42),
 kc 49 [(.str "barred_threes" 231),(.str "barred_threes" 232),(.str "/claim/cut.py" 233),(.int 20 0),(.int 1 0),(.int 0 0),(.int 0 0),(.int 3 0),(.ref 44),(.bool true),(.int 181 0),(.ref 45),.none,(.ref 46),(.ref 47),(.ref 48),(.int 239 0),(.int 20 0),(.str "/claim/cut.py" 240)],
 kf 50 (aj 9) "barred_threes" (.str "layworld.threes" 229) (.ref 49),
 kc 56 [(.str "three_at" 242),(.str "three_at" 243),(.str "/claim/cut.py" 244),(.int 29 0),(.int 4 0),(.int 0 0),(.int 0 0),(.int 3 0),(.ref 51),(.bool true),(.int 181 0),(.ref 52),.none,(.ref 53),(.ref 54),(.ref 55),(.int 251 0),(.int 29 0),(.str "/claim/cut.py" 252)],
 kf 57 (aj 10) "three_at" (.str "layworld.threes" 229) (.ref 56),
 kc 63 [(.str "first_bar" 254),(.str "first_bar" 255),(.str "/claim/cut.py" 256),(.int 33 0),(.int 2 0),(.int 0 0),(.int 0 0),(.int 3 0),(.ref 58),(.bool true),(.int 181 0),(.ref 59),.none,(.ref 60),(.ref 61),(.ref 62),(.int 261 0),(.int 33 0),(.str "/claim/cut.py" 262)],
 kf 64 (aj 11) "first_bar" (.str "layworld.threes" 229) (.ref 63),
 kc 68 [(.str "fillings" 266),(.str "fillings" 267),(.str "/claim/cut.py" 268),(.int 40 0),(.int 4 0),(.int 0 0),(.int 0 0),(.int 3 0),(.ref 65),(.bool true),(.int 181 0),(.ref 66),.none,.none,.none,(.ref 67),(.int 269 0),(.int 40 0),(.str "/claim/cut.py" 270)],
 kf 69 (aj 13) "fillings" (.str "layworld.fillings" 264) (.ref 68),
 kc 75 [(.str "barred_by" 272),(.str "barred_by" 273),(.str "/claim/cut.py" 274),(.int 46 0),(.int 4 0),(.int 0 0),(.int 0 0),(.int 3 0),(.ref 70),(.bool true),(.int 181 0),(.ref 71),.none,(.ref 72),(.ref 73),(.ref 74),(.int 279 0),(.int 46 0),(.str "/claim/cut.py" 280)],
 kf 76 (aj 14) "barred_by" (.str "layworld.fillings" 264) (.ref 75),
 kc 80 [(.str "all_bars" 282),(.str "all_bars" 283),(.str "/claim/cut.py" 284),(.int 48 0),(.int 5 0),(.int 0 0),(.int 0 0),(.int 3 0),(.ref 77),(.bool true),(.int 181 0),(.ref 78),.none,.none,.none,(.ref 79),(.int 285 0),(.int 48 0),(.str "/claim/cut.py" 286)],
 kf 81 (aj 15) "all_bars" (.str "layworld.fillings" 264) (.ref 80),
 kc 87 [(.str "with_both" 288),(.str "with_both" 289),(.str "/claim/cut.py" 290),(.int 51 0),(.int 5 0),(.int 0 0),(.int 0 0),(.int 3 0),(.ref 82),(.bool true),(.int 181 0),(.ref 83),.none,(.ref 84),(.ref 85),(.ref 86),(.int 296 0),(.int 51 0),(.str "/claim/cut.py" 297)],
 kf 88 (aj 16) "with_both" (.str "layworld.fillings" 264) (.ref 87),
 kc 92 [(.str "same_bar" 299),(.str "same_bar" 300),(.str "/claim/cut.py" 301),(.int 53 0),(.int 2 0),(.int 0 0),(.int 0 0),(.int 3 0),(.ref 89),(.bool true),(.int 181 0),(.ref 90),.none,.none,.none,(.ref 91),(.int 302 0),(.int 53 0),(.str "/claim/cut.py" 303)],
 kf 93 (aj 17) "same_bar" (.str "layworld.fillings" 264) (.ref 92),
 kc 99 [(.str "_law_flow" 307),(.str "_law_flow" 308),(.str "/claim/cut.py" 309),(.int 59 0),(.int 1 0),(.int 0 0),(.int 0 0),(.int 3 0),(.ref 94),(.bool true),(.int 181 0),(.ref 95),.none,(.ref 96),(.ref 97),(.ref 98),(.int 311 0),(.int 59 0),(.str "/claim/cut.py" 312)],
 kf 100 (aj 19) "_law_flow" (.str "law_layworld_k24_what_bars" 305) (.ref 99),
 kc 106 [(.str "_law_pick" 314),(.str "_law_pick" 315),(.str "/claim/cut.py" 316),(.int 61 0),(.int 2 0),(.int 0 0),(.int 0 0),(.int 3 0),(.ref 101),(.bool true),(.int 181 0),(.ref 102),.none,(.ref 103),(.ref 104),(.ref 105),(.int 321 0),(.int 61 0),(.str "/claim/cut.py" 322)],
 kf 107 (aj 20) "_law_pick" (.str "law_layworld_k24_what_bars" 305) (.ref 106),
 kc 111 [(.str "_law_names" 324),(.str "_law_names" 325),(.str "/claim/cut.py" 326),(.int 76 0),(.int 2 0),(.int 0 0),(.int 0 0),(.int 3 0),(.ref 108),(.bool true),(.int 181 0),(.ref 109),.none,.none,.none,(.ref 110),(.int 327 0),(.int 76 0),(.str "/claim/cut.py" 328)],
 kf 112 (aj 21) "_law_names" (.str "law_layworld_k24_what_bars" 305) (.ref 111),
 kc 118 [(.str "_law_between" 330),(.str "_law_between" 331),(.str "/claim/cut.py" 332),(.int 78 0),(.int 4 0),(.int 0 0),(.int 0 0),(.int 3 0),(.ref 113),(.bool true),(.int 181 0),(.ref 114),.none,(.ref 115),(.ref 116),(.ref 117),(.int 337 0),(.int 78 0),(.str "/claim/cut.py" 338)],
 kf 119 (aj 22) "_law_between" (.str "law_layworld_k24_what_bars" 305) (.ref 118),
 kc 123 [(.str "_law_part" 340),(.str "_law_part" 341),(.str "/claim/cut.py" 342),(.int 82 0),(.int 3 0),(.int 0 0),(.int 0 0),(.int 3 0),(.ref 120),(.bool true),(.int 181 0),(.ref 121),.none,.none,.none,(.ref 122),(.int 343 0),(.int 82 0),(.str "/claim/cut.py" 344)],
 kf 124 (aj 23) "_law_part" (.str "law_layworld_k24_what_bars" 305) (.ref 123),
 kc 130 [(.str "_law_turns" 346),(.str "_law_turns" 347),(.str "/claim/cut.py" 348),(.int 88 0),(.int 0 0),(.int 0 0),(.int 0 0),(.int 3 0),(.ref 125),(.bool true),(.int 181 0),(.ref 126),.none,(.ref 127),(.ref 128),(.ref 129),(.int 349 0),(.int 88 0),(.str "/claim/cut.py" 350)],
 kf 131 (aj 24) "_law_turns" (.str "law_layworld_k24_what_bars" 305) (.ref 130),
 kc 135 [(.str "_law_figure" 352),(.str "_law_figure" 353),(.str "/claim/cut.py" 354),(.int 90 0),(.int 2 0),(.int 0 0),(.int 0 0),(.int 3 0),(.ref 132),(.bool true),(.int 181 0),(.ref 133),.none,.none,.none,(.ref 134),(.int 355 0),(.int 90 0),(.str "/claim/cut.py" 356)],
 kf 136 (aj 25) "_law_figure" (.str "law_layworld_k24_what_bars" 305) (.ref 135),
 kc 142 [(.str "_law_bad" 358),(.str "_law_bad" 359),(.str "/claim/cut.py" 360),(.int 92 0),(.int 1 0),(.int 0 0),(.int 0 0),(.int 3 0),(.ref 137),(.bool true),(.int 181 0),(.ref 138),.none,(.ref 139),(.ref 140),(.ref 141),(.int 365 0),(.int 92 0),(.str "/claim/cut.py" 366)],
 kf 143 (aj 26) "_law_bad" (.str "law_layworld_k24_what_bars" 305) (.ref 142),
 kc 149 [(.str "_law_last_may" 368),(.str "_law_last_may" 369),(.str "/claim/cut.py" 370),(.int 98 0),(.int 4 0),(.int 0 0),(.int 0 0),(.int 3 0),(.ref 144),(.bool true),(.int 181 0),(.ref 145),.none,(.ref 146),(.ref 147),(.ref 148),(.int 379 0),(.int 98 0),(.str "/claim/cut.py" 380)],
 kf 150 (aj 27) "_law_last_may" (.str "law_layworld_k24_what_bars" 305) (.ref 149),
 kc 156 [(.str "_law_backs" 382),(.str "_law_backs" 383),(.str "/claim/cut.py" 384),(.int 105 0),(.int 2 0),(.int 0 0),(.int 0 0),(.int 3 0),(.ref 151),(.bool true),(.int 181 0),(.ref 152),.none,(.ref 153),(.ref 154),(.ref 155),(.int 388 0),(.int 105 0),(.str "/claim/cut.py" 389)],
 kf 157 (aj 28) "_law_backs" (.str "law_layworld_k24_what_bars" 305) (.ref 156),
 kc 161 [(.str "_law_rule_of" 391),(.str "_law_rule_of" 392),(.str "/claim/cut.py" 393),(.int 108 0),(.int 4 0),(.int 0 0),(.int 0 0),(.int 3 0),(.ref 158),(.bool true),(.int 181 0),(.ref 159),.none,.none,.none,(.ref 160),(.int 394 0),(.int 108 0),(.str "/claim/cut.py" 395)],
 kf 162 (aj 29) "_law_rule_of" (.str "law_layworld_k24_what_bars" 305) (.ref 161),
 kc 166 [(.str "_law_free_three" 397),(.str "_law_free_three" 398),(.str "/claim/cut.py" 399),(.int 112 0),(.int 3 0),(.int 0 0),(.int 0 0),(.int 3 0),(.ref 163),(.bool true),(.int 181 0),(.ref 164),.none,.none,.none,(.ref 165),(.int 400 0),(.int 112 0),(.str "/claim/cut.py" 401)],
 kf 167 (aj 30) "_law_free_three" (.str "law_layworld_k24_what_bars" 305) (.ref 166),
 kc 173 [(.str "_law_sizes" 403),(.str "_law_sizes" 404),(.str "/claim/cut.py" 405),(.int 117 0),(.int 1 0),(.int 0 0),(.int 0 0),(.int 3 0),(.ref 168),(.bool true),(.int 181 0),(.ref 169),.none,(.ref 170),(.ref 171),(.ref 172),(.int 408 0),(.int 117 0),(.str "/claim/cut.py" 409)],
 kf 174 (aj 31) "_law_sizes" (.str "law_layworld_k24_what_bars" 305) (.ref 173),
 kc 180 [(.str "_law_any_rule" 411),(.str "_law_any_rule" 412),(.str "/claim/cut.py" 413),(.int 120 0),(.int 1 0),(.int 0 0),(.int 0 0),(.int 3 0),(.ref 175),(.bool true),(.int 181 0),(.ref 176),.none,(.ref 177),(.ref 178),(.ref 179),(.int 420 0),(.int 120 0),(.str "/claim/cut.py" 421)],
 kf 181 (aj 32) "_law_any_rule" (.str "law_layworld_k24_what_bars" 305) (.ref 180),
 kc 187 [(.str "_law_laying_kind" 423),(.str "_law_laying_kind" 424),(.str "/claim/cut.py" 425),(.int 127 0),(.int 1 0),(.int 0 0),(.int 0 0),(.int 3 0),(.ref 182),(.bool true),(.int 181 0),(.ref 183),.none,(.ref 184),(.ref 185),(.ref 186),(.int 428 0),(.int 127 0),(.str "/claim/cut.py" 429)],
 kf 188 (aj 33) "_law_laying_kind" (.str "law_layworld_k24_what_bars" 305) (.ref 187),
 kc 194 [(.str "_law_breaks" 431),(.str "_law_breaks" 432),(.str "/claim/cut.py" 433),(.int 136 0),(.int 5 0),(.int 0 0),(.int 0 0),(.int 3 0),(.ref 189),(.bool true),(.int 181 0),(.ref 190),.none,(.ref 191),(.ref 192),(.ref 193),(.int 444 0),(.int 136 0),(.str "/claim/cut.py" 445)],
 kf 195 (aj 34) "_law_breaks" (.str "law_layworld_k24_what_bars" 305) (.ref 194),
 kc 199 [(.str "_law_numbered" 447),(.str "_law_numbered" 448),(.str "/claim/cut.py" 449),(.int 144 0),(.int 3 0),(.int 0 0),(.int 0 0),(.int 3 0),(.ref 196),(.bool true),(.int 181 0),(.ref 197),.none,.none,.none,(.ref 198),(.int 450 0),(.int 144 0),(.str "/claim/cut.py" 451)],
 kf 200 (aj 35) "_law_numbered" (.str "law_layworld_k24_what_bars" 305) (.ref 199),
 kc 206 [(.str "_law_laying_rule" 453),(.str "_law_laying_rule" 454),(.str "/claim/cut.py" 455),(.int 159 0),(.int 1 0),(.int 0 0),(.int 0 0),(.int 3 0),(.ref 201),(.bool true),(.int 181 0),(.ref 202),.none,(.ref 203),(.ref 204),(.ref 205),(.int 471 0),(.int 159 0),(.str "/claim/cut.py" 472)],
 kf 207 (aj 36) "_law_laying_rule" (.str "law_layworld_k24_what_bars" 305) (.ref 206),
 kc 211 [(.str "_law_rising" 474),(.str "_law_rising" 475),(.str "/claim/cut.py" 476),(.int 179 0),(.int 1 0),(.int 0 0),(.int 0 0),(.int 3 0),(.ref 208),(.bool true),(.int 181 0),(.ref 209),.none,.none,.none,(.ref 210),(.int 477 0),(.int 179 0),(.str "/claim/cut.py" 478)],
 kf 212 (aj 37) "_law_rising" (.str "law_layworld_k24_what_bars" 305) (.ref 211),
 kc 216 [(.str "_law_free_rule" 480),(.str "_law_free_rule" 481),(.str "/claim/cut.py" 482),(.int 185 0),(.int 1 0),(.int 0 0),(.int 0 0),(.int 3 0),(.ref 213),(.bool true),(.int 181 0),(.ref 214),.none,.none,.none,(.ref 215),(.int 483 0),(.int 185 0),(.str "/claim/cut.py" 484)],
 kf 217 (aj 38) "_law_free_rule" (.str "law_layworld_k24_what_bars" 305) (.ref 216),
 kc 221 [(.str "_law_one_way_rule" 486),(.str "_law_one_way_rule" 487),(.str "/claim/cut.py" 488),(.int 198 0),(.int 1 0),(.int 0 0),(.int 0 0),(.int 3 0),(.ref 218),(.bool true),(.int 181 0),(.ref 219),.none,.none,.none,(.ref 220),(.int 489 0),(.int 198 0),(.str "/claim/cut.py" 490)],
 kf 222 (aj 39) "_law_one_way_rule" (.str "law_layworld_k24_what_bars" 305) (.ref 221),
 kc 226 [(.str "_law_unlaying_rule" 492),(.str "_law_unlaying_rule" 493),(.str "/claim/cut.py" 494),(.int 202 0),(.int 1 0),(.int 0 0),(.int 0 0),(.int 3 0),(.ref 223),(.bool true),(.int 181 0),(.ref 224),.none,.none,.none,(.ref 225),(.int 495 0),(.int 202 0),(.str "/claim/cut.py" 496)],
 kf 227 (aj 40) "_law_unlaying_rule" (.str "law_layworld_k24_what_bars" 305) (.ref 226),
 kc 233 [(.str "_law_new_ways" 498),(.str "_law_new_ways" 499),(.str "/claim/cut.py" 500),(.int 217 0),(.int 6 0),(.int 0 0),(.int 0 0),(.int 3 0),(.ref 228),(.bool true),(.int 181 0),(.ref 229),.none,(.ref 230),(.ref 231),(.ref 232),(.int 512 0),(.int 217 0),(.str "/claim/cut.py" 513)],
 kf 234 (aj 41) "_law_new_ways" (.str "law_layworld_k24_what_bars" 305) (.ref 233),
 kc 240 [(.str "_law_world" 515),(.str "_law_world" 516),(.str "/claim/cut.py" 517),(.int 230 0),(.int 4 0),(.int 0 0),(.int 0 0),(.int 3 0),(.ref 235),(.bool true),(.int 181 0),(.ref 236),.none,(.ref 237),(.ref 238),(.ref 239),(.int 526 0),(.int 230 0),(.str "/claim/cut.py" 527)],
 kf 241 (aj 42) "_law_world" (.str "law_layworld_k24_what_bars" 305) (.ref 240),
 kc 245 [(.str "_law_alike" 529),(.str "_law_alike" 530),(.str "/claim/cut.py" 531),(.int 238 0),(.int 2 0),(.int 0 0),(.int 0 0),(.int 3 0),(.ref 242),(.bool true),(.int 181 0),(.ref 243),.none,.none,.none,(.ref 244),(.int 532 0),(.int 238 0),(.str "/claim/cut.py" 533)],
 kf 246 (aj 43) "_law_alike" (.str "law_layworld_k24_what_bars" 305) (.ref 245),
 kc 252 [(.str "_law_some_rule" 535),(.str "_law_some_rule" 536),(.str "/claim/cut.py" 537),(.int 250 0),(.int 1 0),(.int 0 0),(.int 0 0),(.int 3 0),(.ref 247),(.bool true),(.int 181 0),(.ref 248),.none,(.ref 249),(.ref 250),(.ref 251),(.int 540 0),(.int 250 0),(.str "/claim/cut.py" 541)],
 kf 253 (aj 44) "_law_some_rule" (.str "law_layworld_k24_what_bars" 305) (.ref 252),
 kc 259 [(.str "_law_new_point" 543),(.str "_law_new_point" 544),(.str "/claim/cut.py" 545),(.int 257 0),(.int 4 0),(.int 0 0),(.int 0 0),(.int 3 0),(.ref 254),(.bool true),(.int 181 0),(.ref 255),.none,(.ref 256),(.ref 257),(.ref 258),(.int 554 0),(.int 257 0),(.str "/claim/cut.py" 555)],
 kf 260 (aj 45) "_law_new_point" (.str "law_layworld_k24_what_bars" 305) (.ref 259),
 kc 266 [(.str "_law_near" 557),(.str "_law_near" 558),(.str "/claim/cut.py" 559),(.int 265 0),(.int 5 0),(.int 0 0),(.int 0 0),(.int 3 0),(.ref 261),(.bool true),(.int 181 0),(.ref 262),.none,(.ref 263),(.ref 264),(.ref 265),(.int 569 0),(.int 265 0),(.str "/claim/cut.py" 570)],
 kf 267 (aj 46) "_law_near" (.str "law_layworld_k24_what_bars" 305) (.ref 266),
 kc 273 [(.str "_law_pair" 572),(.str "_law_pair" 573),(.str "/claim/cut.py" 574),(.int 276 0),(.int 4 0),(.int 0 0),(.int 0 0),(.int 3 0),(.ref 268),(.bool true),(.int 181 0),(.ref 269),.none,(.ref 270),(.ref 271),(.ref 272),(.int 582 0),(.int 276 0),(.str "/claim/cut.py" 583)],
 kf 274 (aj 47) "_law_pair" (.str "law_layworld_k24_what_bars" 305) (.ref 273),
 kc 280 [(.str "_law_both" 585),(.str "_law_both" 586),(.str "/claim/cut.py" 587),(.int 288 0),(.int 5 0),(.int 0 0),(.int 0 0),(.int 3 0),(.ref 275),(.bool true),(.int 181 0),(.ref 276),.none,(.ref 277),(.ref 278),(.ref 279),(.int 593 0),(.int 288 0),(.str "/claim/cut.py" 594)],
 kf 281 (aj 48) "_law_both" (.str "law_layworld_k24_what_bars" 305) (.ref 280),
 kc 285 [(.str "_law_bars" 596),(.str "_law_bars" 597),(.str "/claim/cut.py" 598),(.int 290 0),(.int 4 0),(.int 0 0),(.int 0 0),(.int 3 0),(.ref 282),(.bool true),(.int 181 0),(.ref 283),.none,.none,.none,(.ref 284),(.int 599 0),(.int 290 0),(.str "/claim/cut.py" 600)],
 kf 286 (aj 49) "_law_bars" (.str "law_layworld_k24_what_bars" 305) (.ref 285),
 kc 290 [(.str "law" 602),(.str "law" 603),(.str "/claim/cut.py" 604),(.int 301 0),(.int 1 0),(.int 0 0),(.int 0 0),(.int 3 0),(.ref 287),(.bool true),(.int 181 0),(.ref 288),.none,.none,.none,(.ref 289),(.int 605 0),(.int 301 0),(.str "/claim/cut.py" 606)],
 kf 291 (aj 50) "law" (.str "law_layworld_k24_what_bars" 305) (.ref 290)]
noncomputable def Hs:HF HM:=[3,20,21,25,26,30,31,35,36,42,43,49,50,56,57,63,64,68,69,75,76,80,81,87,88,92,93,99,100,106,107,111,112,118,119,123,124,130,131,135,136,142,143,149,150,156,157,161,162,166,167,173,174,180,181,187,188,194,195,199,200,206,207,211,212,216,217,221,222,226,227,233,234,240,241,245,246,252,253,259,260,266,267,273,274,280,281,285,286,290,291]
noncomputable def vq:IC:={ pw with main:={ pw.main with body:=[aj 50] } }
noncomputable def lo:HF Ik:=[("way" : Ik),("part" : Ik),("point_over" : Ik),("longer_orders" : Ik),("back" : Ik),("barred_threes" : Ik),("three_at" : Ik),("first_bar" : Ik),("fillings" : Ik),("barred_by" : Ik),("all_bars" : Ik),("with_both" : Ik),("same_bar" : Ik),("_law_flow" : Ik),("_law_pick" : Ik),("_law_names" : Ik),("_law_between" : Ik),("_law_part" : Ik),("_law_turns" : Ik),("_law_figure" : Ik),("_law_bad" : Ik),("_law_last_may" : Ik),("_law_backs" : Ik),("_law_rule_of" : Ik),("_law_free_three" : Ik),("_law_sizes" : Ik),("_law_any_rule" : Ik),("_law_laying_kind" : Ik),("_law_breaks" : Ik),("_law_numbered" : Ik),("_law_laying_rule" : Ik),("_law_rising" : Ik),("_law_free_rule" : Ik),("_law_one_way_rule" : Ik),("_law_unlaying_rule" : Ik),("_law_new_ways" : Ik),("_law_world" : Ik),("_law_alike" : Ik),("_law_some_rule" : Ik),("_law_new_point" : Ik),("_law_near" : Ik),("_law_pair" : Ik),("_law_both" : Ik),("_law_bars" : Ik)]
theorem aD {K:HW}{h:IZ}{mg:Ik->HL HH}{x:Ik}{st:Ks}{df:Df}(a:HM)(pm cd:HH)(X:K.In h)(G:h.Ns mainGlobals mg)
  (b:BD x st df)
  (e:Jy K mainGlobals x=gV (gV (.ref a))) (l:K.lookup a=gV (kf a st x pm cd).2) (c:KR K cd x=true) (k:Jz K (.ref a)=true):ap K mg x st df:=yS X G b e l c k
theorem eK:∀P,Hs=(K0 P).map (·.1):=λ_=>by kernel_rfl
noncomputable def hk:PySem.W.Hook:=PySem.W.kHook K0 Hs eK
theorem hl:PySem.W.LeftO pw vq lo (λs=>Pg vq [] s&&O5 [] s) hk.obs hk.val 2956:=λw=>by kernel_rfl
end
end Mi
end ZZ.Lean
open ZZ.Lean
theorem PySem.Challenge.cw_layworld_k24_what_bars_holds : PySem.Challenge.rw_layworld_k24_what_bars.Holds := by
 w_on
 refine PySem.W.holds_law (by kernel_rfl) (λsaid=>?_)
 refine PySem.W.holds_open (q:=Mi.vq) (loose:=Mi.lo) (Xt:=λs=>Pg Mi.vq [] s&&O5 [] s) (XP:=PySem.W.XL Mi.vq []) (Yf:=Mi.hk.obs) (Ya:=Mi.hk.val) (YP:=Mi.hk.says) (N:=2956) Mi.hl Mi.hk.of Mi.hk.keeps (λs e=>PySem.W.xl_of s (MY.mp e).1) PY (by rfl) (by rfl) (by rfl) (λs e=>PySem.W.recFacts_of (MY.mp e).2) (by rfl) said (by decide +kernel) #[rfl,rfl,rfl,rfl,rfl,by decide +kernel] ?hw ?hc
 case hw=>w_witness2
 case hc=>
 refine Mi.Hi (l:=MJ) (K:=Mi.K0) rfl rfl (λw h Y=>PySem.W.kIn_of Y) ?F
 case F=>
  intro w mg fa h KX G hmg;exact Mi.DR KX G hmg (Mi.FU KX G (by kernel_rfl) (by kernel_rfl) (by kernel_rfl) (by kernel_rfl) (by kernel_rfl) (by kernel_rfl) (by kernel_rfl) (by kernel_rfl) (by kernel_rfl) (by kernel_rfl) (by kernel_rfl) (by kernel_rfl))
   (Mi.aD 21 (.str "layworld.worlds" 187) (.ref 20) (x:="way") (st:=Mi.aj 1) (df:=Mi.g6) KX G Mi.DP (by kernel_rfl) (by kernel_rfl) (by kernel_rfl) (by kernel_rfl))
   (Mi.aD 26 (.str "layworld.parts" 199) (.ref 25) (x:="part") (st:=Mi.aj 3) (df:=Mi.eU) KX G Mi.Bs (by kernel_rfl) (by kernel_rfl) (by kernel_rfl) (by kernel_rfl))
   (Mi.aD 31 (.str "layworld.parts" 199) (.ref 30) (x:="point_over") (st:=Mi.aj 4) (df:=Mi.br) KX G Mi.md (by kernel_rfl) (by kernel_rfl) (by kernel_rfl) (by kernel_rfl))
   (Mi.aD 36 (.str "layworld.parts" 199) (.ref 35) (x:="longer_orders") (st:=Mi.aj 5) (df:=Mi.aP) KX G Mi.jE (by kernel_rfl) (by kernel_rfl) (by kernel_rfl) (by kernel_rfl))
   (Mi.aD 43 (.str "layworld.rules" 219) (.ref 42) (x:="back") (st:=Mi.aj 7) (df:=Mi.eV) KX G Mi.Bt (by kernel_rfl) (by kernel_rfl) (by kernel_rfl) (by kernel_rfl))
   (Mi.aD 50 (.str "layworld.threes" 229) (.ref 49) (x:="barred_threes") (st:=Mi.aj 9) (df:=Mi.aQ) KX G Mi.jF (by kernel_rfl) (by kernel_rfl) (by kernel_rfl) (by kernel_rfl))
   (Mi.aD 57 (.str "layworld.threes" 229) (.ref 56) (x:="three_at") (st:=Mi.aj 10) (df:=Mi.bY) KX G Mi.qT (by kernel_rfl) (by kernel_rfl) (by kernel_rfl) (by kernel_rfl))
   (Mi.aD 64 (.str "layworld.threes" 229) (.ref 63) (x:="first_bar") (st:=Mi.aj 11) (df:=Mi.bG) KX G Mi.o7 (by kernel_rfl) (by kernel_rfl) (by kernel_rfl) (by kernel_rfl))
   (Mi.aD 69 (.str "layworld.fillings" 264) (.ref 68) (x:="fillings") (st:=Mi.aj 13) (df:=Mi.bZ) KX G Mi.qU (by kernel_rfl) (by kernel_rfl) (by kernel_rfl) (by kernel_rfl))
   (Mi.aD 76 (.str "layworld.fillings" 264) (.ref 75) (x:="barred_by") (st:=Mi.aj 14) (df:=Mi.bH) KX G Mi.o8 (by kernel_rfl) (by kernel_rfl) (by kernel_rfl) (by kernel_rfl))
   (Mi.aD 81 (.str "layworld.fillings" 264) (.ref 80) (x:="all_bars") (st:=Mi.aj 15) (df:=Mi.b6) KX G Mi.qV (by kernel_rfl) (by kernel_rfl) (by kernel_rfl) (by kernel_rfl))
   (Mi.aD 88 (.str "layworld.fillings" 264) (.ref 87) (x:="with_both") (st:=Mi.aj 16) (df:=Mi.bI) KX G Mi.o9 (by kernel_rfl) (by kernel_rfl) (by kernel_rfl) (by kernel_rfl))
   (Mi.aD 93 (.str "layworld.fillings" 264) (.ref 92) (x:="same_bar") (st:=Mi.aj 17) (df:=Mi.b7) KX G Mi.qW (by kernel_rfl) (by kernel_rfl) (by kernel_rfl) (by kernel_rfl))
   (Mi.aD 100 (.str "law_layworld_k24_what_bars" 305) (.ref 99) (x:="_law_flow") (st:=Mi.aj 19) (df:=Mi.bJ) KX G Mi.pb (by kernel_rfl) (by kernel_rfl) (by kernel_rfl) (by kernel_rfl))
   (Mi.aD 107 (.str "law_layworld_k24_what_bars" 305) (.ref 106) (x:="_law_pick") (st:=Mi.aj 20) (df:=Mi.bK) KX G Mi.pc (by kernel_rfl) (by kernel_rfl) (by kernel_rfl) (by kernel_rfl))
   (Mi.aD 112 (.str "law_layworld_k24_what_bars" 305) (.ref 111) (x:="_law_names") (st:=Mi.aj 21) (df:=Mi.bu) KX G Mi.mf (by kernel_rfl) (by kernel_rfl) (by kernel_rfl) (by kernel_rfl))
   (Mi.aD 119 (.str "law_layworld_k24_what_bars" 305) (.ref 118) (x:="_law_between") (st:=Mi.aj 22) (df:=Mi.aY) KX G Mi.j8 (by kernel_rfl) (by kernel_rfl) (by kernel_rfl) (by kernel_rfl))
   (Mi.aD 124 (.str "law_layworld_k24_what_bars" 305) (.ref 123) (x:="_law_part") (st:=Mi.aj 23) (df:=Mi.bL) KX G Mi.pd (by kernel_rfl) (by kernel_rfl) (by kernel_rfl) (by kernel_rfl))
   (Mi.aD 131 (.str "law_layworld_k24_what_bars" 305) (.ref 130) (x:="_law_turns") (st:=Mi.aj 24) (df:=Mi.bv) KX G Mi.mh (by kernel_rfl) (by kernel_rfl) (by kernel_rfl) (by kernel_rfl))
   (Mi.aD 136 (.str "law_layworld_k24_what_bars" 305) (.ref 135) (x:="_law_figure") (st:=Mi.aj 25) (df:=Mi.be) KX G Mi.lF (by kernel_rfl) (by kernel_rfl) (by kernel_rfl) (by kernel_rfl))
   (Mi.aD 143 (.str "law_layworld_k24_what_bars" 305) (.ref 142) (x:="_law_bad") (st:=Mi.aj 26) (df:=Mi.b8) KX G Mi.qX (by kernel_rfl) (by kernel_rfl) (by kernel_rfl) (by kernel_rfl))
   (Mi.aD 150 (.str "law_layworld_k24_what_bars" 305) (.ref 149) (x:="_law_last_may") (st:=Mi.aj 27) (df:=Mi.aR) KX G Mi.jG (by kernel_rfl) (by kernel_rfl) (by kernel_rfl) (by kernel_rfl))
   (Mi.aD 157 (.str "law_layworld_k24_what_bars" 305) (.ref 156) (x:="_law_backs") (st:=Mi.aj 28) (df:=Mi.bw) KX G Mi.mj (by kernel_rfl) (by kernel_rfl) (by kernel_rfl) (by kernel_rfl))
   (Mi.aD 162 (.str "law_layworld_k24_what_bars" 305) (.ref 161) (x:="_law_rule_of") (st:=Mi.aj 29) (df:=Mi.aZ) KX G Mi.j9 (by kernel_rfl) (by kernel_rfl) (by kernel_rfl) (by kernel_rfl))
   (Mi.aD 167 (.str "law_layworld_k24_what_bars" 305) (.ref 166) (x:="_law_free_three") (st:=Mi.aj 30) (df:=Mi.aJ) KX G Mi.ij (by kernel_rfl) (by kernel_rfl) (by kernel_rfl) (by kernel_rfl))
   (Mi.aD 174 (.str "law_layworld_k24_what_bars" 305) (.ref 173) (x:="_law_sizes") (st:=Mi.aj 31) (df:=Mi.bx) KX G Mi.mo (by kernel_rfl) (by kernel_rfl) (by kernel_rfl) (by kernel_rfl))
   (Mi.aD 181 (.str "law_layworld_k24_what_bars" 305) (.ref 180) (x:="_law_any_rule") (st:=Mi.aj 32) (df:=Mi.aS) KX G Mi.jH (by kernel_rfl) (by kernel_rfl) (by kernel_rfl) (by kernel_rfl))
   (Mi.aD 188 (.str "law_layworld_k24_what_bars" 305) (.ref 187) (x:="_law_laying_kind") (st:=Mi.aj 33) (df:=Mi.aE) KX G Mi.gO (by kernel_rfl) (by kernel_rfl) (by kernel_rfl) (by kernel_rfl))
   (Mi.aD 195 (.str "law_layworld_k24_what_bars" 305) (.ref 194) (x:="_law_breaks") (st:=Mi.aj 34) (df:=Mi.bf) KX G Mi.lG (by kernel_rfl) (by kernel_rfl) (by kernel_rfl) (by kernel_rfl))
   (Mi.aD 200 (.str "law_layworld_k24_what_bars" 305) (.ref 199) (x:="_law_numbered") (st:=Mi.aj 35) (df:=Mi.aT) KX G Mi.jI (by kernel_rfl) (by kernel_rfl) (by kernel_rfl) (by kernel_rfl))
   (Mi.aD 207 (.str "law_layworld_k24_what_bars" 305) (.ref 206) (x:="_law_laying_rule") (st:=Mi.aj 36) (df:=Mi.aF) KX G Mi.gP (by kernel_rfl) (by kernel_rfl) (by kernel_rfl) (by kernel_rfl))
   (Mi.aD 212 (.str "law_layworld_k24_what_bars" 305) (.ref 211) (x:="_law_rising") (st:=Mi.aj 37) (df:=Mi.bg) KX G Mi.lH (by kernel_rfl) (by kernel_rfl) (by kernel_rfl) (by kernel_rfl))
   (Mi.aD 217 (.str "law_layworld_k24_what_bars" 305) (.ref 216) (x:="_law_free_rule") (st:=Mi.aj 38) (df:=Mi.aL) KX G Mi.iU (by kernel_rfl) (by kernel_rfl) (by kernel_rfl) (by kernel_rfl))
   (Mi.aD 222 (.str "law_layworld_k24_what_bars" 305) (.ref 221) (x:="_law_one_way_rule") (st:=Mi.aj 39) (df:=Mi.aC) KX G Mi.gp (by kernel_rfl) (by kernel_rfl) (by kernel_rfl) (by kernel_rfl))
   (Mi.aD 227 (.str "law_layworld_k24_what_bars" 305) (.ref 226) (x:="_law_unlaying_rule") (st:=Mi.aj 40) (df:=Mi.aA) KX G Mi.fQ (by kernel_rfl) (by kernel_rfl) (by kernel_rfl) (by kernel_rfl))
   (Mi.aD 234 (.str "law_layworld_k24_what_bars" 305) (.ref 233) (x:="_law_new_ways") (st:=Mi.aj 41) (df:=Mi.aU) KX G Mi.jJ (by kernel_rfl) (by kernel_rfl) (by kernel_rfl) (by kernel_rfl))
   (Mi.aD 241 (.str "law_layworld_k24_what_bars" 305) (.ref 240) (x:="_law_world") (st:=Mi.aj 42) (df:=Mi.bz) KX G Mi.mq (by kernel_rfl) (by kernel_rfl) (by kernel_rfl) (by kernel_rfl))
   (Mi.aD 246 (.str "law_layworld_k24_what_bars" 305) (.ref 245) (x:="_law_alike") (st:=Mi.aj 43) (df:=Mi.bA) KX G Mi.mr (by kernel_rfl) (by kernel_rfl) (by kernel_rfl) (by kernel_rfl))
   (Mi.aD 253 (.str "law_layworld_k24_what_bars" 305) (.ref 252) (x:="_law_some_rule") (st:=Mi.aj 44) (df:=Mi.aM) KX G Mi.iV (by kernel_rfl) (by kernel_rfl) (by kernel_rfl) (by kernel_rfl))
   (Mi.aD 260 (.str "law_layworld_k24_what_bars" 305) (.ref 259) (x:="_law_new_point") (st:=Mi.aj 45) (df:=Mi.aN) KX G Mi.iW (by kernel_rfl) (by kernel_rfl) (by kernel_rfl) (by kernel_rfl))
   (Mi.aD 267 (.str "law_layworld_k24_what_bars" 305) (.ref 266) (x:="_law_near") (st:=Mi.aj 46) (df:=Mi.bM) KX G Mi.pe (by kernel_rfl) (by kernel_rfl) (by kernel_rfl) (by kernel_rfl))
   (Mi.aD 274 (.str "law_layworld_k24_what_bars" 305) (.ref 273) (x:="_law_pair") (st:=Mi.aj 47) (df:=Mi.bN) KX G Mi.pf (by kernel_rfl) (by kernel_rfl) (by kernel_rfl) (by kernel_rfl))
   (Mi.aD 281 (.str "law_layworld_k24_what_bars" 305) (.ref 280) (x:="_law_both") (st:=Mi.aj 48) (df:=Mi.bO) KX G Mi.ph (by kernel_rfl) (by kernel_rfl) (by kernel_rfl) (by kernel_rfl))
   (Mi.aD 286 (.str "law_layworld_k24_what_bars" 305) (.ref 285) (x:="_law_bars") (st:=Mi.aj 49) (df:=Mi.bP) KX G Mi.pi (by kernel_rfl) (by kernel_rfl) (by kernel_rfl) (by kernel_rfl))
   (f:=291) (oc:=.type "function") (od:=td) (an:=td) (osl:=#[]) (kV:=.none) (doc:=.none) (pm:=(.str "law_layworld_k24_what_bars" 305)) (cdv:=(.ref 290)) (ct:=.none) (by kernel_rfl) (by kernel_rfl) (by kernel_rfl) (by kernel_rfl)
