import PyProof.Rows.All
import Wide.All
import OpenK.AllK
import Wide.FinOn
import Lean
import PyProof.EqAt
import PyProof.EqKinds
import PyProof.TupleCall
import KE.KDictList
import PyProof.SetKind
import PyProof.IsRules
import KE.KSortTup
import PyProof.ZipIter
import PyProof.Draws
import PyProof.EnumMake
import PyProof.WalksEnum
import PySem.Challenge.RW_layworld_k25_point_by_point
noncomputable section
open Option renaming some→gV,none→td
local macro_rules|`(#v[])=>`((by decide))|`(#v[$x:term])=>`(.cons $x .nil)|`(#v[$x:term,$y:term,*])=>`(.cons $x #v[$y,*])
local macro_rules|`(#[$x:term])=>`(⟨$x⟩)|`(#[$x:term,$y:term,*])=>`(⟨$x,$y,*⟩)
local macro_rules|`(∅)=>`((by omega))
open _root_ renaming List→Hm,Option→Ht,Nat→Hu,Int→HF,Bool→HV,if_pos→HW,decide_eq_false→Ig,decide_eq_true_eq→Ii,if_neg→Ix,Array→IC,of_decide_eq_true→IV,False→IW,String→IX,beq_self_eq_true→Jb,decide_eq_true→Jg,if_false→J5,if_true→Kf,DecidableEq→Kn,of_decide_eq_false→KO,or_false→KZ,beq_eq_false_iff_ne→Li,bne_self_eq_false→Np,True→N3,dif_pos→Po
open PySem renaming wpAny_bind→Hn,Value→Ho,Shared→Hr,Addr→Hx,wpAny_pure→Hz,Str→HL,Expr→HS,Program→HZ,Around→Iu,World→Iw,Heap→IF,wpAny_newObj_type→IG,sizeLine_eq→IH,wpAny_callSpecial?_slot→IR,wpAny_call_entry→Ja,wpAny_holding→Jj,Obj→Jn,codeAny_builtin→Ju,NameKind→Jx,wpAny_mono→Jz,wpAny_field→JG,wpAny_typeNameOfWhole_keyiter→JH,wpAny_truthy_bool→JI,DictEntry→JJ,Spec→JT,FuncData→JU,Pos→JW,wpAny_passesOwn→JZ,Stmt→J8,wpAny_typeNameOf_keyiter→Kb,mem_of_lookup→Kc,plainId_quiet→Kj,Scope→Kl,wpAny_seqItems→Ku,wpAny_Call_Name_kw→KM,wpAny_dictEntries→KY,wpAny_standAt→Lb,wpAny_letGo→Lc,wpAny_loadPart'→Lf,wpAny_typeOf→Lk,IsPart→Lo,call_meets→Lq,wpAny_setField→Lr,wpAny_tryCatch→Ls,wpAny_pyIter_list→LG,wpAny_attempt→LL,wpAny_comprehension_free→LN,noFill_tuple_add→LR,wpAny_isInstance→LU,Paired→LW,codeAny_mono→LY,ItemsOf→L3,wpAny_execs_nil→L7,wpAny_dictEpoch→Mb,wpAny_updateSeq→Mc,wpAny_isOneOf_keyiter→Mn,GenState→Ms,wpAny_of_eq→Mv,wpAny_pyIter_keyiter→Mw,wpAny_runValue→My,PassesOwn→ME,Builtin→MF,rangeSize_one→MP,seq_tuple_add→MQ,wpAny_newList→MT,wpAny_rule→MY,wpAny_load→MZ,wpAny_pyIter_tuple→M5,Env→Na,wpAny_assign_Name→Nb,Operator→Nd,BindsTo→Nf,concat_meets→Ng,wpAny_sequenceKey→Nh,seqIndex_neg→Ni,list_append→Nj,wpAny_pyIter_enum→Nr,wpAny_pyHash_int→Nw,wpAny_pyHash_str→Nx,Result→Nz,wpAny_forIn_list→NE,seqIndex_of→NP,wpAny_mkInt→NQ,Keyword→N1,wpAny_Name→N4,wpAny_bindName→N5,typeIs_int→N7,fitsIndex_both→N9,Params→Ob,call→Oc,SetTable→Od,wpAny_fieldsOf→Of,isSubtype_stop→Og,wpAny_newTuple→Oi,intBits_le_64→Ot,evalPart_none→Ov,call_list_seq→Ox,wpAny_handled→OC,small_one→OH,CmpOp→OI,call_range_1→OM,Sem→OX,IsRangeIter→OY,wpAny_throw→O4,BoolOp→Pi,IsEnum→Pj,IsRange→Pp,Drawn→Py,Model→Pz,Walks→PF,Tok→PL
open List renaming length_map→Hq,getElem?_map→Hy,length_append→HA,set→HD,size_toArray→HH,getElem?_eq_some_iff→HI,range→HJ,getElem?_eq_getElem→HK,zipWith→HM,mem_singleton→HN,mem_of_getElem?→HR,all_eq_true→HX,replicate→HY,mem_append_right→Ik,length_take→Il,getElem?_append_left→Im,mem_map→Io,map_append→Ip,mem_cons→Iq,length_range→Iv,mem_range→Iy,mem_append→Iz,all_cons→ID,take_add_one→II,getD_eq_getElem?_getD→IJ,length_cons→IN,take_length→IP,getElem_mem→IT,mem_cons_of_mem→IU,append_nil→IZ,getElem?_append_right→Je,not_mem_nil→Jk,replicate_succ→Jl,getElem?_range→Jm,length_singleton→Jo,map_cons→Jr,length_nil→Js,mem_cons_self→Jv,lookup_cons→Jy,getElem?_set→JA,getElem?_eq_none_iff→JC,length_filter_le→JD,find?_cons→JL,map_congr_left→JM,map_map→JQ,any_cons→JR,mem_append_left→J2,flatten_cons→J6,mem_of_mem_take→J7,length_drop→Kd,zip_cons_cons→Kg,find?_eq_none→Kh,range_succ→Ki,append_assoc→Km,getElem_inj→Kv,getLastD_eq_getLast?→Kx,filterMap_cons→Ky,length_zipWith→KC,length_pos_iff→KD,map_take→KI,mem_filter→KJ,nodup_cons→KL,filter_append→KP,length_eq_zero_iff→KR,take_of_length_le→K5,getElem_take→K6,mem_iff_getElem→Ld,length_dropLast→Le,mem_eraseDups→Lv,getLast?_eq_getElem?→LB,take_sublist→LF,pairwise_map→LI,ext_getElem→LS,getElem?_set_self→LX,range_succ_eq_map→L0,drop_of_length_le→L5,getElem?_dropLast→L6,of_mem_zip→L8,forIn_cons→Ma,find?_some→Mh,length_replicate→Mj,getElem?_eq_none→Mp,take_append_drop→Mr,getElem?_set_ne→Mt,nodup_nil→Mz,length_eraseIdx→MA,eraseDups_cons→MM,filter_eq_self→MN,flatMap_append→MO,mem_filterMap→M0,map_nil→Nl,zip_nil_left→Nm,ext_getElem?→Nq,flatMap_cons→Nt,filter_congr→Nu,any_toArray→NF,isEmpty_iff→NK,mem_flatMap→NM,nodup_range→NN,filter_cons→NO,length_set→NT,nil_append→NV,foldr_cons→NW,all_append→NZ,foldl→N8,forIn_nil→Oj,drop_zero→Om,take_zero→On,all_map→OO,all_nil→OP,map_set→OS,length→OZ,Nodup→Pk
open Option renaming map_eq_some_iff→Hs,map_some→Ij,isSome_iff_exists→IM,getD_none→NB,getD_some→NJ,toList→OE
open PySem.Heap renaming get?_push_of_some→Hv,lt_size→HP,get?_push_size→HQ,get?_update_other→IL,get?_update_self→JX,SameBut→J3,get?_update_ne→KA,ExtBut→Mu,size_update→NH,size_push→Ol
open Bool renaming and_eq_true→Hw,false_ne_true→HU,false_eq_true→IY,or_eq_true→JK,true_and→Kk,not_eq_true'→K1,eq_iff_iff→Lh,and_true→LK,and_eq_false_iff→Mk,and_eq_true_iff→MB,not_true→MR,false_or→MS,or_false→Ow
open Int renaming natCast_nonneg→HB,toNat_natCast→HE,emod_lt_of_pos→JE,emod_nonneg→J1,zero_add→K4,toNat_of_nonneg→MJ,ediv_nonneg→NX
open PySem.W renaming Frag→HC,mg_none_of→IQ,nsIn→Jc,keepIn→Jd,fnOf→JF,kia_one→J0,codeIn→Kr,methodObj→LC,cellsFrom_some→LZ,OpenLaw→L9,kat_nil→Mg,KdlSrc→Mx,kas_sort→NG,WalkO→Oy,Looks→OD,mg_of→OF,recOk→OG,xlAt→OV
open Nat renaming le_refl→HG,ne_of_lt→Ic,lt_of_lt_of_le→Ih,le_trans→IE,lt_irrefl→Ji,lt_succ_self→JS,zero_le→J4,ne_of_gt→Ke,le_succ→Kt,le_of_lt→KT,succ_le_succ→K9,min_self→L1,le_of_ble_eq_true→Mq,lt_of_le_of_lt→M7,min_eq_right→NL,min_eq_left→NY,not_lt→Oh,add_assoc→OA,succ_mul→ON,sub_zero→OQ,lt_or_ge→OR,sub_self→OT,ble→PN
open Array renaming length_toList→Ir,getElem?_toList→Jp,getElem?_eq_some_iff→JV,perm_iff_toList_perm→Lu,getElem?_eq_getElem→Ly,append_assoc→MW,forIn_toList→M3,toList→OL,getD→Ph
open PySem.Value renaming ref→IA,none→IK,bool→Ko,type→Kq,str→K7,int→LQ
open Option.some renaming injEq→IB,inj→IS
open PySem.Obj renaming mapSeq→Jf,data_mapFields→KN,isFreed_of_fields→Mo,cls_mapFields→Nn,mapFields→OB
open PySem.Around renaming under_plainId→Jh
open PySem.Builtin.Tuple renaming tupleExact→Jq,tupleItemsOf→Ks,tupleHashOf→Lw,tupleCompareSizes→Nv,tupleIsExact→Oe
open ForInStep renaming yield→Jt
open PySem.Builtin.Range renaming rangeSize→Jw,small→Lj
open PyProof.Rows renaming slot_tuple_getitem→JB,callWith_type1→JN,subscriptTail_builtinR→KW,assignInOrder_cons→Ln,AllBare→LD,listUpdate_at→LM,SortKind→LV,get?_update_seq→Mf,entry_tuple_getitem→MH,lt_int→MK,args_tuple_getitem→M1,IsTup→M9,assignInOrder_nil→Nc,listItems_at→No,callWith_builtin1→NA,seqEpoch_at→NR,IntsAre→N2,slicePart_none→N6,tupleItemsOf_→Ou
open PySem.Str renaming ofString→JO
open PySem.Builtin.List renaming listExtendWith→JP,listTooLong→J9,listFitsIndex→Oa
open PySem.Builtin.Slice renaming slicePlaces→JY,sliceAdjust→Kw,sliceApplied→Lp,slicePartIndex→NS,sliceFields→Oo
open PySem.Heap.SameBut renaming update→Kz,refl→Pq
open PySem.F renaming args_tuple_add_2→KF,entry_tuple_add→KQ,plainAttrs_list→KS,slot_tuple_add→KU,slot_dict_get→Ml
open PySem.Builtin.SmallTypes renaming ownedTupleIsFree→KG,nextOf→LA,ownedTupleHandOut→ML
open PySem.NameKind renaming free→KH,cell→PJ
open PySem.SeqAt renaming EqAt→K8,notIn_listAt→M2,in_tupleAt→NC,in_listAt→NU
open True renaming intro→La
open PySem.Builtin.Dict_items renaming ownsTuple→Lg
open PySem.Builtin.Builtins renaming bindParams→Ll
open PySem.Calls renaming Name_function_global→Lm,call_function_entry→Lz,Constant_str→MX
open Classical renaming byContradiction→Lx,propDecidable→OJ
open Function renaming comp_def→LH,comp→PK
open PySem.Paired renaming length→LJ
open PySem.Challenge renaming pw_layworld_k25_point_by_point→LO,rw_layworld_k25_point_by_point→LP
open PySem.Env renaming kindOf→L4
open PySem.Builtin.Dict renaming showsAll→Mm,dictSlotNone→Oq,pendingCount→Os
open Sum renaming inl→MC,inr→MD
open PySem.Expr renaming Name→MG
open PySem.SeqAt.EqAt renaming int_str→MU,str_int→MV,none_bool→O0,bool_none→O1,bool_bool→O2,none_int→O5,none_str→O6,bool_int→O7,bool_str→O8,int_none→O9,int_bool→Pa,str_none→Pb,str_bool→Pc,int_int→Pe,str_str→Pf,same→Pw
open PUnit renaming unit→M4
open PySem.ScopeKind renaming function→M6
open PySem.AutoListH renaming list___mul___list_int_3→M8
open PySem.AutoSeq1 renaming list_extend_list_list_0→Nk,sub_tuple_tuple→Oz
open PyProof.Rows.IsTup renaming new→Ny
open PySem.IsL renaming update→ND
open PySem.Builtin.Str renaming tooLong→Op
open List.Perm renaming append_right→OU,append_left→OW,swap→PD,map→PH
open PySem.MeetsSeq renaming list_pop_at→O3
open PySem.Heap.IsSliceOf renaming new→Pd
open PySem.Walks renaming list→Pg
open List.Nodup renaming sublist→Pl
open List.Pairwise renaming nil→Pn
open PySem.Flow renaming next→Pr
open PySem.W.Looks renaming ld→Ps
open PySem.W.XL renaming keeps→Pu
open PySem.PassesOwn renaming never→Px
open Prod renaming ext→PC
open PySem.Txt renaming mul→PM
set_option genSizeOf false
namespace ZZ.Lean
set_option Elab.async false
set_option linter.all false
set_option maxRecDepth 100000
namespace L2
open PySem PySem.Spec PyProof.Rows
noncomputable abbrev nk:=Sum HF HL
noncomputable def Bb:nk->Ho->HV
 | .inl k,v=>Value.isInt k v
 | .inr x,v=>Value.isStrOf x v
noncomputable def FK (w:Iw):nk->HF
 | .inl k=>hashInt k
 | .inr x=>hashStr w x
theorem bY:∀ {k:nk} {v:Ho},Bb k v=true->(∃i t,k=MC i/\v=LQ i t)\/(∃x t,k=MD x/\v=K7 x t)
 | .inl i,v,h=>by
  obtain⟨t,e⟩:=Value.isInt_shape (k:=i) (v:=v) h;exact .inl #[i,t,rfl,e]
 | .inr x,v,h=>by
  obtain⟨t,e⟩:=Value.isStrOf_shape (x:=x) (v:=v) h;exact .inr #[x,t,rfl,e]
theorem BH (a b:HF):decide ((MC a:nk)=MC b)=(a==b):=by
 by_cases e:a=b
 ·subst e; simp
 ·have h:¬ (MC a:nk)=MC b:=λq=>e (Sum.inl.inj q)
  rw[Ig h];exact(Li.mpr e).symm
theorem BI (a b:HL):decide ((MD a:nk)=MD b)=decide (a=b):=by
 by_cases e:a=b
 ·subst e; simp
 ·have h:¬ (MD a:nk)=MD b:=λq=>e (Sum.inr.inj q)
  rw[Ig h,Ig e]
theorem BJ (a:HF)(b:HL):decide ((MC a:nk)=MD b)=false:=Ig (λq=>nomatch q)
theorem BK (a:HL)(b:HF):decide ((MD a:nk)=MC b)=false:=Ig (λq=>nomatch q)
noncomputable def nq (prog:HZ)(w:Iw):PySem.KeyKind prog w nk where
 is:=Bb
 hash:=FK w
 inj:=λv a b ha hb=>by
  rcases bY ha with⟨i,t,rfl,rfl⟩|⟨x,t,rfl,rfl⟩
  ·rcases bY hb with⟨j,u,rfl,e⟩|⟨y,u,rfl,e⟩
   ·injection e with e1 _; rw[e1]
   ·exact nomatch e
  ·rcases bY hb with⟨j,u,rfl,e⟩|⟨y,u,rfl,e⟩
   ·exact nomatch e
   ·injection e with e1 _; rw[e1]
 byValue:=λk v h=>by
  rcases bY h with⟨i,t,rfl,rfl⟩|⟨x,t,rfl,rfl⟩ <;> rfl
 pyHash:=λhv h=>by
  rcases bY hv with⟨i,t,rfl,rfl⟩|⟨x,t,rfl,rfl⟩
  ·exact Nw h
  ·exact Nx h
 eqBool:=λhu hv h=>by
  rcases bY hu with⟨i,t,rfl,rfl⟩|⟨x,t,rfl,rfl⟩
  ·rcases bY hv with⟨j,u,rfl,rfl⟩|⟨y,u,rfl,rfl⟩
   ·rw[BH]at h; exact wpAny_eqBool_int h
   ·rw[BJ]at h; exact MU i t y u _ _ _ _ h
  ·rcases bY hv with⟨j,u,rfl,rfl⟩|⟨y,u,rfl,rfl⟩
   ·rw[BK]at h; exact MV x t j u _ _ _ _ h
   ·rw[BI]at h; exact wpAny_eqBool_str h
 «strs»:=λk x t v h=>by
  rcases bY h with⟨i,u,rfl,e⟩|⟨y,u,rfl,e⟩
  ·exact nomatch e
  ·injection e with e1 _
   subst e1;cases v <;> rfl
inductive V where
 | non|bl (b:HV)|int (i:HF)|str (x:HL)|byt (b:IC UInt8)|flt (b:UInt64)|ref (a:Hx)|ty (n:IX)
 deriving Kn
noncomputable def RelV:V->Ho->Prop
 | .non,u=>u=IK
 | .bl b,u=>u=Ko b
 | .int i,u=>∃t,u=LQ i t
 | .str x,u=>∃t,u=K7 x t
 | .byt b,u=>∃t,u=Value.bytes b t
 | .flt b,u=>∃t,u=Value.float b t
 | .ref a,u=>u=IA a
 | .ty n,u=>u=Kq n
noncomputable abbrev Vals:Hm V->Hm Ho->Prop:=LW RelV
theorem Vals.length {xs:Hm V}{us:Hm Ho}(r:Vals xs us):xs.length=us.length:=LJ r
theorem Vals.get:∀ {xs:Hm V} {us:Hm Ho} {i:Hu} {x:V},Vals xs us->xs[i]?=gV x->∃u,us[i]?=gV u/\RelV x u
 | _,_,_,_,.nil,e=>by simp at e
 | _,_,0,_,.cons r _,e=>by simp at e; subst e; exact#[_,rfl,r]
 | _,_,i+1,x,.cons _ t,e=>by
  obtain⟨u,h1,h2⟩:=Vals.get (i:=i) (x:=x) t (by simpa using e)
  exact#[u,by simpa using h1,h2]
theorem Vals.set {x:V}{u:Ho}(r:RelV x u):∀ {xs:Hm V} {us:Hm Ho} (i:Hu),Vals xs us->Vals (xs.set i x) (us.set i u)
 | _,_,_,.nil=>.nil
 | _,_,0,.cons _ t=>.cons r t
 | _,_,i+1,.cons q t=>.cons q (Vals.set r i t)
theorem Vals.append:∀ {xs ys:Hm V} {us ws:Hm Ho},Vals xs us->Vals ys ws->Vals (xs++ys) (us++ws)
 | _,_,_,_,.nil,s=>s
 | _,_,_,_,.cons r t,s=>.cons r (Vals.append t s)
theorem Vals.take:∀ {xs:Hm V} {us:Hm Ho} (n:Hu),Vals xs us->Vals (xs.take n) (us.take n)
 | _,_,0,_=>.nil
 | _,_,_+1,.nil=>.nil
 | _,_,n+1,.cons r t=>.cons r (Vals.take n t)
theorem Vals.drop:∀ {xs:Hm V} {us:Hm Ho} (n:Hu),Vals xs us->Vals (xs.drop n) (us.drop n)
 | _,_,0,r=>r
 | _,_,_+1,.nil=>.nil
 | _,_,n+1,.cons _ t=>Vals.drop n t
noncomputable def DG:Ht V->Ht Ho->Prop
 | some v,gV u=>RelV v u
 | none,td=>N3
 | _,_=>IW
noncomputable def KV {κ:Type}:Hm (κ×V)->Hm (κ×Ho)->Prop:=LW λ(p:κ×V) (q:κ×Ho)=>p.1=q.1/\RelV p.2 q.2
noncomputable def kV:nk->V
 | .inl i=>.int i
 | .inr x=>.str x
inductive HO where
 | lst (xs:Hm V)
 | tup (xs:Hm V)
 | dK (kvs:Hm (nk×V))|dT (kvs:Hm (Hm nk×V))
 | set (S:HF->HV) (n:Hu)
 | ins (C dx:Hx) (fs:Hm (HL×V))
 | own (x:Hx)
 | xd (fs:Hm (HL×V))
 | met (f x:Hx)
 | rng (lo hi:HF)
 | frz (o:Jn) (u:HO)
 | tbl (ps:IC Ho)
 | ext (φ:IF->Prop)
noncomputable abbrev Hp:=Hx->Ht HO
noncomputable def cv (H:Hp)(a:Hx)(o:HO):Hp:=λb=>if b=a then gV o else H b
theorem bD {H:Hp}{a:Hx}{o:HO}:cv H a o a=gV o:=by unfold cv; rw[HW rfl]
theorem aX {H:Hp}{a b:Hx}{o:HO}(h:b≠a):cv H a o b=H b:=by unfold cv; rw[Ix h]
theorem d8 {H:Hp}{a b:Hx}{o:HO}(h:H a=gV o)(h':H b=td):a≠b:=by
 intro e; subst e; rw[h]at h'; cases h'
section
variable (P:HZ) (w:Iw)
noncomputable def ObjOk (H:Hp)(h:IF)(a:Hx):HO->Prop
 | .lst xs=>xs.length<=sizeLine/\∃(its:Hm Ho) (n:Hu),Vals xs its/\h.get? a=gV { cls:=.type "list",data:=.seq its.toArray n }
 | .tup xs=>xs.length<=sizeLine/\∃its:Hm Ho,Vals xs its/\M9 h a its.toArray
 | .dK kvs=>kvs.length<=sizeLine/\(a==sysModules)=false/\∃vs,KV kvs vs/\h.DictOf (nq P w) a vs
 | .dT kvs=>kvs.length<=sizeLine/\(a==sysModules)=false/\∃xs:Hm (Hm nk×Hx×Ho),
   LW (λ(p:Hm nk×V) (q:Hm nk×Hx×Ho)=>p.1=q.1/\H q.2.1=gV (.tup (p.1.map kV))/\RelV p.2 q.2.2) kvs xs/\
   ∃o es ep,h.get? a=gV o/\o.ExactDict/\o.data=.dict es ep/\es.toList=xs.map (entryOfKey (tupleKind (nq P w)))/\(xs.map (·.1)).Nodup
 | .set S n=>h.SetOf (intKind P w) a S n
 | .ins C dx fs=>H dx=gV (.own a)/\fs.length<=1000/\dx≠a/\h.get? a=gV (PySem.W.instObj C dx)/\
   ∃mA,h.Ns1 dx mA/\(∀f,DG (fs.lookup f) (mA f))/\PySem.Within mA (fs.map (·.1))
 | .own _=>∃o,h.get? a=gV o
 | .xd fs=>∃mA,h.Ns1 a mA/\∀f,DG (fs.lookup f) (mA f)
 | .rng lo hi=>∃t u v,h.get? a=gV { cls:=.type "range",data:=.fields [.int lo t,.int hi u,.int 1 v].toArray }
 | .frz o u=>h.get? a=gV o/\ObjOk H h a u
 | .tbl ps=>h.get? a=gV { cls:=.none,data:=.fields ps }
 | .met f x=>h.get? a=gV (LC (.ref f) (.ref x))
 | .ext φ=>φ h/\(∃o,h.get? a=gV o)/\∀h1 h2:IF,φ h1->(∀o,h1.get? a=gV o->h2.get? a=gV o)->φ h2
noncomputable def HOk (H:Hp)(h:IF):Prop:=∀a o,H a=gV o->ObjOk P w H h a o
end
section
variable{P:HZ}{w:Iw}{H H':Hp}{h h':IF}{a:Hx}{o:HO}
theorem ObjOk.lt (x:ObjOk P w H h a o):a < h.objs.size:=by
 cases o with
 | lst xs=>obtain⟨_,_,_,_,e⟩:=x; exact HP e
 | tup xs=>obtain⟨_,_,_,p⟩:=x; exact p.lt
 | dK kvs=>obtain⟨_,_,_,_,o,_,_,e,_⟩:=x; exact HP e
 | dT kvs=>obtain⟨_,_,_,_,o,_,_,e,_⟩:=x; exact HP e
 | set S n=>obtain⟨o,_,_,_,e,_⟩:=x; exact HP e
 | ins C dx fs=>obtain⟨_,_,_,e,_⟩:=x; exact HP e
 | own y=>obtain⟨_,e⟩:=x; exact HP e
 | xd fs=>obtain⟨_,⟨_,_,_,e,_⟩,_⟩:=x; exact HP e
 | rng lo hi=>obtain⟨_,_,_,e⟩:=x; exact HP e
 | frz ob u=>obtain⟨e,_⟩:=x; exact HP e
 | tbl ps=>exact HP (show h.get? a=gV _ from x)
 | met f y=>exact HP (show h.get? a=gV _ from x)
 | ext φ=>obtain⟨_,⟨_,e⟩,_⟩:=x; exact HP e
theorem Paired.mapP {α β:Type}{F G:α->β->Prop}:∀ {l₁:Hm α} {l₂:Hm β},LW F l₁ l₂->(∀a b,F a b->G a b)->LW G l₁ l₂
 | _,_,.nil,_=>.nil
 | _,_,.cons r t,f=>.cons (f _ _ r) (Paired.mapP t f)
theorem ObjOk.stay (x:ObjOk P w H h a o)(k:∀b u,(b=a\/H b=gV (.own a))->h.get? b=gV u->h'.get? b=gV u)
  (ho:∀b,H b=gV (.own a)->H' b=gV (.own a)) (ht:∀b xs,H b=gV (.tup xs)->H' b=gV (.tup xs)):ObjOk P w H' h' a o:=by
 induction o with
 | lst xs=>obtain⟨z,its,n,r,e⟩:=x; exact#[z,its,n,r,k _ _ (.inl rfl) e]
 | tup xs=>obtain⟨z,its,r,ob,e,c⟩:=x; exact#[z,its,r,ob,k _ _ (.inl rfl) e,c]
 | dK kvs=>obtain⟨z,y,vs,r,ob,es,ep,e,c⟩:=x; exact#[z,y,vs,r,ob,es,ep,k _ _ (.inl rfl) e,c]
 | dT kvs=>
  obtain⟨z,y,xs,r,ob,es,ep,e,c⟩:=x;exact#[z,y,xs,Paired.mapP r λp q z=>#[z.1,ht _ _ z.2.1,z.2.2],ob,es,ep,k _ _ (.inl rfl) e,c]
 | set S n=>obtain⟨ob,es,ep,t,e,c⟩:=x; exact#[ob,es,ep,t,k _ _ (.inl rfl) e,c]
 | ins C dx fs=>
  obtain⟨d,z,ne,e,mA,⟨od,es,ep,e2,c⟩,r⟩:=x;exact#[ho _ d,z,ne,k _ _ (.inl rfl) e,mA,#[od,es,ep,k _ _ (.inr d) e2,c],r]
 | own y=>obtain⟨ob,e⟩:=x; exact#[ob,k _ _ (.inl rfl) e]
 | xd fs=>obtain⟨mA,⟨od,es,ep,e,c⟩,r⟩:=x; exact#[mA,#[od,es,ep,k _ _ (.inl rfl) e,c],r]
 | rng lo hi=>obtain⟨t,u,v,e⟩:=x; exact#[t,u,v,k _ _ (.inl rfl) e]
 | frz ob u ih=>obtain⟨e,q⟩:=x; exact#[k _ _ (.inl rfl) e,ih q]
 | tbl ps=>
  have e:h.get? a=gV { cls:=.none,data:=.fields ps }:=x;show h'.get? a=gV { cls:=.none,data:=.fields ps };exact k a _ (.inl rfl) e
 | met f y=>
  have e:h.get? a=gV (LC (.ref f) (.ref y)):=x;show h'.get? a=gV (LC (.ref f) (.ref y));exact k a _ (.inl rfl) e
 | ext φ=>obtain⟨p,⟨o,e⟩,st⟩:=x; exact#[st _ _ p λo q=>k _ _ (.inl rfl) q,#[o,k _ _ (.inl rfl) e],st]
theorem HOk.lt (x:HOk P w H h)(e:H a=gV o):a < h.objs.size:=(x a o e).lt
theorem HOk.fresh (x:HOk P w H h)(e:h.objs.size<=a):H a=td:=by
 cases q:H a with
 | none=>rfl
 | some u=>exact absurd (Ih (x.lt q) e) (Ji _)
theorem HOk.kept (x:HOk P w H h)(k:∀b u,h.get? b=gV u->h'.get? b=gV u):HOk P w H h':=λa o e=>
 (x a o e).stay (λb u _ q=>k b u q) (λ_ q=>q) λ_ _ q=>q
theorem HOk.laid (x:HOk P w H h)(k:∀b u,h.get? b=gV u->h'.get? b=gV u)(hp:h.objs.size<=a)(new:ObjOk P w (cv H a o) h' a o):HOk P w (cv H a o) h':=λb u e=>by
 have hn:=x.fresh hp
 by_cases hb:b=a
 ·subst hb; rw[bD]at e; cases e; exact new
 ·rw[aX hb]at e;exact(x b u e).stay (λc v _ q=>k c v q) (λc q=>by rw[aX (d8 q hn)]; exact q) λc xs q=>by rw[aX (d8 q hn)]; exact q
end
noncomputable def Rd (H:Hp)(a:Hx)(u:HO):Prop:=H a=gV u\/∃o,H a=gV (.frz o u)
theorem Rd.ok {P:HZ}{w:Iw}{H:Hp}{h:IF}{a:Hx}{u:HO}(r:Rd H a u)(x:HOk P w H h):ObjOk P w H h a u:=by
 rcases r with r|⟨o,r⟩
 ·exact x a u r
 ·obtain⟨_,q⟩:=x a _ r;exact q
noncomputable def DH:Ht HO->Prop
 | some (.lst _)=>N3
 | some (.dK _)=>N3
 | some (.dT _)=>N3
 | some (.set _ _)=>N3
 | some (.ins _ _ _)=>N3
 | some (.ext _)=>N3
 | _=>IW
section
variable{P:HZ}{w:Iw}{H:Hp}{h h':IF}{x e:Hx}{o':HO}
theorem HOk.write (ok:HOk P w H h)(mu:DH (H x))(he:e=x\/H e=gV (.own x))(k:∀b u,b≠e->h.get? b=gV u->h'.get? b=gV u)(heo:∃u,h'.get? e=gV u)
  (new:ObjOk P w (cv H x o') h' x o'):HOk P w (cv H x o') h':=λb u q=>by
 have nown:∀c y,H c=gV (.own y)->c≠x:=λc y r z=>by subst z; rw[r]at mu; exact mu
 have ntup:∀c xs,H c=gV (.tup xs)->c≠x:=λc xs r z=>by subst z; rw[r]at mu; exact mu
 by_cases hb:b=x
 ·subst hb; rw[bD]at q; cases q; exact new
 ·rw[aX hb]at q
  by_cases hbe:b=e
  ·have q':H b=gV (.own x):=by
    rcases he with z|z
    ·exact absurd (hbe.trans z) hb
    ·rw[hbe]; exact z
   rw[q]at q'; cases q'
   obtain⟨v,hv⟩:=heo;exact#[v,by rw[hbe]; exact hv]
  ·refine(ok b u q).stay (λc v hc r=>k c v ?_ r) (λc r=>by rw[aX (nown c b r)]; exact r) λc xs r=>by rw[aX (ntup c xs r)]; exact r
   rcases hc with rfl|hc
   ·exact hbe
   ·rintro rfl;rcases he with z|z
    ·exact nown c b hc z
    ·rw[hc]at z; cases z; exact hb rfl
end
structure Un (fs ex:Hm Hx)(H H':Hp)(h h':IF):Prop where
 keep:∀b o,h.get? b=gV o->H b=td->b∉fs->b∉ex->h'.get? b=gV o
 slot:∀b o,h.get? b=gV o->H b=td->b∈fs->b∉ex->∃sl,h'.get? b=gV { o with slots:=sl }
 free:∀b o,h.get? b=gV o->H b=td->b∉ex->H' b=td
 there:∀b o,h.get? b=gV o->b∉ex->∃o',h'.get? b=gV o'
 tups:∀b xs,H b=gV (.tup xs)->H' b=gV (.tup xs)
 frzs:∀b o u,H b=gV (.frz o u)->H' b=gV (.frz o u)
 tbls:∀b ps,H b=gV (.tbl ps)->∃more,H' b=gV (.tbl (ps++more))
section
variable{fs fs' ex ex':Hm Hx}{H H1 H2:Hp}{h h1 h2 h':IF}{a x e:Hx}{o:HO}
theorem Un.any (u:Un fs ex H H1 h h1){b:Hx}{ob:Jn}(q:h.get? b=gV ob)(n:H b=td)(hx:b∉ex):∃sl,h1.get? b=gV { ob with slots:=sl }:=by
 by_cases hb:b∈fs
 ·exact u.slot b ob q n hb hx
 ·exact#[ob.slots,u.keep b ob q n hb hx]
theorem Un.trans (a:Un fs ex H H1 h h1)(b:Un fs ex H1 H2 h1 h2):Un fs ex H H2 h h2 where
 keep:=λc ob q n hc hx=>b.keep c ob (a.keep c ob q n hc hx) (a.free c ob q n hx) hc hx
 slot:=λc ob q n hc hx=>by
  obtain⟨sl,e1⟩:=a.slot c ob q n hc hx;obtain⟨sl',e2⟩:=b.slot c _ e1 (a.free c ob q n hx) hc hx;exact#[sl',e2]
 free:=λc ob q n hx=>by
  obtain⟨o',e1⟩:=a.there c ob q hx;exact b.free c o' e1 (a.free c ob q n hx) hx
 there:=λc ob q hx=>by
  obtain⟨o',e1⟩:=a.there c ob q hx;exact b.there c o' e1 hx
 tups:=λc xs q=>b.tups c xs (a.tups c xs q)
 frzs:=λc ob xs q=>b.frzs c ob xs (a.frzs c ob xs q)
 tbls:=λc ps q=>by
  obtain⟨m1,e1⟩:=a.tbls c ps q;obtain⟨m2,e2⟩:=b.tbls c _ e1;exact#[m1++m2,by rw[e2,MW]]
theorem Un.kept (k:∀b u,h.get? b=gV u->h'.get? b=gV u):Un fs ex H H h h':=
 #[λb ob q _ _ _=>k b ob q,λb ob q _ _ _=>#[ob.slots,k b ob q],λ_ _ _ n _=>n,λb ob q _=>#[ob,k b ob q],λ_ _ q=>q,λ_ _ _ q=>q,λ_ ps q=>#[#[],by rw[q]; simp]]
theorem Un.refl:Un fs ex H H h h:=Un.kept λ_ _ q=>q
theorem Un.laid (k:∀b u,h.get? b=gV u->h'.get? b=gV u)(hp:h.objs.size<=a)(hn:H a=td):Un fs ex H (cv H a o) h h' where
 keep:=λb u q _ _ _=>k b u q
 slot:=λb u q _ _ _=>#[u.slots,k b u q]
 free:=λb u q n _=>by rw[aX (Ic (Ih (HP q) hp))]; exact n
 there:=λb u q _=>#[u,k b u q]
 tups:=λb xs q=>by rw[aX (d8 q hn)]; exact q
 frzs:=λb u xs q=>by rw[aX (d8 q hn)]; exact q
 tbls:=λb ps q=>#[#[],by rw[aX (d8 q hn),q]; simp]
theorem Un.write (mu:DH (H x))(he:e=x\/H e=gV (.own x))(k:∀b u,b≠e->h.get? b=gV u->h'.get? b=gV u)(heo:∃u,h'.get? e=gV u):Un fs ex H (cv H x o) h h':=by
 have hx:∀b,H b=td->b≠x:=λb n z=>by subst z; rw[n]at mu; exact mu
 have hb:∀b,H b=td->b≠e:=λb n z=>by
  subst z;rcases he with r|r
  ·exact hx b n r
  ·rw[n]at r; cases r
 have hm:∀b u,H b=gV u->¬ DH (gV u)->b≠x:=λb u q nm z=>by subst z; rw[q]at mu; exact nm mu
 refine#[λb u q n _ _=>k b u (hb b n) q,λb u q n _ _=>#[u.slots,k b u (hb b n) q],λb u q n _=>by rw[aX (hx b n)]; exact n,λb u q _=>?_,
  λb xs q=>by rw[aX (hm b _ q λz=>z)]; exact q,λb u xs q=>by rw[aX (hm b _ q λz=>z)]; exact q,λb ps q=>#[#[],by rw[aX (hm b _ q λz=>z),q]; simp]]
 by_cases hbe:b=e
 ·subst hbe; exact heo
 ·exact#[u,k b u hbe q]
end
noncomputable def Ft (h:IF)(H:Hp):Hm Hx:=(HJ h.objs.size).filter λa=>(H a).isSome
noncomputable def nr (h:IF)(H:Hp):IF:=PySem.W.hideAll h (Ft h H)
theorem tN (h:IF)(H:Hp):(nr h H).objs.size=h.objs.size:=PySem.W.hideAll_size _ _
theorem vd {h:IF}{H:Hp}{b:Hx}{o:Jn}(e:h.get? b=gV o)(n:H b=td):(nr h H).get? b=gV o:=
 PySem.W.hideAll_get _ e λhm=>by
  have q:(H b).isSome=true:=(KJ.mp hm).2;rw[n]at q; simp at q
theorem yu {h:IF}{H:Hp}{b:Hx}{o:Jn}(e:(nr h H).get? b=gV o):h.get? b=gV o/\H b=td:=by
 have e':h.get? b=gV o:=PySem.W.of_hideAll (Ft h H) e;refine#[e',?_];cases q:H b with
 | none=>rfl
 | some x=>
  have hm:b∈Ft h H:=KJ.mpr #[Iy.mpr (HP e'),by simp[q]]
  have z:(nr h H).get? b=td:=PySem.W.hideAll_none (Ft h H) hm;rw[z]at e; cases e
noncomputable def yv (g h:IF)(L:Hx):Hm (Hx×Jn):=(HJ h.objs.size).filterMap λa=>if a=L\/(g.get? a).isSome=true then td else(h.get? a).map λo=>(a,o)
noncomputable def dj (g h:IF)(L d:Hx):Hm (Hx×Jn):=(yv g h L).filter λp=>decide (p.1≠d)
structure Mod (K:HC)(mg:HL->Ht Ho)(base:IF):Prop where
 kin:K.In base
 glob:base.Ns mainGlobals mg
 blt:∃mb,base.Ns builtinsNs mb/\∀x:HL,x≠"__name__"->mb x=bootBuiltins x
 nolimit:base.NoLimit
structure Cx where
 prog:HZ
 w:Iw
 K:HC
 mg:HL->Ht Ho
 base:IF
 A:Iu
 N:Hm HL
 s₀:Hr
 H₀:Hp
 env:Na
 outer:Hm Na
 stack:Hm Na
 ex:Hm Hx
 fn:HL->HV
 calm:HV
 pn:Hm (Hx×Jn)
 xe:Ho->Hr->Prop
noncomputable def qT (l:Hm Na):Hm Hx:=l.filterMap (·.frame)
noncomputable abbrev Cx.fs (X:Cx):Hm Hx:=qT X.outer
noncomputable def FL (sc:Kl)(x:HL):Prop:=sc.names.lookup x=gV .local\/sc.names.lookup x=gV .cell\/sc.names.lookup x=gV .free
noncomputable def yw (sc:Kl)(x:HL):Prop:=sc.names.lookup x=gV .local\/sc.names.lookup x=gV .cell
noncomputable def FM (env:Na)(h:IF)(m:HL->Ht Ho)(x:HL)(u:Ho):Prop:=
 (env.kindOf x=gV .local/\m x=gV u)\/((env.kindOf x=gV .cell\/env.kindOf x=gV .free)/\∃c,env.cells.lookup x=gV c/\h.IsCell c (gV u))
structure Cx.Ok (X:Cx):Prop where
 mod:Mod X.K X.mg X.base
 kind:X.env.scope.kind=.function
 glob:X.env.globals=mainGlobals
 blt:X.env.builtins=builtinsNs
 above:X.s₀.heap.objs.size<=X.env.locals
 inj:∀x y c,X.env.cells.lookup x=gV c->X.env.cells.lookup y=gV c->x=y
 has:∀x,(X.env.kindOf x=gV .cell\/X.env.kindOf x=gV .free)->∃c,X.env.cells.lookup x=gV c
 cab:∀x c,X.fn x=true->X.env.cells.lookup x=gV c->X.s₀.heap.objs.size<=c
 hd:X.calm=true->X.A.handled=td
 frames:X.A.frames=gV X.stack
 stk:X.stack=X.outer\/(X.stack=X.env::X.outer/\X.env.frame=gV X.env.locals)
 exf:∀b∈X.ex,b≠X.env.locals/\∀x c,X.env.cells.lookup x=gV c->c≠b
 bs:∀b o,X.base.get? b=gV o->X.s₀.heap.get? b=gV o/\X.H₀ b=td
 bsz:X.base.objs.size<=X.s₀.heap.objs.size
 noex:∀b o,X.base.get? b=gV o->b∉X.ex
 exfs:∀b∈X.ex,b∉X.fs
 funs:X.s₀.heap.FunFrames X.base X.outer
 frf:∀b∈X.fs,X.H₀ b=td
structure Inv (X:Cx)(pins:Hm (Hx×Jn))(σ:Hm (Ht V))(H:Hp)(s:Hr):Prop where
 ok:X.Ok
 os:s.os=X.s₀.os
 bare:LD s.gens
 base:Un X.fs X.ex X.H₀ H X.s₀.heap s.heap
 loc:∃m,s.heap.Ns X.env.locals m/\∀(i:Hu) (x:HL) (v:V),X.N[i]?=gV x->σ[i]?=gV (gV v)->FL X.env.scope x->∃u,RelV v u/\FM X.env s.heap m x u
 cell:∀x c,X.env.cells.lookup x=gV c->∃v,s.heap.IsCell c v
 free:H X.env.locals=td
 freeC:∀x c,X.env.cells.lookup x=gV c->H c=td
 pin:∀p∈X.pn++pins,s.heap.get? p.1=gV p.2/\H p.1=td/\p.1≠X.env.locals/\p.1∉X.fs/\∀v,p.2.data≠.cell v
 hok:HOk X.prog X.w H s.heap
 len:σ.length=X.N.length
section
variable{X:Cx}{pins:Hm (Hx×Jn)}{σ:Hm (Ht V)}{H H':Hp}{s:Hr}{h':IF}
theorem Cx.Ok.nofr (ok:X.Ok){b:Hx}{o:Jn}(e:X.base.get? b=gV o):b∉X.fs:=λhb=>by
 have:=(ok.funs.mem hb).1;rw[e]at this; cases this
theorem Inv.bs (I:Inv X pins σ H s):∀b o,X.base.get? b=gV o->s.heap.get? b=gV o/\H b=td:=λb o e=>
 #[I.base.keep b o (I.ok.bs b o e).1 (I.ok.bs b o e).2 (I.ok.nofr e) (I.ok.noex b o e),I.base.free b o (I.ok.bs b o e).1 (I.ok.bs b o e).2 (I.ok.noex b o e)]
theorem Inv.bk (I:Inv X pins σ H s):∀b o,X.base.get? b=gV o->s.heap.get? b=gV o:=λb o e=>(I.bs b o e).1
theorem Inv.mod (I:Inv X pins σ H s):Mod X.K X.mg X.base:=I.ok.mod
theorem Inv.kIn (I:Inv X pins σ H s):X.K.In s.heap:=I.ok.mod.kin.keeps I.bk
theorem Inv.lt (I:Inv X pins σ H s):X.env.locals < s.heap.objs.size:=let ⟨_,hn,_⟩:=I.loc; hn.lt
theorem Inv.sz (I:Inv X pins σ H s):X.s₀.heap.objs.size<=s.heap.objs.size:=IE I.ok.above (KT I.lt)
theorem Inv.nofs (I:Inv X pins σ H s){a:Hx}(h:s.heap.objs.size<=a):a∉X.fs:=λhb=>by
 obtain⟨_,o,ho,_⟩:=I.ok.funs.mem hb;exact absurd (Ih (HP ho) (IE I.sz h)) (Ji _)
theorem Inv.cne (I:Inv X pins σ H s):∀x c,X.env.cells.lookup x=gV c->c≠X.env.locals:=λx c e z=>by
 obtain⟨v,o,ho,hd⟩:=I.cell x c e;obtain⟨m,⟨o',es,ep,ho',hd',_⟩,_⟩:=I.loc;rw[z,ho']at ho; cases ho; rw[hd']at hd; cases hd
theorem Inv.funs (I:Inv X pins σ H s):s.heap.FunFrames X.base X.outer:=by
 have all:∀(l:Hm Na),(∀b∈qT l,b∈X.fs)->X.s₀.heap.FunFrames X.base l->s.heap.FunFrames X.base l:=by
  intro l
  induction l with
  | nil=>intro _ _; trivial
  | cons env r ih=>
   intro hs hl;obtain⟨hk,⟨L,o,hf,hn,ho,hd⟩,hr⟩:=hl;have hL:L∈X.fs:=hs L (by unfold qT; rw[Ky,hf]; exact Jv)
   obtain⟨sl,e⟩:=I.base.slot L o ho (I.ok.frf L hL) hL λz=>I.ok.exfs L z hL
   exact#[hk,#[L,_,hf,hn,e,hd],ih (λb hb=>hs b (by unfold qT; rw[Ky,hf]; exact IU _ hb)) hr]
 exact all X.outer (λ_ hb=>hb) I.ok.funs
theorem Inv.stack (I:Inv X pins σ H s):s.heap.FunFrames X.base X.stack:=by
 rcases I.ok.stk with e|⟨e,hf⟩
 ·rw[e]; exact I.funs
 ·rw[e];obtain⟨m,hn,_⟩:=I.loc;refine .cons (by rw[I.ok.kind]; decide) hf hn ?_ I.funs
  exact Heap.get?_none_of_le (IE I.ok.bsz I.ok.above)
theorem Inv.stkSub (I:Inv X pins σ H s):∀b∈qT X.stack,b∈X.env.locals::X.fs:=λb hb=>by
 rcases I.ok.stk with e|⟨e,hf⟩
 ·rw[e]at hb; exact IU _ hb
 ·rw[e]at hb;unfold qT at hb;rw[Ky,hf]at hb;exact hb
theorem Inv.stkFree (I:Inv X pins σ H s):∀b∈qT X.stack,H b=td:=λb hb=>by
 rcases Iq.mp (I.stkSub b hb)with e|hb
 ·rw[e]; exact I.free
 ·obtain⟨_,o,ho,_⟩:=I.ok.funs.mem hb;exact I.base.free b o ho (I.ok.frf b hb) λz=>I.ok.exfs b z hb
theorem Inv.step {g':IC Ms}{t':Hu}{d':Py}{ch:Hm Hx}(I:Inv X pins σ H s)
  (hch:∀b∈ch,(b∈X.ex\/X.s₀.heap.objs.size<=b)/\b≠X.env.locals/\(∀x c,X.env.cells.lookup x=gV c->c≠b)/\∀p∈X.pn++pins,p.1≠b)
  (keep:∀b o,b≠X.env.locals->b∉X.fs->b∉ch->s.heap.get? b=gV o->H b=td->h'.get? b=gV o)
  (slot:∀b o,b≠X.env.locals->b∈X.fs->b∉ch->s.heap.get? b=gV o->H b=td->∃sl,h'.get? b=gV { o with slots:=sl }) (free:∀b o,b∉ch->s.heap.get? b=gV o->H b=td->H' b=td)
  (there:∀b o,b∉ch->s.heap.get? b=gV o->∃o',h'.get? b=gV o')
  (tups:∀b xs,H b=gV (.tup xs)->H' b=gV (.tup xs)) (frzs:∀b o u,H b=gV (.frz o u)->H' b=gV (.frz o u)) (tbls:∀b ps,H b=gV (.tbl ps)->∃more,H' b=gV (.tbl (ps++more)))
  (ns:∀m,s.heap.Ns X.env.locals m->h'.Ns X.env.locals m) (hok:HOk X.prog X.w H' h') (hg:LD g') :
  Inv X pins σ H' { s with heap:=h',gens:=g',drawn:=d',toks:=t' }:=by
 have neL:∀b o,X.s₀.heap.get? b=gV o->b≠X.env.locals:=λb o e=>Ic (Ih (HP e) I.ok.above)
 have neC:∀b o,X.s₀.heap.get? b=gV o->b∉X.ex->b∉ch:=λb o e hx hb=>by
  rcases(hch b hb).1 with z|z
  ·exact hx z
  ·exact absurd (Ih (HP e) z) (Ji _)
 have cellK:∀x c,X.env.cells.lookup x=gV c->∀v,s.heap.IsCell c v->h'.IsCell c v:=λx c e v #[o,ho,hd]=>by
  have nch:c∉ch:=λz=>(hch c z).2.2.1 x c e rfl
  by_cases hc:c∈X.fs
  ·obtain⟨sl,q⟩:=slot c o (I.cne x c e) hc nch ho (I.freeC x c e);exact#[_,q,hd]
  ·exact#[o,keep c o (I.cne x c e) hc nch ho (I.freeC x c e),hd]
 refine#[I.ok,I.os,hg,#[λb o e n hb hx=>?_,λb o e n hb hx=>?_,λb o e n hx=>?_,λb o e hx=>?_,λb xs e=>tups b xs (I.base.tups b xs e),λb o xs e=>frzs b o xs (I.base.frzs b o xs e),λb ps e=>?_],?_,λx c e=>?_,?_,λx c e=>?_,λp hp=>?_,hok,I.len]
 ·exact keep b o (neL b o e) hb (neC b o e hx) (I.base.keep b o e n hb hx) (I.base.free b o e n hx)
 ·obtain⟨sl,e1⟩:=I.base.slot b o e n hb hx;obtain⟨sl',e2⟩:=slot b _ (neL b o e) hb (neC b o e hx) e1 (I.base.free b o e n hx);exact#[sl',e2]
 ·obtain⟨o',e1⟩:=I.base.there b o e hx;exact free b o' (neC b o e hx) e1 (I.base.free b o e n hx)
 ·obtain⟨o',e1⟩:=I.base.there b o e hx;exact there b o' (neC b o e hx) e1
 ·obtain⟨m1,e1⟩:=I.base.tbls b ps e;obtain⟨m2,e2⟩:=tbls b _ e1;exact#[m1++m2,by rw[e2,MW]]
 ·obtain⟨m,hn,hl⟩:=I.loc;refine#[m,ns m hn,λi x v e1 e2 e3=>?_]
  obtain⟨u,r,l⟩:=hl i x v e1 e2 e3;refine#[u,r,?_];rcases l with l|⟨k,c,e,z⟩
  ·exact .inl l
  ·exact .inr #[k,c,e,cellK x c e _ z]
 ·obtain⟨v,z⟩:=I.cell x c e;exact#[v,cellK x c e v z]
 ·obtain⟨m,⟨o,_,_,ho,_⟩,_⟩:=I.loc;exact free _ o (λz=>(hch _ z).2.1 rfl) ho I.free
 ·obtain⟨v,o,ho,hd⟩:=I.cell x c e;exact free c o (λz=>(hch c z).2.2.1 x c e rfl) ho (I.freeC x c e)
 ·obtain⟨e,n,ne,nf,d⟩:=I.pin p hp;have nch:p.1∉ch:=λz=>(hch p.1 z).2.2.2 p hp rfl
  exact#[keep p.1 p.2 ne nf nch e n,free p.1 p.2 nch e n,ne,nf,d]
theorem Inv.un {t':Hu}(I:Inv X pins σ H s)(u:Un X.fs [] H H' s.heap h')(hok:HOk X.prog X.w H' h'):Inv X pins σ H' { s with heap:=h',toks:=t' }:=by
 obtain⟨m,⟨o,es,ep,ho,r⟩,_⟩:=id I.loc;obtain⟨sl,hL⟩:=u.any ho I.free (by simp)
 exact I.step (g':=s.gens) (d':=s.drawn) (ch:=[]) (λ_ z=>nomatch z) (λb o _ hb _ e n=>u.keep b o e n hb (by simp)) (λb o _ hb _ e n=>u.slot b o e n hb (by simp)) (λb o _ e n=>u.free b o e n (by simp)) (λb o _ e=>u.there b o e (by simp)) u.tups u.frzs u.tbls (λm' hm=>by
  obtain⟨o',es',ep',ho',r'⟩:=hm;rw[ho]at ho'; cases ho'
  exact#[_,es',ep',hL,r']) hok I.bare
theorem Inv.call {g':IC Ms}{t':Hu}{d':Py}{ch:Hm Hx}(I:Inv X pins σ H s)(u:Un (qT X.stack) ch H H' s.heap h')(hok:HOk X.prog X.w H' h')(hg:LD g')
  (hch:∀b∈ch,(b∈X.ex\/X.s₀.heap.objs.size<=b)/\b≠X.env.locals/\(∀x c,X.env.cells.lookup x=gV c->c≠b)/\∀p∈X.pn++pins,p.1≠b) :
  Inv X pins σ H' { s with heap:=h',gens:=g',drawn:=d',toks:=t' }:=by
 obtain⟨m,⟨o,es,ep,ho,r⟩,_⟩:=id I.loc;obtain⟨sl,hL⟩:=u.any ho I.free λz=>(hch _ z).2.1 rfl
 exact I.step (ch:=ch) hch (λb o hL hb hc e n=>u.keep b o e n (λz=>(Iq.mp (I.stkSub b z)).elim hL hb) hc) (λb o _ _ hc e n=>u.any e n hc) (λb o hc e n=>u.free b o e n hc) (λb o hc e=>u.there b o e hc) u.tups u.frzs u.tbls (λm' hm=>by
  obtain⟨o',es',ep',ho',r'⟩:=hm;rw[ho]at ho'; cases ho'
  exact#[_,es',ep',hL,r']) hok hg
theorem Inv.turned {t':Hu}{it:Hx}(I:Inv X pins σ H s)(k:∀b o,b≠it->s.heap.get? b=gV o->h'.get? b=gV o)(hn:H it=td)(hL:it≠X.env.locals)
  (h1:it∈X.ex\/X.s₀.heap.objs.size<=it) (h2:∀x c,X.env.cells.lookup x=gV c->c≠it) (h3:∀p∈X.pn++pins,p.1≠it):Inv X pins σ H { s with heap:=h',toks:=t' }:=by
 have nit:∀b u,H b=gV u->b≠it:=λb u e z=>by rw[z,hn]at e; cases e
 refine I.step (g':=s.gens) (d':=s.drawn) (ch:=[it]) (λb hb=>?_) (λb o _ _ hc e _=>k b o (λz=>hc (by simp[z])) e) (λb o _ _ hc e _=>#[o.slots,k b o (λz=>hc (by simp[z])) e]) (λ_ _ _ _ n=>n)
  (λb o hc e=>#[o,k b o (λz=>hc (by simp[z])) e]) (λ_ _ e=>e) (λ_ _ _ e=>e) (λb ps e=>#[#[],by rw[e]; simp]) (λm hm=>?_) (λb u e=>?_) I.bare
 ·have e:b=it:=by simpa using hb
  subst e;exact#[h1,hL,h2,h3]
 ·obtain⟨o,es,ep,ho,r⟩:=hm;exact#[o,es,ep,k _ o (Ne.symm hL) ho,r]
 ·refine(I.hok b u e).stay (λc v hc q=>k c v ?_ q) (λ_ q=>q) λ_ _ q=>q
  rcases hc with z|z
  ·rw[z]; exact nit b u e
  ·exact nit c _ z
theorem Inv.tok (I:Inv X pins σ H s)(t:Hu):Inv X pins σ H { s with toks:=t }:=I.un (h':=s.heap) (t':=t) Un.refl I.hok
theorem Inv.kept {t':Hu}(I:Inv X pins σ H s)(k:∀b u,s.heap.get? b=gV u->h'.get? b=gV u):Inv X pins σ H { s with heap:=h',toks:=t' }:=I.un (Un.kept k) (I.hok.kept k)
theorem Inv.laid {a:Hx}{o:HO}{t':Hu}(I:Inv X pins σ H s)(k:∀b u,s.heap.get? b=gV u->h'.get? b=gV u)(hp:s.heap.objs.size<=a)(new:ObjOk X.prog X.w (cv H a o) h' a o) :
  Inv X pins σ (cv H a o) { s with heap:=h',toks:=t' }:=I.un (Un.laid k hp (I.hok.fresh hp)) (I.hok.laid k hp new)
theorem Inv.write {x e:Hx}{o:HO}{t':Hu}(I:Inv X pins σ H s)(mu:DH (H x))(he:e=x\/H e=gV (.own x))(k:∀b u,b≠e->s.heap.get? b=gV u->h'.get? b=gV u)(heo:∃u,h'.get? e=gV u)
  (new:ObjOk X.prog X.w (cv H x o) h' x o):Inv X pins σ (cv H x o) { s with heap:=h',toks:=t' }:=I.un (Un.write mu he k heo) (I.hok.write mu he k heo new)
theorem Inv.pins_of {pins':Hm (Hx×Jn)}(I:Inv X pins σ H s)(h:∀p∈pins',s.heap.get? p.1=gV p.2/\H p.1=td/\p.1≠X.env.locals/\p.1∉X.fs/\∀v,p.2.data≠.cell v):Inv X pins' σ H s:=
 #[I.ok,I.os,I.bare,I.base,I.loc,I.cell,I.free,I.freeC,λp hp=>(Iz.mp hp).elim (λz=>I.pin p (J2 _ z)) (h p),I.hok,I.len]
theorem o9 {N:Hm HL}(hN:N.Nodup){i j:Hu}{x:HL}(a:N[i]?=gV x)(b:N[j]?=gV x):i=j:=by
 obtain⟨h1,e1⟩:=HI.mp a;obtain⟨h2,e2⟩:=HI.mp b;exact(Kv hN).mp (e1.trans e2.symm)
theorem tP {M:Pz}{A:Iu}{E:Ho->Hr->Prop}{i:Hu}{x:HL}{v:V}{u:Ho}{Q:Unit->Hr->Prop}(I:Inv X pins σ H s)(hN:X.N.Nodup)(hi:X.N[i]?=gV x)(hx:yw X.env.scope x)(r:RelV v u)
  (h:∀s',Inv X pins (σ.set i (gV v)) H s'->(∃a,J3 a s.heap s'.heap/\(a=X.env.locals\/X.env.cells.lookup x=gV a))->Q () s') (hf:X.fn x=true\/X.env.scope.names.lookup x=gV .local):wpAny M A (storeName X.env x u) Q E s:=by
 obtain⟨m,hn,hl⟩:=id I.loc;have hcls:(X.env.scope.kind==.class||(X.env.scope.kind==.module&&X.env.locals != X.env.globals))=false:=by rw[I.ok.kind]; rfl
 have hiσ:i < σ.length:=by rw[I.len]; exact(HI.mp hi).1
 have cne:=I.cne;have tracked:∀ {a:Hx} {h':IF},(∃o,s.heap.get? a=gV o/\H a=td)->J3 a s.heap h'->HOk X.prog X.w H h':=λ{a h'} ha hs b ob e=>by
  obtain⟨_,_,hfree⟩:=ha;refine(I.hok b ob e).stay (λc w' hc q=>(hs.2 c ?_).trans q) (λ_ q=>q) λ_ _ q=>q
  rintro rfl;rcases hc with rfl|hc
  ·rw[hfree]at e; cases e
  ·rw[hfree]at hc; cases hc
 rcases hx with hk|hk
 ·refine wpAny_storeName_local hk hn (λh' hn' hs=>?_) hcls
  obtain⟨oL,_,_,hoL,_⟩:=id hn;refine h _ #[I.ok,I.os,I.bare,#[λb o e n hb hx=>?_,λb o e n hb hx=>?_,I.base.free,λb o e hx=>?_,I.base.tups,I.base.frzs,I.base.tbls],#[_,hn',λj y v' e1 e2 e3=>?_],λy c e=>?_,I.free,I.freeC,λp hp=>?_,tracked #[oL,hoL,I.free] hs,by simpa using I.len] #[_,hs,.inl rfl]
  ·exact(hs.2 b (Ic (Ih (HP e) I.ok.above))).trans (I.base.keep b o e n hb hx)
  ·obtain⟨sl,e1⟩:=I.base.slot b o e n hb hx;exact#[sl,(hs.2 b (Ic (Ih (HP e) I.ok.above))).trans e1]
  ·obtain⟨o',e1⟩:=I.base.there b o e hx;exact#[o',(hs.2 b (Ic (Ih (HP e) I.ok.above))).trans e1]
  ·by_cases hj:j=i
   ·subst hj;rw[hi]at e1; cases e1
    rw[LX hiσ]at e2;cases e2;exact#[u,r,.inl #[hk,by simp]]
   ·rw[Mt (Ne.symm hj)]at e2;obtain⟨u',r',q⟩:=hl j y v' e1 e2 e3;refine#[u',r',?_];rcases q with⟨k,e⟩|⟨k,c,e,z⟩
    ·refine .inl #[k,?_];have:y≠x:=λe=>hj (o9 hN e1 (e ▸ hi))
     simp[this,e]
    ·exact .inr #[k,c,e,z.sameBut hs (cne y c e)]
  ·obtain⟨w',z⟩:=I.cell y c e;exact#[w',z.sameBut hs (cne y c e)]
  ·obtain⟨e,n,ne,nf,d⟩:=I.pin p hp;exact#[(hs.2 p.1 ne).trans e,n,ne,nf,d]
 ·have hfn:X.fn x=true:=by
   rcases hf with z|z
   ·exact z
   ·rw[z]at hk; cases hk
  obtain⟨c,hc⟩:=I.ok.has x (.inl hk);obtain⟨w',z⟩:=I.cell x c hc;refine wpAny_storeName_cell I.ok.kind hk hc z (λh' hc' hs=>?_)
  obtain⟨oc,hoc,hocd⟩:=id z;refine h { s with heap:=h' } #[I.ok,I.os,I.bare,#[λb o e n hb hx=>?_,λb o e n hb hx=>?_,I.base.free,λb o e hx=>?_,I.base.tups,I.base.frzs,I.base.tbls],#[m,hn.sameBut hs (Ne.symm (cne x c hc)),λj y v' e1 e2 e3=>?_],λy c' e=>?_,I.free,I.freeC,λp hp=>?_,tracked #[oc,hoc,I.freeC x c hc] hs,by simpa using I.len] #[c,hs,.inr hc]
  ·exact(hs.2 b (Ic (Ih (HP e) (I.ok.cab x c hfn hc)))).trans (I.base.keep b o e n hb hx)
  ·obtain⟨sl,e1⟩:=I.base.slot b o e n hb hx;exact#[sl,(hs.2 b (Ic (Ih (HP e) (I.ok.cab x c hfn hc)))).trans e1]
  ·obtain⟨o',e1⟩:=I.base.there b o e hx;exact#[o',(hs.2 b (Ic (Ih (HP e) (I.ok.cab x c hfn hc)))).trans e1]
  ·by_cases hj:j=i
   ·subst hj;rw[hi]at e1; cases e1
    rw[LX hiσ]at e2;cases e2;exact#[u,r,.inr #[.inl hk,c,hc,hc']]
   ·rw[Mt (Ne.symm hj)]at e2;obtain⟨u',r',q⟩:=hl j y v' e1 e2 e3;refine#[u',r',?_];rcases q with q|⟨k,c',e,z'⟩
    ·exact .inl q
    ·refine .inr #[k,c',e,z'.sameBut hs ?_];rintro rfl;exact hj (o9 hN e1 (I.ok.inj _ _ _ e hc ▸ hi))
  ·by_cases hcc:c'=c
   ·subst hcc; exact#[_,hc']
   ·obtain⟨w2,z2⟩:=I.cell y c' e;exact#[w2,z2.sameBut hs hcc]
  ·obtain⟨e,n,ne,nf,d⟩:=I.pin p hp;refine#[(hs.2 p.1 ?_).trans e,n,ne,nf,d];intro q;rw[q,hoc]at e;have q':oc=p.2:=IS e;exact d w' (by rw[<- q']; exact hocd)
theorem ii {M:Pz}{A:Iu}{E:Ho->Hr->Prop}{i:Hu}{x:HL}{v:V}{u:Ho}{Q:Unit->Hr->Prop}(I:Inv X pins σ H s)(hN:X.N.Nodup)(hi:X.N[i]?=gV x)(hx:yw X.env.scope x)(r:RelV v u)
  (h:∀s',Inv X pins (σ.set i (gV v)) H s'->Q () s') (hf:X.fn x=true\/X.env.scope.names.lookup x=gV .local):wpAny M A (storeName X.env x u) Q E s:=
 tP I hN hi hx r (λs' I' _=>h s' I') hf
theorem Inv.call' {s':Hr}{ch:Hm Hx}(I:Inv X pins σ H s)(ho:s'.os=s.os)(u:Un (qT X.stack) ch H H' s.heap s'.heap)(hok:HOk X.prog X.w H' s'.heap)(hg:LD s'.gens)
  (hch:∀b∈ch,(b∈X.ex\/X.s₀.heap.objs.size<=b)/\b≠X.env.locals/\(∀x c,X.env.cells.lookup x=gV c->c≠b)/\∀p∈X.pn++pins,p.1≠b):Inv X pins σ H' s':=by
 obtain⟨h',g',d',t',o'⟩:=s';have e:o'=s.os:=ho;subst e;exact I.call (g':=g') (t':=t') (d':=d') u hok hg hch
end
noncomputable abbrev XK:=Ho->Ht Hx->Hp->Prop
noncomputable abbrev St:=Hm (Ht V)
noncomputable abbrev VK:=V->Hp->Prop
noncomputable abbrev TE:=St->Hp->VK->Prop
noncomputable abbrev TT:=St->Hp->(HV->Hp->Prop)->Prop
noncomputable abbrev TA:=St->Hp->(Hm V->Hp->Prop)->Prop
structure Ends where
 nx:St->Hp->Prop
 rt:VK
 bk:St->Hp->Prop:=λ_ _=>IW
 ct:St->Hp->Prop:=λ_ _=>IW
noncomputable abbrev TS:=Ends->St->Hp->Prop
noncomputable def EP (X:Cx)(pins:Hm (Hx×Jn))(σ:St)(Q:VK)(u:Ho)(s':Hr):Prop:=∃v H',Inv X pins σ H' s'/\RelV v u/\Q v H'
noncomputable def TP (X:Cx)(pins:Hm (Hx×Jn))(σ:St)(Q:HV->Hp->Prop)(b:HV)(s':Hr):Prop:=∃H',Inv X pins σ H' s'/\Q b H'
noncomputable def AP (X:Cx)(pins:Hm (Hx×Jn))(σ:St)(Q:Hm V->Hp->Prop)(us:Hm Ho)(s':Hr):Prop:=∃vs H',Inv X pins σ H' s'/\Vals vs us/\Q vs H'
noncomputable def SP (X:Cx)(pins:Hm (Hx×Jn))(D:Ends)(f:Flow)(s':Hr):Prop:=
 match f with
 | .next=>∃σ' H',Inv X pins σ' H' s'/\D.nx σ' H'
 | .brk=>∃σ' H',Inv X pins σ' H' s'/\D.bk σ' H'
 | .cont=>∃σ' H',Inv X pins σ' H' s'/\D.ct σ' H'
 | .ret u=>∃v σ' H',Inv X pins σ' H' s'/\RelV v u/\D.rt v H'
noncomputable def PE (X:Cx)(e:HS)(t:TE):Prop:=
 ∀(pins:Hm (Hx×Jn)) (s:Hr) (σ:St) (H:Hp) (Q:VK),Inv X pins σ H s->t σ H Q->wpAny (model X.prog X.w) X.A (eval e X.env) (EP X pins σ Q) X.xe s
noncomputable def PT (X:Cx)(e:HS)(t:TT):Prop:=
 ∀(pins:Hm (Hx×Jn)) (s:Hr) (σ:St) (H:Hp) (Q:HV->Hp->Prop),Inv X pins σ H s->t σ H Q->wpAny (model X.prog X.w) X.A (isTrue e X.env (eval e X.env)) (TP X pins σ Q) X.xe s
noncomputable def PW (X:Cx)(e:HS)(t:TT):Prop:=
 ∀(whole:OX Ho) (pins:Hm (Hx×Jn)) (s:Hr) (σ:St) (H:Hp) (Q:HV->Hp->Prop),Inv X pins σ H s->t σ H Q->wpAny (model X.prog X.w) X.A (isTrue e X.env whole) (TP X pins σ Q) X.xe s
theorem PW.pt {X:Cx}{e:HS}{t:TT}(h:PW X e t):PT X e t:=h _
noncomputable def PA (X:Cx)(es:Hm HS)(t:TA):Prop:=
 ∀(pos:JW) (pins:Hm (Hx×Jn)) (s:Hr) (σ:St) (H:Hp) (Q:Hm V->Hp->Prop),Inv X pins σ H s->t σ H Q->wpAny (model X.prog X.w) X.A (spliced (backTo pos (starEach es X.env))) (AP X pins σ Q) X.xe s
noncomputable def PS (X:Cx)(st:J8)(t:TS):Prop:=
 ∀(pins:Hm (Hx×Jn)) (s:Hr) (σ:St) (H:Hp) (D:Ends),Inv X pins σ H s->t D σ H->wpAny (model X.prog X.w) X.A (exec st X.env) (SP X pins D) X.xe s
noncomputable def PSs (X:Cx)(st:Hm J8)(t:TS):Prop:=
 ∀(pins:Hm (Hx×Jn)) (s:Hr) (σ:St) (H:Hp) (D:Ends),Inv X pins σ H s->t D σ H->wpAny (model X.prog X.w) X.A (execs st X.env) (SP X pins D) X.xe s
theorem cg {α:Type}{t:OX α}{Q Q':α->Hr->Prop}{M:Pz}{A:Iu}{E:Ho->Hr->Prop}{s:Hr}(h:wpAny M A t Q E s)(hQ:∀a s,Q a s->Q' a s):wpAny M A t Q' E s:=Jz h hQ λ_ _ x=>x
section
variable{X:Cx}
theorem Hl {a b:HS}{ta tb:TE}(ha:PE X a ta)(hb:PE X b tb){pins:Hm (Hx×Jn)}{s:Hr}{σ:St}{H:Hp}{R:V->V->Hp->Prop}(I:Inv X pins σ H s)(h:ta σ H λx H1=>tb σ H1 λy H2=>R x y H2)
  {α:Type} {Q:α->Hr->Prop} {f:Ho->Ho->OX α}
  (hf:∀v u s2 x y H2,Inv X pins σ H2 s2->RelV x v->RelV y u->R x y H2->wpAny (model X.prog X.w) X.A (f v u) Q X.xe s2) :
  wpAny (model X.prog X.w) X.A (eval a X.env) (λv s₁=>wpAny (model X.prog X.w) X.A (eval b X.env) (λu s₂=>wpAny (model X.prog X.w) X.A (f v u) Q X.xe s₂) X.xe s₁) X.xe s:=by
 refine cg (ha pins s σ H _ I h) λv s1 #[x,H1,I1,r1,q1]=>?_
 refine cg (hb pins s1 σ H1 _ I1 q1) λu s2 #[y,H2,I2,r2,q2]=>?_
 exact hf v u s2 x y H2 I2 r1 r2 q2
noncomputable def DI (i:Hu):TE:=λσ H Q=>∃v,σ[i]?=gV (gV v)/\Q v H
noncomputable def tC (v:V):TE:=λ_ H Q=>Q v H
theorem BL {i:Hu}{x:HL}{pos:JW}(hN:X.N[i]?=gV x)(hv:FL X.env.scope x)(hd:(x==("__debug__" : HL))=false:=by decide)(hcd:(x==("__classdict__" : HL))=false:=by decide):PE X (.Name x pos) (DI i):=by
 intro pins s σ H Q I h;obtain⟨v,e,h⟩:=h;obtain⟨m,hn,hl⟩:=I.loc;obtain⟨u,r,l⟩:=hl i x v hN e hv;have fin:EP X pins σ Q u s:=#[v,H,I,r,h];rcases l with⟨hk,hm⟩|⟨hk,c,hc,hcell⟩
 ·exact N4 (wpAny_loadName_local I.ok.kind hk hn hm fin) hd
 ·rcases hk with hk|hk
  ·exact N4 (wpAny_loadName_cell I.ok.kind hk hc hcell fin) hd
  ·exact N4 (wpAny_loadName_free I.ok.kind hk hc hcell fin hcd) hd
theorem ve {i j pos}:PE X (.Constant (.int i) j pos) (tC (.int i)):=λ_ _ _ H _ I h=>wpAny_Constant_int #[.int i,H,I.tok _,#[_,rfl],h]
theorem Bc {b j pos}:PE X (.Constant (.bool b) j pos) (tC (.bl b)):=λ_ _ _ H _ I h=>Constant_bool #[.bl b,H,I,rfl,h]
theorem vf {j pos}:PE X (.Constant .none j pos) (tC .non):=λ_ _ _ H _ I h=>Constant_none #[.non,H,I,rfl,h]
theorem vg {x j pos}:PE X (.Constant (.str x) j pos) (tC (.str x)):=λ_ _ _ H _ I h=>MX #[.str x,H,I.tok _,#[_,rfl],h]
noncomputable def Gl (X:Cx)(x:HL):Prop:=X.env.kindOf x=gV .globalImplicit
theorem r6 {E:Ho->Hr->Prop}{pins:Hm (Hx×Jn)}{s:Hr}{σ:St}{H:Hp}{x:HL}{u:Ho}{pos:JW}{Q:Ho->Hr->Prop}(I:Inv X pins σ H s)(hg:Gl X x)(hm:X.mg x=gV u)(h:Q u s)
  (hd:(x==("__debug__" : HL))=false:=by decide):wpAny (model X.prog X.w) X.A (eval (.Name x pos) X.env) Q E s:=
 Lm I.ok.kind hg (Calls.loadGlobal_global (by rw[I.ok.glob]; exact I.mod.glob.keeps I.bk) hm h) hd
theorem iW {E:Ho->Hr->Prop}{pins:Hm (Hx×Jn)}{s:Hr}{σ:St}{H:Hp}{x:HL}{u:Ho}{pos:JW}{Q:Ho->Hr->Prop}(I:Inv X pins σ H s)(hg:Gl X x)(hm:X.mg x=td)(hv:bootBuiltins x=gV u)(h:Q u s)
  (hn:x≠"__name__":=by decide) (hd:(x==("__debug__" : HL))=false:=by decide):wpAny (model X.prog X.w) X.A (eval (.Name x pos) X.env) Q E s:=by
 obtain⟨mb,h1,h2⟩:=I.mod.blt;exact Lm I.ok.kind hg (Calls.loadGlobal_builtin (by rw[I.ok.glob]; exact I.mod.glob.keeps I.bk) hm (by rw[I.ok.blt]; exact h1.keeps I.bk) ((h2 x hn).trans hv) h) hd
theorem yy {x:HL}{v:V}{u:Ho}{pos:JW}(hg:Gl X x)(hm:X.mg x=td)(hv:bootBuiltins x=gV u)(r:RelV v u)(hn:x≠"__name__":=by decide)(hd:(x==("__debug__" : HL))=false:=by decide):PE X (.Name x pos) (tC v):=
 λ_ _ _ H _ I h=>iW I hg hm hv #[v,H,I,r,h] hn hd
variable{a b:HS}{ta tb:TE}{pos:JW}
variable{tA tB':TT}{dj:Hm HS}
noncomputable def DJ (t u:TT):TT:=λσ H Q=>t σ H λc H1=>if c=true then u σ H1 Q else Q false H1
noncomputable def G1 (t u:TT):TT:=λσ H Q=>t σ H λc H1=>if c=true then Q true H1 else u σ H1 Q
noncomputable def FN (t:TT):TT:=λσ H Q=>t σ H λc H1=>Q (!c) H1
theorem yz (ha:PT X a tA):PW X (.BoolOp .And [a] pos) tA:=by
 intro wh pins s σ H Q I h;refine isTrue_and (cg (ha pins s σ H Q I h) λc s1 e=>?_)
 cases c with
 | true=>exact isTrue_and_nil e
 | false=>exact e
theorem BM (ha:PT X a tA):PW X (.BoolOp .Or [a] pos) tA:=by
 intro wh pins s σ H Q I h;refine isTrue_or (cg (ha pins s σ H Q I h) λc s1 e=>?_)
 cases c with
 | false=>exact isTrue_or_nil e
 | true=>exact e
theorem BN (ha:PT X a tA)(hb:PW X (.BoolOp .And (b::dj) pos) tB'):PW X (.BoolOp .And (a::b::dj) pos) (DJ tA tB'):=by
 intro wh pins s σ H Q I h;refine isTrue_and (cg (ha pins s σ H _ I h) λc s1 #[H1,I1,q1]=>?_)
 cases c with
 | true=>exact hb wh pins s1 σ H1 Q I1 q1
 | false=>exact#[H1,I1,q1]
theorem DK (ha:PT X a tA)(hb:PW X (.BoolOp .Or (b::dj) pos) tB'):PW X (.BoolOp .Or (a::b::dj) pos) (G1 tA tB'):=by
 intro wh pins s σ H Q I h;refine isTrue_or (cg (ha pins s σ H _ I h) λc s1 #[H1,I1,q1]=>?_)
 cases c with
 | true=>exact#[H1,I1,q1]
 | false=>exact hb wh pins s1 σ H1 Q I1 q1
theorem BO (ha:PT X a tA):PT X (.UnaryOp .Not a pos) (FN tA):=by
 intro pins s σ H Q I h;exact isTrue_not (ha pins s σ H (λc H1=>Q (!c) H1) I h)
noncomputable def DL (ta tb:TE):TE:=λσ H Q=>ta σ H λx H1=>∃c,x=.bl c/\if c=true then tb σ H1 Q else Q (.bl false) H1
noncomputable def FP (ta tb:TE):TE:=λσ H Q=>ta σ H λx H1=>∃c,x=.bl c/\if c=true then Q (.bl true) H1 else tb σ H1 Q
noncomputable def DM (ta:TE):TE:=λσ H Q=>ta σ H λx H1=>∃c,x=.bl c/\Q (.bl (!c)) H1
theorem BP {op}{t:TE}(h:PE X a t):PE X (.BoolOp op [a] pos) t:=λpins s σ H Q I hw=>BoolOp_one (h pins s σ H Q I hw)
theorem BQ (ha:PE X a ta)(hb:PE X (.BoolOp .And (b::dj) pos) tb):PE X (.BoolOp .And (a::b::dj) pos) (DL ta tb):=by
 intro pins s σ H Q I h;refine BoolOp_and (cg (ha pins s σ H _ I h) λv s1 #[x,H1,I1,r1,q1]=>?_)
 obtain⟨c,rfl,q1⟩:=q1;cases r1;refine JI ?_;cases c with
 | true=>exact hb pins s1 σ H1 Q I1 q1
 | false=>exact#[.bl false,H1,I1,rfl,q1]
theorem DN (ha:PE X a ta)(hb:PE X (.BoolOp .Or (b::dj) pos) tb):PE X (.BoolOp .Or (a::b::dj) pos) (FP ta tb):=by
 intro pins s σ H Q I h;refine BoolOp_or (cg (ha pins s σ H _ I h) λv s1 #[x,H1,I1,r1,q1]=>?_)
 obtain⟨c,rfl,q1⟩:=q1;cases r1;refine JI ?_;cases c with
 | false=>exact hb pins s1 σ H1 Q I1 q1
 | true=>exact#[.bl true,H1,I1,rfl,q1]
theorem BR (ha:PE X a ta):PE X (.UnaryOp .Not a pos) (DM ta):=by
 intro pins s σ H Q I h;refine UnaryOp_ (cg (ha pins s σ H _ I h) λv s1 #[x,H1,I1,r1,q1]=>?_)
 obtain⟨c,rfl,q1⟩:=q1;cases r1;exact not_of (JI #[.bl (!c),H1,I1,rfl,q1])
noncomputable def Hb (t:TT)(ta tb:TE):TE:=λσ H Q=>t σ H λc H1=>if c=true then ta σ H1 Q else tb σ H1 Q
theorem vh {c:HS}(hc:PT X c tA)(ha:PE X a ta)(hb:PE X b tb):PE X (.IfExp c a b pos) (Hb tA ta tb):=by
 intro pins s σ H Q I h;refine wpAny_IfExp (cg (hc pins s σ H _ I h) λd s1 #[H1,I1,q1]=>?_)
 cases d with
 | true=>exact ha pins s1 σ H1 Q I1 q1
 | false=>exact hb pins s1 σ H1 Q I1 q1
end
noncomputable def SqL (K:HC)(H:Hp)(a:Hx)(xs:Hm V):Prop:=
 Rd H a (.lst xs)\/
  ∃(o:Jn) (its:IC Ho) (n:Hu),K.lookup a=gV o/\o.cls=.type "list"/\o.dict=td/\o.data=.seq its n/\its.size<=sizeLine/\Vals xs its.toList
noncomputable def SqT (K:HC)(H:Hp)(a:Hx)(xs:Hm V):Prop:=
 Rd H a (.tup xs)\/
  ∃(o:Jn) (its:IC Ho) (n:Hu),K.lookup a=gV o/\o.cls=.type "tuple"/\o.data=.seq its n/\its.size<=sizeLine/\Vals xs its.toList
noncomputable def FQ:Ho->Ht V
 | .none=>gV .non
 | .bool b=>gV (.bl b)
 | .int i _=>gV (.int i)
 | .str x _=>gV (.str x)
 | .bytes b _=>gV (.byt b)
 | .float b _=>gV (.flt b)
 | .ref a=>gV (.ref a)
 | .type n=>gV (.ty n)
 | _=>td
theorem RelV.abs {x:V}{u:Ho}(r:RelV x u):FQ u=gV x:=by
 cases x with
 | non=>cases r; rfl
 | bl _=>cases r; rfl
 | int _=>obtain⟨t,rfl⟩:=r; rfl
 | str _=>obtain⟨t,rfl⟩:=r; rfl
 | byt _=>obtain⟨t,rfl⟩:=r; rfl
 | flt _=>obtain⟨t,rfl⟩:=r; rfl
 | ref _=>cases r; rfl
 | ty _=>cases r; rfl
theorem RelV.inj {x y:V}{u:Ho}(r:RelV x u)(q:RelV y u):x=y:=IS (r.abs.symm.trans q.abs)
theorem Vals.inj:∀ {xs ys:Hm V} {us:Hm Ho},Vals xs us->Vals ys us->xs=ys
 | _,_,_,.nil,.nil=>rfl
 | _,_,_,.cons r t,.cons r' t'=>by rw[r.inj r',Vals.inj t t']
section
variable{X:Cx}{pins:Hm (Hx×Jn)}{σ:St}{H:Hp}{s:Hr}{a:Hx}{xs ys:Hm V}
theorem SqL.of {K:HC}(h:H a=gV (.lst xs)):SqL K H a xs:=.inl (.inl h)
theorem SqT.of {K:HC}(h:H a=gV (.tup xs)):SqT K H a xs:=.inl (.inl h)
theorem Inv.list (I:Inv X pins σ H s)(h:SqL X.K H a xs):∃its:Hm Ho,Vals xs its/\PlainL s.heap a its.toArray/\xs.length<=sizeLine:=by
 rcases h with h|⟨o,its,n,hk,hc,hd,hs,hz,r⟩
 ·obtain⟨z,its,n,r,e⟩:=h.ok I.hok;exact#[its,r,#[_,n,e,rfl,rfl,rfl],z]
 ·refine#[its.toList,r,#[o,n,I.kIn a o hk,hc,hd,by simpa using hs],?_]
  have e:=r.length;simp only[Ir]at e;omega
theorem Inv.tuple (I:Inv X pins σ H s)(h:SqT X.K H a xs):∃its:Hm Ho,Vals xs its/\M9 s.heap a its.toArray/\xs.length<=sizeLine:=by
 rcases h with h|⟨o,its,n,hk,hc,hs,hz,r⟩
 ·obtain⟨z,its,r,p⟩:=h.ok I.hok;exact#[its,r,p,z]
 ·refine#[its.toList,r,#[o,I.kIn a o hk,hc,n,by simpa using hs],?_]
  have e:=r.length;simp only[Ir]at e;omega
theorem Inv.list_inj (I:Inv X pins σ H s)(h:SqL X.K H a xs)(h':SqL X.K H a ys):xs=ys:=by
 obtain⟨its,r,⟨o,n,e,_,_,d⟩,_⟩:=I.list h;obtain⟨its',r',⟨o',n',e',_,_,d'⟩,_⟩:=I.list h';rw[e]at e'; cases e'
 rw[d]at d';injection d' with d1 _
 have:its=its':=by simpa using congrArg OL d1
 subst this;exact r.inj r'
theorem Inv.tuple_inj (I:Inv X pins σ H s)(h:SqT X.K H a xs)(h':SqT X.K H a ys):xs=ys:=by
 obtain⟨its,r,⟨o,e,_,n,d⟩,_⟩:=I.tuple h;obtain⟨its',r',⟨o',e',_,n',d'⟩,_⟩:=I.tuple h';rw[e]at e'; cases e'
 rw[d]at d';injection d' with d1 _
 have:its=its':=by simpa using congrArg OL d1
 subst this;exact r.inj r'
end
noncomputable abbrev Cx.wish (X:Cx)(E:Ho->Hr->Prop):Cx:={ X with xe:=E }
noncomputable abbrev Cx.nox (X:Cx):Cx:=X.wish λ_ _=>IW
theorem Cx.Ok.wish {X:Cx}(ok:X.Ok)(E:Ho->Hr->Prop):(X.wish E).Ok:=
 #[ok.mod,ok.kind,ok.glob,ok.blt,ok.above,ok.inj,ok.has,ok.cab,ok.hd,ok.frames,ok.stk,ok.exf,ok.bs,ok.bsz,ok.noex,ok.exfs,ok.funs,ok.frf]
theorem Cx.Ok.unwish {X:Cx}{E:Ho->Hr->Prop}(ok:(X.wish E).Ok):X.Ok:=
 #[ok.mod,ok.kind,ok.glob,ok.blt,ok.above,ok.inj,ok.has,ok.cab,ok.hd,ok.frames,ok.stk,ok.exf,ok.bs,ok.bsz,ok.noex,ok.exfs,ok.funs,ok.frf]
section
variable{X:Cx}{pins:Hm (Hx×Jn)}{σ:St}{H:Hp}{s:Hr}{E:Ho->Hr->Prop}
theorem Inv.wish (I:Inv X pins σ H s)(E:Ho->Hr->Prop):Inv (X.wish E) pins σ H s:=#[I.ok.wish E,I.os,I.bare,I.base,I.loc,I.cell,I.free,I.freeC,I.pin,I.hok,I.len]
theorem Inv.unwish (I:Inv (X.wish E) pins σ H s):Inv X pins σ H s:=#[I.ok.unwish,I.os,I.bare,I.base,I.loc,I.cell,I.free,I.freeC,I.pin,I.hok,I.len]
theorem SP.unwish {D:Ends}{f:Flow}{s':Hr}(h:SP (X.wish E) pins D f s'):SP X pins D f s':=by
 cases f with
 | next=>obtain⟨σ',H',I,q⟩:=h; exact#[σ',H',I.unwish,q]
 | brk=>obtain⟨σ',H',I,q⟩:=h; exact#[σ',H',I.unwish,q]
 | cont=>obtain⟨σ',H',I,q⟩:=h; exact#[σ',H',I.unwish,q]
 | ret u=>obtain⟨v,σ',H',I,r,q⟩:=h; exact#[v,σ',H',I.unwish,r,q]
theorem PSs.nox {st:Hm J8}{t:TS}(h:PSs X.nox st t):PSs X st t:=λpins s σ H D I hw=>
 Jz (h pins s σ H D (I.wish _) hw) (λ_ _ q=>q.unwish) λ_ _ z=>IW.elim z
end
section
variable{X:Cx}{st:J8}{dj:Hm J8}{t u:TS}{e:HS}{te:TE}{pos:JW}
noncomputable def vk:TS:=λD σ H=>D.nx σ H
noncomputable def FR (t u:TS):TS:=λD σ H=>t { D with nx:=u D } σ H
theorem yA:PSs X [] vk:=λ_ _ σ H _ I h=>L7 #[σ,H,I,h]
theorem vm (h1:PS X st t)(h2:PSs X dj u):PSs X (st::dj) (FR t u):=by
 intro pins s σ H D I h;refine wpAny_execs_cons (cg (h1 pins s σ H { D with nx:=u D } I h) λf s1 q=>?_)
 cases f with
 | next=>
  obtain⟨σ',H',I',q⟩:=q;exact h2 pins s1 σ' H' D I' q
 | ret v=>exact q
 | brk=>exact q
 | cont=>exact q
noncomputable def BS:TS:=λD σ H=>D.bk σ H
noncomputable def DO:TS:=λD σ H=>D.ct σ H
theorem yB:PS X (.Pass pos) vk:=λ_ _ σ H _ I h=>wpAny_Pass #[σ,H,I,h]
theorem vn:PS X (.Break pos) BS:=λ_ _ σ H _ I h=>wpAny_Break #[σ,H,I,h]
theorem pb:PS X (.Continue pos) DO:=λ_ _ σ H _ I h=>wpAny_Continue #[σ,H,I,h]
theorem Inv.quiet {pins:Hm (Hx×Jn)}{σ:St}{H:Hp}{s:Hr}(I:Inv X pins σ H s):interactive X.env=false:=by simp[interactive,I.ok.kind]
theorem BU {x j pos pos'}:PS X (.Expr (.Constant (.str x) j pos) pos') vk:=λ_ s σ H _ I h=>wpAny_Expr (MX (show SP X _ _ .next { s with toks:=s.toks+1 } from#[σ,H,I.tok _,h])) I.quiet
noncomputable def DP (te:TE):TS:=λD σ H=>te σ H λ_ H1=>D.nx σ H1
theorem yC (he:PE X e te)(hs:swapsWith e td pos.line X.env=pure false:=by rfl):PS X (.Expr e pos) (DP te):=by
 intro pins s σ H D I h;exact wpAny_Expr_any (cg (he pins s σ H _ I h) λv s1 #[x,H1,I1,r1,q1]=>#[σ,H1,I1,q1]) I.quiet hs
noncomputable def FU (te:TE):TS:=λD σ H=>te σ H D.rt
theorem BV (he:PE X e te):PS X (.Return (gV e) pos) (FU te):=by
 intro pins s σ H D I h;exact wpAny_Return_some (cg (he pins s σ H _ I h) λv s1 #[x,H1,I1,r1,q1]=>#[x,σ,H1,I1,r1,q1])
noncomputable def DQ:TS:=λD _ H=>D.rt .non H
theorem yD:PS X (.Return td pos) DQ:=λ_ _ σ H _ I h=>wpAny_Return_none #[.non,σ,H,I,rfl,h]
noncomputable def FV (c:TT)(t u:TS):TS:=λD σ H=>c σ H λb H1=>if b=true then t D σ H1 else u D σ H1
theorem DR {c:HS}{a b:Hm J8}{tc:TT}(hc:PT X c tc)(ha:PSs X a t)(hb:PSs X b u):PS X (.If c a b pos) (FV tc t u):=by
 intro pins s σ H D I h;refine wpAny_If (cg (hc pins s σ H _ I h) λd s1 #[H1,I1,q1]=>?_)
 cases d with
 | true=>exact ha pins s1 σ H1 D I1 q1
 | false=>exact hb pins s1 σ H1 D I1 q1
end
noncomputable abbrev TG:=V->St->Hp->(St->Hp->Prop)->Prop
noncomputable abbrev BW:=Hm V->St->Hp->(St->Hp->Prop)->Prop
noncomputable def PG (X:Cx)(target:HS)(t:TG):Prop:=
 ∀(pins:Hm (Hx×Jn)) (s:Hr) (σ:St) (H:Hp) (v:V) (u:Ho) (Q:St->Hp->Prop),Inv X pins σ H s->RelV v u->t v σ H Q->
  wpAny (model X.prog X.w) X.A (assign target X.env u) (λ_ s'=>∃σ' H',Inv X pins σ' H' s'/\Q σ' H') X.xe s
noncomputable def DS (X:Cx)(ts:Hm HS)(t:BW):Prop:=
 ∀(pins:Hm (Hx×Jn)) (s:Hr) (σ:St) (H:Hp) (vs:Hm V) (us:Hm Ho) (Q:St->Hp->Prop),Inv X pins σ H s->Vals vs us->t vs σ H Q->
  wpAny (model X.prog X.w) X.A (assignInOrder ((assignEach ts X.env).map (·.2)) us) (λ_ s'=>∃σ' H',Inv X pins σ' H' s'/\Q σ' H') X.xe s
noncomputable abbrev BX:=V->V->V->Hp->(Hp->Prop)->Prop
noncomputable def BY (X:Cx)(t:BX):Prop:=
 ∀(pins:Hm (Hx×Jn)) (s:Hr) (σ:St) (H:Hp) (o i v:V) (ov iv u:Ho) (Q:Hp->Prop),Inv X pins σ H s->RelV o ov->RelV i iv->RelV v u->t o i v H Q->
  wpAny (model X.prog X.w) X.A (setItem ov iv u) (λ_ s'=>∃H',Inv X pins σ H' s'/\Q H') X.xe s
section
variable{X:Cx}{pos:JW}
noncomputable def DT (i:Hu):TG:=λv σ H Q=>Q (σ.set i (gV v)) H
theorem r8 {i:Hu}{x:HL}(hN:X.N.Nodup)(hi:X.N[i]?=gV x)(hx:yw X.env.scope x)(hf:X.fn x=true\/X.env.scope.names.lookup x=gV .local):PG X (.Name x pos) (DT i):=by
 intro pins s σ H v u Q I r h;exact Nb (ii I hN hi hx r (λs' I'=>#[_,H,I',h]) hf)
noncomputable def FW:BW:=λvs σ H Q=>vs=[]/\Q σ H
noncomputable def DU (t:TG)(u:BW):BW:=λvs σ H Q=>∃v r,vs=v::r/\t v σ H λσ' H'=>u r σ' H' Q
theorem yE:DS X [] FW:=by
 intro pins s σ H vs us Q I r h;obtain⟨e,h⟩:=h;subst e;cases r;exact Nc #[σ,H,I,h]
theorem vo {e:HS}{es:Hm HS}{t:TG}{u:BW}(h1:PG X e t)(h2:DS X es u)
  (hs:(assignEach (e::es) X.env).map (·.2)=assign e X.env::(assignEach es X.env).map (·.2):=by rfl):DS X (e::es) (DU t u):=by
 intro pins s σ H vs us Q I r h;obtain⟨v,vr,e1,h⟩:=h;subst e1;cases r with
 | cons r rr=>
  rw[hs];refine Ln (cg (h1 pins s σ H _ _ _ I r h) λ_ s1 #[σ1,H1,I1,q1]=>?_)
  exact h2 pins s1 σ1 H1 _ _ Q I1 rr q1
noncomputable def FX (K:HC)(n:Hu)(t:BW):TG:=λv σ H Q=>∃a xs,v=.ref a/\SqT K H a xs/\xs.length=n/\t xs σ H Q
theorem BZ {es:Hm HS}{k:Hu}{t:BW}{n:Hu}(hc:X.calm=true)(h:DS X es t)
  (hn:(assignEach es X.env).length=n:=by rfl) (hst:(assignEach es X.env).findIdx? (·.1)=td:=by rfl):PG X (.Tuple es k pos) (FX X.K n t):=by
 intro pins s σ H v u Q I r hw;obtain⟨a,xs,e1,hq,hl,hw⟩:=hw;subst e1;cases r;obtain⟨its,rv,ht,hz⟩:=I.tuple hq;refine assign_Tuple_tuple (I.ok.hd hc) ht (by simp[hn,<- hl,rv.length]) hst λh' hx=>?_
 have I1:Inv X pins σ H { s with heap:=h' }:=I.kept (t':=s.toks) λb o e=>hx b o (Ic (HP e)) e
 exact h pins _ σ H xs _ Q I1 (by simpa using rv) hw
noncomputable def FY (to ti:TE)(t:BX):TG:=λv σ H Q=>to σ H λo H1=>ti σ H1 λi H2=>t o i v H2 λH3=>Q σ H3
theorem B0 {o i:HS}{to ti:TE}{t:BX}(ho:PE X o to)(hi:PE X i ti)(hs:BY X t)
  (ha:∀v,assign (.Subscript o i pos) X.env v=(do
   let ov <- holding [v] (eval o X.env)
   let iv <- holding [v,ov] (eval i X.env)
   standAt pos
   holding [v,ov,iv] (setItem ov iv v)
   release [v,ov,iv] []):=by intro _; rfl):PG X (.Subscript o i pos) (FY to ti t):=by
 intro pins s σ H v u Q I r h;rw[ha];refine Hn (Jj (cg (ho pins s σ H _ I h) λov s1 #[x,H1,I1,r1,q1]=>?_))
 refine Hn (Jj (cg (hi pins s1 σ H1 _ I1 q1) λiv s2 #[y,H2,I2,r2,q2]=>?_))
 refine Hn (Lb (Hn (Jj (cg (hs pins s2 σ H2 x y v ov iv u _ I2 r1 r2 r q2) λ_ s3 #[H3,I3,q3]=>?_))))
 exact wpAny_release #[σ,H3,I3,q3]
noncomputable def FZ (te:TE)(g:TG):TS:=λD σ H=>te σ H λx H1=>g x σ H1 D.nx
theorem B1 {tg e:HS}{te:TE}{g:TG}(he:PE X e te)(hg:PG X tg g)(hs:swapsWithSole [tg] e pos.line X.env=pure false:=by rfl)(hw:swappedStores [tg] e X.env=pure td:=by rfl)
  (h1:(assignEach [tg] X.env).map (·.2)=[assign tg X.env]:=by rfl):PS X (.Assign [tg] e pos) (FZ te g):=by
 intro pins s σ H D I h;refine wpAny_Assign_stores (cg (he pins s σ H _ I h) λv s1 #[x,H1,I1,r1,q1]=>?_) hs hw
 rw[h1];exact cg (hg pins s1 σ H1 x v _ I1 r1 q1) λ_ s2 q=>q
noncomputable def F0 (i j:Hu)(ta:TA):TS:=λD σ H=>ta σ H λvs H1=>∃v w,vs=[v,w]/\D.nx ((σ.set i (gV v)).set j (gV w)) H1
theorem B2 {i j:Hu}{x y:HL}{a b:HS}{ta:TA}{px py pt:JW}{kt k2 pt2}(hc:X.calm=true)(hN:X.N.Nodup)(hi:X.N[i]?=gV x)(hj:X.N[j]?=gV y)(hij:i≠j)
  (hx:X.env.scope.names.lookup x=gV .local) (hy:X.env.scope.names.lookup y=gV .local) (ha:PA X [a,b] ta)
  (hw:swappedStores [.Tuple [.Name x px,.Name y py] kt pt] (.Tuple [a,b] k2 pt2) X.env=pure (gV [x,y]))
  (hs:swapsWithSole [.Tuple [.Name x px,.Name y py] kt pt] (.Tuple [a,b] k2 pt2) pos.line X.env=pure false:=by rfl) :
  PS X (.Assign [.Tuple [.Name x px,.Name y py] kt pt] (.Tuple [a,b] k2 pt2) pos) (F0 i j ta):=by
 intro pins s σ H D I h;rw[exec_Assign_arm];refine Hn (Lb ?_);rw[hs];refine Hn (Hz ?_);rw[Ix #v[]]
 refine Hn (Tuple_ (cg (ha _ pins s σ H _ I h) λus s1 #[vs,H1,I1,r1,q1]=>?_))
 obtain⟨v,w,e1,q1⟩:=q1;subst e1;obtain⟨u1,u2,rfl,rv,rw'⟩ : ∃u1 u2,us=[u1,u2]/\RelV v u1/\RelV w u2:=by
  cases r1 with
  | cons p q=>
   cases q with
   | cons p' q'=>
    cases q';exact#[_,_,rfl,p,p']
 refine IG ?_ (by show 2<=sizeLine; decide)
 have I2:Inv X pins σ H1 { s1 with heap:=s1.heap.push { cls:=.type "tuple",data:=.seq [u1,u2].toArray } }:=I1.kept (t':=s1.toks) λb o e=>Hv _ e
 rw[hw];refine Hn (Hz ?_);show wpAny (model X.prog X.w) X.A (do rule "assign.swapped-stores"; let items <- unpackItems (.ref s1.heap.objs.size) 2 td; assignInOrder [λv=>bindName X.env y v,λv=>bindName X.env x v] items.reverse; pure Pr) _ _ _
 refine Hn (MY (Hn (unpackItems_tuple (items:=[u1,u2].toArray) (I.ok.hd hc) (Ny s1.heap _) λh' hx'=>?_)))
 have I3:=I2.kept (h':=h') (t':=s1.toks) λb o e=>hx' b o (Ic (HP e)) e
 show wpAny _ _ (assignInOrder [λv=>bindName X.env y v,λv=>bindName X.env x v] [u2,u1] >>= λ_=>pure Pr) _ _ _
 refine Hn (Ln (N5 (ii I3 hN hj (.inl hy) rw' (λs2 I4=>?_) (.inr hy))))
 refine Ln (N5 (ii I4 hN hi (.inl hx) rv (λs3 I5=>Nc (Hz ?_)) (.inr hx)))
 rw[List.set_comm _ _ (Ne.symm hij)]at I5;exact#[_,H1,I5,q1]
end
section
variable{X:Cx}{pos:JW}
noncomputable def B3 (c:TT)(tb:TS):TS:=λD σ H=>∃W:Hu->St->Hp->Prop,(∃m,W m σ H)/\∀m σ H,W m σ H->
 c σ H λb H1=>if b=true then ∃N:St->Hp->Prop,(∀σ' H',N σ' H'->∃m',m' < m/\W m' σ' H')/\tb { D with nx:=N,ct:=N,bk:=D.nx } σ H1 else D.nx σ H1
theorem vp {c:HS}{body:Hm J8}{tc:TT}{tb:TS}(hp:ME (model X.prog X.w) X.A X.env X.xe)(hc:PT X c tc)(hb:PSs X body tb):PS X (.While c body [] pos) (B3 tc tb):=by
 intro pins s σ H D I h;obtain⟨W,⟨m0,w0⟩,turn⟩:=h;refine wpAny_While (codeAny_whileLoop (λn s'=>∃σ' H',Inv X pins σ' H' s'/\W n σ' H') ?_ m0 #[σ,H,I,w0])
 rintro n s1 ⟨σ1,H1,I1,w1⟩;refine JZ hp (cg (hc pins s1 σ1 H1 _ I1 (turn n σ1 H1 w1)) λb s2 #[H2,I2,q2]=>?_)
 cases b with
 | true=>
  obtain⟨N,hN,q2⟩:=q2;rw[HW rfl];refine JZ hp (cg (hb pins s2 σ1 H2 _ I2 q2) λf s3 q3=>?_)
  cases f with
  | next=>
   obtain⟨σ3,H3,I3,n3⟩:=q3;obtain⟨m',hm,w3⟩:=hN σ3 H3 n3;exact#[m',hm,σ3,H3,I3,w3]
  | cont=>
   obtain⟨σ3,H3,I3,n3⟩:=q3;obtain⟨m',hm,w3⟩:=hN σ3 H3 n3;exact#[m',hm,σ3,H3,I3,w3]
  | brk=>exact q3
  | ret v=>exact q3
 | false=>
  rw[Ix HU];exact L7 #[σ1,H2,I2,q2]
end
structure It where
 go:Hu->Hp->Prop
 yld:Hu->Hp->V->Hp->Prop
 stop:Hu->Hp->Prop
noncomputable def iX (X:Cx)(pins:Hm (Hx×Jn))(H:Hp)(b:Hx):Prop:=
 H b=td/\b≠X.env.locals/\b∉X.fs/\(b∈X.ex\/X.s₀.heap.objs.size<=b)/\(∀x c,X.env.cells.lookup x=gV c->c≠b)/\∀p∈X.pn++pins,p.1≠b
theorem Inv.fpOk {X:Cx}{pins:Hm (Hx×Jn)}{σ:St}{H H':Hp}{s:Hr}{b:Hx}(I:Inv X pins σ H s)(hb:s.heap.objs.size<=b)(hn:H' b=td):iX X pins H' b:=by
 refine#[hn,Ke (Ih I.lt hb),I.nofs hb,.inr (IE I.sz hb),λx c e z=>?_,λp hp z=>?_]
 ·obtain⟨v,q⟩:=I.cell x c e;exact absurd (Ih q.lt (by rw[z]; exact hb)) (Ji _)
 ·exact absurd (Ih (HP (I.pin p hp).1) (by rw[z]; exact hb)) (Ji _)
structure Turn (P:HZ)(w:Iw)(K:HC)(tg:HS)(J:It)(fp:Hm Hx)(it:Hx)(tn:Hu->IF->Prop):Prop where
 mem:it∈fp
 obj:∀i h,tn i h->∀b∈fp,∃o,h.get? b=gV o/\∀v,o.data≠.cell v
 keep:∀i h h',tn i h->(∀b∈fp,∀o,h.get? b=gV o->h'.get? b=gV o)->tn i h'
 item:∀(X:Cx),X.prog=P->X.w=w->X.K=K->X.calm=true->∀(i:Hu) (pins:Hm (Hx×Jn)) (s:Hr) (σ:St) (H:Hp) (E:Ho->Hr->Prop),Inv X pins σ H s->(∀b∈fp,iX X pins H b)->tn i s.heap->J.go i H->
  wpAny (model P w) X.A (pyNext (.ref it)) (λr s1=>∃u,r=gV u/\
   wpAny (model P w) X.A (letOwnedTupleGo tg (.ref it) u) (λ_ s2=>∃x H',Inv X pins σ H' s2/\RelV x u/\J.yld i H x H'/\tn (i+1) s2.heap/\∀b∈fp,H' b=td) E s1) E s
 done:∀(X:Cx),X.prog=P->X.w=w->X.K=K->X.calm=true->∀(i:Hu) (pins:Hm (Hx×Jn)) (s:Hr) (σ:St) (H:Hp) (E:Ho->Hr->Prop),Inv X pins σ H s->(∀b∈fp,iX X pins H b)->tn i s.heap->J.stop i H->
  wpAny (model P w) X.A (pyNext (.ref it)) (λr s1=>r=td/\Inv X pins σ H s1) E s
 self:∀(A:Iu) (i:Hu) (s:Hr) (Q:Ho->Hr->Prop) (E:Ho->Hr->Prop),tn i s.heap->Q (.ref it) s->wpAny (model P w) A (pyIter (.ref it)) Q E s
noncomputable abbrev TI:=St->Hp->(It->Hp->Prop)->Prop
noncomputable def Fu (X:Cx)(pins:Hm (Hx×Jn))(σ:St)(tg:HS)(R:It->Hp->Prop)(itv:Ho)(s2:Hr):Prop:=
 ∃(it:Hx) (fp:Hm Hx) (tn:Hu->IF->Prop) (J:It) (H':Hp),itv=.ref it/\Inv X pins σ H' s2/\Turn X.prog X.w X.K tg J fp it tn/\tn 0 s2.heap/\(∀b∈fp,iX X pins H' b)/\R J H'
noncomputable def PI (X:Cx)(tg iter:HS)(wi:TI):Prop:=
 ∀(pins:Hm (Hx×Jn)) (s:Hr) (σ:St) (H:Hp) (R:It->Hp->Prop),Inv X pins σ H s->wi σ H R->
  wpAny (model X.prog X.w) X.A (eval iter X.env) (λv s1=>wpAny (model X.prog X.w) X.A (pyIter v) (Fu X pins σ tg R) X.xe s1) X.xe s
theorem r9 {M:Pz}{A:Iu}{E:Ho->Hr->Prop}{s:Hr}{tg:HS}{it:Hx}{u:Ho}{o:Jn}{n:IX}{vs:IC Ho}{Q:Unit->Hr->Prop}(ho:s.heap.get? it=gV o)(hc:o.cls=.type n)(hd:o.data=.fields vs)
    (hn:["enumerate","zip","dict_itemiterator","dict_reverseitemiterator","odict_iterator","itertools.zip_longest","itertools.pairwise"].contains n=false) (hQ:Q () s):wpAny M A (letOwnedTupleGo tg (.ref it) u) Q E s:=by
  unfold letOwnedTupleGo;cases tg <;> first
    | exact Hz hQ
    | (cases u <;> first
        | exact Hz hQ
        | (refine Hn (MZ ho ?_)
           rw[hc,hd];show wpAny M A (if (["enumerate","zip","dict_itemiterator","dict_reverseitemiterator","odict_iterator","itertools.zip_longest","itertools.pairwise"].contains n&&vs[0]?==gV (rawInt _))=true then _ else _) Q E s
           rw[Ix (by intro h; rw[hn,Bool.false_and]at h; cases h)]
           exact Hz hQ))
noncomputable def F1 (K:HC)(a:Hx):It:=
 #[λi H=>∃xs x,SqL K H a xs/\xs[i]?=gV x,λi H x H'=>H'=H/\∀xs,SqL K H a xs->xs[i]?=gV x,λi H=>∃xs,SqL K H a xs/\xs.length<=i]
noncomputable def DA (K:HC)(a:Hx):It:=
 #[λi H=>∃xs x,SqT K H a xs/\xs[i]?=gV x,λi H x H'=>H'=H/\∀xs,SqT K H a xs->xs[i]?=gV x,λi H=>∃xs,SqT K H a xs/\xs.length<=i]
noncomputable def DV (lo:HF)(n:Hu):It:=#[λi _=>i < n,λi H x H'=>H'=H/\x=.int (lo+i),λi _=>n<=i]
theorem tQ {P:HZ}{w:Iw}{K:HC}{tg:HS}(a it:Hx):Turn P w K tg (F1 K a) [it] it (λi h=>h.IsListIter it a i) where
 mem:=by simp
 obj:=λi h st b hb=>by
  have e:b=it:=by simpa using hb
  subst e;obtain⟨o,e,c,d⟩:=st;exact#[o,e,λv z=>by rw[d]at z; cases z]
 keep:=λi h h' st k=>st.at λo e=>k it (by simp) o e
 item:=by
  intro X hP hw hK hc i pins s σ H E I hf st hg;subst hP hw hK;obtain⟨xs,x,hq,hx⟩:=hg;obtain⟨its,rv,p,hz⟩:=I.list hq;obtain⟨u,hu,ru⟩:=rv.get hx;obtain⟨f0,f1,f2,f3,f4,f5⟩:=hf it (by simp)
  refine wpAny_pyNext_list_item st p.isList (x:=u) (by simpa using hu) λh' st' sb=>?_
  have I1:Inv X pins σ H { s with heap:=h' }:=I.turned (t':=s.toks) (λb o hb e=>(sb.2 b hb).trans e) f0 f1 f3 f4 f5
  obtain⟨o,e,c,d⟩:=id st';exact#[u,rfl,r9 (s:={ s with heap:=h' }) e c d #v[] #[x,H,I1,ru,#[rfl,λys hy=>by rw[I.list_inj hy hq]; exact hx],st',λb hb=>(hf b hb).1]]
 done:=by
  intro X hP hw hK hc i pins s σ H E I hf st hg;subst hP hw hK;obtain⟨xs,hq,hx⟩:=hg;obtain⟨its,rv,p,hz⟩:=I.list hq;obtain⟨f0,f1,f2,f3,f4,f5⟩:=hf it (by simp)
  have hl:=rv.length;exact wpAny_pyNext_list_end (I.ok.hd hc) st p.isList (by simp; omega) λh' eb=>#[rfl,I.turned (t':=s.toks) (λb o hb e=>eb b o hb e) f0 f1 f3 f4 f5]
 self:=λ_ _ _ _ _ st h=>wpAny_pyIter_listiter st h
theorem qU {P:HZ}{w:Iw}{K:HC}{tg:HS}(a it:Hx):Turn P w K tg (DA K a) [it] it (λi h=>h.IsTupleIter it a i) where
 mem:=by simp
 obj:=λi h st b hb=>by
  have e:b=it:=by simpa using hb
  subst e;obtain⟨o,e,c,d⟩:=st;exact#[o,e,λv z=>by rw[d]at z; cases z]
 keep:=λi h h' st k=>st.at λo e=>k it (by simp) o e
 item:=by
  intro X hP hw hK hc i pins s σ H E I hf st hg;subst hP hw hK;obtain⟨xs,x,hq,hx⟩:=hg;obtain⟨its,rv,p,hz⟩:=I.tuple hq;obtain⟨u,hu,ru⟩:=rv.get hx;obtain⟨f0,f1,f2,f3,f4,f5⟩:=hf it (by simp)
  refine wpAny_pyNext_tuple_item st (show s.heap.IsTuple a its.toArray from p) (x:=u) (by simpa using hu) λh' st' sb=>?_
  have I1:Inv X pins σ H { s with heap:=h' }:=I.turned (t':=s.toks) (λb o hb e=>(sb.2 b hb).trans e) f0 f1 f3 f4 f5
  obtain⟨o,e,c,d⟩:=id st';exact#[u,rfl,r9 (s:={ s with heap:=h' }) e c d #v[] #[x,H,I1,ru,#[rfl,λys hy=>by rw[I.tuple_inj hy hq]; exact hx],st',λb hb=>(hf b hb).1]]
 done:=by
  intro X hP hw hK hc i pins s σ H E I hf st hg;subst hP hw hK;obtain⟨xs,hq,hx⟩:=hg;obtain⟨its,rv,p,hz⟩:=I.tuple hq;obtain⟨f0,f1,f2,f3,f4,f5⟩:=hf it (by simp)
  have hl:=rv.length;exact wpAny_pyNext_tuple_end (I.ok.hd hc) st (show s.heap.IsTuple a its.toArray from p) (by simp; omega) λh' eb=>#[rfl,I.turned (t':=s.toks) (λb o hb e=>eb b o hb e) f0 f1 f3 f4 f5]
 self:=λ_ _ _ _ _ st h=>wpAny_pyIter_tupleiter st h
theorem qV {P:HZ}{w:Iw}{K:HC}{tg:HS}(it:Hx)(lo:HF)(n:Hu):Turn P w K tg (DV lo n) [it] it (λi h=>OY h it (lo+(i:Hu)*1) ((n:HF) - (i:Hu)) 1) where
 mem:=by simp
 obj:=λi h st b hb=>by
  have e:b=it:=by simpa using hb
  subst e;exact#[_,st,λv z=>by
   have z':Data.fields _=Data.cell v:=z;cases z']
 keep:=λi h h' st k=>k it (by simp) _ st
 item:=by
  intro X hP hw hK hc i pins s σ H E I hf st hg;subst hP hw hK;obtain⟨f0,f1,f2,f3,f4,f5⟩:=hf it (by simp)
  have W:=Walks.range (prog:=X.prog) (w:=X.w) (I.ok.hd hc) it lo 1 n;refine W.item i s _ _ hg st λv h' tk hv st' kk=>?_
  obtain⟨t,rfl⟩:=hv;have I1:Inv X pins σ H { s with heap:=h',toks:=tk }:=I.turned (λb o hb e=>kk b o (by simpa using hb) e) f0 f1 f3 f4 f5
  refine#[_,rfl,r9 (s:={ s with heap:=h',toks:=tk }) (n:="range_iterator") st' rfl rfl #v[] #[.int (lo+i),H,I1,#[t,?_],#[rfl,rfl],st',λb hb=>(hf b hb).1]]
  rw[Int.mul_one]
 done:=by
  intro X hP hw hK hc i pins s σ H E I hf st hg;subst hP hw hK;obtain⟨f0,f1,f2,f3,f4,f5⟩:=hf it (by simp)
  exact wpAny_pyNext_range_end (I.ok.hd hc) st (by have:n<=i:=hg; omega) λh' eb=>#[rfl,I.turned (t':=s.toks) (λb o hb e=>eb b o hb e) f0 f1 f3 f4 f5]
 self:=λ_ _ _ _ _ st h=>wpAny_pyIter_rangeiter st h
section
variable{X:Cx}{tg:HS}
theorem pc {pins:Hm (Hx×Jn)}{σ:St}{H:Hp}{s:Hr}{R:It->Hp->Prop}{E:Ho->Hr->Prop}{lo hi:HF}{t u v:PL}{tk:Hu}(I:Inv X pins σ H s)(h1 : -(2 ^ 62)<=lo)(h2:lo < 2 ^ 62)(h3 : -(2 ^ 62)<=hi)(h4:hi < 2 ^ 62)
  (q:R (DV lo (hi - lo).toNat) H):wpAny (model X.prog X.w) X.A (pyIter (.ref s.heap.objs.size)) (Fu X pins σ tg R) E { s with heap:=s.heap.push { cls:=.type "range",data:=.fields [.int lo t,.int hi u,.int 1 v].toArray },toks:=tk }:=by
 refine wpAny_pyIter_range (IsRange.new ..) (OH h1 h2 h3 h4) ?_;have I1:Inv X pins σ H { s with heap:=s.heap.push { cls:=.type "range",data:=.fields [.int lo t,.int hi u,.int 1 v].toArray },toks:=tk }:=I.kept λb o e=>Hv _ e
 refine#[(s.heap.push { cls:=.type "range",data:=.fields [.int lo t,.int hi u,.int 1 v].toArray }).objs.size,[(s.heap.push { cls:=.type "range",data:=.fields [.int lo t,.int hi u,.int 1 v].toArray }).objs.size],_,_,H,rfl,
  I1.kept (t':=tk) λb o e=>Hv _ e,qV _ lo (hi - lo).toNat,?_,λb hb=>?_,q]
 ·have e1:lo+((0:Hu):HF)*1=lo:=by simp
  have e2:(((hi - lo).toNat:Hu):HF) - ((0:Hu):HF)=Jw lo hi 1:=by rw[MP]; split <;> omega
  show OY _ _ (lo+((0:Hu):HF)*1) ((((hi - lo).toNat:Hu):HF) - ((0:Hu):HF)) 1;rw[e1,e2];exact HQ _ rfl
 ·have e:b=(s.heap.push { cls:=.type "range",data:=.fields [.int lo t,.int hi u,.int 1 v].toArray }).objs.size:=by simpa using hb
  subst e;exact I1.fpOk (HG _) (I1.hok.fresh (HG _))
noncomputable def DW (ta:TA):TI:=λσ H R=>ta σ H λvs H1=>∃j:HF,vs=[.int j]/\-(2 ^ 62)<=j/\j < 2 ^ 62/\R (DV 0 j.toNat) H1
noncomputable def iRng2 (ta:TA):TI:=λσ H R=>ta σ H λvs H1=>∃i j:HF,vs=[.int i,.int j]/\(-(2 ^ 62)<=i/\i < 2 ^ 62/\-(2 ^ 62)<=j/\j < 2 ^ 62)/\R (DV i (j - i).toNat) H1
theorem tR {a:HS}{ta:TA}{p pos:JW}(hg:Gl X "range")(hm:X.mg "range" = td)(ha:PA X [a] ta)(hs:starEach [a] X.env=[(false,eval a X.env)]:=by rfl):PI X tg (.Call (.Name "range" p) [a] [] pos) (DW ta):=by
 intro pins s σ H R I h;refine Call_ (iW I hg hm boot_range (JN (cg (ha pos pins s σ H _ I h) λus s1 #[vs,H1,I1,r1,q1]=>?_) hs rfl))
 obtain⟨j,e,q1,q2,q⟩:=q1;subst e;cases r1 with
 | cons r rr=>
  cases rr;obtain⟨t,rfl⟩:=r;exact OM (pc I1 ∅ ∅ q1 q2 (by simpa using q))
theorem tU {a b:HS}{ta:TA}{p pos:JW}(hg:Gl X "range")(hm:X.mg "range" = td)(ha:PA X [a,b] ta)(hs:starEach [a,b] X.env=[(false,eval a X.env),(false,eval b X.env)]:=by rfl)(hs2:starEach [b] X.env=[(false,eval b X.env)]:=by rfl) :
  PI X tg (.Call (.Name "range" p) [a,b] [] pos) (iRng2 ta):=by
 intro pins s σ H R I h;refine Call_ (iW I hg hm boot_range (JN (cg (ha pos pins s σ H _ I h) λus s1 #[vs,H1,I1,r1,q1]=>?_) (by rw[hs,hs2]) (by rw[hs2]; rfl)))
 obtain⟨i,j,e,⟨q1,q2,q3,q4⟩,q⟩:=q1;subst e;cases r1 with
 | cons r rr=>
  cases rr with
  | cons r' rr=>
   cases rr;obtain⟨t,rfl⟩:=r;obtain⟨t',rfl⟩:=r';exact call_range_2 (pc I1 q1 q2 q3 q4 q)
noncomputable def F2 (wi:TI)(g:TG)(tb:TS):TS:=λD σ H=>wi σ H λJ H1=>∃W:Hu->Hu->St->Hp->Prop,(∃m,W 0 m σ H1)/\∀i m σ H,W i m σ H->
 (J.stop i H/\D.nx σ H)\/(J.go i H/\∃N:St->Hp->Prop,(∀σ' H',N σ' H'->∃m',m' < m/\W (i+1) m' σ' H')/\∀x H',J.yld i H x H'->g x σ H' λσ2 H2=>tb { D with nx:=N,ct:=N,bk:=D.nx } σ2 H2)
noncomputable def iY (fp:Hm Hx)(h:IF):Hm (Hx×Jn):=fp.filterMap λb=>(h.get? b).map λo=>(b,o)
theorem fA {fp:Hm Hx}{h:IF}{b:Hx}{o:Jn}(hb:b∈fp)(e:h.get? b=gV o):(b,o)∈iY fp h:=M0.mpr #[b,hb,by rw[e]; rfl]
theorem tV {fp:Hm Hx}{h:IF}{p:Hx×Jn}(hp:p∈iY fp h):p.1∈fp/\h.get? p.1=gV p.2:=by
 obtain⟨b,hb,e⟩:=M0.mp hp;cases q:h.get? b with
 | none=>rw[q]at e; cases e
 | some o=>
  rw[q]at e;have e':(b,o)=p:=IS e;subst e';exact#[hb,q]
theorem Inv.pinned {pins:Hm (Hx×Jn)}{σ:St}{H:Hp}{s:Hr}{fp:Hm Hx}(I:Inv X pins σ H s)(hf:∀b∈fp,iX X pins H b)(ho:∀b∈fp,∃o,s.heap.get? b=gV o/\∀v,o.data≠.cell v):Inv X (pins++iY fp s.heap) σ H s:=
 I.pins_of λp hp=>(Iz.mp hp).elim (λz=>I.pin p (Ik _ z)) λz=>by
  obtain⟨hb,e⟩:=tV z;obtain⟨f0,f1,f2,_⟩:=hf p.1 hb;obtain⟨o,e',d⟩:=ho p.1 hb;rw[e]at e'; cases e'
  exact#[e,f0,f1,f2,d]
theorem Inv.unpinned {pins pl:Hm (Hx×Jn)}{σ:St}{H:Hp}{s:Hr}(I:Inv X (pins++pl) σ H s):Inv X pins σ H s:=I.pins_of λp hp=>I.pin p (Ik _ (J2 _ hp))
theorem B4 {iter:HS}{body:Hm J8}{wi:TI}{g:TG}{tb:TS}{pos:JW}(hp:ME (model X.prog X.w) X.A X.env X.xe)(hc:X.calm=true)(hi:PI X tg iter wi)(hg:PG X tg g)(hb:PSs X body tb)
  (hs:∀x,foldedSetIterable iter X.env x=pure x:=by intro _; rfl):PS X (.For tg iter body [] pos) (F2 wi g tb):=by
 intro pins s σ H D I h;refine wpAny_For (cg (hi pins s σ H _ I h) λv s1 h1=>cg h1 λitv s2 h2=>?_) hs
 obtain⟨it,fp,tn,J,H2,e,I2,T,bf,f2,W,⟨m0,w0⟩,turn⟩:=h2;subst e;have stat:∀ {H':Hp},(∀b∈fp,H' b=td)->∀b∈fp,iX X pins H' b:=λhn b hb=>#[hn b hb,(f2 b hb).2]
 refine codeAny_forLoop_any (λn s'=>∃i σ' H',Inv X pins σ' H' s'/\tn i s'.heap/\(∀b∈fp,H' b=td)/\W i n σ' H') ?_ m0 #[0,σ,H2,I2,bf,λb hb=>(f2 b hb).1,w0]
 rintro n s3 ⟨i,σ3,H3,I3,st3,fr3,w3⟩;rcases turn i n σ3 H3 w3 with⟨stop,qn⟩|⟨go,N,hN,step⟩
 ·refine JZ hp (cg (T.done X rfl rfl rfl hc i pins s3 σ3 H3 X.xe I3 (stat fr3) st3 stop) λr s4 #[hr,I4]=>?_)
  subst hr;exact L7 #[σ3,H3,I4,qn]
 ·refine JZ hp (cg (T.item X rfl rfl rfl hc i pins s3 σ3 H3 X.xe I3 (stat fr3) st3 go) λr s4 #[u,hr,h4]=>?_)
  subst hr;refine JZ hp (cg h4 λ_ s5 #[x,H5,I5,r5,y5,st5,fr5]=>?_)
  have I5':=I5.pinned (stat fr5) (T.obj _ _ st5);refine JZ hp (cg (hg _ s5 σ3 H5 x u _ I5' r5 (step x H5 y5)) λ_ s6 #[σ6,H6,I6,q6]=>?_)
  refine JZ hp (cg (hb _ s6 σ6 H6 _ I6 q6) λf s7 q7=>?_)
  have again:∀ {σ7:St} {H7:Hp},Inv X (pins++iY fp s5.heap) σ7 H7 s7->N σ7 H7->∃m,m < n/\∃i σ' H',Inv X pins σ' H' s7/\tn i s7.heap/\(∀b∈fp,H' b=td)/\W i m σ' H':=λ{σ7 H7} I7 n7=>by
   obtain⟨m',hm,w7⟩:=hN σ7 H7 n7;refine#[m',hm,i+1,σ7,H7,I7.unpinned,T.keep _ _ _ st5 λb hb o e=>(I7.pin (b,o) (Ik _ (Ik _ (fA hb e)))).1,λb hb=>?_,w7]
   obtain⟨o,e,d⟩:=T.obj _ _ st5 b hb;exact(I7.pin (b,o) (Ik _ (Ik _ (fA hb e)))).2.1
  cases f with
  | next=>obtain⟨σ7,H7,I7,n7⟩:=q7; exact again I7 n7
  | cont=>obtain⟨σ7,H7,I7,n7⟩:=q7; exact again I7 n7
  | brk=>obtain⟨σ7,H7,I7,q7⟩:=q7; exact#[σ7,H7,I7.unpinned,q7]
  | ret v=>obtain⟨x7,σ7,H7,I7,r7,q7⟩:=q7; exact#[x7,σ7,H7,I7.unpinned,r7,q7]
end
theorem for_tup {K:HC}{a:Hx}{xs:Hm V}{g:TG}{tb:TS}{D:Ends}{σ:St}{H:Hp}(Pv:Hu->St->Hp->Prop)(h0:Pv 0 σ H)(hl:∀i σ H,i<=xs.length->Pv i σ H->SqT K H a xs)
  (hs:∀i x σ H,xs[i]?=gV x->Pv i σ H->g x σ H λσ2 H2=>tb { D with nx:=Pv (i+1),ct:=Pv (i+1),bk:=D.nx } σ2 H2) (hd:∀σ H,Pv xs.length σ H->D.nx σ H) :
  ∃W:Hu->Hu->St->Hp->Prop,(∃m,W 0 m σ H)/\∀i m σ H,W i m σ H->
   ((DA K a).stop i H/\D.nx σ H)\/((DA K a).go i H/\∃N:St->Hp->Prop,(∀σ' H',N σ' H'->∃m',m' < m/\W (i+1) m' σ' H')/\∀x H',(DA K a).yld i H x H'->g x σ H' λσ2 H2=>tb { D with nx:=N,ct:=N,bk:=D.nx } σ2 H2):=by
 refine#[λi m σ H=>m=xs.length - i/\i<=xs.length/\Pv i σ H,#[xs.length,by simp,J4 _,h0],?_]
 rintro i m σ H ⟨rfl,hi,p⟩;have q:=hl i σ H hi p
 by_cases hlt:i < xs.length
 ·refine .inr #[#[xs,xs[i],q,by simp[hlt]],Pv (i+1),λσ' H' p'=>#[xs.length - (i+1),∅,rfl,hlt,p'],λx H' y=>?_]
  obtain⟨e,y⟩:=y;subst e;exact hs i x σ _ (y xs q) p
 ·have e:i=xs.length:=∅
  subst e;exact .inl #[#[xs,q,HG _],hd σ H p]
noncomputable abbrev R2:=V->V->Hp->VK->Prop
noncomputable def OpR (X:Cx)(f:Ho->Ho->OX Ho)(r:R2):Prop:=
 ∀(pins:Hm (Hx×Jn)) (s:Hr) (σ:St) (H:Hp) (x y:V) (v u:Ho) (Q:VK),Inv X pins σ H s->RelV x v->RelV y u->r x y H Q->
  wpAny (model X.prog X.w) X.A (f v u) (EP X pins σ Q) X.xe s
noncomputable def F3 (X:Cx)(f:Ho->OX Ho)(r:V->Hp->VK->Prop):Prop:=
 ∀(pins:Hm (Hx×Jn)) (s:Hr) (σ:St) (H:Hp) (x:V) (v:Ho) (Q:VK),Inv X pins σ H s->RelV x v->r x H Q->
  wpAny (model X.prog X.w) X.A (f v) (EP X pins σ Q) X.xe s
noncomputable def CallR (X:Cx)(f:Ho)(r:Hm V->Hp->VK->Prop):Prop:=
 ∀(pins:Hm (Hx×Jn)) (s:Hr) (σ:St) (H:Hp) (xs:Hm V) (us:Hm Ho) (Q:VK),Inv X pins σ H s->Vals xs us->r xs H Q->
  wpAny (model X.prog X.w) X.A (call f us) (EP X pins σ Q) X.xe s
noncomputable def F4 (X:Cx)(r:V->Hp->(HV->Hp->Prop)->Prop):Prop:=
 ∀(pins:Hm (Hx×Jn)) (s:Hr) (σ:St) (H:Hp) (x:V) (v:Ho) (Q:HV->Hp->Prop),Inv X pins σ H s->RelV x v->r x H Q->
  wpAny (model X.prog X.w) X.A (truthy v) (TP X pins σ Q) X.xe s
noncomputable def Fv (r:R2)(ta tb:TE):TE:=λσ H Q=>ta σ H λx H1=>tb σ H1 λy H2=>r x y H2 Q
noncomputable def Hc (r:V->Hp->VK->Prop)(ta:TE):TE:=λσ H Q=>ta σ H λx H1=>r x H1 Q
noncomputable def rI (C:HF->HF->Prop)(g:HF->HF->V):R2:=λx y H Q=>∃i j,x=.int i/\y=.int j/\C i j/\Q (g i j) H
noncomputable def Bd (g:HF->HF->V):R2:=λx y H Q=>∃i j,x=.int i/\y=.int j/\Q (g i j) H
noncomputable def rU (g:HF->V):V->Hp->VK->Prop:=λx H Q=>∃i,x=.int i/\Q (g i) H
section
variable{X:Cx}{a b c:HS}{ta tb tc:TE}{pos:JW}
theorem B5 (ha:PE X a ta)(hb:PE X b tb){pins:Hm (Hx×Jn)}{s:Hr}{σ:St}{H:Hp}{R:V->V->Hp->Prop}(I:Inv X pins σ H s)
  (h:ta σ H λx H1=>tb σ H1 λy H2=>R x y H2) {Q:Ho->Hr->Prop} {f:Ho->Ho->OX Ho}
  (hf:∀v u s2 x y H2,Inv X pins σ H2 s2->RelV x v->RelV y u->R x y H2->wpAny (model X.prog X.w) X.A (f v u) Q X.xe s2) :
  wpAny (model X.prog X.w) X.A (eval a X.env) (λv s₁=>wpAny (model X.prog X.w) X.A (eval b X.env) (λu s₂=>wpAny (model X.prog X.w) X.A (f v u) Q X.xe s₂) X.xe s₁) X.xe s:=by
 refine cg (ha pins s σ H _ I h) λv s1 #[x,H1,I1,r1,q1]=>?_
 refine cg (hb pins s1 σ H1 _ I1 q1) λu s2 #[y,H2,I2,r2,q2]=>?_
 exact hf v u s2 x y H2 I2 r1 r2 q2
theorem DX {op:Nd}{r:R2}(ho:OpR X (binaryOp op) r)(ha:PE X a ta)(hb:PE X b tb):PE X (.BinOp a op b pos) (Fv r ta tb):=by
 intro pins s σ H Q I h;exact wpAny_BinOp (B5 ha hb I h λv u s2 x y H2 I2 rx ry q=>ho pins s2 σ H2 x y v u Q I2 rx ry q)
theorem DY {op:UnaryOp}{r:V->Hp->VK->Prop}(ho:F3 X (unaryOp op) r)(ha:PE X a ta):PE X (.UnaryOp op a pos) (Hc r ta):=by
 intro pins s σ H Q I h;exact UnaryOp_ (cg (ha pins s σ H _ I h) λv s1 #[x,H1,I1,r1,q1]=>ho pins s1 σ H1 x v Q I1 r1 q1)
theorem Fw {f:Ho->Ho->OX Ho}{C:HF->HF->Prop}{g:HF->HF->HF}
  (rule:∀(i j:HF) (t u:PL) (s:Hr) (Q:Ho->Hr->Prop) (E:Ho->Hr->Prop),C i j->Q (.int (g i j) s.toks) { s with toks:=s.toks+1 }->wpAny (model X.prog X.w) X.A (f (.int i t) (.int j u)) Q E s) :
  OpR X f (rI C λi j=>.int (g i j)):=by
 intro pins s σ H x y v u Q I rx ry h;obtain⟨i,j,rfl,rfl,hc,q⟩:=h;obtain⟨t,rfl⟩:=rx;obtain⟨t',rfl⟩:=ry;exact rule i j t t' s _ _ hc #[.int (g i j),H,I.tok _,#[_,rfl],q]
theorem DZ {f:Ho->Ho->OX Ho}{g:HF->HF->HF}
  (rule:∀(i j:HF) (t u:PL) (s:Hr) (Q:Ho->Hr->Prop) (E:Ho->Hr->Prop),Q (.int (g i j) s.toks) { s with toks:=s.toks+1 }->wpAny (model X.prog X.w) X.A (f (.int i t) (.int j u)) Q E s) :
  OpR X f (Bd λi j=>.int (g i j)):=by
 intro pins s σ H x y v u Q I rx ry h;obtain⟨i,j,rfl,rfl,q⟩:=h;obtain⟨t,rfl⟩:=rx;obtain⟨t',rfl⟩:=ry;exact rule i j t t' s _ _ #[.int (g i j),H,I.tok _,#[_,rfl],q]
theorem yF {f:Ho->Ho->OX Ho}{g:HF->HF->HV}
  (rule:∀(i j:HF) (t u:PL) (s:Hr) (Q:Ho->Hr->Prop) (E:Ho->Hr->Prop),Q (.bool (g i j)) s->wpAny (model X.prog X.w) X.A (f (.int i t) (.int j u)) Q E s) :
  OpR X f (Bd λi j=>.bl (g i j)):=by
 intro pins s σ H x y v u Q I rx ry h;obtain⟨i,j,rfl,rfl,q⟩:=h;obtain⟨t,rfl⟩:=rx;obtain⟨t',rfl⟩:=ry;exact rule i j t t' s _ _ #[.bl (g i j),H,I,rfl,q]
noncomputable def F5 (i j:HF):Prop:=0 < j/\j < 1073741824
noncomputable def F6 (i j:HF):Prop:=0<=j/\j<=1000000/\i.natAbs < 2 ^ 64
noncomputable def CMul (i j:HF):Prop:=(-(2 ^ 64) < i/\i < 2 ^ 64)\/(-(2 ^ 64) < j/\j < 2 ^ 64)
theorem CMul.ok {i j:HF}(h:CMul i j):IntMulOk i j:=by
 rcases h with⟨h1,h2⟩|⟨h1,h2⟩
 ·exact .of_left (Ot h1 h2)
 ·exact .of_right (Ot h1 h2)
theorem B6:OpR X (binaryOp .Add) (Bd λi j=>.int (i+j)):=DZ λ_ _ _ _ _ _ _ q=>add_int q
theorem B7:OpR X (binaryOp .Sub) (Bd λi j=>.int (i - j)):=DZ λ_ _ _ _ _ _ _ q=>sub_int q
theorem B8:OpR X (binaryOp .Mult) (rI CMul λi j=>.int (i*j)):=Fw λ_ _ _ _ _ _ _ hc q=>mul_int q hc.ok
theorem yG:OpR X (binaryOp .FloorDiv) (rI F5 λi j=>.int (i / j)):=Fw λi j _ _ _ _ _ hc q=>by
 have h1:(0:HF) < j:=hc.1;have h2:j < 1073741824:=hc.2;exact floordiv_int ∅ (by rw[Int.fdiv_eq_ediv_of_nonneg i ∅]; exact q) (.inl (PyProof.noPylong_small ∅))
theorem B9:OpR X (binaryOp .Mod) (rI (λ_ j=>0 < j) λi j=>.int (i % j)):=Fw λi j _ _ _ _ _ hc q=>by
 have h1:(0:HF) < j:=hc;exact mod_int' ∅ (by rw[Int.fmod_eq_emod_of_nonneg i ∅]; exact q)
theorem Cb:OpR X (binaryOp .Pow) (rI F6 λi j=>.int (i ^ j.toNat)):=Fw λ_ _ _ _ _ _ _ hc q=>pow_int_small hc.1 hc.2.1 hc.2.2 q
theorem Hd {f:Ho->OX Ho}{g:HF->HF}
  (rule:∀(i:HF) (t:PL) (s:Hr) (Q:Ho->Hr->Prop) (E:Ho->Hr->Prop),Q (.int (g i) s.toks) { s with toks:=s.toks+1 }->wpAny (model X.prog X.w) X.A (f (.int i t)) Q E s) :
  F3 X f (rU λi=>.int (g i)):=by
 intro pins s σ H x v Q I rx h;obtain⟨i,rfl,q⟩:=h;obtain⟨t,rfl⟩:=rx;exact rule i t s _ _ #[.int (g i),H,I.tok _,#[_,rfl],q]
theorem Cc:F3 X (unaryOp .USub) (rU λi=>.int (-i)):=Hd λ_ _ _ _ _ q=>neg_int q
end
section
variable{X:Cx}{a b c:HS}{ta tb tc:TE}{pos:JW}
theorem vt {pins:Hm (Hx×Jn)}{σ:St}{H:Hp}{s:Hr}{Q:VK}{k k':HV}(I:Inv X pins σ H s)(q:Q (.bl k) H)(e:k=k'):EP X pins σ Q (.bool k') s:=by
 subst e;exact#[.bl k,H,I,rfl,q]
theorem D0:OpR X (compareOp .Lt) (Bd λi j=>.bl (decide (i < j))):=yF λ_ _ _ _ _ _ _ q=>lt_int q
theorem D2:OpR X (compareOp .LtE) (Bd λi j=>.bl (decide (i<=j))):=yF λ_ _ _ _ _ _ _ q=>le_int q
theorem D6:OpR X (compareOp .Gt) (Bd λi j=>.bl (decide (j < i))):=yF λ_ _ _ _ _ _ _ q=>gt_int q
theorem D8:OpR X (compareOp .GtE) (Bd λi j=>.bl (decide (j<=i))):=yF λ_ _ _ _ _ _ _ q=>ge_int q
theorem Cd:OpR X (compareOp .Is) (λx y H Q=>y=.non/\Q (.bl (decide (x=.non))) H):=by
 intro pins s σ H x y v u Q I rx ry h;obtain⟨rfl,q⟩:=h;cases ry;refine is_none_gen (vt I q ?_);cases x <;> first
  | (cases rx; rfl)
  | (obtain⟨t,rfl⟩:=rx; rfl)
theorem yH:OpR X (compareOp .IsNot) (λx y H Q=>y=.non/\Q (.bl (!decide (x=.non))) H):=by
 intro pins s σ H x y v u Q I rx ry h;obtain⟨rfl,q⟩:=h;cases ry;refine isnot_none_gen (vt I q ?_);cases x <;> first
  | (cases rx; rfl)
  | (obtain⟨t,rfl⟩:=rx; rfl)
theorem yI {op:OI}{r:R2}(ho:OpR X (compareOp op) r)(ha:PE X a ta)(hb:PE X b tb)(hm:behindInMarks op b=false):PE X (.Compare a [op] [b] pos) (Fv r ta tb):=by
 intro pins s σ H Q I h;exact wpAny_Compare1 (B5 ha hb I h λv u s2 x y H2 I2 rx ry q=>ho pins s2 σ H2 x y v u Q I2 rx ry q) hm
noncomputable def Ea (t:TE):TT:=λσ H Q=>t σ H λx H'=>∃k,x=.bl k/\Q k H'
theorem yJ {op:OI}{r:R2}(ho:OpR X (compareOp op) r)(ha:PE X a ta)(hb:PE X b tb)(hm:behindInMarks op b=false):PT X (.Compare a [op] [b] pos) (Ea (Fv r ta tb)):=by
 intro pins s σ H Q I h;refine wpAny_isTrue_Compare1 (cg (ha pins s σ H _ I h) λv s1 #[x,H1,I1,r1,q1]=>cg (hb pins s1 σ H1 _ I1 q1) λu s2 #[y,H2,I2,r2,q2]=>
  cg (ho pins s2 σ H2 x y v u _ I2 r1 r2 q2) λc s3 #[z,H3,I3,r3,k,e,q3]=>?_) hm
 subst e;cases r3;exact JI #[H3,I3,q3]
noncomputable def F7 (K:HC)(x:V)(H:Hp)(k:HV):Prop:=
 match x with
 | .non=>k=false
 | .bl b=>k=b
 | .int i=>k=(i != 0)
 | .str y=>y.length<=sizeLine/\k=((y.length:HF) != 0)
 | .byt y=>y.size<=sizeLine/\k=((y.size:HF) != 0)
 | .ref p=>(∃xs,SqL K H p xs/\k = !xs.isEmpty)\/(∃xs,SqT K H p xs/\k = !xs.isEmpty)\/∃kvs,H p=gV (.dK kvs)/\k = !kvs.isEmpty
 | _=>IW
theorem qW {κ:Type}{kvs:Hm (κ×V)}{vs:Hm (κ×Ho)}(r:KV kvs vs):(!vs.isEmpty) = !kvs.isEmpty:=by
 cases r <;> rfl
theorem kh {xs:Hm V}{its:Hm Ho}(r:Vals xs its):(!its.toArray.isEmpty) = !xs.isEmpty:=by
 cases r <;> simp
theorem iZ:(sizeLine:Hu) < 2 ^ 63:=by rw[IH]; decide
theorem Ce:F4 X (λx H Q=>∃k,F7 X.K x H k/\Q k H):=by
 intro pins s σ H x v Q I rx h;obtain⟨k,e,q⟩:=h;have hl:=iZ;have hs:sizeLine=16777216:=IH;cases x with
 | non=>
  cases rx;have e':k=false:=e;subst e';exact truthy_none #[H,I,q]
 | bl b=>
  cases rx;have e':k=b:=e;subst e';exact JI #[H,I,q]
 | int i=>
  obtain⟨t,rfl⟩:=rx;have e':k=(i != 0):=e;subst e';exact PySem.P.truthy_int #[H,I,q]
 | str y=>
  obtain⟨t,rfl⟩:=rx;obtain⟨hy,e'⟩ : y.length<=sizeLine/\k=((y.length:HF) != 0):=e;subst e';exact PySem.P.truthy_str ∅ #[H,I.tok _,q]
 | byt y=>
  obtain⟨t,rfl⟩:=rx;obtain⟨hy,e'⟩ : y.size<=sizeLine/\k=((y.size:HF) != 0):=e;subst e';exact PySem.W.truthy_bytes ∅ #[H,I.tok _,q]
 | ref p=>
  cases rx;have e':(∃xs,SqL X.K H p xs/\k = !xs.isEmpty)\/(∃xs,SqT X.K H p xs/\k = !xs.isEmpty)\/∃kvs,H p=gV (.dK kvs)/\k = !kvs.isEmpty:=e;rcases e' with⟨xs,hx,e'⟩|⟨xs,hx,e'⟩|⟨kvs,hx,e'⟩
  ·subst e';obtain⟨its,r,pl,hz⟩:=I.list hx;have hlen:=r.length;exact wpAny_truthy_list pl.isList (by simp only[HH]; omega) #[H,I.tok _,by rw[kh r]; exact q]
  ·subst e';obtain⟨its,r,pl,hz⟩:=I.tuple hx;have hlen:=r.length;exact truthy_tuple pl (by simp only[HH]; omega) #[H,I.tok _,by rw[kh r]; exact q]
  ·subst e';obtain⟨hz,hS,vs,r,m⟩ : kvs.length<=sizeLine/\(p==sysModules)=false/\∃vs,KV kvs vs/\s.heap.DictOf (nq X.prog X.w) p vs:=I.hok p _ hx;have hlen:kvs.length=vs.length:=LJ r;exact wpAny_truthy_dict hS m ∅ #[H,I.tok _,by rw[qW r]; exact q]
 | _=>exact(show IW from e).elim
theorem qX:OpR X (binaryOp .Add) (λx y H Q=>∃i j,x=.str i/\y=.str j/\i.length+j.length<=sizeLine/\Q (.str (i++j)) H):=by
 intro pins s σ H x y v u Q I rx ry h;obtain⟨i,j,rfl,rfl,hz,q⟩:=h;obtain⟨t,rfl⟩:=rx;obtain⟨t',rfl⟩:=ry;exact add_str (λt' tk=>#[.str (i++j),H,I.tok _,#[_,rfl],q]) hz
theorem mn {x:V}{us:Hm Ho}(r:Vals [x] us):∃u,us=[u]/\RelV x u:=by
 cases r with
 | cons r1 r2=>cases r2; exact#[_,rfl,r1]
theorem mo:CallR X (.type "int") (λxs H Q=>(∃i,xs=[.int i]/\Q (.int i) H)\/∃k,xs=[.bl k]/\Q (.int (if k then 1 else 0)) H):=by
 intro pins s σ H xs us Q I r h;rcases h with⟨i,rfl,q⟩|⟨k,rfl,q⟩
 ·obtain⟨u,rfl,t,rfl⟩:=mn r;exact call_int_int #[.int i,H,I,#[_,rfl],q]
 ·obtain⟨u,rfl,r1⟩:=mn r;cases r1;exact call_int_bool #[.int (if k then 1 else 0),H,I.tok _,#[_,rfl],q]
noncomputable def F8 (K:HC)(x:V)(H:Hp)(n:Hu):Prop:=
 match x with
 | .str y=>y.length<=sizeLine/\n=y.length
 | .byt y=>y.size<=sizeLine/\n=y.size
 | .ref p=>(∃xs,SqL K H p xs/\n=xs.length)\/∃xs,SqT K H p xs/\n=xs.length
 | _=>IW
theorem ki:CallR X (.builtin "len") (λxs H Q=>∃x n,xs=[x]/\F8 X.K x H n/\Q (.int n) H):=by
 intro pins s σ H xs us Q I r h;obtain⟨x,n,rfl,e,q⟩:=h;obtain⟨u,rfl,rx⟩:=mn r;have hl:=iZ;have hs:sizeLine=16777216:=IH;cases x with
 | str y=>
  obtain⟨t,rfl⟩:=rx;obtain⟨hy,e'⟩ : y.length<=sizeLine/\n=y.length:=e;subst e';exact len_str ∅ #[.int _,H,I.tok _,#[_,rfl],q]
 | byt y=>
  obtain⟨t,rfl⟩:=rx;obtain⟨hy,e'⟩ : y.size<=sizeLine/\n=y.size:=e;subst e';exact PySem.W.len_bytes ∅ #[.int _,H,I.tok _,#[_,rfl],q]
 | ref p=>
  cases rx;have e':(∃xs,SqL X.K H p xs/\n=xs.length)\/∃xs,SqT X.K H p xs/\n=xs.length:=e;rcases e' with⟨xs,hx,e'⟩|⟨xs,hx,e'⟩
  ·subst e';obtain⟨its,r',pl,hz⟩:=I.list hx;have hlen:=r'.length;exact Calls.call_len_list pl.isList (by simp only[HH]; omega) #[.int xs.length,H,I.tok _,#[_,by simp only[HH]; rw[hlen]],q]
  ·subst e';obtain⟨its,r',pl,hz⟩:=I.tuple hx;have hlen:=r'.length;exact len_tuple pl (by simp only[HH]; omega) #[.int xs.length,H,I.tok _,#[_,by simp only[HH]; rw[hlen]],q]
 | _=>exact(show IW from e).elim
end
structure Room (k:Hu)(A:Iu):Prop where
 hd:A.handled=td
 dp:A.depth+3*k+5 < recursionLimit
 un:A.units+16*k+200 < cLine
theorem Room.deeper {k:Hu}{A:Iu}(r:Room (k+1) A)(env:Na):Room k (A.deeper env):=
 #[r.hd,by have:=r.dp; show A.depth+1+3*k+5 < _; omega,by have:=r.un; show A.units+3+16*k+200 < _; omega]
theorem Room.depth {k:Hu}{A:Iu}(r:Room k A):A.depth < recursionLimit:=by have:=r.dp; omega
noncomputable def Eb:TA:=λ_ H Q=>Q [] H
noncomputable def Ec (ta:TE)(tr:TA):TA:=λσ H Q=>ta σ H λx H1=>tr σ H1 λxs H2=>Q (x::xs) H2
section
variable{X:Cx}{e:HS}{es:Hm HS}{te:TE}{t:TA}{pos:JW}
theorem vw:PA X [] Eb:=λ_ _ _ _ H Q I h=>Calls.spliced_nil #[[],H,I,.nil,h]
theorem nu (ha:PE X e te)(hr:PA X es t)(hs:starEach (e::es) X.env=(false,eval e X.env)::starEach es X.env:=by rfl):PA X (e::es) (Ec te t):=by
 intro pos pins s σ H Q I h;rw[hs];show wpAny _ _ (spliced ((false,eval e X.env)::backTo pos (starEach es X.env))) _ _ s;refine Calls.spliced_cons (cg (ha pins s σ H _ I h) λu s1 #[x,H1,I1,r1,q1]=>?_)
 exact cg (hr pos pins s1 σ H1 _ I1 q1) λus s2 #[xs,H2,I2,r2,q2]=>#[x::xs,H2,I2,.cons r1 r2,q2]
noncomputable def F9 (t:TA):TE:=λσ H Q=>t σ H λxs H1=>xs.length<=sizeLine/\∀p,H1 p=td->Q (.ref p) (cv H1 p (.tup xs))
noncomputable def Ga (t:TA):TE:=λσ H Q=>t σ H λxs H1=>xs.length<=sizeLine/\∀p,H1 p=td->Q (.ref p) (cv H1 p (.lst xs))
theorem Cf {x1}(h:PA X es t):PE X (.Tuple es x1 pos) (F9 t):=by
 intro pins s σ H Q I hq;refine wpAny_Tuple_spliced (cg (h pos pins s σ H _ I hq) λus s1 #[xs,H1,I1,r,z,q]=>#[by rw[<- r.length]; exact z,?_])
 have hf:H1 s1.heap.objs.size=td:=I1.hok.fresh (HG _);refine#[.ref s1.heap.objs.size,cv H1 s1.heap.objs.size (.tup xs),I1.laid (t':=s1.toks) (λb u e=>Hv _ e) (HG _) ?_,rfl,q _ hf]
 exact#[z,us,r,#[_,HQ _ rfl,rfl,_,rfl]]
theorem Cg (h:PA X es t):PE X (.List es pos) (Ga t):=by
 intro pins s σ H Q I hq;refine wpAny_List_spliced (cg (h pos pins s σ H _ I hq) λus s1 #[xs,H1,I1,r,z,q]=>#[by rw[<- r.length]; exact z,?_])
 have hf:H1 s1.heap.objs.size=td:=I1.hok.fresh (HG _);refine#[.ref s1.heap.objs.size,cv H1 s1.heap.objs.size (.lst xs),I1.laid (t':=s1.toks) (λb u e=>Hv _ e) (HG _) ?_,rfl,q _ hf]
 exact#[z,us,0,r,HQ _ rfl]
end
noncomputable abbrev Sp:=Hm V->Hp->VK->XK->Prop
noncomputable abbrev vx:=Hm Na->Hp->Hr->XK->Ho->Hr->Prop
structure Env0 (P:HZ)(w:Iw)(K:HC)(mg:HL->Ht Ho)(base:IF)(A:Iu)(outer:Hm Na)(s:Hr)(H:Hp):Prop where
 frames:A.frames=gV outer
 mod:Mod K mg base
 bs:∀b o,base.get? b=gV o->s.heap.get? b=gV o/\H b=td
 bsz:base.objs.size<=s.heap.objs.size
 funs:s.heap.FunFrames base outer
 frf:∀b∈qT outer,H b=td
 hok:HOk P w H s.heap
 bare:LD s.gens
noncomputable def CE (outer:Hm Na)(P:HZ)(w:Iw)(H:Hp)(s:Hr)(Q:VK)(u:Ho)(s':Hr):Prop:=
 ∃v H',s'.os=s.os/\LD s'.gens/\Un (qT outer) [] H H' s.heap s'.heap/\HOk P w H' s'.heap/\RelV v u/\Q v H'
noncomputable def CR (CX:vx)(outer:Hm Na)(P:HZ)(w:Iw)(H:Hp)(s:Hr)(Q:VK)(E:XK)(r:Nz)(s':Hr):Prop:=
 match r with
 | .ok (.ret u)=>CE outer P w H s Q u s'
 | .ok _=>IW
 | .error e=>CX outer H s E e s'
structure FnOk (P:HZ)(w:Iw)(K:HC)(mg:HL->Ht Ho)(base:IF)(CX:vx)(k:Hu)(f:Hx)(fd:JU)(ps:Hm HL)(sp:Sp):Prop where
 len:∀vs H Q E,sp vs H Q E->vs.length=ps.length
 run:∀(A:Iu) (outer:Hm Na) (s:Hr) (H:Hp) (args:Args) (us:Hm Ho) (vs:Hm V) (Q:VK) (E:XK),Room k A->Env0 P w K mg base A outer s H->Nf s fd args (ps.zip us)->Vals vs us->sp vs H Q E->
  codeAny (model P w) A (.call (.ref f) args) (CR CX outer P w H s Q E) s
section
variable{X:Cx}{pins:Hm (Hx×Jn)}{σ:St}{H:Hp}{s s':Hr}
theorem Inv.env0 (I:Inv X pins σ H s):Env0 X.prog X.w X.K X.mg X.base X.A X.stack s H:=
 #[I.ok.frames,I.ok.mod,I.bs,IE I.ok.bsz I.sz,I.stack,I.stkFree,I.hok,I.bare]
theorem Inv.after {Q:VK}{u:Ho}(I:Inv X pins σ H s)(h:CE X.stack X.prog X.w H s Q u s'):EP X pins σ Q u s':=by
 obtain⟨v,H',os,bare,un,hok,r,q⟩:=h;obtain⟨hh,g,d,t,os'⟩:=s';obtain rfl:os'=s.os:=os;exact#[v,H',I.call (h':=hh) (g':=g) (d':=d) (t':=t) (ch:=[]) un hok bare (λb z=>absurd z (by simp)),r,q]
end
noncomputable def vy (sp:Sp)(dvs:Hm V)(E:XK)(t:TA):TE:=λσ H Q=>t σ H λvs H1=>sp (vs++dvs) H1 Q E
noncomputable def Binds (K:HC)(fd:JU)(ps:Hm HL)(ds:Hm Ho):Prop:=
 ∀(s:Hr) (us:Hm Ho),K.In s.heap->(us++ds).length=ps.length->Nf s fd #[us,[]] (ps.zip (us++ds))
theorem Binds.all {K:HC}{fd:JU}{ps:Hm HL}(h:∀us:Hm Ho,us.length=ps.length->bindArgs fd #[us,[]]=pure (ps.zip us)):Binds K fd ps []:=λs us _ hl=>by
 rw[IZ]at hl ⊢;exact .of_eq (h us hl)
noncomputable def nv (CX:vx)(X:Cx)(E:XK):Prop:=∀(pins:Hm (Hx×Jn)) (σ:St) (H:Hp) (s:Hr) (e:Ho) (s':Hr),Inv X pins σ H s->CX X.stack H s E e s'->X.xe e s'
section
variable{X:Cx}{CX:vx}{k:Hu}{f C:Hx}{fd:JU}{ps:Hm HL}{sp:Sp}{dvs:Hm V}{ds:Hm Ho}{E:XK}{x m:HL}{p pos apos:JW}{e o:HS}{es:Hm HS}{ta:TE}{t:TA}
theorem vz {pins:Hm (Hx×Jn)}{σ:St}{H:Hp}{s:Hr}{Q:VK}{us:Hm Ho}{vs:Hm V}(F:FnOk X.prog X.w X.K X.mg X.base CX k f fd ps sp)(hr:Room k X.A)(hb:Binds X.K fd ps ds)(hd:Vals dvs ds)(hx:nv CX X E)
  (I:Inv X pins σ H s) (r:Vals vs us) (h:sp (vs++dvs) H Q E):wpAny (model X.prog X.w) X.A (call (.ref f) us) (EP X pins σ Q) X.xe s:=by
 have r2:Vals (vs++dvs) (us++ds):=r.append hd;have hl:(us++ds).length=ps.length:=by rw[<- r2.length]; exact F.len _ _ _ _ h
 refine wpAny_call (LY (F.run X.A X.stack s H #[us,[]] (us++ds) (vs++dvs) Q E hr I.env0 (hb s us I.kIn hl) r2 h) λr s' hq=>?_)
 cases r with
 | error e=>exact hx pins σ H s e s' I hq
 | ok fl=>
  cases fl with
  | ret u=>exact I.after hq
  | next=>exact IW.elim hq
  | brk=>exact IW.elim hq
  | cont=>exact IW.elim hq
theorem yK (F:FnOk X.prog X.w X.K X.mg X.base CX k f fd ps sp)(hr:Room k X.A)(hg:Gl X x)(hm:X.mg x=gV (.ref f))(hk:Jd X.K (.ref f)=true)(hb:Binds X.K fd ps ds)(hd:Vals dvs ds)(hx:nv CX X E)
  (ha:PA X (e::es) t) (hdb:(x==("__debug__" : HL))=false:=by decide) (he:starEach (e::es) X.env=(false,eval e X.env)::starEach es X.env:=by rfl) (hpl:(backTo pos (starEach es X.env)).any (·.1)=false:=by rfl) :
  PE X (.Call (.Name x p) (e::es) [] pos) (vy sp dvs E t):=by
 intro pins s σ H Q I h;refine KM (r6 I hg hm ?_ hdb);refine PySem.W.callWith_K (h₀:=X.base) I.ok.mod.kin hk (cg (ha pos pins s σ H _ I h) λus s1 #[vs,H1,I1,r,q]=>#[I1.kIn,?_]) he hpl
 exact vz F hr hb hd hx I1 r q
theorem vA (F:FnOk X.prog X.w X.K X.mg X.base CX k f fd ps sp)(hr:Room k X.A)(hg:Gl X x)(hm:X.mg x=gV (.ref f))(hk:Jd X.K (.ref f)=true)(hb:Binds X.K fd ps ds)(hd:Vals dvs ds)(hx:nv CX X E)
  (hdb:(x==("__debug__" : HL))=false:=by decide):PE X (.Call (.Name x p) [] [] pos) (vy sp dvs E Eb):=by
 intro pins s σ H Q I h;refine KM (r6 I hg hm ?_ hdb);exact PySem.W.callWith_K0 I.kIn hk (vz (us:=[]) F hr hb hd hx I .nil h)
end
structure FnScope (N P:Hm HL)(sc:Kl):Prop where
 kind:sc.kind=.function
 co:sc.isCoroutine=false
 gen:sc.isGenerator=false
 nd:N.Nodup
 pre:N.take P.length=P
 par:∀x∈P,sc.names.lookup x=gV .local\/sc.names.lookup x=gV .cell
 nofree:∀y∈sc.names,y.2≠.free
theorem mq {kindOf:HL->Ht Jx}{x:HL}:∀ {binds:Hm (HL×Ho)} {m:HL->Ht Ho},(∀v,(x,v)∉binds)->bindL kindOf binds m x=m x
 | [],_,_=>rfl
 | (n,v)::r,m,h=>by
  unfold bindL;rw[mq λw hw=>h w (IU _ hw)]
  split
  ·have:x≠n:=by rintro rfl; exact h v Jv
   simp[this]
  ·rfl
theorem mr {kindOf:HL->Ht Jx}{x:HL}:∀ {binds:Hm (HL×Ho)} {m:HL->Ht Ho},(∀v,(x,v)∉binds)->bindC kindOf binds m x=m x
 | [],_,_=>rfl
 | (n,v)::r,m,h=>by
  unfold bindC;rw[mr λw hw=>h w (IU _ hw)]
  split
  ·rfl
  ·have:x≠n:=by rintro rfl; exact h v Jv
   simp[this]
theorem mv {kindOf:HL->Ht Jx}{x:HL}{v:Ho}:∀ {P:Hm HL} {vs:Hm Ho} {i:Hu} {m:HL->Ht Ho},P.Nodup->P[i]?=gV x->vs[i]?=gV v->kindOf x=gV .local->
  bindL kindOf (P.zip vs) m x=gV v
 | [],_,_,_,_,h,_,_=>by simp at h
 | _::_,[],_,_,_,_,h,_=>by simp at h
 | p::P,w::vs,0,m,nd,h1,h2,hk=>by
  simp at h1 h2; subst h1; subst h2
  show bindL kindOf ((p,w)::P.zip vs) m p=_;unfold bindL;rw[mq λv hv=>(KL.mp nd).1 (L8 hv).1,HW hk]
  simp
 | p::P,w::vs,i+1,m,nd,h1,h2,hk=>by
  show bindL kindOf ((p,w)::P.zip vs) m x=_;unfold bindL;exact mv (i:=i) (KL.mp nd).2 (by simpa using h1) (by simpa using h2) hk
theorem mw {kindOf:HL->Ht Jx}{x:HL}{v:Ho}:∀ {P:Hm HL} {vs:Hm Ho} {i:Hu} {m:HL->Ht Ho},P.Nodup->P[i]?=gV x->vs[i]?=gV v->kindOf x≠gV .local->
  bindC kindOf (P.zip vs) m x=gV v
 | [],_,_,_,_,h,_,_=>by simp at h
 | _::_,[],_,_,_,_,h,_=>by simp at h
 | p::P,w::vs,0,m,nd,h1,h2,hk=>by
  simp at h1 h2; subst h1; subst h2
  show bindC kindOf ((p,w)::P.zip vs) m p=_;unfold bindC;rw[mr λv hv=>(KL.mp nd).1 (L8 hv).1,Ix hk]
  simp
 | p::P,w::vs,i+1,m,nd,h1,h2,hk=>by
  show bindC kindOf ((p,w)::P.zip vs) m x=_;unfold bindC;exact mw (i:=i) (KL.mp nd).2 (by simpa using h1) (by simpa using h2) hk
noncomputable def fS (N:Hm HL)(vs:Hm V):St:=vs.map gV++HY (N.length - vs.length) td
noncomputable def qY (CX:vx)(P:HZ)(w:Iw)(K:HC)(mg:HL->Ht Ho)(base:IF)(N:Hm HL)(qual:HL)(scope:Kl)(f:Hx)(cd:Ho)(A:Iu)(outer:Hm Na)(s:Hr)(H:Hp)(E:XK):Cx where
 prog:=P
 w:=w
 K:=K
 mg:=mg
 base:=base
 A:=A.deeper (envOfC qual scope s.heap.objs.size f cd)
 N:=N
 s₀:=s
 H₀:=H
 env:=envOfC qual scope s.heap.objs.size f cd
 outer:=outer
 stack:=envOfC qual scope s.heap.objs.size f cd::outer
 ex:=[]
 calm:=true
 fn:=λ_=>true
 pn:=[]
 xe:=λe s'=>wpAny (model P w) (A.deeper (envOfC qual scope s.heap.objs.size f cd)) (leaving (envOfC qual scope s.heap.objs.size f cd) e) (λ_ s''=>CX outer H s E e s'') (λe' s''=>CX outer H s E e' s'') s'
theorem pd {sc:Kl}{n:Hu}{x:HL}(h:sc.names.lookup x=gV .cell):∃c,(cellsFrom n sc.names []).lookup x=gV c:=by
 have q:=LZ sc.names n [] (.inl h);exact IM.mp q
theorem tW {CX:vx}{P:HZ}{w:Iw}{K:HC}{mg:HL->Ht Ho}{base:IF}{N ps:Hm HL}{qual:HL}{scope:Kl}{f:Hx}{cd:Ho}{A:Iu}{outer:Hm Na}{s s1:Hr}{H:Hp}{E:XK}{us:Hm Ho}{vs:Hm V}
  (S:FnScope N ps scope) (hd:A.handled=td) (e0:Env0 P w K mg base A outer s H) (hl:vs.length=ps.length) (r:Vals vs us)
  (x:InCallC s s.heap.objs.size (bindL (envOfC qual scope s.heap.objs.size f cd).kindOf (ps.zip us) λ_=>td) (cellsFrom (s.heap.objs.size+1) scope.names []) (bindC (envOfC qual scope s.heap.objs.size f cd).kindOf (ps.zip us) λ_=>td) s1) :
  Inv (qY CX P w K mg base N qual scope f cd A outer s H E) [] (fS N vs) H s1:=by
 have hpl:ps.length<=N.length:=by have:=congrArg OZ S.pre; rw[Il]at this; omega
 obtain⟨h1,tk,rfl,hk⟩:=x.done;have noA:∀b:Hx,b∉(qY CX P w K mg base N qual scope f cd A outer s H E).ex:=λb z=>absurd (show b∈([]:Hm Hx)from z) (by simp)
 refine#[#[e0.mod,S.kind,rfl,rfl,HG _,λy z c h1 h2=>?_,λy hy=>?_,λy c _ h=>?_,λ_=>hd,Around.frames_deeper e0.frames,.inr #[rfl,rfl],λb z=>absurd z (noA b),e0.bs,e0.bsz,λb _ _=>noA b,λb z=>absurd z (noA b),e0.funs,e0.frf],
  rfl,e0.bare,Un.kept hk,#[_,x.toInCall.ns,λi y v h1 h2 h3=>?_],λy c h=>#[_,x.cell y c h],e0.hok.fresh (HG _),λy c h=>?_,λp hp=>absurd (show p∈([]:Hm (Hx×Jn))from hp) (by simp),e0.hok.kept hk,?_]
 ·exact name_of_addr x.apart (Kc h1) (Kc h2)
 ·have hy:scope.names.lookup y=gV .cell\/scope.names.lookup y=gV .free:=hy;rcases hy with hy|hy
  ·exact pd hy
  ·exact absurd rfl (S.nofree _ (Kc hy))
 ·exact KT (x.above y c (Kc h))
 ·have hi:i < vs.length:=by
   unfold fS at h2
   by_cases hi:i < vs.length
   ·exact hi
   ·rw[Je (by simpa using hi)]at h2
    rw[List.getElem?_replicate]at h2;split at h2 <;> cases h2
  have ha:vs[i]?=gV v:=by
   unfold fS at h2;rw[Im (by simpa using hi),Hy]at h2
   cases e:vs[i]? with
   | none=>rw[e]at h2; cases h2
   | some a=>rw[e]at h2; cases h2; rfl
  obtain⟨u,hu,rv⟩:=r.get ha;have hp:ps[i]?=gV y:=by
   rw[<- S.pre,List.getElem?_take_of_lt ∅]; exact h1
  have ndP:ps.Nodup:=by rw[<- S.pre]; exact S.nd.sublist (LF _ _)
  refine#[u,rv,?_];rcases S.par y (HR hp)with k|k
  ·exact .inl #[k,mv ndP hp hu k]
  ·obtain⟨c,e⟩:=pd (n:=s.heap.objs.size+1) k;refine .inr #[.inl k,c,e,?_];have q:=x.cell y c e;rw[mw ndP hp hu (by show scope.names.lookup y≠_; rw[k]; decide)]at q
   exact q
 ·exact e0.hok.fresh (KT (x.above y c (Kc h)))
 ·unfold fS;show _=N.length;rw[HA,Hq,Mj];omega
theorem Ed {CX:vx}{P:HZ}{w:Iw}{K:HC}{mg:HL->Ht Ho}{base:IF}{k:Hu}{f:Hx}{name qual:HL}{params:Arguments}{body:Hm J8}{scope:Kl}{dV kV doc pm cdv ct oc:Ho}{an od:Ht Hx}
  {osl:IC (Ht Ho)} {N ps:Hm HL} {sp:Sp} (lk:K.lookup f=gV #[oc,od,.func (JF name qual params body scope dV kV doc pm an cdv ct),osl]) (hcd:Kr K cdv qual=true) (S:FnScope N ps scope)
  (len:∀vs H Q E,sp vs H Q E->vs.length=ps.length)
  (hbody:∀(A:Iu) (outer:Hm Na) (s:Hr) (H:Hp) (vs:Hm V) (Q:VK) (E:XK),Room k (A.deeper (envOfC qual scope s.heap.objs.size f cdv))->sp vs H Q E->
   ∃t,PSs (qY CX P w K mg base N qual scope f cdv A outer s H E) body t/\t { nx:=λ_ H'=>Q .non H',rt:=Q } (fS N vs) H) :
  FnOk P w K mg base CX (k+1) f (JF name qual params body scope dV kV doc pm an cdv ct) ps sp:=by
 refine#[len,λA outer s H args us vs Q E hr e0 hb r hsp=>?_]
 have hl:=len _ _ _ _ hsp;have KX:K.In s.heap:=e0.mod.kin.keeps λb o e=>(e0.bs b o e).1
 have lim:s.heap.NoLimit:=e0.mod.nolimit.keeps λb o e=>(e0.bs b o e).1
 have hkind:∀y∈ps.zip us,scope.names.lookup y.1=gV .local\/(scope.names.lookup y.1=gV .cell/\((cellsFrom (s.heap.objs.size+1) scope.names []).lookup y.1).isSome=true):=λ#[n,v] hy=>by
  rcases S.par n (L8 hy).1 with q|q
  ·exact .inl q
  ·exact .inr #[q,LZ _ _ _ (.inl q)]
 refine codeAny_call_function hr.depth (KX _ _ lk) rfl S.co S.gen rfl (PySem.W.codeRec_of KX hcd) (hb _ _ _ _ ?_);refine wpAny_newFunctionEnv_cells S.kind hkind λenv he s1 x=>?_
 subst he;refine#[lim.keeps x.toInCall.keep,codeAny_func ?_];obtain⟨t,ht,hq⟩:=hbody A outer s H vs Q E (hr.deeper _) hsp;have I:Inv (qY CX P w K mg base N qual scope f cdv A outer s H E) [] (fS N vs) H s1:=tW S hr.hd e0 hl r x;refine Jz (ht [] s1 (fS N vs) H _ I hq) (λfl s' hs=>?_) λe s' hs=>hs
 have fin:∀ {σ':St} {H':Hp} {v:V} {u:Ho},Inv (qY CX P w K mg base N qual scope f cdv A outer s H E) [] σ' H' s'->RelV v u->Q v H'->CE outer P w H s Q u s':=
  λ{σ' H' v u} J rv q=>#[v,H',J.os,J.bare,J.base,J.hok,rv,q]
 cases fl with
 | ret u=>
  obtain⟨v,σ',H',J,rv,q⟩:=hs;exact fin J rv q
 | next=>
  obtain⟨σ',H',J,q⟩:=hs;exact fin (v:=V.non) (u:=IK) J rfl q
 | brk=>
  obtain⟨_,_,_,q⟩:=hs;exact IW.elim q
 | cont=>
  obtain⟨_,_,_,q⟩:=hs;exact IW.elim q
section
variable{X:Cx}{x:HL}{p pos:JW}{e:HS}{es:Hm HS}{t:TA}{id T:IX}{r:Hm V->Hp->VK->Prop}
noncomputable def G2 (r:Hm V->Hp->VK->Prop)(t:TA):TE:=λσ H Q=>t σ H λvs H1=>r vs H1 Q
theorem pe (hc:CallR X (.builtin id) r)(hg:Gl X x)(hm:X.mg x=td)(hv:bootBuiltins x=gV (.builtin id))(ha:PA X (e::es) t)(hn:x≠"__name__":=by decide)(hdb:(x==("__debug__" : HL))=false:=by decide)
  (he:starEach (e::es) X.env=(false,eval e X.env)::starEach es X.env:=by rfl) (hpl:(backTo pos (starEach es X.env)).any (·.1)=false:=by rfl):PE X (.Call (.Name x p) (e::es) [] pos) (G2 r t):=by
 intro pins s σ H Q I h;refine KM (iW I hg hm hv ?_ hn hdb);exact NA (cg (ha pos pins s σ H _ I h) λus s1 #[vs,H1,I1,r1,q1]=>hc pins s1 σ H1 vs us Q I1 r1 q1) he hpl
theorem tX (hc:CallR X (.type T) r)(hg:Gl X x)(hm:X.mg x=td)(hv:bootBuiltins x=gV (.type T))(ha:PA X (e::es) t)(hn:x≠"__name__":=by decide)(hdb:(x==("__debug__" : HL))=false:=by decide)
  (he:starEach (e::es) X.env=(false,eval e X.env)::starEach es X.env:=by rfl) (hpl:(backTo pos (starEach es X.env)).any (·.1)=false:=by rfl):PE X (.Call (.Name x p) (e::es) [] pos) (G2 r t):=by
 intro pins s σ H Q I h;refine KM (iW I hg hm hv ?_ hn hdb);exact JN (cg (ha pos pins s σ H _ I h) λus s1 #[vs,H1,I1,r1,q1]=>hc pins s1 σ H1 vs us Q I1 r1 q1) he hpl
end
end L2
namespace HT
open PySem PyProof.Rows
section
open PySem.SeqAt
open PySem.AutoSeq1 (wpAny_loadPart')
open PySem.MeetsSeq PySem.MeetsSeq2 PySem.MeetsSeq3
end
section
variable{prog:HZ}{w:Iw}{A:Iu}{E:Ho->Hr->Prop}{s:Hr}
theorem yL {t b:Hx}{vs ws:Hm Ho}{Q:Ho->Hr->Prop}(ht:M9 s.heap t vs.toArray)(hb:M9 s.heap b ws.toArray)(hv:vs≠[])
  (h1:ws=[]->Q (.ref t) s) (h2:ws≠[]->Q (.ref s.heap.objs.size) { s with heap:=s.heap.push { cls:=.type "tuple",data:=.seq (vs++ws).toArray } })
  (hsz:vs.length+ws.length<=sizeLine):wpAny (model prog w) A (binaryOp .Add (.ref t) (.ref b)) Q E s:=by
 obtain⟨⟨cls,dd,data,sl⟩,ho,hc,n,hd⟩:=id ht;obtain⟨⟨cls2,dd2,data2,sl2⟩,ho2,hc2,n2,hd2⟩:=id hb;simp only at hc hd hc2 hd2;subst hc hd hc2 hd2;have e:vs.toArray++ws.toArray=(vs++ws).toArray:=by simp
 by_cases hw:ws=[]
 ·exact Ng #[_,ho,rfl] #[_,ho2,rfl] LR MQ KU KQ (KF _ _)
   (tuple_addW1 t b vs.toArray ws.toArray n n2 dd dd2 sl sl2 (by simpa using hv) (by simp[hw])) #[ho,ho2,h1 hw]
 ·refine Ng #[_,ho,rfl] #[_,ho2,rfl] LR MQ KU KQ (KF _ _)
   (tuple_addW2 t b vs.toArray ws.toArray n n2 dd dd2 sl sl2 (by simpa using hv) (by simpa using hw) (by rw[HH,HH]; exact hsz)) #[ho,ho2,?_]
  rw[e];exact h2 hw
noncomputable def cO (n d:Hu):Ht HF->Hu
 | none=>d
 | some v=>if v < 0 then(v+(n:HF)).toNat else min v.toNat n
theorem kj (n d:Hu):cO n d td=d:=rfl
theorem sa (n d k:Hu):cO n d (gV (k:HF))=min k n:=by
 show(if (k:HF) < 0 then((k:HF)+(n:HF)).toNat else min (k:HF).toNat n)=min k n
 rw[Ix ∅,HE]
theorem Ch (n d:Hu)(hd:d<=n)(o:Ht HF):cO n d o<=n:=by
 cases o with
 | none=>exact hd
 | some v=>
  show(if v < 0 then(v+(n:HF)).toNat else min v.toNat n)<=n
  by_cases hv:v < 0
  ·rw[HW hv]; omega
  ·rw[Ix hv]; exact Nat.min_le_right _ _
theorem sd (v:HF)(n d:Hu):(if v < 0 then max (v+(n:HF)) 0 else min v (n:HF))=((cO n d (gV v):Hu):HF):=by
 show(if v < 0 then max (v+(n:HF)) 0 else min v (n:HF))=(((if v < 0 then(v+(n:HF)).toNat else min v.toNat n):Hu):HF)
 by_cases hv:v < 0
 ·simp only[HW hv]; omega
 ·simp only[Ix hv]; omega
theorem qZ (lo hi:Ht HF)(n:Hu):Kw lo hi 1 (n:HF)=(((cO n 0 lo:Hu):HF),((cO n n hi:Hu):HF)):=by
 have h1:¬ ((1:HF) < 0):=∅
 unfold Kw;simp only[h1,J5];refine PC ?_ ?_
 ·cases lo with
  | none=>rfl
  | some v=>exact sd v n 0
 ·cases hi with
  | none=>rfl
  | some v=>exact sd v n n
theorem q8 (i j:Hu):JY (i:HF) (j:HF) 1=j - i:=by
 unfold JY;have h1:(1:HF) > 0:=∅
 simp only[h1,Kf,Int.ediv_one];split <;> omega
theorem km {v:Ho}{o:Ht HF}{Q:Ht HF->Hr->Prop}(p:Lo v o)(h:Q o s):wpAny (model prog w) A (NS v) Q E s:=by
 cases p with
 | none=>exact N6 h
 | int i t=>exact slicePart_int h
theorem eW {sl:Hx}{vl vu:Ho}{lo hi:Ht HF}{n:Hu}{Q:HF×HF×Hu->Hr->Prop}(hs:s.heap.IsSliceOf sl vl vu .none)(pl:Lo vl lo)(pu:Lo vu hi)
  (h:Q (((cO n 0 lo:Hu):HF),1,cO n n hi - cO n 0 lo) s):wpAny (model prog w) A (Lp (.ref sl) (pure (n:HF))) Q E s:=by
 obtain⟨os,hos,hcs,hds⟩:=id hs;unfold Lp Oo;refine Hn (Hn (JG hos hds (x:=vl) rfl (Hn (JG hos hds (x:=vu) rfl (Hn (JG hos hds (x:=.none) rfl (Hz ?_)))))));refine Hn (N6 ?_);show wpAny _ _ (if ((1:HF)==0)=true then _ else _) _ _ s
 rw[Ix #v[]]
 refine Hn (km pl (Hn (km pu (Hn (Hz ?_)))));show wpAny _ _ (match Kw lo hi 1 (n:HF)with|(lo,hi)=>pure (lo,(1:HF),JY lo hi 1)) _ _ s
 rw[qZ lo hi n];show wpAny _ _ (pure (((cO n 0 lo:Hu):HF),(1:HF),JY ((cO n 0 lo:Hu):HF) ((cO n n hi:Hu):HF) 1)) _ _ s;rw[q8];exact Hz h
theorem vB (xs:IC Ho)(i k:Hu):((HJ k).filterMap λ(m:Hu)=>xs[((i:HF)+(m:HF)*1).toNat]?).toArray=((xs.toList.drop i).take k).toArray:=by
 have e:(λ(m:Hu)=>xs[((i:HF)+(m:HF)*1).toNat]?)=λm=>xs[i+m]?:=by
  funext m
  have:((i:HF)+(m:HF)*1).toNat=i+m:=∅
  rw[this]
 rw[e];have:=pick_run xs i k;rw[List.filterMap_map]at this;have e2:((λx=>xs[x]?)∘λx=>i+x)=λm=>xs[i+m]?:=rfl
 rw[e2]at this;rw[this]
theorem ij {t sl:Hx}{items:IC Ho}{vl vu:Ho}{lo hi:Ht HF}{Q:Ho->Hr->Prop}(ht:M9 s.heap t items)(hs:s.heap.IsSliceOf sl vl vu .none)(pl:Lo vl lo)(pu:Lo vu hi)
  (hw:¬ (cO items.size 0 lo=0/\cO items.size items.size hi=items.size))
  (h:Q (.ref s.heap.objs.size) { s with heap:=s.heap.push { cls:=.type "tuple",data:=.seq ((items.toList.drop (cO items.size 0 lo)).take (cO items.size items.size hi - cO items.size 0 lo)).toArray } })
  (hsz:items.size<=sizeLine):wpAny (model prog w) A (getItem (.ref t) (.ref sl)) Q E s:=by
 have htake:sizeOk (.seq ((items.toList.drop (cO items.size 0 lo)).take (cO items.size items.size hi - cO items.size 0 lo)).toArray):=by
  show((items.toList.drop (cO items.size 0 lo)).take (cO items.size items.size hi - cO items.size 0 lo)).toArray.size<=sizeLine;rw[HH,Il,Kd,Ir];omega
 have hj:cO items.size items.size hi<=items.size:=Ch _ _ (HG _) hi;obtain⟨os,hos,hcs,hds⟩:=id hs;have hTs:s.TypeIs (.ref sl) "slice":=#[os,hos,hcs];unfold getItem
 try with_reducible refine Jj ?_
 first|refine Hn (Hz ?_)|skip
 refine Hn (Nh ht.typeIs #v[] ?_)
 refine Hn (IR (name:=JO "__getitem__") ht.typeIs JB
  (Ja JB ht.typeIs MH ?_ (M1 _ _)))
 show wpAny _ _ (Ks (.ref t) >>= _) _ _ s;refine Hn (Ou ht ?_);refine Hn (Lk hTs ?_);rw[HW #v[]]
 refine Hn (eW hs pl pu ?_);have hno:¬ ((((cO items.size 0 lo:Hu):HF)==0&&(1:HF)==1&&(cO items.size items.size hi - cO items.size 0 lo)==items.size)=true):=by
  intro q;rw[Hw,Hw]at q;have q1:((cO items.size 0 lo:Hu):HF)=0:=eq_of_beq q.1.1;have q2:cO items.size items.size hi - cO items.size 0 lo=items.size:=eq_of_beq q.2;exact hw #[∅,∅]
 show wpAny _ _ (if (((cO items.size 0 lo:Hu):HF)==0&&(1:HF)==1&&(cO items.size items.size hi - cO items.size 0 lo)==items.size)=true then _ else _) _ _ s
 rw[Ix hno,vB]
 first
  | exact Hn (m:=Jq _) (IG (Hz #[_,rfl,Hz h]) htake)
  | exact Hn (m:=Jq _) (IG (Hn (Hz (Hz #[_,rfl,Hz h]))) htake)
  | exact Hn (Hn (m:=Jq _) (IG (Hz (Hz #[_,rfl,Hz h])) htake))
  | exact Hn (Hn (m:=Jq _) (IG (Hz #[_,rfl,Hz h]) htake))
end
end HT
namespace L2
open PySem PySem.Spec PyProof.Rows
noncomputable abbrev TO:=St->Hp->(Ht HF->Hp->Prop)->Prop
noncomputable def PO (X:Cx)(e:Ht HS)(t:TO):Prop:=
 ∀(pins:Hm (Hx×Jn)) (s:Hr) (σ:St) (H:Hp) (Q:Ht HF->Hp->Prop),Inv X pins σ H s->t σ H Q->
  wpAny (model X.prog X.w) X.A (evalPart e X.env) (λu s'=>∃o H',Inv X pins σ H' s'/\Lo u o/\Q o H') X.xe s
noncomputable def yM:TO:=λ_ H Q=>Q td H
noncomputable def Ee (t:TE):TO:=λσ H Q=>t σ H λx H1=>∃i,x=.int i/\Q (gV i) H1
section
variable{X:Cx}{e:HS}{te:TE}{lo hi:Ht HS}{tl th:TO}{pos p2:JW}
theorem yN:PO X td yM:=by
 intro pins s σ H Q I h;rw[Ov];exact Hz #[td,H,I,.none,h]
theorem yO (h:PE X e te):PO X (gV e) (Ee te):=by
 intro pins s σ H Q I hw;rw[evalPart_some];refine cg (h pins s σ H _ I hw) λu s1 #[x,H1,I1,r1,q1]=>?_
 obtain⟨i,rfl,q⟩:=q1;obtain⟨t,rfl⟩:=r1;exact#[gV i,H1,I1,.int i t,q]
noncomputable def Ef (X:Cx)(r:V->Ht HF->Ht HF->Hp->VK->Prop):Prop:=
 ∀(pins:Hm (Hx×Jn)) (s:Hr) (σ:St) (H:Hp) (x:V) (v vl vu:Ho) (lo hi:Ht HF) (sl:Hx) (Q:VK),Inv X pins σ H s->RelV x v->s.heap.IsSliceOf sl vl vu .none->Lo vl lo->Lo vu hi->r x lo hi H Q->
  ∃T id,typeLookup (.type T) "__getitem__" = pure (gV (.builtin id))/\s.TypeIs v T/\wpAny (model X.prog X.w) X.A (getItem v (.ref sl)) (EP X pins σ Q) X.xe s
noncomputable def He (r:V->Ht HF->Ht HF->Hp->VK->Prop)(te:TE)(tl th:TO):TE:=λσ H Q=>te σ H λx H1=>tl σ H1 λl H2=>th σ H2 λu H3=>r x l u H3 Q
theorem vC {r:V->Ht HF->Ht HF->Hp->VK->Prop}(hr:Ef X r)(he:PE X e te)(hl:PO X lo tl)(hu:PO X hi th):PE X (.Subscript e (.Slice lo hi td p2) pos) (He r te tl th):=by
 intro pins s σ H Q I h;refine Subscript_ (cg (he pins s σ H _ I h) λv s1 #[x,H1,I1,r1,q1]=>?_)
 refine wpAny_Slice (cg (hl pins s1 σ H1 _ I1 q1) λvl s2 #[l,H2,I2,pl,q2]=>cg (hu pins s2 σ H2 _ I2 q2) λvu s3 #[u,H3,I3,pu,q3]=>?_)
 rw[Ov];refine Hz ?_;have I4:Inv X pins σ H3 { s3 with heap:=s3.heap.push { cls:=.type "slice",data:=.fields [vl,vu,.none].toArray } }:=I3.kept (t':=s3.toks) λb ob q=>Hv _ q
 obtain⟨T,id,hT,ht,hg⟩:=hr pins { s3 with heap:=s3.heap.push { cls:=.type "slice",data:=.fields [vl,vu,.none].toArray } } σ H3 x v vl vu l u s3.heap.objs.size Q I4 r1 (Pd ..) pl pu q3
 show wpAny (model X.prog X.w) X.A (subscriptTail e (.Slice lo hi td p2) v (.ref s3.heap.objs.size)) (EP X pins σ Q) X.xe { s3 with heap:=s3.heap.push { cls:=.type "slice",data:=.fields [vl,vu,.none].toArray } }
 exact tail_any (ops:=[.ref s3.heap.objs.size,v]) ht hT hg (by with_unfolding_all rfl)
noncomputable def kn (xs:Hm V)(lo hi:Ht HF):Hm V:=(xs.drop (HT.cO xs.length 0 lo)).take (HT.cO xs.length xs.length hi - HT.cO xs.length 0 lo)
theorem jG (xs:Hm V)(lo hi:Ht HF):(kn xs lo hi).length<=xs.length:=by
 unfold kn;rw[Il,Kd];omega
noncomputable def Gb (K:HC):V->Ht HF->Ht HF->Hp->VK->Prop:=λx lo hi H Q=>∃a xs,x=.ref a/\SqT K H a xs/\
 ¬ (HT.cO xs.length 0 lo=0/\HT.cO xs.length xs.length hi=xs.length)/\∀p,H p=td->Q (.ref p) (cv H p (.tup (kn xs lo hi)))
theorem Ci:Ef X (Gb X.K):=by
 intro pins s σ H x v vl vu lo hi sl Q I rx hs pl pu h;obtain⟨a,xs,rfl,hx,hw,q⟩:=h;cases rx;obtain⟨its,r,ht,hz⟩:=I.tuple hx;have hlen:its.toArray.size=xs.length:=by rw[HH]; exact r.length.symm
 refine#["tuple",_,PyProof.Rows.slot_tuple_getitem.lookup,ht.typeIs,?_];refine HT.ij ht hs pl pu (by rw[hlen]; exact hw) ?_ (by rw[hlen]; exact hz)
 rw[hlen];refine#[.ref s.heap.objs.size,_,I.laid (t':=s.toks) (o:=.tup (kn xs lo hi)) (λb ob q=>Hv _ q) (HG _) ?_,rfl,q _ (I.hok.fresh (HG _))]
 exact#[IE (jG xs lo hi) hz,_,(r.drop (HT.cO xs.length 0 lo)).take (HT.cO xs.length xs.length hi - HT.cO xs.length 0 lo),Ny _ _]
theorem Vals.nil_iff {xs:Hm V}{us:Hm Ho}(r:Vals xs us):us=[]↔xs=[]:=by
 cases r with
 | nil=>simp
 | cons _ _=>simp
end
noncomputable def se (n:Hu)(i:HF):Ht Hu:=if 0<=i then(if i < n then gV i.toNat else td)else if -(n:HF)<=i then gV (i+n).toNat else td
noncomputable def pf {α:Type}(xs:Hm α)(i:HF):Ht α:=(se xs.length i).bind λj=>xs[j]?
theorem sf {n:Hu}{i:HF}{j:Hu}(h:se n i=gV j):seqIndex? i n=gV j/\j < n/\-(n:HF)<=i/\i < n:=by
 unfold se at h
 by_cases h0:0<=i
 ·rw[HW h0]at h
  by_cases h1:i < n
  ·rw[HW h1]at h;have e:i.toNat=j:=IS h;exact#[by rw[NP h0 h1,e],∅,∅,h1]
  ·rw[Ix h1]at h; cases h
 ·rw[Ix h0]at h
  by_cases h1 : -(n:HF)<=i
  ·rw[HW h1]at h;have e:(i+n).toNat=j:=IS h;exact#[by rw[Ni ∅ h1,e],∅,h1,∅]
  ·rw[Ix h1]at h; cases h
theorem nw {α:Type}{xs:Hm α}{i:HF}{v:α}(h:pf xs i=gV v):∃j,seqIndex? i xs.length=gV j/\xs[j]?=gV v/\j < xs.length/\-(xs.length:HF)<=i/\i < xs.length:=by
 unfold pf at h;cases e:se xs.length i with
 | none=>rw[e]at h; cases h
 | some j=>
  rw[e]at h;obtain⟨h1,h2,h3,h4⟩:=sf e;exact#[j,h1,h,h2,h3,h4]
theorem atI_nat {α:Type}{xs:Hm α}{j:Hu}{v:α}(h:xs[j]?=gV v):pf xs (j:HF)=gV v:=by
 have hj:j < xs.length:=(HI.mp h).1;have e:se xs.length (j:HF)=gV j:=by
  unfold se;rw[HW ∅,HW ∅]; simp
 unfold pf; rw[e]; exact h
noncomputable def ny (b:HS):Prop:=∀o i,subscripted b false o i=operate [o,i] (getItem o i)
noncomputable def IxR (X:Cx)(r:R2):Prop:=
 ∀(value slice:HS) (pins:Hm (Hx×Jn)) (s:Hr) (σ:St) (H:Hp) (x y:V) (v u:Ho) (Q:VK),Inv X pins σ H s->RelV x v->RelV y u->r x y H Q->
  subscripted slice false v u=operate [v,u] (getItem v u)->wpAny (model X.prog X.w) X.A (subscriptTail value slice v u) (EP X pins σ Q) X.xe s
noncomputable def MtR (X:Cx)(id:IX)(r:V->Hm V->Hp->VK->Prop):Prop:=
 ∀(pins:Hm (Hx×Jn)) (s:Hr) (σ:St) (H:Hp) (x:V) (xs:Hm V) (v:Ho) (us:Hm Ho) (Q:VK),Inv X pins σ H s->RelV x v->Vals xs us->r x xs H Q->
  wpAny (model X.prog X.w) X.A (call (.builtin id) (v::us)) (EP X pins σ Q) X.xe s
section
variable{X:Cx}{a b:HS}{ta tb:TE}{pos:JW}
theorem Eg {r:R2}(hr:IxR X r)(ha:PE X a ta)(hb:PE X b tb)(hs:ny b):PE X (.Subscript a b pos) (Fv r ta tb):=by
 intro pins s σ H Q I h;exact Subscript_ (B5 ha hb I h λv u s2 x y H2 I2 rx ry q=>hr a b pins s2 σ H2 x y v u Q I2 rx ry q (hs _ _))
noncomputable def Gc (K:HC):R2:=λx y H Q=>∃p xs i v,x=.ref p/\y=.int i/\SqL K H p xs/\pf xs i=gV v/\Q v H
noncomputable def Gd (K:HC):R2:=λx y H Q=>∃p xs i v,x=.ref p/\y=.int i/\SqT K H p xs/\pf xs i=gV v/\Q v H
noncomputable def Ge:R2:=λx y H Q=>∃z i c,x=.str z/\y=.int i/\z.length<=sizeLine/\pf z.cps.toList i=gV c/\Q (.str #[[c].toArray]) H
theorem yP:IxR X (Gc X.K):=by
 intro value slice pins s σ H x y v u Q I rx ry h hs;obtain⟨p,xs,i,z,rfl,rfl,hq,he,q⟩:=h;cases rx;obtain⟨t,rfl⟩:=ry;obtain⟨its,r,pl,hz⟩:=I.list hq;obtain⟨j,h1,h2,h3,h4,h5⟩:=nw he;obtain⟨w,ew,rw'⟩:=r.get h2;have hl:=r.length;have hn:=iZ;have fin:EP X pins σ Q w s:=#[z,H,I,rw',q]
 by_cases h0:0<=i
 ·have hj:i.toNat=j:=by
   rw[NP h0 h5]at h1;exact IS h1
  exact item_listR pl.isList h0 ∅ (by rw[hj]; simpa using ew) fin hs
 ·have hj:(i+(its.toArray.size:HF)).toNat=j:=by
   rw[Ni ∅ h4]at h1
   rw[HH,<- hl];exact IS h1
  exact KW (x:=w) pl.isList.typeIs slot_list_getitem.lookup
   (wpAny_getItem_list_neg (Q:=λr s'=>r=w/\EP X pins σ Q r s') pl.isList ∅ (by rw[HH] <;> omega) ∅ (by rw[hj]; simpa using ew) #[rfl,fin]) hs
theorem Cj:IxR X (Gd X.K):=by
 intro value slice pins s σ H x y v u Q I rx ry h hs;obtain⟨p,xs,i,z,rfl,rfl,hq,he,q⟩:=h;cases rx;obtain⟨t,rfl⟩:=ry;obtain⟨its,r,pl,hz⟩:=I.tuple hq;obtain⟨j,h1,h2,h3,h4,h5⟩:=nw he;obtain⟨w,ew,rw'⟩:=r.get h2;have hl:=r.length;have hn:=iZ;have fin:EP X pins σ Q w s:=#[z,H,I,rw',q];exact KW (x:=w) pl.typeIs slot_tuple_getitem.lookup
  (getItem_tuple (j:=j) (Q:=λr s'=>r=w/\EP X pins σ Q r s') pl ∅ ∅ (by rw[HH,<- hl]; exact h1) (by simpa using ew) #[rfl,fin]) hs
theorem Ck:IxR X Ge:=by
 intro value slice pins s σ H x y v u Q I rx ry h hs;obtain⟨z,i,c,rfl,rfl,hz,he,q⟩:=h;obtain⟨t,rfl⟩:=rx;obtain⟨t',rfl⟩:=ry;obtain⟨j,h1,h2,h3,h4,h5⟩:=nw he;have hl:z.cps.toList.length=z.length:=by simp[Str.length]
 rw[hl]at h1 h4 h5;have hn:=iZ;exact tail_any (typeIs_str s z t) slot_str_getitem.lookup (getItem_str (c:=c) (by
  have e1:decide (i < -(2 ^ 63:HF))=false:=Ig ∅
  have e2:decide (i>=2 ^ 63)=false:=Ig ∅
  rw[e1,e2,Ow]) (by rw[h1]; simpa using h2) #[.str #[[c].toArray],H,I.tok _,#[_,rfl],q]) hs
theorem q9 (its:Hm Ho)(n j:Hu)(u:Ho):Jf (·.setIfInBounds j u) { cls:=.type "list",data:=.seq its.toArray n }={ cls:=.type "list",data:=.seq (its.set j u).toArray n }:=by
 simp[Jf]
theorem Inv.lst {pins:Hm (Hx×Jn)}{σ:St}{H:Hp}{s:Hr}{p:Hx}{xs:Hm V}(I:Inv X pins σ H s)(h:H p=gV (.lst xs)) :
  ∃(its:Hm Ho) (n:Hu),Vals xs its/\s.heap.get? p=gV { cls:=.type "list",data:=.seq its.toArray n }/\xs.length<=sizeLine:=by
 obtain⟨z,its,n,r,e⟩:=I.hok p _ h;exact#[its,n,r,e,z]
theorem Inv.lstUpd {pins:Hm (Hx×Jn)}{σ:St}{H:Hp}{s:Hr}{p:Hx}{xs ys:Hm V}{its its':Hm Ho}{n n':Hu}{f:Jn->Jn}(I:Inv X pins σ H s)(h:H p=gV (.lst xs))
  (ho:s.heap.get? p=gV { cls:=.type "list",data:=.seq its.toArray n }) (hf:f { cls:=.type "list",data:=.seq its.toArray n }={ cls:=.type "list",data:=.seq its'.toArray n' }) (r:Vals ys its') (hz:ys.length<=sizeLine) (t:Hu) :
  Inv X pins σ (cv H p (.lst ys)) { s with heap:=s.heap.update p f,toks:=t }:=by
 have e:(s.heap.update p f).get? p=gV { cls:=.type "list",data:=.seq its'.toArray n' }:=by
  rw[JX f ho (by rw[hf] <;> rfl),hf]
 refine I.write (x:=p) (e:=p) (by rw[h]; trivial) (.inl rfl) (λb u hb q=>(IL _ _ (Ne.symm hb)).trans q) #[_,e] ?_
 exact#[hz,its',n',r,e]
noncomputable def Eh:V->V->V->Hp->(Hp->Prop)->Prop:=λo i v H Q=>∃p xs k j,o=.ref p/\i=.int k/\H p=gV (.lst xs)/\se xs.length k=gV j/\Q (cv H p (.lst (xs.set j v)))
theorem vD:BY X Eh:=by
 intro pins s σ H o i v ov iv u Q I ro ri rv h;obtain⟨p,xs,k,j,rfl,rfl,hp,hj,q⟩:=h;cases ro;obtain⟨t,rfl⟩:=ri;obtain⟨its,n,r,ho,hz⟩:=I.lst hp;obtain⟨h1,h2,h3,h4⟩:=sf hj;have hl:=r.length;have hn:=iZ;have I':Inv X pins σ (cv H p (.lst (xs.set j v))) { s with heap:=s.heap.update p (Jf (·.setIfInBounds j u)) }:=
  I.lstUpd hp ho (q9 its n j u) (r.set rv j) (by rw[NT]; exact hz) s.toks
 by_cases h0:0<=k
 ·have hk:k.toNat=j:=by
   rw[NP h0 h4]at h1;exact IS h1
  exact PySem.W.ki_setAt ho h0 ∅ (by rw[HH,<- hl]; exact h4) (by rw[hk]; exact#[_,I',q])
 ·have hk:(k+(its.toArray.size:HF)).toNat=j:=by
   rw[Ni ∅ h3]at h1
   rw[HH,<- hl];exact IS h1
  exact PySem.W.ki_setBack ho ∅ (by rw[HH,<- hl]; exact h3) ∅ (by rw[hk]; exact#[_,I',q])
theorem nz (lo hi:Ht HF)(n:Hu):(sliceBounds lo hi td n).1=((HT.cO n 0 lo:Hu):HF)/\(sliceBounds lo hi td n).2.1=((HT.cO n n hi:Hu):HF)/\(sliceBounds lo hi td n).2.2=1:=by
 refine#[?_,?_,rfl]
 ·cases lo with
  | none=>simp[sliceBounds,HT.cO]
  | some i=>
   simp only[sliceBounds,HT.cO,NB,show(1:HF) > 0 by decide,Kf]
   by_cases h:i < 0
   ·simp only[h,Kf] <;> omega
   ·simp only[h,J5] <;> omega
 ·cases hi with
  | none=>simp[sliceBounds,HT.cO]
  | some i=>
   simp only[sliceBounds,HT.cO,NB,show(1:HF) > 0 by decide,Kf]
   by_cases h:i < 0
   ·simp only[h,Kf] <;> omega
   ·simp only[h,J5] <;> omega
theorem lH (its:Hm Ho)(lo hi:Ht HF):slicePick its.toArray lo hi td=((its.drop (HT.cO its.length 0 lo)).take (HT.cO its.length its.length hi - HT.cO its.length 0 lo)).toArray:=by
 obtain⟨h1,h2,h3⟩:=nz lo hi its.toArray.size;unfold slicePick;rw[h1,h2,h3];simp only[sliceRange_one,pick_run,HH] <;> rfl
noncomputable def Gf (K:HC):V->Ht HF->Ht HF->Hp->VK->Prop:=λx lo hi H Q=>∃a xs,x=.ref a/\SqL K H a xs/\∀p,H p=td->Q (.ref p) (cv H p (.lst (kn xs lo hi)))
theorem yQ:Ef X (Gf X.K):=by
 intro pins s σ H x v vl vu lo hi sl Q I rx hs pl pu h;obtain⟨a,xs,rfl,hx,q⟩:=h;cases rx;obtain⟨its,r,ht,hz⟩:=I.list hx;have hlen:=r.length;refine#["list",_,slot_list_getitem.lookup,ht.isList.typeIs,?_];refine wpAny_getItem_list_slice ht.isList hs pl pu .none (by simp) ?_ (by rw[HH] <;> omega)
 rw[lH,<- hlen];refine#[.ref s.heap.objs.size,_,I.laid (t':=s.toks) (o:=.lst (kn xs lo hi)) (λb ob q=>Hv _ q) (HG _) ?_,rfl,q _ (I.hok.fresh (HG _))]
 exact#[IE (jG xs lo hi) hz,_,0,(r.drop (HT.cO xs.length 0 lo)).take (HT.cO xs.length xs.length hi - HT.cO xs.length 0 lo),HQ _ rfl]
noncomputable def gL:V->HV
 | .non=>true
 | .bl _=>true
 | .int _=>true
 | .str _=>true
 | _=>false
noncomputable def yR:V->V->HV
 | .non,.non=>true
 | .bl a,.bl b=>a==b
 | .bl a,.int b=>(if a then 1 else 0)==b
 | .int a,.bl b=>a==(if b then 1 else 0)
 | .int a,.int b=>a==b
 | .str a,.str b=>a==b
 | _,_=>false
theorem Cm {A:Iu}{s:Hr}{y x:V}{u v:Ho}(ry:RelV y u)(rx:RelV x v)(fy:gL y=true)(fx:gL x=true):K8 A s u v (yR y x):=by
 cases y with
 | non=>
  cases ry;cases x with
  | non=>cases rx; exact Pw _
  | bl b=>cases rx; exact O0 b
  | int b=>obtain⟨t,rfl⟩:=rx; exact O5 b t
  | str b=>obtain⟨t,rfl⟩:=rx; exact O6 b t
  | _=>exact absurd (show false=true from fx) HU
 | bl a=>
  cases ry;cases x with
  | non=>cases rx; exact O1 a
  | bl b=>cases rx; exact O2 a b
  | int b=>obtain⟨t,rfl⟩:=rx; exact O7 a b t
  | str b=>obtain⟨t,rfl⟩:=rx; exact O8 a b t
  | _=>exact absurd (show false=true from fx) HU
 | int a=>
  obtain⟨t',rfl⟩:=ry;cases x with
  | non=>cases rx; exact O9 a t'
  | bl b=>cases rx; exact Pa a t' b
  | int b=>obtain⟨t,rfl⟩:=rx; exact Pe a t' b t
  | str b=>obtain⟨t,rfl⟩:=rx; exact MU a t' b t
  | _=>exact absurd (show false=true from fx) HU
 | str a=>
  obtain⟨t',rfl⟩:=ry;cases x with
  | non=>cases rx; exact Pb a t'
  | bl b=>cases rx; exact Pc a t' b
  | int b=>obtain⟨t,rfl⟩:=rx; exact MV a t' b t
  | str b=>obtain⟨t,rfl⟩:=rx; exact Pf a t' b t
  | _=>exact absurd (show false=true from fx) HU
 | _=>exact absurd (show false=true from fy) HU
noncomputable def rc (x:V)(u:Ho):HV:=match u with
 | .none=>yR .non x
 | .bool b=>yR (.bl b) x
 | .int i _=>yR (.int i) x
 | .str z _=>yR (.str z) x
 | _=>false
theorem vE {x y:V}{u:Ho}(r:RelV y u)(f:gL y=true):rc x u=yR y x:=by
 cases y with
 | non=>cases r; rfl
 | bl b=>cases r; rfl
 | int i=>obtain⟨t,rfl⟩:=r; rfl
 | str z=>obtain⟨t,rfl⟩:=r; rfl
 | _=>exact absurd (show false=true from f) HU
theorem ik {x:V}:∀ {xs:Hm V} {us:Hm Ho},Vals xs us->xs.all gL=true->us.any (rc x)=xs.any λy=>yR y x
 | _,_,.nil,_=>rfl
 | y::xs,u::us,.cons r t,f=>by
  rw[ID,Hw]at f;rw[JR,JR,vE r f.1,ik t f.2]
theorem fT {A:Iu}{s:Hr}{x:V}{v:Ho}(rx:RelV x v)(fx:gL x=true):∀ {xs:Hm V} {us:Hm Ho},Vals xs us->xs.all gL=true->∀u∈us,K8 A s u v (rc x u)
 | _,_,.nil,_=>λu hu=>by cases hu
 | y::xs,u::us,.cons r t,f=>λu' hu=>by
  rw[ID,Hw]at f;rcases Iq.mp hu with rfl|hu
  ·rw[vE r f.1]; exact Cm r rx f.1 fx
  ·exact fT rx fx t f.2 u' hu
noncomputable def Fx (x:V)(xs:Hm V):HV:=xs.any λy=>yR y x
noncomputable def Gg (K:HC)(neg:HV):R2:=λx y H Q=>∃p xs,y=.ref p/\(SqL K H p xs\/SqT K H p xs)/\gL x=true/\xs.all gL=true/\Q (.bl (if neg then !Fx x xs else Fx x xs)) H
theorem tY:OpR X (compareOp .In) (Gg X.K false):=by
 intro pins s σ H x y v u Q I rx ry h;obtain⟨p,xs,rfl,hq,fx,fs,q⟩:=h;cases ry;rcases hq with hq|hq
 ·obtain⟨its,r,pl,hz⟩:=I.list hq;refine NU (rc x) pl.isList (λw hw=>fT rx fx r fs w (by simpa using hw)) #[.bl _,H,I,rfl,?_]
  rw[show its.toArray.any (rc x)=its.any (rc x) by simp,ik r fs]
  exact q
 ·obtain⟨its,r,pl,hz⟩:=I.tuple hq;refine NC (rc x) pl (λw hw=>fT rx fx r fs w (by simpa using hw)) #[.bl _,H,I,rfl,?_]
  rw[show its.toArray.any (rc x)=its.any (rc x) by simp,ik r fs]
  exact q
theorem nA:OpR X (compareOp .NotIn) (Gg X.K true):=by
 intro pins s σ H x y v u Q I rx ry h;obtain⟨p,xs,rfl,hq,fx,fs,q⟩:=h;cases ry;rcases hq with hq|hq
 ·obtain⟨its,r,pl,hz⟩:=I.list hq;refine M2 (rc x) pl.isList (λw hw=>fT rx fx r fs w (by simpa using hw)) #[.bl _,H,I,rfl,?_]
  rw[show its.toArray.any (rc x)=its.any (rc x) by simp,ik r fs]
  exact q
 ·obtain⟨its,r,pl,hz⟩:=I.tuple hq;refine SeqAt.notIn_tupleAt (rc x) pl (λw hw=>fT rx fx r fs w (by simpa using hw)) #[.bl _,H,I,rfl,?_]
  rw[show its.toArray.any (rc x)=its.any (rc x) by simp,ik r fs]
  exact q
theorem nB:CallR X (.type "list") (λxs H Q=>∃p ys,xs=[.ref p]/\(SqL X.K H p ys\/SqT X.K H p ys)/\∀l,H l=td->Q (.ref l) (cv H l (.lst ys))):=by
 intro pins s σ H xs us Q I r h;obtain⟨p,ys,rfl,hq,q⟩:=h;obtain⟨u,rfl,rx⟩:=mn r;cases rx;have fin:∀(its:Hm Ho),Vals ys its->ys.length<=sizeLine->∀(h':IF) (c':Hu),(∀b o',s.heap.get? b=gV o'->h'.get? b=gV o')->
   h'.get? s.heap.objs.size=gV { cls:=.type "list",dict:=td,data:=.seq its.toArray c',slots:=#[] }->EP X pins σ Q (.ref s.heap.objs.size) { s with heap:=h' }:=λits r' hz h' c' kp e=>
  #[.ref s.heap.objs.size,_,I.laid (t':=s.toks) kp (HG _) (show ObjOk X.prog X.w _ h' _ (.lst ys)from#[hz,its,c',r',e]),rfl,q _ (I.hok.fresh (HG _))]
 rcases hq with hq|hq
 ·obtain⟨its,r',pl,hz⟩:=I.list hq;have hlen:=r'.length;obtain⟨o,ho,hc,n,hd⟩:=pl.isList;exact Ox p (.inl rfl) ho hc hd (λh' c' kp e=>fin its r' hz h' c' kp e) (by simp only[HH] <;> omega)
 ·obtain⟨its,r',pl,hz⟩:=I.tuple hq;have hlen:=r'.length;obtain⟨o,ho,hc,n,hd⟩:=pl;exact Ox p (.inr rfl) ho hc hd (λh' c' kp e=>fin its r' hz h' c' kp e) (by simp only[HH] <;> omega)
theorem gM:CallR X (.type "tuple") (λxs H Q=>∃p ys,xs=[.ref p]/\((SqL X.K H p ys/\∀l,H l=td->Q (.ref l) (cv H l (.tup ys)))\/(SqT X.K H p ys/\Q (.ref p) H))):=by
 intro pins s σ H xs us Q I r h;obtain⟨p,ys,rfl,h⟩:=h;obtain⟨u,rfl,rx⟩:=mn r;cases rx;rcases h with⟨hq,q⟩|⟨hq,q⟩
 ·obtain⟨its,r',pl,hz⟩:=I.list hq;have hlen:=r'.length;refine call_tuple_list pl.isList (λh' kp=>?_) (by simp only[HH] <;> omega)
  have I1:Inv X pins σ H { s with heap:=h' }:=I.kept (t':=s.toks) kp
  have I2:Inv X pins σ (cv H h'.objs.size (.tup ys)) { s with heap:=h'.push { cls:=.type "tuple",data:=.seq its.toArray } }:=
   I1.laid (t':=s.toks) (λb o e=>Hv _ e) (HG _) (show ObjOk X.prog X.w _ _ _ (.tup ys)from#[hz,its,r',Ny _ _])
  exact#[.ref h'.objs.size,_,I2,rfl,q _ (I1.hok.fresh (HG _))]
 ·obtain⟨its,r',pl,hz⟩:=I.tuple hq;exact call_tuple_same pl #[.ref p,H,I,rfl,q]
noncomputable def Gh (K:HC)(T:IX)(x:V)(H:Hp):Prop:=match x with
 | .str _=>T = "str"
 | .int _=>T = "int"
 | .ref p=>(T = "list"/\∃xs,SqL K H p xs)\/(T = "tuple"/\∃o,K.lookup p=gV o/\o.cls=.type "tuple"/\o.dict=td)\/
   (T = "dict"/\((∃kvs,H p=gV (.dK kvs))\/∃kvs,H p=gV (.dT kvs)))\/(T = "set"/\∃S n,H p=gV (.set S n))
 | _=>IW
theorem vF {pins:Hm (Hx×Jn)}{σ:St}{H:Hp}{s:Hr}{T:IX}{x:V}{v:Ho}(I:Inv X pins σ H s)(r:RelV x v)(ty:Gh X.K T x H) :
  s.TypeIs v T/\∀a,v=.ref a->∃ob,s.heap.get? a=gV ob/\ob.dict=td:=by
 cases x with
 | str z=>
  obtain⟨t,rfl⟩:=r;cases(show T = "str" from ty)
  exact#[typeIs_str s z t,λ_ e=>nomatch e]
 | int i=>
  obtain⟨t,rfl⟩:=r;cases(show T = "int" from ty)
  exact#[N7 s i t,λ_ e=>nomatch e]
 | ref p=>
  cases r;rcases ty with⟨rfl,xs,hq⟩|⟨rfl,o,hk,hc,hd⟩|⟨rfl,hk⟩|⟨rfl,S,n,hk⟩
  ·obtain⟨its,_,pl,_⟩:=I.list hq;refine#[pl.isList.typeIs,λa e=>?_]
   cases e;obtain⟨o,n,e,c,hd,_⟩:=pl;exact#[o,e,hd]
  ·refine#[#[o,I.kIn p o hk,hc],λa e=>?_]
   cases e;exact#[o,I.kIn _ o hk,hd]
  ·have z:∃o,s.heap.get? p=gV o/\o.ExactDict:=by
    rcases hk with⟨kvs,hk⟩|⟨kvs,hk⟩
    ·obtain⟨_,_,_,_,o,_,_,e,ex,_⟩:=I.hok p _ hk;exact#[o,e,ex]
    ·obtain⟨_,_,_,_,o,_,_,e,ex,_⟩:=I.hok p _ hk;exact#[o,e,ex]
   obtain⟨o,e,ex⟩:=z;refine#[#[o,e,ex.1],λa e2=>?_]
   cases e2;exact#[o,e,ex.2.1]
  ·obtain⟨o,_,_,_,e,ex,_⟩:=I.hok p _ hk;refine#[#[o,e,ex.1],λa e2=>?_]
   cases e2;exact#[o,e,ex.2.1]
 | _=>exact IW.elim ty
variable{o e:HS}{es:Hm HS}{to:TE}{t:TA}{name:HL}{apos cpos:JW}{T id:IX}{r:V->Hm V->Hp->VK->Prop}
end
noncomputable def Gi (X:Cx)(id:IX)(r:V->Hm V->Hp->VK->Prop):Prop:=
 ∀(pins:Hm (Hx×Jn)) (s:Hr) (σ:St) (H:Hp) (x:V) (xs:Hm V) (v:Ho) (us:Hm Ho) (Q:VK),Inv X pins σ H s->RelV x v->Vals xs us->r x xs H Q->
  wpAny (model X.prog X.w) X.A (call (.builtin id) (v::us)) (EP X pins σ Q) X.xe s
theorem Vals.one:∀ {x:V} {us:Hm Ho},Vals [x] us->∃u,us=[u]/\RelV x u
 | _,_,.cons r .nil=>#[_,rfl,r]
theorem Vals.eraseIdx:∀ {xs:Hm V} {us:Hm Ho} (i:Hu),Vals xs us->Vals (xs.eraseIdx i) (us.eraseIdx i)
 | _,_,_,.nil=>.nil
 | _,_,0,.cons _ t=>t
 | _,_,i+1,.cons r t=>.cons r (Vals.eraseIdx i t)
theorem Vals.rep {xs:Hm V}{us:Hm Ho}(h:Vals xs us):∀k:Hu,Vals (HY k xs).flatten (HY k us).flatten
 | 0=>.nil
 | k+1=>by
  rw[Jl,Jl,J6,J6];exact Vals.append h (Vals.rep h k)
theorem mx {α:Type}:∀(l:Hm α) (i:Hu),(l.eraseIdx i).length<=l.length
 | [],_=>HG _
 | _::_,0=>Kt _
 | _::r,i+1=>K9 (mx r i)
theorem my (its:Hm Ho):∀(k:Hu) (acc:Hm Ho),
  N8 (λx1 x2=>x1++x2) acc.toArray (HY k its.toArray)=(acc++(HY k its).flatten).toArray
 | 0,acc=>by simp
 | k+1,acc=>by
  have e:acc.toArray++its.toArray=(acc++its).toArray:=by simp
  have e2:(acc++its)++(HY k its).flatten=acc++(HY (k+1) its).flatten:=by
   rw[Jl,J6,Km]
  rw[<- e2,<- my its k (acc++its),<- e,Jl,List.foldl_cons]
section
variable{X:Cx}{pins:Hm (Hx×Jn)}{σ:St}{H:Hp}{s:Hr}{l b:Hx}{xs ys zs:Hm V}
theorem Inv.lset {its its':Hm Ho}{n:Hu}{f:IC Ho->IC Ho}{t':Hu}(I:Inv X pins σ H s)(hH:H l=gV (.lst xs))
  (e:s.heap.get? l=gV { cls:=.type "list",data:=.seq its.toArray n }) (hf:f its.toArray=its'.toArray) (hv:Vals ys its') (hz:ys.length<=sizeLine) :
  Inv X pins σ (cv H l (.lst ys)) { s with heap:=s.heap.update l (Jf f),toks:=t' }:=by
 have q:=ND e f;rw[hf]at q;refine I.write (x:=l) (e:=l) (by rw[hH]; exact trivial) (.inl rfl) (λb' u hb hu=>(IL s.heap (Jf f) (Ne.symm hb)).trans hu) #[_,q] ?_
 exact#[hz,its',_,hv,q]
theorem Inv.lnew {its:Hm Ho}{t':Hu}(I:Inv X pins σ H s)(hv:Vals ys its)(hz:ys.length<=sizeLine) :
  Inv X pins σ (cv H s.heap.objs.size (.lst ys)) { s with heap:=s.heap.push { cls:=.type "list",data:=.seq its.toArray },toks:=t' }:=
 I.laid (λ_ _ q=>Hv _ q) (HG _) #[hz,its,0,hv,HQ _ rfl]
theorem Inv.fresh (I:Inv X pins σ H s):H s.heap.objs.size=td:=I.hok.fresh (HG _)
theorem Inv.lstM (I:Inv X pins σ H s)(hH:H l=gV (.lst xs)):xs.length<=sizeLine/\∃(its:Hm Ho) (n:Hu),Vals xs its/\xs.length=its.length/\s.heap.get? l=gV { cls:=.type "list",data:=.seq its.toArray n }:=by
 obtain⟨z,its,n,r,e⟩:=I.hok l _ hH;exact#[z,its,n,r,r.length,e]
theorem ph {n:Hu}(h:n<=sizeLine):J9 n=false:=by
 unfold J9;exact Ig ∅
end
section
variable{X:Cx}
noncomputable def yS:V->Hm V->Hp->VK->Prop:=λx vs H Q=>∃l xs y,x=.ref l/\vs=[y]/\H l=gV (.lst xs)/\xs.length < sizeLine/\Q .non (cv H l (.lst (xs++[y])))
theorem tZ:Gi X "list.append" yS:=by
 intro pins s σ H x vs v us Q I rx rv h;obtain⟨l,xs,y,rfl,rfl,hH,hz,q⟩:=h;cases rx;obtain⟨u,rfl,ru⟩:=rv.one;obtain⟨z,its,n,r,hl,e⟩:=I.lstM hH;refine Lq F.slot_list_append #[_,e,rfl] F.entry_list_append (F.args_list_append_2 _ _) (Nj l its.toArray n u (by rw[HH]; omega)) #[e,?_]
 refine#[.non,_,I.lset (its':=its++[u]) hH e (by simp) (r.append #v[ru]) ?_,rfl,q]
 rw[HA,Jo];omega
noncomputable def yT:V->Hm V->Hp->VK->Prop:=λx vs H Q=>∃l b xs zs,x=.ref l/\vs=[.ref b]/\H l=gV (.lst xs)/\H b=gV (.lst zs)/\xs.length+zs.length<=sizeLine/\Q .non (cv H l (.lst (xs++zs)))
theorem t4:Gi X "list.extend" yT:=by
 intro pins s σ H x vs v us Q I rx rv h;obtain⟨l,b,xs,zs,rfl,rfl,hH,hB,hz,q⟩:=h;cases rx;obtain⟨u,rfl,ru⟩:=rv.one;cases ru;obtain⟨z,its,n,r,hl,e⟩:=I.lstM hH;obtain⟨z2,its2,n2,r2,hl2,e2⟩:=I.lstM hB;have hsz:its.toArray.size+its2.toArray.size<=sizeLine:=by rw[HH,HH]; omega
 have hlong:¬ (!its.toArray.isEmpty&&J9 (its.toArray.size+its2.toArray.size))=true:=by
  rw[ph hsz,Bool.and_false];exact HU
 refine Lq F.slot_list_extend #[_,e,rfl] F.entry_list_extend (F.args_list_extend_2 _ _)
  (Nk l its.toArray n b its2.toArray n2 hlong (by rw[HH]; omega) ∅) #[e,e2,?_]
 refine#[.non,_,I.lset (its':=its++its2) hH e (by simp) (r.append r2) ?_,rfl,q]
 rw[HA];omega
noncomputable def Cn:V->Hm V->Hp->VK->Prop:=λx vs H Q=>∃l xs i k y,x=.ref l/\vs=[.int i]/\H l=gV (.lst xs)/\-(2 ^ 63)<=i/\i < 2 ^ 63/\seqIndex? i xs.length=gV k/\xs[k]?=gV y/\Q y (cv H l (.lst (xs.eraseIdx k)))
theorem vG:Gi X "list.pop" Cn:=by
 intro pins s σ H x vs v us Q I rx rv h;obtain⟨l,xs,i,k,y,rfl,rfl,hH,h1,h2,hk,hy,q⟩:=h;cases rx;obtain⟨u,rfl,ru⟩:=rv.one;obtain⟨t,rfl⟩:=ru;obtain⟨z,its,n,r,hl,e⟩:=I.lstM hH;obtain⟨w,hw,rw'⟩:=r.get hy;refine Lq F.slot_list_pop #[_,e,rfl] F.entry_list_pop (F.args_list_pop_2 _ _)
  (O3 l its.toArray n i t k w (N9 h1 h2) (by rw[HH,<- hl]; exact hk) (by rw[<- Jp]; exact hw) (by rw[HH]; omega)) #[e,?_]
 refine#[y,_,I.lset (its':=its.eraseIdx k) hH e ?_ (r.eraseIdx k) ?_,rw',q]
 ·show its.toArray.eraseIdxIfInBounds k=(its.eraseIdx k).toArray;rw[List.eraseIdxIfInBounds_toArray]
 ·have:=mx xs k;omega
noncomputable def Gj:R2:=λx y H Q=>∃l b xs zs,x=.ref l/\y=.ref b/\H l=gV (.lst xs)/\H b=gV (.lst zs)/\xs.length+zs.length<=sizeLine/\∀p,H p=td->Q (.ref p) (cv H p (.lst (xs++zs)))
theorem Co:OpR X (binaryOp .Add) Gj:=by
 intro pins s σ H x y v u Q I rx ry h;obtain⟨l,b,xs,zs,rfl,rfl,hH,hB,hz,q⟩:=h;cases rx;cases ry;obtain⟨z,its,n,r,hl,e⟩:=I.lstM hH;obtain⟨z2,its2,n2,r2,hl2,e2⟩:=I.lstM hB;refine PySem.P.add_list e e2 ?_ (by rw[HH,HH]; omega)
 have ea:its.toArray++its2.toArray=(its++its2).toArray:=by simp
 rw[ea];exact#[.ref _,_,I.lnew (t':=s.toks) (r.append r2) (by rw[HA]; omega),rfl,q _ I.fresh]
noncomputable def Gk:R2:=λx y H Q=>∃l k xs,x=.ref l/\y=.int k/\H l=gV (.lst xs)/\-(2 ^ 63)<=k/\k < 2 ^ 63/\xs.length*k.toNat<=sizeLine/\
 ∀p,H p=td->Q (.ref p) (cv H p (.lst (HY k.toNat xs).flatten))
theorem yU {α:Type}(xs:Hm α)(k:Hu):(HY k xs).flatten.length=k*xs.length:=by
 induction k with
 | zero=>simp
 | succ k ih=>rw[Jl,J6,HA,ih,ON,Nat.add_comm]
theorem Cp:OpR X (binaryOp .Mult) Gk:=by
 intro pins s σ H x y v u Q I rx ry h;obtain⟨l,k,xs,rfl,rfl,hH,h1,h2,hz,q⟩:=h;cases rx;obtain⟨t,rfl⟩:=ry;obtain⟨z,its,n,r,hl,e⟩:=I.lstM hH;have hlen:its.toArray.size*k.toNat<=sizeLine:=by rw[HH,<- hl]; exact hz
 have hcap:¬ its.toArray.size*k.toNat > (2 ^ 63 - 1) / 8:=by
  have:(sizeLine:Hu)<=(2 ^ 63 - 1) / 8:=by decide
  omega
 have hfit:¬ (!Oa k)=true:=by
  rw[N9 h1 h2];exact HU
 have hlong:¬ J9 (its.toArray.size*k.toNat)=true:=by
  rw[ph hlen];exact HU
 have hnew:N8 (λx1 x2=>x1++x2) #[] (HY (if its.toArray.isEmpty=true then 0 else k.toNat) its.toArray)=(HY k.toNat its).flatten.toArray:=by
  have f0:∀m:Hu,N8 (λx1 x2=>x1++x2) #[] (HY m its.toArray)=(HY m its).flatten.toArray:=λm=>by
   have:=my its m [];rw[NV]at this;exact this
  rw[f0];cases its with
  | nil=>simp
  | cons a r'=>rw[Ix (by simp)]
 refine wpAny_binaryOp_repeat_ref (T:="list") (U:="int") #v[] #[_,e,rfl] (λs'=>N7 s' k t) noFill_list_mul F.fills_int_mul F.slot_int_rmul repeat_list F.slot_int_index.lookup
  (Lq F.slot_int_rmul (N7 s k t) F.entry_int_rmul (F.args_int_rmul_2 _ _) (int___rmul___int_list k t l its.toArray n)
   #[e,rfl,#[_,e,rfl],Lq F.slot_list_mul #[_,e,rfl] F.entry_list_mul (F.args_list_mul_2 _ _) (M8 l its.toArray n k t hfit hcap hlong) #[e,?_]])
 rw[hnew];exact#[.ref _,_,I.lnew (t':=s.toks) (r.rep k.toNat) (by rw[yU,Nat.mul_comm]; exact hz),rfl,q _ I.fresh]
end
section
variable{X:Cx}{pins:Hm (Hx×Jn)}{σ:St}{H:Hp}{s:Hr}{a:Hx}{y v:V}{u r:Ho}{o:Ht V}{A:Iu}{E:Ho->Hr->Prop}
theorem Inv.big (I:Inv X pins σ H s):sysModules < s.heap.objs.size:=by
 have h:mainGlobals < s.heap.objs.size:=(I.mod.glob.keeps I.bk).lt;exact Nat.lt_trans #v[] h
theorem nC {h':IF}{t':Hu}{ob:HO}(I:Inv X pins σ H s)(mu:DH (H a))(hs:J3 a s.heap h')(he:∃q,h'.get? a=gV q)(new:ObjOk X.prog X.w (cv H a ob) h' a ob) :
  Inv X pins σ (cv H a ob) { s with heap:=h',toks:=t' }:=
 I.write (x:=a) (e:=a) mu (.inl rfl) (λb q hb z=>(hs.2 b hb).trans z) he new
end
noncomputable abbrev VV:Hm (V×V)->Hm (Ho×Ho)->Prop:=LW λp q=>RelV p.1 q.1/\RelV p.2 q.2
end L2
namespace Att
open PySem PySem.W PySem.Calls PyProof.Rows
theorem jQ {P:Ob}{h:IF}:∀(ns:Hm HF) (vs:Hm Ho),WellAll P h vs (ns.map WData.int)->N2 vs ns:=by
 intro ns
 induction ns with
 | nil=>
  intro vs w;rw[Nl]at w;cases w;exact .nil
 | cons n ns ih=>
  intro vs w;rw[Jr]at w;cases w with
  | cons a b=>
   cases a;exact .cons _ _ (ih _ b)
theorem t8 {l:OpenLaw}{n:Hu}(hn:l.most=gV n){P:Ob}{h:IF}{args:Hm WData}{vals:Hm Ho}
  (hpre:l.row.toRowW.claim.pre args=true) (hwl:WellAll P h vals args) :
  ∃a vs ns,vals=[IA a]/\args=[WData.list (ns.map WData.int)]/\h.get? a=gV { cls:=.type "list",data:=.seq vs.toArray }/\N2 vs ns/\ns.length<=n:=by
 have hsh:WShape.hasAll [] args [.list .int]=true:=(pre_splitW hpre).1;have hc:l.pre.holds [] { args:=args }=true:=(pre_splitW hpre).2;obtain⟨d,r,rfl,h1,h2⟩:=hasAllW_cons hsh;obtain rfl:=hasAllW_nil h2;obtain⟨xs,rfl,h3⟩:=hasW_list h1;obtain⟨ns,rfl⟩:=items_int h3;have hlen:ns.length<=n:=by
  unfold OpenLaw.pre at hc;have h4:(WTm.not (.lt (.lit (.int (n:HF))) (.len (.arg 0)))).holds [] { args:=[.list (ns.map .int)] }=true:=by
   have h4:=(holds_andW hc).1;rw[hn]at h4;exact h4
  have h5:=condW_of h4 (w_not (w_lt w_lit (w_len_list (w_arg rfl))));rw[Hq]at h5;refine Nat.le_of_not_lt λq=>?_
  have q':(n:HF) < ((ns.length:Hu):HF):=∅
  first
   | (rw[Jg q']at h5; exact absurd h5 #v[])
   | (simp at h5; omega)
 cases hwl with
 | cons w1 w2=>
  cases w2;cases w1 with
  | list ho hall=>exact#[_,_,ns,rfl,rfl,ho,jQ ns _ hall,hlen]
theorem t9 (l:OpenLaw)(args:Hm WData):l.row.toRowW.claim.post args (.bool true) args=true:=
 postW_of (r:=l.row.toRowW) (X:=(true==true))
  (show WShape.has [] (.bool true) .bool=true by first|rfl|decide|simp[WShape.has,WShape.arms,WShape.armsAll])
  (show(WTm.eq .res (.lit (.bool true))).value [] { args:=args,res:=gV (.bool true),after:=args }=gV (.bool (true==true))from w_eq_bool (w_res rfl) w_lit) rfl
theorem attach_call {l:OpenLaw}{n:Hu}{q:HZ}{loose:Hm HL}{XP:(HL->Ht Ho)->IF->Prop}{YP:Iw->IF->Prop}{d:DefRec}
  (hn:l.most=gV n) (hdf:d.params.defaults=[])
  (call:∀(w:Iw) (s₀ s₁:Hr) (mg mb:HL->Ht Ho) (fa:Hx) (o:Jn) (pm cd doc:Ho) (a:Hx) (vs:Hm Ho) (ns:Hm HF),
   Ground q loose [] XP w s₀ mg mb s₁.heap->YP w s₁.heap->
   s₁.heap.get? fa=gV o->o.data=.func (docDef d.name d.params d.body d.scope pm cd doc)->s₁.heap.CodeRec cd d.name->mg d.name=gV (.ref fa)->
   s₁.heap.get? a=gV { cls:=.type "list",data:=.seq vs.toArray }->N2 vs ns->ns.length<=n->s₁.gens=#[]->
   codeAny (model l.prog w) callerA (.call (.ref fa) #[[.ref a],[]]) (λr s'=>r=.ok (.ret (.bool true))/\OldK s₁.heap s'.heap/\s'.os=s₁.os/\LD s'.gens) s₁) :
  WalkO q loose XP YP l.row.toRowW d [] (λf vs=>Oc f vs):=by
 intro w s₀ s₁ mg mb G Y fa o pm cd doc dV kV ho hd hcd hD hmg hg args vals as hpre hlay hrd hwl hlo;obtain rfl:dV=.none:=Dflts.none hD hdf;obtain rfl:kV=.none:=Dflts.noKw hD;obtain⟨a,vs,ns,rfl,rfl,hobj,hints,hlen⟩:=t8 hn hpre hwl;refine enter_call (LY (call w s₀ s₁ mg mb fa o pm cd doc a vs ns G Y ho (fd_plain hd) hcd hmg hobj hints hlen hg) λr s' hq=>?_)
 obtain⟨rfl,h2,h3,h4⟩:=hq;exact#[.inl #[.bool true,.bool true,[],rfl,λ_=>rfl,.bool true,t9 l _,λ_=>#[Pn,λ_ hm=>(nomatch hm)]],h2,h3,h4]
end Att
namespace L2
open PySem PySem.Spec PyProof.Rows
theorem mz:∀ {vs:Hm Ho} {ns:Hm HF},N2 vs ns->Vals (ns.map V.int) vs
 | _,_,.nil=>.nil
 | _,_,.cons n t h=>.cons #[t,rfl] (mz h)
noncomputable def vH (H:Hp):Prop:=∀b,H b=td\/∃o xs,H b=gV (.frz o (.lst xs))
theorem vI {P:HZ}{w:Iw}{K:HC}{mg mb:HL->Ht Ho}{CX:vx}{k:Hu}{fa a:Hx}{fd:JU}{x:HL}{sp:Sp}{s₁:Hr}{vs:Hm Ho}{ns:Hm HF}
  (KX:K.In s₁.heap) (hns:s₁.heap.Ns mainGlobals mg) (hb:s₁.heap.Ns builtinsNs mb) (hbb:∀x:HL,x≠"__name__"->mb x=bootBuiltins x) (hlim:s₁.heap.NoLimit) (hg:s₁.gens=#[])
  (ha:s₁.heap.get? a=gV { cls:=.type "list",data:=.seq vs.toArray }) (hi:N2 vs ns) (hl:ns.length<=sizeLine) (hr:Room k callerA)
  (F:∀base:IF,K.In base->base.Ns mainGlobals mg->FnOk P w K mg base CX k fa fd [x] sp) (hbind:∀(s:Hr) (u:Ho),Nf s fd #[[u],[]] [(x,u)])
  (hsp:∀H:Hp,vH H->SqL K H a (ns.map V.int)->sp [.ref a] H (λv _=>v=.bl true) λ_ _ _=>IW)
  (hCX:∀H e s',CX [] H s₁ (λ_ _ _=>IW) e s'->IW) :
  codeAny (model P w) callerA (.call (.ref fa) #[[.ref a],[]]) (λr s'=>r=.ok (.ret (.bool true))/\OldK s₁.heap s'.heap/\s'.os=s₁.os/\LD s'.gens) s₁:=by
 have rv:=mz hi;have lenV:=hi.length;have core:∀H:Hp,vH H->SqL K H a (ns.map V.int)->HOk P w H s₁.heap->(∀b,H b≠td->b=a)->(H a≠td->K.lookup a=td)->
   codeAny (model P w) callerA (.call (.ref fa) #[[.ref a],[]]) (λr s'=>r=.ok (.ret (.bool true))/\OldK s₁.heap s'.heap/\s'.os=s₁.os/\LD s'.gens) s₁:=by
  intro H hO hS hok hA hK;have base_of:∀ {b:Hx} {o:Jn},s₁.heap.get? b=gV o->H b=td->(nr s₁.heap H).get? b=gV o:=λe n=>vd e n
  have noA:∀ {b:Hx} {o:Jn} {es:IC JJ} {ep:Hu},s₁.heap.get? b=gV o->o.data=.dict es ep->H b=td:=λ{b o es ep} e d=>by
   cases q:H b with
   | none=>rfl
   | some u=>
    have e':b=a:=hA b (by rw[q]; simp)
    subst e';rw[ha]at e; cases e
    have d':Data.seq vs.toArray _=Data.dict es ep:=d;cases d'
  have nsK:∀ {b:Hx} {m:HL->Ht Ho},s₁.heap.Ns b m->(nr s₁.heap H).Ns b m:=λ{b m} #[o,es,ep,e,d,r]=>#[o,es,ep,base_of e (noA e d),d,r]
  have hKb:K.In (nr s₁.heap H):=λb o e=>base_of (KX b o e) (by
   cases q:H b with
   | none=>rfl
   | some u=>
    have e':b=a:=hA b (by rw[q]; simp)
    subst e';rw[hK (by rw[q]; simp)]at e; cases e)
  have hM:Mod K mg (nr s₁.heap H):=#[hKb,nsK hns,#[mb,nsK hb,hbb],let ⟨mc,h1,h2⟩:=hlim; #[mc,nsK h1,h2]]
  have e0:Env0 P w K mg (nr s₁.heap H) callerA [] s₁ H:=#[rfl,hM,λb o e=>yu e,Nat.le_of_eq (tN _ _),trivial,λb hb=>absurd (show b∈([]:Hm Hx)from hb) (by simp),hok,.of_eq hg]
  refine LY ((F _ hKb (nsK hns)).run callerA [] s₁ H #[[.ref a],[]] [.ref a] [.ref a] _ _ hr e0 (hbind s₁ (.ref a)) #v[rfl] (hsp H hO hS)) λr s' h=>?_
  cases r with
  | error e=>exact(hCX H e s' h).elim
  | ok fl=>
   cases fl with
   | next=>exact IW.elim h
   | brk=>exact IW.elim h
   | cont=>exact IW.elim h
   | ret u=>
    obtain⟨v,H',os,bare,un,hok',r',q⟩:=h;have q':v=.bl true:=q;subst q';obtain rfl:u=Ko true:=r';refine#[rfl,OldK.of_keep λb o e=>?_,os,bare]
    cases q:H b with
    | none=>exact un.keep b o e q (by intro z; exact absurd (show b∈([]:Hm Hx)from z) (by simp)) (by simp)
    | some u=>
     rcases hO b with z|⟨ob,xs,z⟩
     ·rw[q]at z; cases z
     ·have z2:=un.frzs b ob _ z;obtain⟨e1,_⟩:=hok b _ z;obtain⟨e2,_⟩:=hok' b _ z2;rw[e]at e1; cases e1
      exact e2
 cases hk:K.lookup a with
 | some o=>
  have e:=KX a o hk;rw[ha]at e;cases e;refine core (λ_=>td) (λ_=>.inl rfl) (.inr #[_,vs.toArray,_,hk,rfl,rfl,rfl,by rw[HH,lenV]; exact hl,by simpa using rv]) (λb u z=>by have z':(td:Ht HO)=gV u:=z; cases z') (λb z=>absurd rfl z) λz=>absurd rfl z
 | none=>
  refine core (λb=>if b=a then gV (.frz { cls:=.type "list",data:=.seq vs.toArray } (.lst (ns.map V.int)))else td) (λb=>?_) (.inl (.inr #[{ cls:=.type "list",data:=.seq vs.toArray },HW rfl])) (λb u z=>?_) (λb z=>?_) λ_=>hk
  ·by_cases hb:b=a
   ·exact .inr #[_,_,HW hb]
   ·exact .inl (Ix hb)
  ·by_cases hb:b=a
   ·have z':=(HW hb).symm.trans z;cases z';subst hb;exact#[ha,by rw[Hq]; exact hl,vs,_,rv,ha]
   ·have z':=(Ix hb).symm.trans z;cases z'
  ·by_cases hb:b=a
   ·exact hb
   ·exact absurd (Ix hb) z
theorem yV {l:L9}{n k:Hu}{q:HZ}{loose:Hm HL}{XP:(HL->Ht Ho)->IF->Prop}{YP:Iw->IF->Prop}{d:DefRec}{K:Ob->HC}{CX:Iw->vx}{sp:Iw->Sp}{x:HL}
  (hn:l.most=gV n) (hn2:n<=sizeLine) (hdf:d.params.defaults=[]) (hr:Room k callerA)
  (hY:∀(w:Iw) (h:IF),YP w h->(K w.params).In h)
  (F:∀(w:Iw) (mg:HL->Ht Ho) (fa:Hx) (h:IF),(K w.params).In h->h.Ns mainGlobals mg->mg d.name=gV (.ref fa)->
   ∃fd:JU,(∀(s:Hr) (u:Ho),Nf s fd #[[u],[]] [(x,u)])/\
    ∀base:IF,(K w.params).In base->base.Ns mainGlobals mg->FnOk l.prog w (K w.params) mg base (CX w) k fa fd [x] (sp w))
  (hsp:∀(w:Iw) (H:Hp) (a:Hx) (ns:Hm HF),ns.length<=n->vH H->SqL (K w.params) H a (ns.map V.int)->sp w [.ref a] H (λv _=>v=.bl true) λ_ _ _=>IW)
  (hCX:∀(w:Iw) (H:Hp) (s:Hr) (e:Ho) (s':Hr),CX w [] H s (λ_ _ _=>IW) e s'->IW) :
  Oy q loose XP YP l.row.toRowW d [] (λf vs=>Oc f vs):=by
 refine Att.attach_call hn hdf λw s₀ s₁ mg mb fa o pm cd doc a vs ns G Y ho hd hcd hmg hobj hints hlen hg=>?_
 have KX:=hY w _ Y;obtain⟨fd,hb,hF⟩:=F w mg fa _ KX G.T.g hmg;exact vI KX G.T.g G.T.b G.T.builtins G.T.nolimit hg hobj hints (IE hlen hn2) hr hF hb (λH hO hS=>hsp w H a ns hlen hO hS) λH e s'=>hCX w H s₁ e s'
noncomputable def dX (s:J8):Arguments:=match s with
 | .FunctionDef _ a _ _ _ _ _ _ _ _=>a
 | _=>{ posonlyargs:=[],args:=[],vararg:=td,kwonlyargs:=[],kw_defaults:=[],kwarg:=td,defaults:=[] }
noncomputable def db (s:J8):Hm J8:=match s with
 | .FunctionDef _ _ b _ _ _ _ _ _ _=>b
 | _=>[]
noncomputable def ag (s:J8):Kl:=match s with
 | .FunctionDef _ _ _ _ _ _ sc _ _ _=>sc
 | _=>{ kind:=.function,names:=[],isGenerator:=false,isCoroutine:=false }
noncomputable abbrev u9:vx:=λ_ _ _ _ _ _=>IW
noncomputable abbrev E0:XK:=λ_ _ _=>IW
theorem Be {X:Cx}:nv u9 X E0:=λ_ _ _ _ _ _ _ h=>h.elim
structure Fun (K:HC)(x qual:HL)(st:J8)(f:Hx)(fd:JU):Prop where
 ex:∃(oc:Ho) (od:Ht Hx) (kV doc pm:Ho) (an:Ht Hx) (cdv ct:Ho) (osl:IC (Ht Ho)),
  fd=JF x qual (dX st) (db st) (ag st) .none kV doc pm an cdv ct/\K.lookup f=gV #[oc,od,.func fd,osl]/\Kr K cdv qual=true
 kp:Jd K (.ref f)=true
section
variable{P:HZ}{w:Iw}{K:HC}{mg:HL->Ht Ho}{base:IF}
theorem Fun.ok {x qual:HL}{st:J8}{f:Hx}{fd:JU}{N ps:Hm HL}{k:Hu}{sp:Sp}(F:Fun K x qual st f fd)(S:FnScope N ps (ag st))(len:∀vs H Q E,sp vs H Q E->vs.length=ps.length)
  (hbody:∀(cdv:Ho) (A:Iu) (outer:Hm Na) (s:Hr) (H:Hp) (vs:Hm V) (Q:VK) (E:XK),Room k (A.deeper (envOfC qual (ag st) s.heap.objs.size f cdv))->sp vs H Q E->
   ∃t,PSs (qY u9 P w K mg base N qual (ag st) f cdv A outer s H E).nox (db st) t/\t { nx:=λ_ H'=>Q .non H',rt:=Q } (fS N vs) H):FnOk P w K mg base u9 (k+1) f fd ps sp:=by
 obtain⟨oc,od,kV,doc,pm,an,cdv,ct,osl,rfl,lk,hcd⟩:=F.ex;refine Ed lk hcd S len λA outer s H vs Q E hr hsp=>?_
 obtain⟨t,h,q⟩:=hbody cdv A outer s H vs Q E hr hsp;exact#[t,h.nox,q]
theorem Fun.binds {x qual:HL}{st:J8}{f:Hx}{fd:JU}{ps:Hm HL}(F:Fun K x qual st f fd)
  (h:∀(kV doc pm:Ho) (an:Ht Hx) (cdv ct:Ho) (us:Hm Ho),us.length=ps.length->bindArgs (JF x qual (dX st) (db st) (ag st) .none kV doc pm an cdv ct) #[us,[]]=pure (ps.zip us)):Binds K fd ps []:=by
 obtain⟨oc,od,kV,doc,pm,an,cdv,ct,osl,rfl,lk,hcd⟩:=F.ex;exact .all (h kV doc pm an cdv ct)
theorem vJ {x qual:HL}{st:J8}{f:Hx}{oc:Ho}{od an:Ht Hx}{osl:IC (Ht Ho)}{kV doc pm cdv ct:Ho}(l:K.lookup f=gV #[oc,od,.func (JF x qual (dX st) (db st) (ag st) .none kV doc pm an cdv ct),osl])
  (c:Kr K cdv qual=true) (k:Jd K (.ref f)=true):Fun K x qual st f (JF x qual (dX st) (db st) (ag st) .none kV doc pm an cdv ct):=#[#[oc,od,kV,doc,pm,an,cdv,ct,osl,rfl,l,c],k]
end
end L2
namespace Mi
open PySem PySem.Spec PyProof.Rows L2
inductive W where
 | non|bl (b:HV)|int (i:HF)|str (x:HL)|tup (xs:Hm W)|ref (i:Hu)
inductive T where
 | int (i:HF)|str (x:HL)|tup (xs:Hm T)
mutual
noncomputable def T.beq:T->T->HV
 | .int i,.int j=>i==j
 | .str x,.str y=>x==y
 | .tup xs,.tup ys=>T.beqs xs ys
 | _,_=>false
noncomputable def T.beqs:Hm T->Hm T->HV
 | [],[]=>true
 | x::xs,y::ys=>T.beq x y&&T.beqs xs ys
 | _,_=>false
end
mutual
theorem T.beq_iff:∀x y:T,T.beq x y=true↔x=y
 | .int i,.int j=>by simp[T.beq]
 | .str x,.str y=>by simp[T.beq]
 | .tup xs,.tup ys=>by simp[T.beq,T.beqs_iff xs ys]
 | .int _,.str _|.int _,.tup _|.str _,.int _|.str _,.tup _|.tup _,.int _|.tup _,.str _=>by simp[T.beq]
theorem T.beqs_iff:∀xs ys:Hm T,T.beqs xs ys=true↔xs=ys
 | [],[]=>by simp[T.beqs]
 | x::xs,y::ys=>by simp[T.beqs,T.beq_iff x y,T.beqs_iff xs ys]
 | [],_::_|_::_,[]=>by simp[T.beqs]
end
noncomputable instance:Kn T:=λx y=>decidable_of_iff (T.beq x y=true) (T.beq_iff x y)
mutual
noncomputable def T.w:T->W
 | .int i=>.int i
 | .str x=>.str x
 | .tup xs=>.tup (T.ws xs)
noncomputable def T.ws:Hm T->Hm W
 | []=>[]
 | x::xs=>T.w x::T.ws xs
end
mutual
noncomputable def W.t:W->Ht T
 | .int i=>gV (.int i)
 | .str x=>gV (.str x)
 | .tup xs=>(W.ts xs).map .tup
 | _=>td
noncomputable def W.ts:Hm W->Ht (Hm T)
 | []=>gV []
 | x::xs=>match W.t x,W.ts xs with
  | some y,gV ys=>gV (y::ys)
  | _,_=>td
end
mutual
theorem W.t_w:∀ {w:W} {k:T},W.t w=gV k->k.w=w
 | .int i,_,h=>by cases h; rfl
 | .str x,_,h=>by cases h; rfl
 | .tup xs,_,h=>by
  simp only[W.t,Hs]at h;obtain⟨ks,h1,h2⟩:=h;subst h2;simp only[T.w,W.ts_w h1]
 | .non,_,h|.bl _,_,h|.ref _,_,h=>by cases h
theorem W.ts_w:∀ {ws:Hm W} {ks:Hm T},W.ts ws=gV ks->T.ws ks=ws
 | [],_,h=>by cases h; rfl
 | w::ws,_,h=>by
  simp only[W.ts]at h;split at h
  ·rename_i y ys h1 h2;cases h;simp only[T.ws,W.t_w h1,W.ts_w h2]
  ·cases h
end
mutual
theorem T.w_t:∀k:T,W.t k.w=gV k
 | .int _=>rfl
 | .str _=>rfl
 | .tup xs=>by simp only[T.w,W.t,T.ws_ts xs,Ij]
theorem T.ws_ts:∀ks:Hm T,W.ts (T.ws ks)=gV ks
 | []=>rfl
 | x::xs=>by simp only[T.ws,W.ts,T.w_t x,T.ws_ts xs]
end
mutual
noncomputable def T.depth:T->Hu
 | .tup xs=>T.depths xs+1
 | _=>0
noncomputable def T.depths:Hm T->Hu
 | []=>0
 | x::xs=>max (T.depth x) (T.depths xs)
end
mutual
noncomputable def T.draws:T->Hu
 | .tup xs=>T.drawss xs+1
 | _=>1
noncomputable def T.drawss:Hm T->Hu
 | []=>0
 | x::xs=>T.draws x+T.drawss xs
end
mutual
noncomputable def pi (wd:Iw):T->HF
 | .int i=>hashInt i
 | .str x=>hashStr wd x
 | .tup xs=>reduceHash (Lw (ko wd xs))
noncomputable def ko (wd:Iw):Hm T->Hm HF
 | []=>[]
 | x::xs=>pi wd x::ko wd xs
end
noncomputable def T.isTup:T->HV
 | .tup _=>true
 | _=>false
noncomputable def bS:Hu:=6
inductive O where
 | lst (xs:Hm W)
 | fro (xs:Hm W)
 | rng (lo hi:HF)
 | dic (kvs:Hm (T×W))
 | frd (kvs:Hm (T×W))
noncomputable abbrev aa:=Hm O
noncomputable abbrev Fm:=Hm (Ht W)
section
variable (K:HC) (A:Hm Hx) (H:Hp)
mutual
inductive Rel:W->V->Prop
 | non:Rel .non .non
 | bl {b:HV}:Rel (.bl b) (.bl b)
 | int {i:HF}:Rel (.int i) (.int i)
 | str {x:HL}:Rel (.str x) (.str x)
 | tup {ws:Hm W} {a:Hx} {vs:Hm V}:SqT K H a vs->RelL ws vs->Rel (.tup ws) (.ref a)
 | ref {i:Hu} {a:Hx}:A[i]?=gV a->Rel (.ref i) (.ref a)
inductive RelL:Hm W->Hm V->Prop
 | nil:RelL [] []
 | cons {w:W} {v:V} {ws:Hm W} {vs:Hm V}:Rel w v->RelL ws vs->RelL (w::ws) (v::vs)
end
end
section
variable{K:HC}{A A' A'':Hm Hx}{H H' H'':Hp}
structure Ext (K:HC)(A:Hm Hx)(H:Hp)(A':Hm Hx)(H':Hp):Prop where
 ad:∀(i:Hu) (a:Hx),A[i]?=gV a->A'[i]?=gV a
 tp:∀(a:Hx) (vs:Hm V),SqT K H a vs->SqT K H' a vs
 fz:∀(a:Hx) (o:Jn) (u:HO),H a=gV (.frz o u)->H' a=gV (.frz o u)
theorem Ext.refl:Ext K A H A H:=#[λ_ _ h=>h,λ_ _ h=>h,λ_ _ _ h=>h]
theorem Ext.trans (e:Ext K A H A' H')(f:Ext K A' H' A'' H''):Ext K A H A'' H'':=#[λi a h=>f.ad i a (e.ad i a h),λa vs h=>f.tp a vs (e.tp a vs h),λa o u h=>f.fz a o u (e.fz a o u h)]
mutual
theorem Rel.mono (e:Ext K A H A' H'):∀ {w:W} {v:V},Rel K A H w v->Rel K A' H' w v
 | _,_,.non=>.non
 | _,_,.bl=>.bl
 | _,_,.int=>.int
 | _,_,.str=>.str
 | _,_,.tup h r=>.tup (e.tp _ _ h) (RelL.mono e r)
 | _,_,.ref h=>.ref (e.ad _ _ h)
theorem RelL.mono (e:Ext K A H A' H'):∀ {ws:Hm W} {vs:Hm V},RelL K A H ws vs->RelL K A' H' ws vs
 | _,_,.nil=>.nil
 | _,_,.cons r t=>.cons (Rel.mono e r) (RelL.mono e t)
end
theorem RelL.length:∀ {ws:Hm W} {vs:Hm V},RelL K A H ws vs->ws.length=vs.length
 | _,_,.nil=>rfl
 | _,_,.cons _ t=>by simp[RelL.length t]
theorem RelL.get:∀ {ws:Hm W} {vs:Hm V} {i:Hu} {w:W},RelL K A H ws vs->ws[i]?=gV w->∃v,vs[i]?=gV v/\Rel K A H w v
 | _,_,_,_,.nil,e=>by simp at e
 | _,_,0,_,.cons r _,e=>by simp at e; subst e; exact#[_,rfl,r]
 | _,_,i+1,w,.cons _ t,e=>by
  obtain⟨u,h1,h2⟩:=RelL.get (i:=i) (w:=w) t (by simpa using e)
  exact#[u,by simpa using h1,h2]
theorem RelL.append:∀ {xs ys:Hm W} {us ws:Hm V},RelL K A H xs us->RelL K A H ys ws->RelL K A H (xs++ys) (us++ws)
 | _,_,_,_,.nil,s=>s
 | _,_,_,_,.cons r t,s=>.cons r (RelL.append t s)
theorem RelL.take:∀ {xs:Hm W} {us:Hm V} (n:Hu),RelL K A H xs us->RelL K A H (xs.take n) (us.take n)
 | _,_,0,_=>.nil
 | _,_,_+1,.nil=>.nil
 | _,_,n+1,.cons r t=>.cons r (RelL.take n t)
theorem RelL.drop:∀ {xs:Hm W} {us:Hm V} (n:Hu),RelL K A H xs us->RelL K A H (xs.drop n) (us.drop n)
 | _,_,0,r=>r
 | _,_,_+1,.nil=>.nil
 | _,_,n+1,.cons _ t=>RelL.drop n t
theorem RelL.set {x:W}{u:V}(r:Rel K A H x u):∀ {xs:Hm W} {us:Hm V} (i:Hu),RelL K A H xs us->RelL K A H (xs.set i x) (us.set i u)
 | _,_,_,.nil=>.nil
 | _,_,0,.cons _ t=>.cons r t
 | _,_,i+1,.cons q t=>.cons q (RelL.set r i t)
theorem RelL.rep {xs:Hm W}{us:Hm V}(h:RelL K A H xs us):∀k:Hu,RelL K A H (HY k xs).flatten (HY k us).flatten
 | 0=>.nil
 | k+1=>by
  rw[Jl,Jl,J6,J6];exact RelL.append h (RelL.rep h k)
theorem RelL.eraseIdx:∀ {xs:Hm W} {us:Hm V} (i:Hu),RelL K A H xs us->RelL K A H (xs.eraseIdx i) (us.eraseIdx i)
 | _,_,_,.nil=>.nil
 | _,_,0,.cons _ t=>t
 | _,_,i+1,.cons r t=>.cons r (RelL.eraseIdx i t)
noncomputable def FroL (K:HC)(H:Hp)(a:Hx)(vs:Hm V):Prop:=
 (∃o,H a=gV (.frz o (.lst vs)))\/
  ∃(o:Jn) (its:IC Ho) (n:Hu),K.lookup a=gV o/\o.cls=.type "list"/\o.dict=td/\o.data=.seq its n/\its.size<=sizeLine/\Vals vs its.toList
theorem FroL.sq {a:Hx}{vs:Hm V}(h:FroL K H a vs):SqL K H a vs:=by
 rcases h with⟨o,h⟩|h
 ·exact .inl (.inr #[o,h])
 ·exact .inr h
noncomputable def vK (wd:Iw)(x:T×Hx×Ho):JJ:=#[pi wd x.1,.ref x.2.1,x.2.2]
noncomputable def DicAt (wd:Iw)(a:Hx)(xs:Hm (T×Hx×Ho))(h:IF):Prop:=
 xs.length<=sizeLine/\(a==sysModules)=false/\(xs.map (·.1)).Nodup/\∃o es ep,h.get? a=gV o/\o.ExactDict/\o.data=.dict es ep/\es.toList=xs.map (vK wd)
noncomputable def ec (wd:Iw)(a:Hx)(xs:Hm (T×Hx×Ho)):HO:=.ext (DicAt wd a xs)
noncomputable def KRel (K:HC)(A:Hm Hx)(H:Hp):Hm (T×W)->Hm (T×Hx×Ho)->Prop:=
 LW λ(p:T×W) (q:T×Hx×Ho)=>p.1=q.1/\p.1.isTup=true/\p.1.depth<=bS/\Rel K A H p.1.w (.ref q.2.1)/\∃v,Rel K A H p.2 v/\RelV v q.2.2
theorem KRel.mono (e:Ext K A H A' H'){kvs:Hm (T×W)}{xs:Hm (T×Hx×Ho)}(h:KRel K A H kvs xs):KRel K A' H' kvs xs:=
 Paired.mapP h λ_ _ #[h1,h2,h3,h4,v,h5,h6]=>#[h1,h2,h3,h4.mono e,v,h5.mono e,h6]
variable{wd:Iw}
noncomputable def ObjRel (wd:Iw)(K:HC)(A:Hm Hx)(H:Hp)(a:Hx):O->Prop
 | .lst ws=>∃vs,H a=gV (.lst vs)/\RelL K A H ws vs
 | .fro ws=>∃vs,FroL K H a vs/\RelL K A H ws vs
 | .rng lo hi=>H a=gV (.rng lo hi)
 | .dic kvs=>∃xs,H a=gV (ec wd a xs)/\KRel K A H kvs xs
 | .frd kvs=>∃o xs,H a=gV (.frz o (ec wd a xs))/\KRel K A H kvs xs
noncomputable def O.mut:O->HV
 | .fro _=>false
 | .rng _ _=>false
 | .frd _=>false
 | _=>true
structure StoreOk (wd:Iw)(K:HC)(A:Hm Hx)(H:Hp)(S:aa):Prop where
 len:A.length=S.length
 nd:∀(i j:Hu) (a:Hx) (o u:O),S[i]?=gV o->o.mut=true->S[j]?=gV u->u.mut=true->A[i]?=gV a->A[j]?=gV a->i=j
 obj:∀(i:Hu) (o:O) (a:Hx),S[i]?=gV o->A[i]?=gV a->ObjRel wd K A H a o
noncomputable def EnvRel (K:HC)(A:Hm Hx)(H:Hp)(ρ:Fm)(σ:L2.St):Prop:=
 ρ.length=σ.length/\∀(i:Hu) (w:W),ρ[i]?=gV (gV w)->∃v,σ[i]?=gV (gV v)/\Rel K A H w v
theorem EnvRel.mono {ρ:Fm}{σ:L2.St}(e:Ext K A H A' H')(h:EnvRel K A H ρ σ):EnvRel K A' H' ρ σ:=
 #[h.1,λi w q=>let ⟨v,a,b⟩:=h.2 i w q; #[v,a,b.mono e]]
theorem EnvRel.set {ρ:Fm}{σ:L2.St}{w:W}{v:V}(h:EnvRel K A H ρ σ)(r:Rel K A H w v)(i:Hu):EnvRel K A H (ρ.set i (gV w)) (σ.set i (gV v)):=by
 refine#[by simp[h.1],λj w' q=>?_]
 rw[JA]at q ⊢
 by_cases e:i=j
 ·subst e;rw[HW rfl]at q ⊢
  by_cases hl:i < ρ.length
  ·rw[HW hl]at q;rw[HW (h.1 ▸ hl)];cases q;exact#[v,rfl,r]
  ·rw[Ix hl]at q; cases q
 ·rw[Ix e]at q ⊢;exact h.2 j w' q
noncomputable def Wr (H:Hp)(p:Hx):Prop:=H p=td\/(∃xs,H p=gV (.lst xs))\/(∃φ,H p=gV (.ext φ))\/∃ks,H p=gV (.dK ks)
theorem Wr.lst {p:Hx}{xs:Hm V}(h:H p=gV (.lst xs)):Wr H p:=.inr (.inl #[xs,h])
theorem Wr.ext {p:Hx}{φ:IF->Prop}(h:H p=gV (.ext φ)):Wr H p:=.inr (.inr (.inl #[φ,h]))
theorem Wr.ne_tup {p a:Hx}{xs:Hm V}(hp:Wr H p)(h:H a=gV (.tup xs)):a≠p:=by
 intro e; subst e
 rcases hp with q|⟨xs,q⟩|⟨φ,q⟩|⟨ks,q⟩ <;> (rw[h]at q; cases q)
theorem Wr.ne_frz {p a:Hx}{o:Jn}{u:HO}(hp:Wr H p)(h:H a=gV (.frz o u)):a≠p:=by
 intro e; subst e
 rcases hp with q|⟨xs,q⟩|⟨φ,q⟩|⟨ks,q⟩ <;> (rw[h]at q; cases q)
theorem Wr.ne_rng {p a:Hx}{lo hi:HF}(hp:Wr H p)(h:H a=gV (.rng lo hi)):a≠p:=by
 intro e; subst e
 rcases hp with q|⟨xs,q⟩|⟨φ,q⟩|⟨ks,q⟩ <;> (rw[h]at q; cases q)
theorem sg {p:Hx}{o:HO}(hp:Wr H p){a:Hx}{vs:Hm V}(h:SqT K H a vs):SqT K (cv H p o) a vs:=by
 rcases h with(h|⟨o',h⟩)|h
 ·exact .inl (.inl (by rw[aX (hp.ne_tup h)]; exact h))
 ·exact .inl (.inr #[o',by rw[aX (hp.ne_frz h)]; exact h])
 ·exact .inr h
theorem vL {p:Hx}{o:HO}(hp:Wr H p){a:Hx}{vs:Hm V}(h:FroL K H a vs):FroL K (cv H p o) a vs:=by
 rcases h with⟨o',h⟩|h
 ·exact .inl #[o',by rw[aX (hp.ne_frz h)]; exact h]
 ·exact .inr h
theorem dD {p:Hx}{o:HO}(hp:Wr H p):Ext K A H A (cv H p o):=#[λ_ _ h=>h,λ_ _ h=>sg hp h,λ_ _ _ h=>by rw[aX (hp.ne_frz h)]; exact h]
theorem ee {p:Hx}{o:HO}(hp:H p=td):Ext K A H (A++[p]) (cv H p o):=
 #[λi a h=>by rw[Im (HI.mp h).1]; exact h,λ_ _ h=>sg (.inl hp) h,λ_ _ _ h=>by rw[aX (Wr.ne_frz (.inl hp) h)]; exact h]
theorem ObjRel.keep {p a:Hx}{o:HO}{b:O}(hp:Wr H p)(hne:b.mut=true->a≠p)(e:Ext K A H A' (cv H p o))(h:ObjRel wd K A H a b):ObjRel wd K A' (cv H p o) a b:=by
 cases b with
 | lst ws=>
  obtain⟨vs,q,r⟩:=h;exact#[vs,by rw[aX (hne rfl)]; exact q,r.mono e]
 | fro ws=>
  obtain⟨vs,q,r⟩:=h;exact#[vs,vL hp q,r.mono e]
 | rng lo hi=>
  have h:H a=gV (.rng lo hi):=h;show cv H p o a=gV (.rng lo hi);rw[aX (hp.ne_rng h)];exact h
 | dic kvs=>
  obtain⟨xs,q,r⟩:=h;exact#[xs,by rw[aX (hne rfl)]; exact q,r.mono e]
 | frd kvs=>
  obtain⟨ob,xs,q,r⟩:=h;exact#[ob,xs,by rw[aX (hp.ne_frz q)]; exact q,r.mono e]
theorem ObjRel.there {a:Hx}{b:O}(h:ObjRel wd K A H a b)(hm:b.mut=true):H a≠td:=by
 cases b with
 | lst ws=>obtain⟨vs,q,r⟩:=h; rw[q]; intro z; cases z
 | fro ws=>cases hm
 | rng lo hi=>cases hm
 | dic kvs=>obtain⟨vs,q,r⟩:=h; rw[q]; intro z; cases z
 | frd ws=>cases hm
theorem ObjRel.wr {a:Hx}{b:O}(h:ObjRel wd K A H a b)(hm:b.mut=true):Wr H a:=by
 cases b with
 | lst ws=>obtain⟨vs,q,r⟩:=h; exact .lst q
 | fro ws=>cases hm
 | rng lo hi=>cases hm
 | dic kvs=>obtain⟨vs,q,r⟩:=h; exact .ext q
 | frd ws=>cases hm
theorem StoreOk.lay {S:aa}{p:Hx}{o:HO}(h:StoreOk wd K A H S)(hp:H p=td):StoreOk wd K A (cv H p o) S:=
 #[h.len,h.nd,λi b a e ea=>(h.obj i b a e ea).keep (.inl hp) (λhm z=>(h.obj i b a e ea).there hm (z ▸ hp)) (dD (.inl hp))]
theorem StoreOk.pushO {S:aa}{p:Hx}{n:O}{u:HO}(h:StoreOk wd K A H S)(hp:H p=td)(r:ObjRel wd K (A++[p]) (cv H p u) p n):StoreOk wd K (A++[p]) (cv H p u) (S++[n]):=by
 have ex:Ext K A H (A++[p]) (cv H p u):=ee hp;have old:∀ {i:Hu} {o:O} {a:Hx},(S++[n])[i]?=gV o->(A++[p])[i]?=gV a->i < S.length->S[i]?=gV o/\A[i]?=gV a:=λ{i o a} e ea hl=>by
  rw[Im hl]at e;rw[Im (h.len ▸ hl)]at ea;exact#[e,ea]
 have new:∀ {i:Hu} {o:O} {a:Hx},(S++[n])[i]?=gV o->(A++[p])[i]?=gV a->¬ i < S.length->i=S.length/\o=n/\a=p:=λ{i o a} e ea hl=>by
  have hi:i=S.length:=by
   have:=(HI.mp e).1;simp at this;omega
  subst hi;simp at e;rw[<- h.len]at ea;simp at ea;exact#[rfl,e.symm,ea.symm]
 refine#[by simp[h.len],λi j a o u e1 m1 e2 m2 a1 a2=>?_,λi o a e ea=>?_]
 ·by_cases hi:i < S.length <;> by_cases hj:j < S.length
  ·obtain⟨x1,y1⟩:=old e1 a1 hi;obtain⟨x2,y2⟩:=old e2 a2 hj;exact h.nd i j a o u x1 m1 x2 m2 y1 y2
  ·obtain⟨x1,y1⟩:=old e1 a1 hi;obtain⟨_,_,z⟩:=new e2 a2 hj;subst z;exact absurd hp ((h.obj i o a x1 y1).there m1)
  ·obtain⟨x2,y2⟩:=old e2 a2 hj;obtain⟨_,_,z⟩:=new e1 a1 hi;subst z;exact absurd hp ((h.obj j u a x2 y2).there m2)
  ·rw[(new e1 a1 hi).1,(new e2 a2 hj).1]
 ·by_cases hi:i < S.length
  ·obtain⟨x1,y1⟩:=old e ea hi;exact(h.obj i o a x1 y1).keep (.inl hp) (λhm z=>(h.obj i o a x1 y1).there hm (z ▸ hp)) ex
  ·obtain⟨_,rfl,rfl⟩:=new e ea hi;exact r
theorem StoreOk.push {S:aa}{p:Hx}{ws:Hm W}{vs:Hm V}(h:StoreOk wd K A H S)(hp:H p=td)(r:RelL K A H ws vs):StoreOk wd K (A++[p]) (cv H p (.lst vs)) (S++[.lst ws]):=
 h.pushO hp #[vs,bD,r.mono (ee hp)]
theorem StoreOk.writeO {S:aa}{i:Hu}{p:Hx}{o0 n:O}{u:HO}(h:StoreOk wd K A H S)(e:S[i]?=gV o0)(m0:o0.mut=true)(ea:A[i]?=gV p)(r:ObjRel wd K A (cv H p u) p n) :
  StoreOk wd K A (cv H p u) (S.set i n)/\Ext K A H A (cv H p u):=by
 have hw:Wr H p:=(h.obj i _ p e ea).wr m0;have ex:Ext K A H A (cv H p u):=dD hw;have hl:i < S.length:=(HI.mp e).1;refine#[#[by simp[h.len],λj k a o u e1 m1 e2 m2 a1 a2=>?_,λj o a e1 a1=>?_],ex]
 ·have get:∀ {j:Hu} {o:O},(S.set i n)[j]?=gV o->o.mut=true->∃o',S[j]?=gV o'/\o'.mut=true:=λ{j o} q m=>by
   rw[JA]at q
   by_cases z:i=j
   ·subst z; exact#[_,e,m0]
   ·rw[Ix z]at q; exact#[o,q,m]
  obtain⟨o',x1,m1'⟩:=get e1 m1;obtain⟨u',x2,m2'⟩:=get e2 m2;exact h.nd j k a o' u' x1 m1' x2 m2' a1 a2
 ·rw[JA]at e1
  by_cases z:i=j
  ·subst z;rw[HW rfl,HW hl]at e1;cases e1;rw[ea]at a1; cases a1
   exact r
  ·rw[Ix z]at e1;exact(h.obj j o a e1 a1).keep hw (λhm q=>z (h.nd i j p _ o e m0 e1 hm ea (q ▸ a1))) ex
theorem StoreOk.write {S:aa}{i:Hu}{p:Hx}{ws:Hm W}{us:Hm V}{ws0:Hm W}(h:StoreOk wd K A H S)(e:S[i]?=gV (.lst ws0))(ea:A[i]?=gV p)(r:RelL K A H ws us) :
  StoreOk wd K A (cv H p (.lst us)) (S.set i (.lst ws))/\Ext K A H A (cv H p (.lst us)):=
 h.writeO e rfl ea #[us,bD,r.mono (dD ((h.obj i _ p e ea).wr rfl))]
end
noncomputable def gX (S:aa)(i:Hu):Ht (Hm W):=match S[i]? with
 | some (.lst xs)=>gV xs
 | some (.fro xs)=>gV xs
 | _=>td
noncomputable def o8 (S:aa)(i:Hu):Ht (Hm W):=match S[i]? with
 | some (.lst xs)=>gV xs
 | _=>td
noncomputable def lI (S:aa)(xs:Hm W):Ht (W×aa):=if xs.length<=sizeLine then gV (.ref S.length,S++[.lst xs])else td
noncomputable def re (S:aa)(xs:Hm W):Ht (W×aa):=if xs.length<=sizeLine then gV (.tup xs,S)else td
noncomputable def yW (j:HF):HV:=decide (0 < j)&&decide (j < 1073741824)
noncomputable def ub (i j:HF):HV:=(decide (-(2 ^ 64) < i)&&decide (i < 2 ^ 64))||(decide (-(2 ^ 64) < j)&&decide (j < 2 ^ 64))
noncomputable def Ei (i j:HF):HV:=decide (0<=j)&&decide (j<=1000000)&&decide (i.natAbs < 2 ^ 64)
inductive BOp where|add|sub|mul|fdiv|mod|pow
 deriving Kn
noncomputable def yp (c:HF->HF->HV)(f:HF->HF->HF)(x y:W)(S:aa):Ht (W×aa):=match x,y with
 | .int i,.int j=>if c i j then gV (.int (f i j),S)else td
 | _,_=>td
noncomputable def vM (x y:W)(S:aa):Ht (W×aa):=match x with
 | .int i=>match y with
  | .int j=>gV (.int (i+j),S)
  | _=>td
 | .str x=>match y with
  | .str y=>if x.length+y.length<=sizeLine then gV (.str (x++y),S)else td
  | _=>td
 | .tup xs=>match y with
  | .tup ys=>re S (xs++ys)
  | _=>td
 | .ref i=>match y with
  | .ref j=>match o8 S i,o8 S j with
   | some xs,gV ys=>lI S (xs++ys)
   | _,_=>td
  | _=>td
 | _=>td
noncomputable def yX (x y:W)(S:aa):Ht (W×aa):=match x with
 | .str x=>match y with
  | .int k=>if k < 2 ^ 24/\-(2 ^ 24)<=k/\x.length*k.toNat<=sizeLine then gV (.str (PM x k),S)else td
  | _=>td
 | .ref i=>match y with
  | .int k=>match o8 S i with
   | some xs=>if k < 2 ^ 24/\-(2 ^ 24)<=k/\xs.length*k.toNat<=sizeLine then lI S (HY k.toNat xs).flatten else td
   | none=>td
  | _=>td
 | x=>yp ub (· * ·) x y S
noncomputable def im:BOp->W->W->aa->Ht (W×aa)
 | .add,x,y,S=>vM x y S
 | .sub,x,y,S=>yp (λ_ _=>true) (· - ·) x y S
 | .mul,x,y,S=>yX x y S
 | .fdiv,x,y,S=>yp (λ_ j=>yW j) (· / ·) x y S
 | .mod,x,y,S=>yp (λ_ j=>decide (0 < j)) (· % ·) x y S
 | .pow,x,y,S=>yp Ei (λi j=>i ^ j.toNat) x y S
noncomputable def BOp.py:BOp->Nd
 | .add=>.Add|.sub=>.Sub|.mul=>.Mult|.fdiv=>.FloorDiv|.mod=>.Mod|.pow=>.Pow
section
variable (X:Cx)
noncomputable def dS (pins:Hm (Hx×Jn))(σ:L2.St)(A:Hm Hx)(H:Hp)(S':aa)(w:W)(u:Ho)(s':Hr):Prop:=
 ∃v H' A',Inv X pins σ H' s'/\RelV v u/\Ext X.K A H A' H'/\StoreOk X.w X.K A' H' S'/\Rel X.K A' H' w v
noncomputable abbrev FE:=Fm->aa->Ht (W×aa)
noncomputable def LOp (f:Ho->Ho->OX Ho)(g:W->W->aa->Ht (W×aa)):Prop:=
 ∀(pins:Hm (Hx×Jn)) (s:Hr) (σ:L2.St) (H:Hp) (A:Hm Hx) (S:aa) (x y:W) (a b:V) (u v:Ho) (w:W) (S':aa),Inv X pins σ H s->StoreOk X.w X.K A H S->
  Rel X.K A H x a->RelV a u->Rel X.K A H y b->RelV b v->g x y S=gV (w,S')->wpAny (model X.prog X.w) X.A (f u v) (dS X pins σ A H S' w) X.xe s
end
section
variable{X:Cx}
theorem kq {S:aa}{i:Hu}{xs:Hm W}(h:o8 S i=gV xs):S[i]?=gV (.lst xs):=by
 unfold o8 at h;split at h
 ·cases h; assumption
 ·cases h
theorem eQ {A:Hm Hx}{H:Hp}{S:aa}{i:Hu}{xs:Hm W}{a:Hx}(so:StoreOk X.w X.K A H S)(h:o8 S i=gV xs)(ea:A[i]?=gV a):∃vs,H a=gV (.lst vs)/\RelL X.K A H xs vs:=
 so.obj i _ a (kq h) ea
theorem cZ {A:Hm Hx}{H:Hp}{S:aa}{i:Hu}{xs:Hm W}{a:Hx}(so:StoreOk X.w X.K A H S)(h:gX S i=gV xs)(ea:A[i]?=gV a):∃vs,SqL X.K H a vs/\RelL X.K A H xs vs:=by
 unfold gX at h;split at h
 ·cases h;obtain⟨vs,q,r⟩:=so.obj i _ a (by assumption) ea
  exact#[vs,.of q,r]
 ·cases h;obtain⟨vs,q,r⟩:=so.obj i _ a (by assumption) ea
  exact#[vs,q.sq,r]
 ·cases h
theorem j4 {S S':aa}{xs:Hm W}{w:W}(h:lI S xs=gV (w,S')):xs.length<=sizeLine/\w=.ref S.length/\S'=S++[.lst xs]:=by
 unfold lI at h;split at h
 ·cases h; exact#[by assumption,rfl,rfl]
 ·cases h
theorem sh {S S':aa}{xs:Hm W}{w:W}(h:re S xs=gV (w,S')):xs.length<=sizeLine/\w=.tup xs/\S'=S:=by
 unfold re at h;split at h
 ·cases h; exact#[by assumption,rfl,rfl]
 ·cases h
theorem yY {A:Hm Hx}{H:Hp}{S:aa}{ws:Hm W}{vs:Hm V}{Q:VK}{p:Hx}(so:StoreOk X.w X.K A H S)(r:RelL X.K A H ws vs)(hp:H p=td)
  (q:∀v H' A',Ext X.K A H A' H'->StoreOk X.w X.K A' H' (S++[.lst ws])->Rel X.K A' H' (.ref S.length) v->Q v H'):Q (.ref p) (cv H p (.lst vs)):=
 q _ _ (A++[p]) (ee hp) (so.push hp r) (.ref (by rw[<- so.len]; simp))
theorem yZ {A:Hm Hx}{H:Hp}{S:aa}{ws:Hm W}{vs:Hm V}{Q:VK}{p:Hx}(so:StoreOk X.w X.K A H S)(r:RelL X.K A H ws vs)(hp:H p=td)
  (q:∀v H' A',Ext X.K A H A' H'->StoreOk X.w X.K A' H' S->Rel X.K A' H' (.tup ws) v->Q v H'):Q (.ref p) (cv H p (.tup vs)):=
 q _ _ A (dD (.inl hp)) (so.lay hp) (.tup (.of bD) (r.mono (dD (.inl hp))))
noncomputable def Ej (K:HC):R2:=λx y H Q=>∃a b xs ys,x=.ref a/\y=.ref b/\SqT K H a xs/\SqT K H b ys/\xs.length+ys.length<=sizeLine/\
 (xs=[]->Q (.ref b) H)/\(ys=[]->Q (.ref a) H)/\(∀p,H p=td->Q (.ref p) (cv H p (.tup (xs++ys))))
theorem y4:OpR X (binaryOp .Add) (Ej X.K):=by
 intro pins s σ H x y v u Q I rx ry h;obtain⟨a,b,xs,ys,rfl,rfl,ha,hb,hz,q0,q1,q2⟩:=h;cases rx;cases ry;obtain⟨its,r1,p1,_⟩:=I.tuple ha;obtain⟨its2,r2,p2,_⟩:=I.tuple hb
 by_cases hx:xs=[]
 ·obtain⟨⟨cls,dd,data,sl⟩,ho,hc,n,hd⟩:=id p1;obtain⟨⟨cls2,dd2,data2,sl2⟩,ho2,hc2,n2,hd2⟩:=id p2;simp only at hc hd hc2 hd2;subst hc hd hc2 hd2;exact Ng #[_,ho,rfl] #[_,ho2,rfl] LR MQ KU KQ (KF _ _)
   (tuple_addW0 a b its.toArray its2.toArray n n2 dd dd2 sl sl2 (by simp[r1.nil_iff.mpr hx])) #[ho,ho2,#[.ref b,H,I,rfl,q0 hx]]
 ·refine HT.yL p1 p2 (λz=>hx (r1.nil_iff.mp z)) (λz=>#[.ref a,H,I,rfl,q1 (r2.nil_iff.mp z)]) (λz=>?_) (by rw[<- r1.length,<- r2.length]; exact hz)
  refine#[.ref s.heap.objs.size,_,I.laid (t':=s.toks) (o:=.tup (xs++ys)) (λb ob q=>Hv _ q) (HG _) ?_,rfl,q2 _ (I.hok.fresh (HG _))]
  exact#[by rw[HA]; exact hz,_,r1.append r2,Ny _ _]
theorem RelL.nil_iff {K:HC}{A:Hm Hx}{H:Hp}{ws:Hm W}{vs:Hm V}(r:RelL K A H ws vs):vs=[]↔ws=[]:=by
 cases r <;> simp
theorem rf:OpR X (binaryOp .Mult) (λx y H Q=>∃z k,x=.str z/\y=.int k/\MulOk z k/\Q (.str (PM z k)) H):=by
 intro pins s σ H x y v u Q I rx ry h;obtain⟨z,k,rfl,rfl,ok,q⟩:=h;obtain⟨t,rfl⟩:=rx;obtain⟨t',rfl⟩:=ry;exact SB.mul ok λt2 k2=>#[.str _,H,I.tok _,#[_,rfl],q]
theorem vN {x:HL}{k:HF}(h1:k < 16777216)(h2 : -16777216<=k)(h3:x.length*k.toNat<=sizeLine):MulOk x k:=by
 have hs:sizeLine=16777216:=IH;rw[hs]at h3;refine#[?_,λa b=>?_,λ_ _=>?_]
 ·rw[Bool.or_eq_false_iff];exact#[Ig ∅,Ig ∅]
 ·have hk:0 < k:=∅
  have e:(x.length:HF)*k=((x.length*k.toNat:Hu):HF):=by
   rw[Int.natCast_mul,MJ ∅]
  intro hgt;have h4:(2 ^ 63 - 1:HF) < (x.length:HF)*k:=(Int.ediv_lt_iff_lt_mul hk).mp hgt;rw[e]at h4;generalize x.length*k.toNat=z at h3 h4;omega
 ·unfold Op;rw[hs];exact Ig ∅
noncomputable def EndV (wd:Iw)(K:HC)(A:Hm Hx)(H:Hp)(S':aa)(w:W):VK:=λv H'=>∃A',Ext K A H A' H'/\StoreOk wd K A' H' S'/\Rel K A' H' w v
theorem EndV.here {A:Hm Hx}{H:Hp}{S:aa}{w:W}{v:V}(so:StoreOk X.w X.K A H S)(r:Rel X.K A H w v):EndV X.w X.K A H S w v H:=#[A,.refl,so,r]
theorem EndV.lst {A:Hm Hx}{H:Hp}{S:aa}{ws:Hm W}{vs:Hm V}{p:Hx}(so:StoreOk X.w X.K A H S)(r:RelL X.K A H ws vs)(hp:H p=td):EndV X.w X.K A H (S++[.lst ws]) (.ref S.length) (.ref p) (cv H p (.lst vs)):=
 yY (Q:=EndV X.w X.K A H (S++[.lst ws]) (.ref S.length)) so r hp λv H' A' a b c=>#[A',a,b,c]
theorem EndV.tup {A:Hm Hx}{H:Hp}{S:aa}{ws:Hm W}{vs:Hm V}{p:Hx}(so:StoreOk X.w X.K A H S)(r:RelL X.K A H ws vs)(hp:H p=td):EndV X.w X.K A H S (.tup ws) (.ref p) (cv H p (.tup vs)):=
 yZ (Q:=EndV X.w X.K A H S (.tup ws)) so r hp λv H' A' a b c=>#[A',a,b,c]
theorem EP.post {pins:Hm (Hx×Jn)}{σ:L2.St}{A:Hm Hx}{H:Hp}{S':aa}{w:W}{u:Ho}{s':Hr}(h:EP X pins σ (EndV X.w X.K A H S' w) u s'):dS X pins σ A H S' w u s':=by
 obtain⟨v,H',I',r,A',x,y,z⟩:=h;exact#[v,H',A',I',r,x,y,z]
theorem OpR.go {f:Ho->Ho->OX Ho}{r:R2}(h:OpR X f r){pins:Hm (Hx×Jn)}{σ:L2.St}{A:Hm Hx}{H:Hp}{S':aa}{w:W}{s:Hr}{a b:V}{u v:Ho}(I:Inv X pins σ H s)(ru:RelV a u)(rv:RelV b v)
  (q:r a b H (EndV X.w X.K A H S' w)):wpAny (model X.prog X.w) X.A (f u v) (dS X pins σ A H S' w) X.xe s:=cg (h pins s σ H a b u v _ I ru rv q) λ_ _=>EP.post
theorem y6:LOp X (binaryOp .Add) (im .add):=by
 intro pins s σ H A S x y a b u v w S' I so rx ru ry rv e;cases rx with
 | int=>cases ry with
  | int=>cases e; exact OpR.go B6 I ru rv #[_,_,rfl,rfl,.here so .int]
  | _=>cases e
 | str=>cases ry with
  | str=>
   simp only[im,vM]at e;split at e
   ·cases e; exact OpR.go qX I ru rv #[_,_,rfl,rfl,by assumption,.here so .str]
   ·cases e
  | _=>cases e
 | tup h1 r1=>cases ry with
  | tup h2 r2=>
   obtain⟨hl,rfl,rfl⟩:=sh (show re S _=_ from e)
   rw[HA,r1.length,r2.length]at hl;refine OpR.go y4 I ru rv #[_,_,_,_,rfl,rfl,h1,h2,hl,λz=>?_,λz=>?_,λp hp=>.tup so (r1.append r2) hp]
   ·have z':=r1.nil_iff.mp z;subst z';exact .here so (.tup h2 r2)
   ·have z':=r2.nil_iff.mp z;subst z';rw[IZ];exact .here so (.tup h1 r1)
  | _=>cases e
 | ref h1=>cases ry with
  | ref h2=>
   simp only[im,vM]at e;split at e
   ·obtain⟨hl,rfl,rfl⟩:=j4 e;obtain⟨vs,q1,r1⟩:=eQ so (by assumption) h1
    obtain⟨us,q2,r2⟩:=eQ so (by assumption) h2
    rw[HA,r1.length,r2.length]at hl;exact OpR.go Co I ru rv #[_,_,_,_,rfl,rfl,q1,q2,hl,λp hp=>.lst so (r1.append r2) hp]
   ·cases e
  | _=>cases e
 | _=>cases e
theorem pj {f:Ho->Ho->OX Ho}{c:HF->HF->HV}{g:HF->HF->HF}{r:R2}(h:OpR X f r)(hr:∀i j H Q,c i j=true->Q (.int (g i j)) H->r (.int i) (.int j) H Q):LOp X f (yp c g):=by
 intro pins s σ H A S x y a b u v w S' I so rx ru ry rv e;cases rx with
 | int=>cases ry with
  | int=>
   unfold yp at e;dsimp only at e;split at e
   ·cases e; exact OpR.go h I ru rv (hr _ _ _ _ (by assumption) (.here so .int))
   ·cases e
  | _=>cases e
 | _=>cases e
theorem y8:LOp X (binaryOp .Sub) (im .sub):=pj B7 λ_ _ _ _ _ q=>#[_,_,rfl,rfl,q]
theorem y9 {i j:HF}(h:ub i j=true):CMul i j:=by
 unfold ub at h;rw[JK,Hw,Hw,Ii,Ii,Ii,Ii]at h;exact h
theorem zb:LOp X (binaryOp .Mult) (im .mul):=by
 have hI:LOp X (binaryOp .Mult) (yp ub (· * ·)):=pj B8 λ_ _ _ _ h q=>#[_,_,rfl,rfl,y9 h,q]
 intro pins s σ H A S x y a b u v w S' I so rx ru ry rv e;cases x with
 | str z=>
  cases rx with
  | str=>cases ry with
   | int=>
    simp only[im,yX]at e;split at e
    ·rename_i hc;cases e; exact OpR.go rf I ru rv #[_,_,rfl,rfl,vN ∅ ∅ hc.2.2,.here so .str]
    ·cases e
   | _=>cases e
 | ref z=>
  cases rx with
  | ref h1=>cases ry with
   | int=>
    simp only[im,yX]at e;split at e
    ·split at e
     ·rename_i hc;obtain⟨hl,rfl,rfl⟩:=j4 e;obtain⟨vs,q1,r1⟩:=eQ so (by assumption) h1
      rw[r1.length]at hc;exact OpR.go Cp I ru rv #[_,_,_,rfl,rfl,q1,∅,∅,hc.2.2,λp hp=>.lst so (r1.rep _) hp]
     ·cases e
    ·cases e
   | _=>cases e
 | _=>exact hI _ _ _ _ _ _ _ _ _ _ _ _ _ _ I so rx ru ry rv e
theorem vO:LOp X (binaryOp .FloorDiv) (im .fdiv):=pj yG λ_ _ _ _ h q=>#[_,_,rfl,rfl,by
 unfold yW at h;rw[Hw,Ii,Ii]at h;exact h,q]
theorem zd:LOp X (binaryOp .Mod) (im .mod):=pj B9 λ_ _ _ _ h q=>#[_,_,rfl,rfl,IV h,q]
theorem ze:LOp X (binaryOp .Pow) (im .pow):=pj Cb λ_ _ _ _ h q=>#[_,_,rfl,rfl,by
 unfold Ei at h;rw[Hw,Hw,Ii,Ii,Ii]at h;exact#[h.1.1,h.1.2,h.2],q]
theorem si (o:BOp):LOp X (binaryOp o.py) (im o):=by
 cases o
 ·exact y6
 ·exact y8
 ·exact zb
 ·exact vO
 ·exact zd
 ·exact ze
end
noncomputable def lJ (f:W->W->Ht HV):Hm W->Hm W->Ht HV
 | [],[]=>gV true
 | [],_::_=>gV false
 | _::_,[]=>gV false
 | x::xs,y::ys=>match f x y,lJ f xs ys with
  | some a,gV b=>gV (a&&b)
  | _,_=>td
noncomputable def b2 (b:HV):HF:=if b then 1 else 0
noncomputable def lE (S:aa):Hu->W->W->Ht HV
 | _,.non,y=>match y with
  | .non=>gV true
  | _=>td
 | _,.bl a,y=>match y with
  | .bl b=>gV (a==b)
  | _=>td
 | _,.int a,y=>match y with
  | .int b=>gV (a==b)
  | _=>td
 | _,.str a,y=>match y with
  | .str b=>gV (a==b)
  | _=>td
 | 0,_,_=>td
 | d+1,.tup xs,y=>match y with
  | .tup ys=>lJ (lE S d) xs ys
  | _=>td
 | d+1,.ref i,y=>match y with
  | .ref j=>match o8 S i,o8 S j with
   | some xs,gV ys=>if xs.length=ys.length then lJ (lE S d) xs ys else gV false
   | _,_=>td
  | _=>td
section
variable{X:Cx}{pins:Hm (Hx×Jn)}{σ:L2.St}{H:Hp}{s:Hr}{A:Hm Hx}{S:aa}
noncomputable def RU (K:HC)(A:Hm Hx)(H:Hp)(w:W)(u:Ho):Prop:=∃v,Rel K A H w v/\RelV v u
theorem sj {ws:Hm W}{vs:Hm V}{us:Hm Ho}(r:RelL X.K A H ws vs)(q:Vals vs us):∀(j:Hu) (h1:j < ws.length) (h2:j < us.length),RU X.K A H ws[j] us[j]:=by
 induction ws generalizing vs us with
 | nil=>intro j h1; simp at h1
 | cons w ws ih=>
  cases r with
  | cons r1 rr=>
   cases q with
   | cons q1 qq=>
    intro j h1 h2;cases j with
    | zero=>exact#[_,r1,q1]
    | succ j=>exact ih rr qq j (by simpa using h1) (by simpa using h2)
theorem vP {ws:Hm W}{u:Ho}(I:Inv X pins σ H s)(h:RU X.K A H (.tup ws) u):∃a its,u=.ref a/\M9 s.heap a its/\its.size=ws.length/\ws.length<=sizeLine/\∀(j:Hu) (h1:j < ws.length) (h2:j < its.size),RU X.K A H ws[j] its[j]:=by
 obtain⟨v,r,q⟩:=h;cases r with
 | tup sq rl=>
  obtain⟨its,rv,ht,hz⟩:=I.tuple sq;refine#[_,its.toArray,q,ht,by rw[HH,<- rv.length,rl.length],by rw[rl.length]; exact hz,λj h1 h2=>?_]
  have:=sj rl rv j h1 (by simpa using h2)
  simpa using this
theorem vQ {i:Hu}{ws:Hm W}{u:Ho}(I:Inv X pins σ H s)(so:StoreOk X.w X.K A H S)(e:o8 S i=gV ws)(h:RU X.K A H (.ref i) u):∃a its,u=.ref a/\A[i]?=gV a/\s.heap.IsList a its/\its.size=ws.length/\ws.length<=sizeLine/\∀(j:Hu) (h1:j < ws.length) (h2:j < its.size),RU X.K A H ws[j] its[j]:=by
 obtain⟨v,r,q⟩:=h;cases r with
 | ref ea=>
  obtain⟨vs,hq,rl⟩:=eQ so e ea;obtain⟨its,rv,ht,hz⟩:=I.list (.of hq);refine#[_,its.toArray,q,ea,ht.isList,by rw[HH,<- rv.length,rl.length],by rw[rl.length]; exact hz,λj h1 h2=>?_]
  have:=sj rl rv j h1 (by simpa using h2)
  simpa using this
theorem kw {f:W->W->Ht HV}:∀ {xs ys:Hm W} {k:HV},lJ f xs ys=gV k->∃e:Hu->HV,(∀(j:Hu) (h1:j < xs.length) (h2:j < ys.length),f xs[j] ys[j]=gV (e j))/\
  k=((HJ (min xs.length ys.length)).all e&&xs.length==ys.length)
 | [],[],k,h=>#[λ_=>true,λj h1=>by simp at h1,by cases h; rfl]
 | [],_::_,k,h=>#[λ_=>true,λj h1=>by simp at h1,by cases h; simp]
 | _::_,[],k,h=>#[λ_=>true,λj h1 h2=>by simp at h2,by cases h; simp]
 | x::xs,y::ys,k,h=>by
  simp only[lJ]at h;split at h
  ·rename_i a b ha hb;cases h;obtain⟨e,h1,h2⟩:=kw hb;refine#[λj=>match j with|0=>a|j+1=>e j,λj hj1 hj2=>?_,?_]
   ·cases j with
    | zero=>exact ha
    | succ j=>exact h1 j (by simpa using hj1) (by simpa using hj2)
   ·subst h2;simp only[IN,Nat.add_min_add_right,L0,ID,OO,Bool.and_assoc];congr 2;simp
  ·cases h
theorem zf (I:Inv X pins σ H s)(so:StoreOk X.w X.K A H S):∀(d:Hu) {x y:W} {v:V} {k:HV},Rel X.K A H x v->Rel X.K A H y v->lE S d x y=gV k->k=true:=by
 intro d
 induction d with
 | zero=>
  intro x y v k rx ry e;cases rx with
  | non=>cases ry; cases e; rfl
  | bl=>cases ry; cases e; exact Jb _
  | int=>cases ry; cases e; exact Jb _
  | str=>cases ry; cases e; exact Jb _
  | tup _ _=>cases e
  | ref _=>cases e
 | succ d ih=>
  have lists:∀ {xs ys:Hm W} {vs:Hm V} {k:HV},RelL X.K A H xs vs->RelL X.K A H ys vs->lJ (lE S d) xs ys=gV k->k=true:=by
   intro xs
   induction xs with
   | nil=>
    intro ys vs k r1 r2 e;cases r1; cases r2; cases e; rfl
   | cons x xs ihx=>
    intro ys vs k r1 r2 e;cases r1 with
    | cons p1 q1=>
     cases r2 with
     | cons p2 q2=>
      simp only[lJ]at e;split at e
      ·rename_i a b ha hb;cases e;rw[ih p1 p2 ha,ihx q1 q2 hb];rfl
      ·cases e
  intro x y v k rx ry e;cases rx with
  | non=>cases ry; cases e; rfl
  | bl=>cases ry; cases e; exact Jb _
  | int=>cases ry; cases e; exact Jb _
  | str=>cases ry; cases e; exact Jb _
  | tup h1 r1=>
   cases ry with
   | tup h2 r2=>
    rw[I.tuple_inj h1 h2]at r1;exact lists r1 r2 e
   | ref ea=>cases e
  | ref ea=>
   cases ry with
   | tup h2 r2=>cases e
   | ref eb=>
    simp only[lE]at e;split at e
    ·rename_i xs ys hx hy;have:=so.nd _ _ _ _ _ (kq hx) rfl (kq hy) rfl ea eb;subst this;rw[hx]at hy; cases hy
     rw[HW rfl]at e;obtain⟨vs,q,r⟩:=eQ so hx ea;exact lists r r e
    ·cases e
theorem bQ (A:Iu):A.in1.units=A.units+1:=rfl
noncomputable abbrev DB (B:Iu)(s:Hr)(u v:Ho)(k:HV):Prop:=SeqAt.RcAt B s u v k/\SeqAt.RcNeAt B s u v (!k)/\K8 B s u v k
open SeqAt in
theorem Bf (I:Inv X pins σ H s)(so:StoreOk X.w X.K A H S):∀(d:Hu) (B:Iu) {x y:W} {u v:Ho} {k:HV},B.units+d < cLine->RU X.K A H x u->RU X.K A H y v->lE S d x y=gV k->DB B s u v k:=by
 have non:∀ {B:Iu} {y:W} {u v:Ho} {k:HV} {d:Hu},RU X.K A H .non u->RU X.K A H y v->lE S d .non y=gV k->DB B s u v k:=by
  intro B y u v k d ⟨_,rx,ra⟩ ⟨_,ry,rb⟩ e;cases rx;cases(show u=IK from ra)
  cases y with
  | non=>
   have e:gV (true)=gV k:=by cases d <;> exact e
   cases e;cases ry;cases(show v=IK from rb)
   exact#[.none_none,.none_none,.same _]
  | _=>cases d <;> cases e
 have bl:∀ {B:Iu} {b:HV} {y:W} {u v:Ho} {k:HV} {d:Hu},RU X.K A H (.bl b) u->RU X.K A H y v->lE S d (.bl b) y=gV k->DB B s u v k:=by
  intro B b y u v k d ⟨_,rx,ra⟩ ⟨_,ry,rb⟩ e;cases rx;cases(show u=Ko _ from ra)
  cases y with
  | bl c=>
   have e:gV (b==c)=gV k:=by cases d <;> exact e
   cases e;cases ry;cases(show v=Ko _ from rb)
   exact#[.bool_bool _ _,.bool_bool _ _,.bool_bool _ _]
  | _=>cases d <;> cases e
 have int:∀ {B:Iu} {b:HF} {y:W} {u v:Ho} {k:HV} {d:Hu},RU X.K A H (.int b) u->RU X.K A H y v->lE S d (.int b) y=gV k->DB B s u v k:=by
  intro B b y u v k d ⟨_,rx,ra⟩ ⟨_,ry,rb⟩ e;cases rx;obtain⟨t0,rfl⟩ : ∃t,u=LQ _ t:=ra;cases y with
  | int c=>
   have e:gV (b==c)=gV k:=by cases d <;> exact e
   cases e;cases ry;obtain⟨t,rfl⟩ : ∃t,v=LQ _ t:=rb;exact#[.int_int _ _ _ _,.int_int _ _ _ _,.int_int _ _ _ _]
  | _=>cases d <;> cases e
 have str:∀ {B:Iu} {b:HL} {y:W} {u v:Ho} {k:HV} {d:Hu},RU X.K A H (.str b) u->RU X.K A H y v->lE S d (.str b) y=gV k->DB B s u v k:=by
  intro B b y u v k d ⟨_,rx,ra⟩ ⟨_,ry,rb⟩ e;cases rx;obtain⟨t0,rfl⟩ : ∃t,u=K7 _ t:=ra;cases y with
  | str c=>
   have e:gV (b==c)=gV k:=by cases d <;> exact e
   cases e;cases ry;obtain⟨t,rfl⟩ : ∃t,v=K7 _ t:=rb;exact#[.str_str _ _ _ _,.str_str _ _ _ _,.str_str _ _ _ _]
  | _=>cases d <;> cases e
 intro d
 induction d with
 | zero=>
  intro B x y u v k hu rx ry e;cases x with
  | non=>exact non rx ry e
  | bl b=>exact bl rx ry e
  | int b=>exact int rx ry e
  | str b=>exact str rx ry e
  | _=>cases e
 | succ d ih=>
  intro B x y u v k hu rx ry e;have hu0:B.units < cLine:=∅
  have hu1:B.in1.units+d < cLine:=by rw[bQ]; omega
  have rx0:=rx;have ry0:=ry;have fin:∀ {a b:Hx},u=.ref a->v=.ref b->RcAt B s u v k->RcNeAt B s u v (!k)->DB B s u v k:=by
   intro a b ea eb h1 h2;subst ea eb;refine#[h1,h2,?_]
   by_cases hab:a=b
   ·subst hab;obtain⟨v1,q1,z1⟩:=rx0;obtain⟨v2,q2,z2⟩:=ry0;have e12:v1=v2:=z1.inj z2;subst e12;have:=zf I so (d+1) q1 q2 e;subst this;exact EqAt.same _
   ·exact EqAt.of_refs hab h1
  cases x with
  | non=>exact non rx ry e
  | bl b=>exact bl rx ry e
  | int b=>exact int rx ry e
  | str b=>exact str rx ry e
  | tup xs=>
   cases y with
   | tup ys=>
    obtain⟨a,its,rfl,ht,hs,_,hi⟩:=vP I rx;obtain⟨b,its2,rfl,ht2,hs2,_,hi2⟩:=vP I ry;obtain⟨f,h1,h2⟩:=kw (show lJ (lE S d) xs ys=gV k from e)
    have he:∀j (h1:j < its.size) (h2:j < its2.size),EqAt B.in1 s its[j] its2[j] (f j):=λj j1 j2=>
     (ih B.in1 hu1 (hi j (hs ▸ j1) j1) (hi2 j (hs2 ▸ j2) j2) (h1 j (hs ▸ j1) (hs2 ▸ j2))).2.2
    rw[<- hs,<- hs2]at h2;subst h2;exact fin rfl rfl (RcAt.tuples ht ht2 hu0 he) (RcNeAt.tuples ht ht2 hu0 he)
   | _=>cases e
  | ref i=>
   cases y with
   | ref j=>
    simp only[lE]at e;split at e
    ·rename_i ws ws2 hw hw2;obtain⟨a,its,rfl,_,hl,hs,_,hi⟩:=vQ I so hw rx;obtain⟨b,its2,rfl,_,hl2,hs2,_,hi2⟩:=vQ I so hw2 ry;split at e
     ·rename_i hlen;obtain⟨f,h1,h2⟩:=kw e;have he:∀j (h1:j < its.size) (h2:j < its2.size),EqAt B.in1 s its[j] its2[j] (f j):=λj j1 j2=>
       (ih B.in1 hu1 (hi j (hs ▸ j1) j1) (hi2 j (hs2 ▸ j2) j2) (h1 j (hs ▸ j1) (hs2 ▸ j2))).2.2
      have hk:k=(HJ its.size).all f:=by rw[h2,hs,hlen]; simp
      subst hk;exact fin rfl rfl (RcAt.lists hl hl2 (by rw[hs,hs2,hlen]) hu0 he) (RcNeAt.lists hl hl2 (by rw[hs,hs2,hlen]) hu0 he)
     ·rename_i hlen;cases e;have hb:(its.size != its2.size)=true:=by rw[hs,hs2]; simpa using hlen
      exact fin rfl rfl (RcAt.lists_lengths hl hl2 hb hu0) (RcNeAt.lists_lengths hl hl2 hb hu0)
    ·cases e
   | _=>cases e
end
noncomputable def Bg (fe fl:W->W->Ht HV):Hm W->Hm W->Ht HV
 | [],[]=>gV false
 | [],_::_=>gV true
 | _::_,[]=>gV false
 | x::xs,y::ys=>match fe x y with
  | some true=>Bg fe fl xs ys
  | some false=>fl x y
  | none=>td
noncomputable def Hf (S:aa):Hu->W->W->Ht HV
 | _,.int a,.int b=>gV (decide (a < b))
 | _,.str a,.str b=>gV (decide (a.cps.toList < b.cps.toList))
 | d+1,.tup xs,.tup ys=>Bg (lE S d) (Hf S d) xs ys
 | _,_,_=>td
noncomputable def LtAt (B:Iu)(s:Hr)(u v:Ho)(k:HV):Prop:=
 ∀(prog:HZ) (w:Iw) (E:Ho->Hr->Prop) (Q:Ho->Hr->Prop),Q (.bool k) s->wpAny (model prog w) B (richCompare .Lt u v) Q E s
inductive LexR (B:Iu)(s:Hr):Hm Ho->Hm Ho->HV->Prop
 | nn:LexR B s [] [] false
 | nc {v:Ho} {vs:Hm Ho}:LexR B s [] (v::vs) true
 | cn {v:Ho} {vs:Hm Ho}:LexR B s (v::vs) [] false
 | eq {u v:Ho} {us vs:Hm Ho} {k:HV}:K8 B s u v true->LexR B s us vs k->LexR B s (u::us) (v::vs) k
 | ne {u v:Ho} {us vs:Hm Ho} {k:HV}:K8 B s u v false->LtAt B s u v k->LexR B s (u::us) (v::vs) k
section
open PySem.SeqAt
open PySem.AutoSeq1 (wpAny_loadPart')
open PySem.MeetsSeq PySem.MeetsSeq2 PySem.MeetsSeq3
theorem nD (l b:Hx)(items items2:IC Ho)(n n2:Hu)(dd dd2:Ht Hx)(sl sl2:IC (Ht Ho))(k:HV) :
  Meets (MF.«tuple.__lt__» #[[.ref l,.ref b],[]])
   (λB R s=>s.heap.get? l=gV { cls:=.type "tuple",dict:=dd,data:=.seq items n,slots:=sl }/\s.heap.get? b=gV { cls:=.type "tuple",dict:=dd2,data:=.seq items2 n2,slots:=sl2 }/\
    LexR B.in1 s items.toList items2.toList k/\R (.ok (.ret (.bool k))) s):=
 .of_wp λprog w A R s h=>by
  obtain⟨hp,g,d,tk,os⟩:=s; obtain⟨hl,hb,hx,h⟩:=h
  have f2:=Oz;have z1:items.toList.length=items.size:=by simp
  have z2:items2.toList.length=items2.size:=by simp
  wp_walk using Lf hl,Lf hb,NE _ (λdj b s'=>b.1=td/\s'=#[hp,g,d,tk,os]/\∃(vs ws:Hm Ho),dj=vs.zip ws/\
   LexR A.in1 #[hp,g,d,tk,os] vs ws k/\vs.length+items2.size=ws.length+items.size) _
  case turn=>
   rintro⟨y,x⟩ dj b s' ⟨hb',rfl,vs,ws,hz,hlx,hlen⟩;cases hlx with
   | nn=>rw[Nm]at hz; cases hz
   | nc=>rw[Nm]at hz; cases hz
   | cn=>rw[List.zip_nil_right]at hz; cases hz
   | eq he hr=>
    rw[Kg]at hz;injection hz with hyx hrest
    injection hyx with hy hx
    subst hy hx;simp only[IN]at hlen;refine Hn (he prog w _ _ ?_)
    wp_walk
    exact#[rfl,rfl,_,_,hrest,hr,∅]
   | ne he hr=>
    rw[Kg]at hz;injection hz with hyx hrest
    injection hyx with hy hx
    subst hy hx;refine Hn (he prog w _ _ ?_);have hri:=hr prog w
    wp_walk using hri
    exact#[_,rfl,by simpa using h]
  case fin=>
   rintro⟨b1,b2⟩ s' ⟨hb',rfl,vs,ws,hz,hlx,hlen⟩;simp only at hb';subst hb';have hv:k=decide (items.size < items2.size):=by
    cases hlx with
    | nn=>simp only[Js]at hlen; exact(Ig ∅).symm
    | nc=>simp only[Js,IN]at hlen; exact(Jg ∅).symm
    | cn=>simp only[Js,IN]at hlen; exact(Ig ∅).symm
    | eq _ _=>rw[Kg]at hz; cases hz
    | ne _ _=>rw[Kg]at hz; cases hz
   subst hv
   wp_walk
   exact#[_,rfl,by simpa [Nv]using h]
  case h=>
   exact#[rfl,rfl,items.toList,items2.toList,rfl,hx,∅]
end
theorem LtAt.tuples {B:Iu}{s:Hr}{l b:Hx}{items items2:IC Ho}{k:HV}(hl:M9 s.heap l items)(hb:M9 s.heap b items2)(hu:B.units < cLine)(hx:LexR B.in1 s items.toList items2.toList k) :
  LtAt B s (.ref l) (.ref b) k:=λprog w E Q h=>by
 obtain⟨⟨cls,dd,data,sl⟩,ho,hc,n,hd⟩:=id hl;obtain⟨⟨cls2,dd2,data2,sl2⟩,ho2,hc2,n2,hd2⟩:=id hb;simp only at hc hd hc2 hd2;subst hc hd hc2 hd2;exact richCompare_meets_room (op:=.Lt) #[_,ho,rfl] #[_,ho2,rfl] PySem.F.slot_tuple_lt PySem.F.entry_tuple_lt (PySem.F.args_tuple_lt_2 _ _) (nD l b items items2 n n2 dd dd2 sl sl2 k)
  #[ho,ho2,hx,show Ko k≠Value.notImplemented/\Q (.bool k) s from#[(λx=>nomatch x),h]] hu
inductive COp where|eq|ne|lt|le|gt|ge|isin|notin|is|isnot
 deriving Kn
noncomputable def COp.py:COp->OI
 | .eq=>.Eq|.ne=>.NotEq|.lt=>.Lt|.le=>.LtE|.gt=>.Gt|.ge=>.GtE|.isin=>.In|.notin=>.NotIn|.is=>.Is|.isnot=>.IsNot
noncomputable def ci:W->HV
 | .non=>true
 | .bl _=>true
 | .int _=>true
 | .str _=>true
 | _=>false
noncomputable def vc:W->W->HV
 | .non,.non=>true
 | .bl a,.bl b=>a==b
 | .bl a,.int b=>b2 a==b
 | .int a,.bl b=>a==b2 b
 | .int a,.int b=>a==b
 | .str a,.str b=>a==b
 | _,_=>false
noncomputable def eI (S:aa):W->Ht (Hm W)
 | .tup xs=>gV xs
 | .ref i=>gX S i
 | _=>td
noncomputable abbrev gY:Hu:=20
noncomputable def zh (x y:W)(S:aa):Ht HV:=match eI S y with
 | some ys=>if ci x&&ys.all ci then gV (ys.any λz=>vc z x)else td
 | none=>td
noncomputable def vR:W->HV
 | .non=>true
 | _=>false
noncomputable def vS (f:HF->HF->HV):W->W->Ht HV
 | .int i,.int j=>gV (f i j)
 | _,_=>td
noncomputable def Bh:COp->W->W->aa->Ht HV
 | .eq,x,y,S=>lE S gY x y
 | .ne,x,y,S=>(lE S gY x y).map (!·)
 | .lt,x,y,_=>vS (λi j=>decide (i < j)) x y
 | .le,x,y,_=>vS (λi j=>decide (i<=j)) x y
 | .gt,x,y,_=>vS (λi j=>decide (j < i)) x y
 | .ge,x,y,_=>vS (λi j=>decide (j<=i)) x y
 | .isin,x,y,S=>zh x y S
 | .notin,x,y,S=>(zh x y S).map (!·)
 | .is,x,y,_=>if vR y then gV (vR x)else td
 | .isnot,x,y,_=>if vR y then gV (!vR x)else td
noncomputable def gA (o:COp)(x y:W)(S:aa):Ht (W×aa):=(Bh o x y S).map λk=>(.bl k,S)
section
variable{X:Cx}
theorem sn {pins:Hm (Hx×Jn)}{σ:L2.St}{H:Hp}{s:Hr}{A:Hm Hx}{S:aa}{k:HV}(I:Inv X pins σ H s)(so:StoreOk X.w X.K A H S):dS X pins σ A H S (.bl k) (.bool k) s:=
 #[.bl k,H,A,I,rfl,.refl,so,.bl]
theorem zj {o:COp}{x y w:W}{S S':aa}(h:gA o x y S=gV (w,S')):∃k,Bh o x y S=gV k/\w=.bl k/\S'=S:=by
 unfold gA at h;rw[Hs]at h;obtain⟨k,h1,h2⟩:=h;cases h2;exact#[k,h1,rfl,rfl]
theorem pk {A:Hm Hx}{H:Hp}{w:W}{v:V}(r:Rel X.K A H w v)(f:ci w=true):gL v=true:=by
 cases r <;> first|rfl|cases f
theorem mB {A:Hm Hx}{H:Hp}:∀ {ws:Hm W} {vs:Hm V},RelL X.K A H ws vs->ws.all ci=true->vs.all gL=true
 | _,_,.nil,_=>rfl
 | _,_,.cons r t,f=>by
  rw[ID,Hw]at f ⊢;exact#[pk r f.1,mB t f.2]
theorem zm {A:Hm Hx}{H:Hp}{x y:W}{u v:V}(r:Rel X.K A H x u)(q:Rel X.K A H y v)(fx:ci x=true)(fy:ci y=true):yR u v=vc x y:=by
 cases r <;> cases q <;> first|rfl|cases fx|cases fy
theorem sr {A:Hm Hx}{H:Hp}{y:W}{v:V}(q:Rel X.K A H y v)(fy:ci y=true):∀ {ws:Hm W} {vs:Hm V},RelL X.K A H ws vs->ws.all ci=true->Fx v vs=ws.any λz=>vc z y
 | _,_,.nil,_=>rfl
 | _,_,.cons r t,f=>by
  rw[ID,Hw]at f;have:=sr q fy t f.2;unfold Fx at this ⊢;rw[JR,JR,zm r q f.1 fy,this]
theorem nE {pins:Hm (Hx×Jn)}{σ:L2.St}{H:Hp}{s:Hr}{A:Hm Hx}{S:aa}{y:W}{b:V}{ys:Hm W}(so:StoreOk X.w X.K A H S)(r:Rel X.K A H y b)(e:eI S y=gV ys):∃p vs,b=.ref p/\(SqL X.K H p vs\/SqT X.K H p vs)/\RelL X.K A H ys vs:=by
 cases r with
 | tup h1 r1=>cases e; exact#[_,_,rfl,.inr h1,r1]
 | ref ea=>
  obtain⟨vs,h1,r1⟩:=cZ so e ea;exact#[_,vs,rfl,.inl h1,r1]
 | _=>cases e
theorem vT {neg:HV}{o:OI}(ho:OpR X (compareOp o) (Gg X.K neg)){pins:Hm (Hx×Jn)}{σ:L2.St}{H:Hp}{s:Hr}{A:Hm Hx}{S:aa}{x y:W}{a b:V}{u v:Ho}{ys:Hm W}(I:Inv X pins σ H s)(so:StoreOk X.w X.K A H S)
  (rx:Rel X.K A H x a) (ru:RelV a u) (ry:Rel X.K A H y b) (rv:RelV b v) (e:eI S y=gV ys) (f:(ci x&&ys.all ci)=true) :
  wpAny (model X.prog X.w) X.A (compareOp o u v) (dS X pins σ A H S (.bl (if neg then !ys.any λz=>vc z x else ys.any λz=>vc z x))) X.xe s:=by
 obtain⟨p,vs,rfl,hq,rl⟩:=nE (pins:=pins) (σ:=σ) (s:=s) so ry e;rw[Hw]at f;refine OpR.go ho I ru rv #[p,vs,rfl,hq,pk rx f.1,mB rl f.2,?_];rw[sr rx f.1 rl f.2];exact .here so .bl
theorem zn (hu:X.A.units+gY < cLine)(o:COp):LOp X (compareOp o.py) (gA o):=by
 intro pins s σ H A S x y a b u v w S' I so rx ru ry rv e;obtain⟨k,ek,e1,e2⟩:=zj e;subst e1;subst e2;clear e
 rename aa=>S
 have twoI:∀ {f:HF->HF->HV},vS f x y=gV k->∃i j,x=.int i/\y=.int j/\k=f i j:=by
  intro f h;cases x with
  | int i=>cases y with
   | int j=>cases h; exact#[i,j,rfl,rfl,rfl]
   | _=>cases h
  | _=>cases h
 have hu1:X.A.units+1 < cLine:=by have:gY=20:=rfl; omega
 have ofSq:∀ {c:HV},zh x y S=gV c->(∃ys,eI S y=gV ys/\(ci x&&ys.all ci)=true/\c=ys.any λz=>vc z x):=by
  intro c h;unfold zh at h;split at h
  ·split at h
   ·cases h; exact#[_,by assumption,by assumption,rfl]
   ·cases h
  ·cases h
 have ofN:∀ {c:HV},(if vR y then gV c else td)=gV k->y=.non/\k=c:=by
  intro c h;cases y with
  | non=>cases h; exact#[rfl,rfl]
  | _=>cases h
 cases o with
 | eq=>exact(Bf I so gY X.A hu #[a,rx,ru] #[b,ry,rv] ek).1 _ _ _ _ (sn I so)
 | ne=>
  obtain⟨k',h1,rfl⟩:=Hs.mp ek;exact(Bf I so gY X.A hu #[a,rx,ru] #[b,ry,rv] h1).2.1 _ _ _ _ (sn I so)
 | lt=>
  obtain⟨i,j,rfl,rfl,rfl⟩:=twoI ek;cases rx; cases ry
  exact OpR.go D0 I ru rv #[_,_,rfl,rfl,.here so .bl]
 | le=>
  obtain⟨i,j,rfl,rfl,rfl⟩:=twoI ek;cases rx; cases ry
  exact OpR.go D2 I ru rv #[_,_,rfl,rfl,.here so .bl]
 | gt=>
  obtain⟨i,j,rfl,rfl,rfl⟩:=twoI ek;cases rx; cases ry
  exact OpR.go D6 I ru rv #[_,_,rfl,rfl,.here so .bl]
 | ge=>
  obtain⟨i,j,rfl,rfl,rfl⟩:=twoI ek;cases rx; cases ry
  exact OpR.go D8 I ru rv #[_,_,rfl,rfl,.here so .bl]
 | isin=>
  obtain⟨ys,h1,h2,rfl⟩:=ofSq ek;exact vT (neg:=false) tY I so rx ru ry rv h1 h2
 | notin=>
  obtain⟨c,h,rfl⟩:=Hs.mp ek;obtain⟨ys,h1,h2,rfl⟩:=ofSq h;exact vT (neg:=true) nA I so rx ru ry rv h1 h2
 | is=>
  obtain⟨rfl,rfl⟩:=ofN ek;cases ry;refine OpR.go Cd I ru rv #[rfl,?_];cases rx <;> exact .here so .bl
 | isnot=>
  obtain⟨rfl,rfl⟩:=ofN ek;cases ry;refine OpR.go yH I ru rv #[rfl,?_];cases rx <;> exact .here so .bl
end
end Mi
namespace HT
open PySem PyProof.Rows
section
variable{prog:HZ}{w:Iw}{A:Iu}{E:Ho->Hr->Prop}{s:Hr}
theorem gB {t sl:Hx}{items:IC Ho}{vl vu:Ho}{lo hi:Ht HF}{Q:Ho->Hr->Prop}(ht:M9 s.heap t items)(hs:s.heap.IsSliceOf sl vl vu .none)(pl:Lo vl lo)(pu:Lo vu hi)
  (hw:cO items.size 0 lo=0/\cO items.size items.size hi=items.size) (h:Q (.ref t) s):wpAny (model prog w) A (getItem (.ref t) (.ref sl)) Q E s:=by
 obtain⟨os,hos,hcs,hds⟩:=id hs;have hTs:s.TypeIs (.ref sl) "slice":=#[os,hos,hcs];unfold getItem
 try with_reducible refine Jj ?_
 first|refine Hn (Hz ?_)|skip
 refine Hn (Nh ht.typeIs #v[] ?_)
 refine Hn (IR (name:=JO "__getitem__") ht.typeIs JB
  (Ja JB ht.typeIs MH ?_ (M1 _ _)))
 show wpAny _ _ (Ks (.ref t) >>= _) _ _ s;refine Hn (Ou ht ?_);refine Hn (Lk hTs ?_);rw[HW #v[]]
 refine Hn (eW hs pl pu ?_);have hyes:((((cO items.size 0 lo:Hu):HF)==0&&(1:HF)==1&&(cO items.size items.size hi - cO items.size 0 lo)==items.size)=true):=by
  rw[hw.1,hw.2];simp
 show wpAny _ _ (if (((cO items.size 0 lo:Hu):HF)==0&&(1:HF)==1&&(cO items.size items.size hi - cO items.size 0 lo)==items.size)=true then _ else _) _ _ s
 rw[HW hyes];unfold Oe;refine Hn (Hn (Lk ht.typeIs (Hz ?_)));rw[HW #v[]]
 exact Hn (MY (Hn (Hz (Hz #[_,rfl,Hz h]))))
end
end HT
namespace Mi
open PySem PySem.Spec PyProof.Rows L2
noncomputable def uc (x y:W)(S:aa):Ht (W×aa):=match x,y with
 | .tup xs,.int i=>(pf xs i).map λw=>(w,S)
 | .ref r,.int i=>match gX S r with
  | some xs=>(pf xs i).map λw=>(w,S)
  | none=>td
 | .str x,.int i=>if x.length<=sizeLine then(pf x.cps.toList i).map λc=>(.str #[[c].toArray],S)else td
 | _,_=>td
noncomputable def jR (xs:Hm W)(lo hi:Ht HF):Hm W:=(xs.drop (HT.cO xs.length 0 lo)).take (HT.cO xs.length xs.length hi - HT.cO xs.length 0 lo)
noncomputable def lF (x:W)(lo hi:Ht HF)(S:aa):Ht (W×aa):=match x with
 | .tup xs=>gV (.tup (jR xs lo hi),S)
 | .ref r=>match gX S r with
  | some xs=>gV (.ref S.length,S++[.lst (jR xs lo hi)])
  | none=>td
 | _=>td
noncomputable def ud (o i v:W)(S:aa):Ht aa:=match o,i with
 | .ref r,.int k=>match o8 S r with
  | some xs=>match se xs.length k with
   | some j=>gV (S.set r (.lst (xs.set j v)))
   | none=>td
  | none=>td
 | _,_=>td
section
variable (X:Cx)
noncomputable def LIx (g:W->W->aa->Ht (W×aa)):Prop:=
 ∀(value slice:HS) (pins:Hm (Hx×Jn)) (s:Hr) (σ:L2.St) (H:Hp) (A:Hm Hx) (S:aa) (x y:W) (a b:V) (u v:Ho) (w:W) (S':aa),Inv X pins σ H s->StoreOk X.w X.K A H S->
  Rel X.K A H x a->RelV a u->Rel X.K A H y b->RelV b v->g x y S=gV (w,S')->subscripted slice false u v=operate [u,v] (getItem u v)->wpAny (model X.prog X.w) X.A (subscriptTail value slice u v) (dS X pins σ A H S' w) X.xe s
noncomputable def LSl (g:W->Ht HF->Ht HF->aa->Ht (W×aa)):Prop:=
 ∀(pins:Hm (Hx×Jn)) (s:Hr) (σ:L2.St) (H:Hp) (A:Hm Hx) (S:aa) (x:W) (a:V) (v vl vu:Ho) (lo hi:Ht HF) (sl:Hx) (w:W) (S':aa),Inv X pins σ H s->StoreOk X.w X.K A H S->
  Rel X.K A H x a->RelV a v->s.heap.IsSliceOf sl vl vu .none->Lo vl lo->Lo vu hi->g x lo hi S=gV (w,S')->
  ∃T id,typeLookup (.type T) "__getitem__" = pure (gV (.builtin id))/\s.TypeIs v T/\wpAny (model X.prog X.w) X.A (getItem v (.ref sl)) (dS X pins σ A H S' w) X.xe s
noncomputable def LSet (g:W->W->W->aa->Ht aa):Prop:=
 ∀(pins:Hm (Hx×Jn)) (s:Hr) (σ:L2.St) (H:Hp) (A:Hm Hx) (S:aa) (o i x:W) (ao ai ax:V) (uo ui ux:Ho) (S':aa),Inv X pins σ H s->StoreOk X.w X.K A H S->
  Rel X.K A H o ao->RelV ao uo->Rel X.K A H i ai->RelV ai ui->Rel X.K A H x ax->RelV ax ux->g o i x S=gV S'->
  wpAny (model X.prog X.w) X.A (setItem uo ui ux) (λ_ s'=>∃H' A',Inv X pins σ H' s'/\Ext X.K A H A' H'/\StoreOk X.w X.K A' H' S') X.xe s
noncomputable def LCall (f:Ho)(g:Hm W->aa->Ht (W×aa)):Prop:=
 ∀(pins:Hm (Hx×Jn)) (s:Hr) (σ:L2.St) (H:Hp) (A:Hm Hx) (S:aa) (xs:Hm W) (vs:Hm V) (us:Hm Ho) (w:W) (S':aa),Inv X pins σ H s->StoreOk X.w X.K A H S->
  RelL X.K A H xs vs->Vals vs us->g xs S=gV (w,S')->wpAny (model X.prog X.w) X.A (call f us) (dS X pins σ A H S' w) X.xe s
noncomputable def LMeth (id:IX)(g:W->Hm W->aa->Ht (W×aa)):Prop:=
 ∀(pins:Hm (Hx×Jn)) (s:Hr) (σ:L2.St) (H:Hp) (A:Hm Hx) (S:aa) (x:W) (a:V) (u:Ho) (xs:Hm W) (vs:Hm V) (us:Hm Ho) (w:W) (S':aa),Inv X pins σ H s->StoreOk X.w X.K A H S->
  Rel X.K A H x a->RelV a u->RelL X.K A H xs vs->Vals vs us->g x xs S=gV (w,S')->wpAny (model X.prog X.w) X.A (call (.builtin id) (u::us)) (dS X pins σ A H S' w) X.xe s
end
section
variable{X:Cx}{pins:Hm (Hx×Jn)}{σ:L2.St}{H:Hp}{s:Hr}{A:Hm Hx}{S:aa}
theorem IxR.go {r:R2}(h:IxR X r){S':aa}{w:W}{a b:V}{u v:Ho}{value slice:HS}(I:Inv X pins σ H s)(ru:RelV a u)(rv:RelV b v)(q:r a b H (EndV X.w X.K A H S' w))(hs:subscripted slice false u v=operate [u,v] (getItem u v)) :
  wpAny (model X.prog X.w) X.A (subscriptTail value slice u v) (dS X pins σ A H S' w) X.xe s:=cg (h value slice pins s σ H a b u v _ I ru rv q hs) λ_ _=>EP.post
theorem CallR.go {f:Ho}{r:Hm V->Hp->VK->Prop}(h:CallR X f r){S':aa}{w:W}{vs:Hm V}{us:Hm Ho}(I:Inv X pins σ H s)(rv:Vals vs us)(q:r vs H (EndV X.w X.K A H S' w)) :
  wpAny (model X.prog X.w) X.A (call f us) (dS X pins σ A H S' w) X.xe s:=cg (h pins s σ H vs us _ I rv q) λ_ _=>EP.post
theorem MtR.go {id:IX}{r:V->Hm V->Hp->VK->Prop}(h:MtR X id r){S':aa}{w:W}{a:V}{u:Ho}{vs:Hm V}{us:Hm Ho}(I:Inv X pins σ H s)(ru:RelV a u)(rv:Vals vs us)(q:r a vs H (EndV X.w X.K A H S' w)) :
  wpAny (model X.prog X.w) X.A (call (.builtin id) (u::us)) (dS X pins σ A H S' w) X.xe s:=cg (h pins s σ H a vs u us _ I ru rv q) λ_ _=>EP.post
theorem su {xs:Hm W}{vs:Hm V}{i:HF}{w:W}(r:RelL X.K A H xs vs)(e:pf xs i=gV w):∃v,pf vs i=gV v/\Rel X.K A H w v:=by
 unfold pf at e ⊢;rw[r.length]at e;cases q:se vs.length i with
 | none=>rw[q]at e; cases e
 | some j=>
  rw[q]at e;obtain⟨v,h1,h2⟩:=r.get (show xs[j]?=gV w from e)
  exact#[v,h1,h2]
theorem Hg (hu:X.A.units+10 < cLine):LIx X uc:=by
 intro value slice pins s σ H A S x y a b u v w S' I so rx ru ry rv e hs;cases rx with
 | tup h1 r1=>cases ry with
  | int=>
   simp only[uc,Hs]at e;obtain⟨w',e1,e2⟩:=e;cases e2;obtain⟨z,h2,r2⟩:=su r1 e1;exact IxR.go Cj I ru rv #[_,_,_,_,rfl,rfl,h1,h2,.here so r2] hs
  | _=>cases e
 | ref ea=>cases ry with
  | int=>
   simp only[uc]at e;split at e
   ·rename_i ws hw;rw[Hs]at e;obtain⟨w',e1,e2⟩:=e;cases e2;obtain⟨vs,h1,r1⟩:=cZ so hw ea;obtain⟨z,h2,r2⟩:=su r1 e1;exact IxR.go yP I ru rv #[_,_,_,_,rfl,rfl,h1,h2,.here so r2] hs
   ·cases e
  | _=>cases e
 | str=>cases ry with
  | int=>
   simp only[uc]at e;split at e
   ·rw[Hs]at e;obtain⟨c,e1,e2⟩:=e;cases e2;exact IxR.go Ck I ru rv #[_,_,_,rfl,rfl,by assumption,e1,.here so .str] hs
   ·cases e
  | _=>cases e
 | _=>cases ry <;> cases e
theorem nF {xs:Hm W}{vs:Hm V}{lo hi:Ht HF}(r:RelL X.K A H xs vs):RelL X.K A H (jR xs lo hi) (kn vs lo hi):=by
 unfold jR kn;rw[r.length];exact(r.drop _).take _
theorem zo:Ef X (λx lo hi H Q=>∃a xs,x=.ref a/\SqT X.K H a xs/\(kn xs lo hi=xs->Q (.ref a) H)/\∀p,H p=td->Q (.ref p) (cv H p (.tup (kn xs lo hi)))):=by
 intro pins s σ H x v vl vu lo hi sl Q I rx hs pl pu h;obtain⟨a,xs,rfl,hx,q0,q⟩:=h
 by_cases hw:(HT.cO xs.length 0 lo=0/\HT.cO xs.length xs.length hi=xs.length)
 ·cases rx;obtain⟨its,r,ht,hz⟩:=I.tuple hx;have hlen:its.toArray.size=xs.length:=by rw[HH]; exact r.length.symm
  refine#["tuple",_,PyProof.Rows.slot_tuple_getitem.lookup,ht.typeIs,?_];refine HT.gB ht hs pl pu (by rw[hlen]; exact hw) #[.ref a,H,I,rfl,q0 ?_]
  unfold kn;rw[hw.1,hw.2];simp
 ·exact Ci pins s σ H (.ref a) v vl vu lo hi sl Q I rx hs pl pu #[a,xs,rfl,hx,hw,q]
theorem Hh:LSl X lF:=by
 intro pins s σ H A S x a v vl vu lo hi sl w S' I so rx rv hs pl pu e;cases rx with
 | tup h1 r1=>
  cases e;obtain⟨T,id,z1,z2,z3⟩:=zo pins s σ H _ v vl vu lo hi sl (EndV X.w X.K A H S (.tup (jR _ lo hi))) I rv hs pl pu #[_,_,rfl,h1,λq=>.here so (.tup h1 (by have:=nF (lo:=lo) (hi:=hi) r1; rw[q]at this; exact this)),λp hp=>.tup so (nF r1) hp]
  exact#[T,id,z1,z2,cg z3 λ_ _=>EP.post]
 | ref ea=>
  simp only[lF]at e;split at e
  ·rename_i ws hw;cases e;obtain⟨vs,h1,r1⟩:=cZ so hw ea;obtain⟨T,id,z1,z2,z3⟩:=yQ pins s σ H _ v vl vu lo hi sl (EndV X.w X.K A H (S++[.lst (jR ws lo hi)]) (.ref S.length)) I rv hs pl pu #[_,_,rfl,h1,λp hp=>.lst so (nF r1) hp]
   exact#[T,id,z1,z2,cg z3 λ_ _=>EP.post]
  ·cases e
 | _=>cases e
theorem lset (hu:X.A.units+10 < cLine):LSet X ud:=by
 intro pins s σ H A S o i x ao ai ax uo ui ux S' I so ro ruo ri rui rx rux e;cases ro with
 | ref ea=>cases ri with
  | int=>
   simp only[ud]at e;split at e
   ·rename_i ws hw;split at e
    ·rename_i j hj;cases e;obtain⟨vs,h1,r1⟩:=eQ so hw ea;rw[r1.length]at hj;obtain⟨so',ex⟩:=so.write (kq hw) ea (r1.set rx j);exact cg (vD pins s σ H _ _ _ uo ui ux (λH'=>H'=cv H _ (.lst (vs.set j ax))) I ruo rui rux #[_,_,_,_,rfl,rfl,h1,hj,rfl]) λ_ s' #[H',I',e']=>#[_,A,e' ▸ I',ex,so']
    ·cases e
   ·cases e
  | _=>cases e
 | _=>cases ri <;> cases e
noncomputable def rg (xs:Hm W)(S:aa):Ht (W×aa):=match xs with
 | [.tup ys]=>gV (.int ys.length,S)
 | [.str y]=>if y.length<=sizeLine then gV (.int y.length,S)else td
 | [.ref i]=>(gX S i).map λys=>(.int ys.length,S)
 | _=>td
theorem ue:LCall X (.builtin "len") rg:=by
 intro pins s σ H A S xs vs us w S' I so rl rv e;cases rl with
 | nil=>cases e
 | cons r t=>
  cases t with
  | cons _ _=>cases r <;> cases e
  | nil=>
   cases r with
   | tup h1 r1=>cases e; rw[r1.length]; exact CallR.go ki I rv #[_,_,rfl,.inr #[_,h1,rfl],.here so .int]
   | str=>
    simp only[rg]at e;split at e
    ·cases e; exact CallR.go ki I rv #[_,_,rfl,#[by assumption,rfl],.here so .int]
    ·cases e
   | ref ea=>
    simp only[rg,Hs]at e;obtain⟨ws,hw,e2⟩:=e;cases e2;obtain⟨vs',h1,r1⟩:=cZ so hw ea;rw[r1.length];exact CallR.go ki I rv #[_,_,rfl,.inl #[_,h1,rfl],.here so .int]
   | _=>cases e
noncomputable def gN (xs:Hm W)(S:aa):Ht (W×aa):=match xs with
 | [x]=>match eI S x with
  | some ys=>gV (.ref S.length,S++[.lst ys])
  | none=>td
 | _=>td
theorem gZ:LCall X (.type "list") gN:=by
 intro pins s σ H A S xs vs us w S' I so rl rv e;cases rl with
 | nil=>cases e
 | cons r t=>
  cases t with
  | cons _ _=>cases e
  | nil=>
   simp only[gN]at e;split at e
   ·rename_i ys hy;cases e;obtain⟨p,vs',rfl,hq,r1⟩:=nE (pins:=pins) (σ:=σ) (s:=s) so r hy;exact CallR.go nB I rv #[p,vs',rfl,hq,λl hl=>.lst so r1 hl]
   ·cases e
noncomputable def kz (xs:Hm W)(S:aa):Ht (W×aa):=match xs with
 | [.tup ys]=>gV (.tup ys,S)
 | [.ref i]=>match gX S i with
  | some ys=>gV (.tup ys,S)
  | none=>td
 | _=>td
theorem jH:LCall X (.type "tuple") kz:=by
 intro pins s σ H A S xs vs us w S' I so rl rv e;cases rl with
 | nil=>cases e
 | cons r t=>
  cases t with
  | cons _ _=>cases r <;> cases e
  | nil=>
   cases r with
   | tup h1 r1=>cases e; exact CallR.go gM I rv #[_,_,rfl,.inr #[h1,.here so (.tup h1 r1)]]
   | ref ea=>
    simp only[kz]at e;split at e
    ·rename_i ys hy;cases e;obtain⟨vs',h1,r1⟩:=cZ so hy ea;exact CallR.go gM I rv #[_,_,rfl,.inl #[h1,λl hl=>.tup so r1 hl]]
    ·cases e
   | _=>cases e
noncomputable def Ek (xs:Hm W)(S:aa):Ht (W×aa):=match xs with
 | [.int i]=>gV (.int i,S)
 | [.bl b]=>gV (.int (if b then 1 else 0),S)
 | _=>td
theorem uf:LCall X (.type "int") Ek:=by
 intro pins s σ H A S xs vs us w S' I so rl rv e;cases rl with
 | nil=>cases e
 | cons r t=>
  cases t with
  | cons _ _=>cases r <;> cases e
  | nil=>
   cases r with
   | int=>cases e; exact CallR.go mo I rv (.inl #[_,rfl,.here so .int])
   | bl=>cases e; exact CallR.go mo I rv (.inr #[_,rfl,.here so .int])
   | _=>cases e
noncomputable def io (x:W)(xs:Hm W)(S:aa):Ht (W×aa):=match x,xs with
 | .ref i,[y]=>match o8 S i with
  | some ys=>if ys.length < sizeLine then gV (.non,S.set i (.lst (ys++[y])))else td
  | none=>td
 | _,_=>td
theorem i3 {i:Hu}{p:Hx}{ws ws0:Hm W}{us:Hm V}(so:StoreOk X.w X.K A H S)(e:o8 S i=gV ws0)(ea:A[i]?=gV p)(r:RelL X.K A H ws us){w:W}{v:V}(rw':Rel X.K A H w v) :
  EndV X.w X.K A H (S.set i (.lst ws)) w v (cv H p (.lst us)):=by
 obtain⟨so',ex⟩:=so.write (kq e) ea r;exact#[A,ex,so',rw'.mono ex]
theorem nG:LMeth X "list.append" io:=by
 intro pins s σ H A S x a u xs vs us w S' I so rx ru rl rv e;cases rx with
 | ref ea=>
  cases rl with
  | nil=>cases e
  | cons r t=>
   cases t with
   | cons _ _=>cases e
   | nil=>
    simp only[io]at e;split at e
    ·rename_i ys hy;split at e
     ·rename_i hl;cases e;obtain⟨vs',h1,r1⟩:=eQ so hy ea;rw[r1.length]at hl;exact MtR.go tZ I ru rv #[_,_,_,rfl,rfl,h1,hl,i3 so hy ea (r1.append #v[r]) .non]
     ·cases e
    ·cases e
 | _=>cases e
noncomputable def j5 (x:W)(xs:Hm W)(S:aa):Ht (W×aa):=match x,xs with
 | .ref i,[.ref j]=>match o8 S i,o8 S j with
  | some ys,gV zs=>if ys.length+zs.length<=sizeLine then gV (.non,S.set i (.lst (ys++zs)))else td
  | _,_=>td
 | _,_=>td
theorem nH:LMeth X "list.extend" j5:=by
 intro pins s σ H A S x a u xs vs us w S' I so rx ru rl rv e;cases rx with
 | ref ea=>
  cases rl with
  | nil=>cases e
  | cons r t=>
   cases t with
   | cons _ _=>cases r <;> cases e
   | nil=>
    cases r with
    | ref eb=>
     simp only[j5]at e;split at e
     ·rename_i ys zs hy hz;split at e
      ·rename_i hl;cases e;obtain⟨vs',h1,r1⟩:=eQ so hy ea;obtain⟨vs2,h2,r2⟩:=eQ so hz eb;rw[r1.length,r2.length]at hl;exact MtR.go t4 I ru rv #[_,_,_,_,rfl,rfl,h1,h2,hl,i3 so hy ea (r1.append r2) .non]
      ·cases e
     ·cases e
    | _=>cases e
 | _=>cases e
noncomputable def zp (x:W)(xs:Hm W)(S:aa):Ht (W×aa):=match x,xs with
 | .ref i,[.int k]=>match o8 S i with
  | some ys=>if -(2 ^ 63)<=k/\k < 2 ^ 63 then match seqIndex? k ys.length with
   | some j=>match ys[j]? with
    | some y=>gV (y,S.set i (.lst (ys.eraseIdx j)))
    | none=>td
   | none=>td
   else td
  | none=>td
 | _,_=>td
theorem ug:LMeth X "list.pop" zp:=by
 intro pins s σ H A S x a u xs vs us w S' I so rx ru rl rv e;cases rx with
 | ref ea=>
  cases rl with
  | nil=>cases e
  | cons r t=>
   cases t with
   | cons _ _=>cases r <;> cases e
   | nil=>
    cases r with
    | int=>
     simp only[zp]at e;split at e
     ·rename_i ys hy;split at e
      ·rename_i hk;split at e
       ·rename_i j hj;split at e
        ·rename_i y hyj;cases e;obtain⟨vs',h1,r1⟩:=eQ so hy ea;obtain⟨v',h2,r2⟩:=r1.get hyj;rw[r1.length]at hj;exact MtR.go vG I ru rv #[_,_,_,_,_,rfl,rfl,h1,hk.1,hk.2,hj,h2,i3 so hy ea (r1.eraseIdx j) r2]
        ·cases e
       ·cases e
      ·cases e
     ·cases e
    | _=>cases e
 | _=>cases e
noncomputable def nI:Hm W->Ht (Hm HL)
 | []=>gV []
 | .str x::xs=>(nI xs).map (x :: ·)
 | _::_=>td
noncomputable def vU (x:W)(xs:Hm W)(S:aa):Ht (W×aa):=match x,xs with
 | .str x,[y]=>match eI S y with
  | some ys=>match nI ys with
   | some zs=>if (zs.map (·.length)).sum+zs.length*x.length<=16777216 then gV (.str (Txt.join x zs),S)else td
   | none=>td
  | none=>td
 | _,_=>td
theorem kA:∀ {ws:Hm W} {vs:Hm V} {us:Hm Ho} {zs:Hm HL},RelL X.K A H ws vs->Vals vs us->nI ws=gV zs->StrsAre us zs
 | _,_,_,zs,.nil,.nil,e=>by cases e; exact .nil
 | _,_,_,zs,.cons r t,.cons q p,e=>by
  cases r with
  | str=>
   simp only[nI,Hs]at e;obtain⟨z,e1,e2⟩:=e;subst e2;obtain⟨tk,rfl⟩ : ∃t,_=K7 _ t:=q;exact .cons _ tk (kA t p e1)
  | _=>cases e
theorem rh:LMeth X "str.join" vU:=by
 intro pins s σ H A S x a u xs vs us w S' I so rx ru rl rv e;cases rx with
 | str=>
  cases rl with
  | nil=>cases e
  | cons r t=>
   cases t with
   | cons _ _=>cases e
   | nil=>
    simp only[vU]at e;split at e
    ·rename_i ys hy;split at e
     ·rename_i zs hz;split at e
      ·rename_i hl;cases e;obtain⟨p,vs',rfl,hq,r1⟩:=nE (pins:=pins) (σ:=σ) (s:=s) so r hy;obtain⟨t0,rfl⟩ : ∃t,u=K7 _ t:=ru;obtain⟨u1,rfl,ru1⟩:=mn rv;have ru1':u1=IA p:=ru1;subst ru1';rcases hq with hq|hq
       ·obtain⟨its,rr,pl,hz'⟩:=I.list hq;exact join_list pl.isList (by simpa using kA r1 rr hz) hl λt' k=>#[.str _,H,A,I.tok _,#[_,rfl],.refl,so,.str]
       ·obtain⟨its,rr,pl,hz'⟩:=I.tuple hq;exact join_tuple pl (by simpa using kA r1 rr hz) hl λt' k=>#[.str _,H,A,I.tok _,#[_,rfl],.refl,so,.str]
      ·cases e
     ·cases e
    ·cases e
 | _=>cases e
noncomputable def eX (S:aa):W->Ht HV
 | .non=>gV false
 | .bl b=>gV b
 | .int i=>gV (i != 0)
 | .str y=>if y.length<=sizeLine then gV ((y.length:HF) != 0)else td
 | .tup xs=>gV (!xs.isEmpty)
 | .ref i=>(gX S i).map λxs=>!xs.isEmpty
theorem jI {ws:Hm W}{vs:Hm V}(r:RelL X.K A H ws vs):(!ws.isEmpty) = !vs.isEmpty:=by cases r <;> rfl
theorem Gm {x:W}{a:V}{u:Ho}{k:HV}{Q:HV->Hr->Prop}(I:Inv X pins σ H s)(so:StoreOk X.w X.K A H S)(rx:Rel X.K A H x a)(ru:RelV a u)(e:eX S x=gV k)(hq:∀s',Inv X pins σ H s'->Q k s') :
  wpAny (model X.prog X.w) X.A (truthy u) Q X.xe s:=by
 refine cg (Ce pins s σ H a u (λb H'=>b=k/\H'=H) I ru #[k,?_,rfl,rfl]) λb s' #[H',I',e1,e2]=>?_
 ·cases rx with
  | non=>cases e; rfl
  | bl=>cases e; rfl
  | int=>cases e; rfl
  | str=>
   simp only[eX]at e;split at e
   ·cases e; exact#[by assumption,rfl]
   ·cases e
  | tup h1 r1=>cases e; exact .inr (.inl #[_,h1,jI r1])
  | ref ea=>
   simp only[eX,Hs]at e;obtain⟨ws,hw,e2⟩:=e;subst e2;obtain⟨vs,h1,r1⟩:=cZ so hw ea;exact .inl #[_,h1,jI r1]
 ·subst e1 e2;exact hq s' I'
end
section
variable{α:Type}{prog:HZ}{w:Iw}{A:Iu}{E:Ho->Hr->Prop}{s:Hr}
theorem po:∀ {l:Hm α} {i:Hu} (h:i < l.length),(l[i]::l.eraseIdx i).Perm l
 | x::l,0,_=>.refl _
 | x::l,i+1,h=>(PD _ _ _).trans ((po (l:=l) (i:=i) (by simpa using h)).cons x)
end
noncomputable def uh (S:aa)(i:Hu):Ht (HF×HF):=match S[i]? with
 | some (.rng lo hi)=>gV (lo,hi)
 | _=>td
noncomputable def nJ (xs:Hm W)(S:aa):Ht (W×aa):=match xs with
 | [.int j]=>if -(2 ^ 62)<=j/\j < 2 ^ 62 then gV (.ref S.length,S++[.rng 0 j])else td
 | _=>td
noncomputable def zq (lo:HF)(n:Hu):Hm W:=(HJ n).map λ(k:Hu)=>.int (lo+(k:HF))
noncomputable def ip (xs:Hm W)(S:aa):Ht (W×aa):=match xs with
 | [.ref i]=>match uh S i with
  | some (lo,hi)=>if -(2 ^ 62)<=lo/\lo < 2 ^ 62/\-(2 ^ 62)<=hi/\hi < 2 ^ 62/\(hi - lo).toNat<=sizeLine then gV (.ref S.length,S++[.lst (zq lo (hi - lo).toNat)])else td
  | none=>gN [.ref i] S
 | xs=>gN xs S
section
variable{X:Cx}{pins:Hm (Hx×Jn)}{σ:L2.St}{H:Hp}{s:Hr}{A:Hm Hx}{S:aa}
theorem Inv.drawn (I:Inv X pins σ H s)(d:Py):Inv X pins σ H { s with drawn:=d }:=#[I.ok,I.os,I.bare,I.base,I.loc,I.cell,I.free,I.freeC,I.pin,I.hok,I.len]
theorem pq {h':IF}{tk:Hu}{dr:Py}{D:Hx}{n:O}{u:HO}(I:Inv X pins σ H s)(so:StoreOk X.w X.K A H S)(hk:∀b o,s.heap.get? b=gV o->h'.get? b=gV o)(hD:s.heap.objs.size<=D)(new:ObjOk X.prog X.w (cv H D u) h' D u)
  (r:H D=td->ObjRel X.w X.K (A++[D]) (cv H D u) D n):dS X pins σ A H (S++[n]) (.ref S.length) (.ref D) { s with heap:=h',toks:=tk,drawn:=dr }:=by
 have hn:H D=td:=I.hok.fresh hD;refine#[.ref D,_,A++[D],Mi.Inv.drawn (I.laid (a:=D) (o:=u) (t':=tk) hk hD new) dr,rfl,ee hn,so.pushO hn (r hn),.ref ?_];rw[<- so.len]; simp
theorem nK:∀ {vs:Hm V} {us:Hm Ho},vs.length=us.length->(∀(i:Hu) v u,vs[i]?=gV v->us[i]?=gV u->L2.RelV v u)->Vals vs us
 | [],[],_,_=>.nil
 | v::vs,u::us,hl,h=>.cons (h 0 v u rfl rfl) (nK (by simpa using hl) λi v u a b=>h (i+1) v u (by simpa using a) (by simpa using b))
 | [],_::_,hl,_=>by cases hl
 | _::_,[],hl,_=>by cases hl
theorem nL {K:HC}{lo:HF}:∀(l:Hm Hu),RelL K A H (l.map λ(k:Hu)=>W.int (lo+(k:HF))) (l.map λ(k:Hu)=>V.int (lo+(k:HF)))
 | []=>.nil
 | _::l=>.cons .int (nL l)
theorem sv {xs:Hm W}{vs:Hm V}{us:Hm Ho}{i:Hu}(rl:RelL X.K A H [.ref i] vs)(rv:Vals vs us):∃a,A[i]?=gV a/\us=[.ref a]:=by
 cases rl with
 | cons r t=>
  cases t;cases r with
  | @ref _ a ea=>
   cases rv with
   | cons ru rv=>
    cases rv;obtain rfl:_=IA a:=ru;exact#[a,ea,rfl]
theorem pr:LCall X (.type "range") nJ:=by
 intro pins s σ H A S xs vs us w S' I so rl rv e;unfold nJ at e;split at e
 ·rename_i j;split at e
  ·rename_i hb;cases e;cases rl with
   | cons r t=>
    cases t;cases r;cases rv with
    | cons ru rv=>
     cases rv;obtain⟨tk,rfl⟩:=ru;exact OM (pq (dr:=s.drawn) (u:=.rng 0 j) I so (λb o e=>Hv _ e) (HG _) #[_,_,_,HQ _ rfl] λ_=>bD)
  ·cases e
 ·cases e
theorem pv (hh:X.A.handled=td):LCall X (.type "list") ip:=by
 intro pins s σ H A S xs vs us w S' I so rl rv e;unfold ip at e;split at e
 ·rename_i i;split at e
  ·rename_i lo hi hr;split at e
   ·rename_i hb;cases e;obtain⟨a,ea,rfl⟩:=sv (xs:=[]) rl rv;obtain⟨b1,b2,b3,b4,b5⟩:=hb;have hH:H a=gV (.rng lo hi):=by
     unfold uh at hr;split at hr
     ·rename_i hx; cases hr; exact so.obj i _ a hx ea
     ·cases hr
    obtain⟨t,u,v,ho⟩:=I.hok a _ hH;have hn:Jw lo hi 1=((hi - lo).toNat:Hu):=by rw[MP]; split <;> omega
    refine call_list_range hh ho (OH b1 b2 b3 b4) hn b5 λh' tk acc c hk hD hacc=>?_
    have hv:Vals ((HJ (hi - lo).toNat).map λ(k:Hu)=>V.int (lo+(k:HF))) acc.toList:=by
     refine nK (by rw[Hq,Iv,Ir,hacc.1]) λi v u e1 e2=>?_
     rw[Hy,Hs]at e1;obtain⟨k,e1,rfl⟩:=e1;obtain⟨hk,rfl⟩:=HI.mp e1;obtain⟨t,rfl⟩:=hacc.2 i u (by rw[<- Jp]; exact e2)
     exact#[t,by simp]
    refine pq (dr:=s.drawn) (u:=.lst ((HJ (hi - lo).toNat).map λ(k:Hu)=>V.int (lo+(k:HF)))) I so hk (HG _) #[by simpa using b5,acc.toList,c,hv,by simpa using hD] λhn=>#[_,bD,?_]
    exact nL _
   ·cases e
  ·exact gZ pins s σ H A S _ vs us w S' I so rl rv e
 ·exact gZ pins s σ H A S _ vs us w S' I so rl rv e
end
mutual
inductive IsT (h:IF):T->Ho->Prop
 | int {i:HF} {t:PL}:IsT h (.int i) (.int i t)
 | str {x:HL} {t:PL}:IsT h (.str x) (.str x t)
 | tup {ks:Hm T} {a:Hx} {o:Jn} {items:IC Ho} {n:Hu}:h.get? a=gV o->o.cls=.type "tuple"->o.data=.seq items n->IsTs h ks items.toList->IsT h (.tup ks) (.ref a)
inductive IsTs (h:IF):Hm T->Hm Ho->Prop
 | nil:IsTs h [] []
 | cons {k:T} {v:Ho} {ks:Hm T} {vs:Hm Ho}:IsT h k v->IsTs h ks vs->IsTs h (k::ks) (v::vs)
end
mutual
theorem IsT.inj {h:IF}:∀ {x y:T} {v:Ho},IsT h x v->IsT h y v->x=y
 | _,_,_,.int,h2=>by cases h2; rfl
 | _,_,_,.str,h2=>by cases h2; rfl
 | _,_,_,.tup a1 _ d1 t1,h2=>by
  cases h2 with
  | tup a2 _ d2 t2=>
   rw[a1]at a2; cases a2
   rw[d1]at d2; cases d2
   rw[IsTs.inj t1 t2]
theorem IsTs.inj {h:IF}:∀ {x y:Hm T} {v:Hm Ho},IsTs h x v->IsTs h y v->x=y
 | _,_,_,.nil,h2=>by cases h2; rfl
 | _,_,_,.cons a b,h2=>by
  cases h2 with
  | cons c d=>rw[IsT.inj a c,IsTs.inj b d]
end
mutual
theorem IsT.keeps {h h':IF}{d:Hx}{o:Jn}{es:IC JJ}{ep:Hu}(ho:h.get? d=gV o)(hd:o.data=.dict es ep)(hs:J3 d h h'):∀ {x:T} {v:Ho},IsT h x v->IsT h' x v
 | _,_,.int=>.int
 | _,_,.str=>.str
 | _,_,.tup (a:=a) a1 c1 d1 t1=>by
  have hne:a≠d:=by
   rintro rfl;rw[a1]at ho; cases ho
   rw[d1]at hd; cases hd
  exact .tup ((hs.2 a hne).trans a1) c1 d1 (IsTs.keeps ho hd hs t1)
theorem IsTs.keeps {h h':IF}{d:Hx}{o:Jn}{es:IC JJ}{ep:Hu}(ho:h.get? d=gV o)(hd:o.data=.dict es ep)(hs:J3 d h h'):∀ {x:Hm T} {v:Hm Ho},IsTs h x v->IsTs h' x v
 | _,_,.nil=>.nil
 | _,_,.cons a b=>.cons (IsT.keeps ho hd hs a) (IsTs.keeps ho hd hs b)
end
theorem IsTs.length {h:IF}:∀ {x:Hm T} {v:Hm Ho},IsTs h x v->x.length=v.length
 | _,_,.nil=>rfl
 | _,_,.cons _ b=>by simp[IsTs.length b]
theorem IsTs.get {h:IF}:∀ {x:Hm T} {v:Hm Ho},IsTs h x v->∀(j:Hu) (h1:j < x.length) (h2:j < v.length),IsT h x[j] v[j]
 | _,_,.cons a _,0,_,_=>a
 | _,_,.cons _ b,j+1,h1,h2=>IsTs.get b j (by simpa using h1) (by simpa using h2)
theorem eh:∀ {ks:Hm T} (j:Hu) (h:j < ks.length),(ks[j]).depth<=T.depths ks
 | k::ks,0,_=>by simp only[T.depths,List.getElem_cons_zero]; omega
 | k::ks,j+1,h=>by
  have:=eh (ks:=ks) j (by simpa using h)
  simp only[T.depths,List.getElem_cons_succ]; omega
section
variable{prog:HZ}{w:Iw}{E:Ho->Hr->Prop}
mutual
theorem pz:∀(k:T) (v:Ho) (A:Iu) (s:Hr) (Q:HF->Hr->Prop),IsT s.heap k v->A.units+k.depth < cLine->Q (pi w k) { s with toks:=s.toks+k.draws }->wpAny (model prog w) A (pyHash v) Q E s
 | .int i,_,A,s,Q,x,_,h=>by cases x; exact Nw h
 | .str y,_,A,s,Q,x,_,h=>by cases x; exact Nx h
 | .tup ks,_,A,s,Q,x,hu,h=>by
  cases x with
  | @tup _ a o items n hg hc hd hw=>
   simp only[T.depth]at hu;refine PySem.W.pyHash_slot (T:="tuple") #[_,hg,hc] F.slot_tuple_hash F.entry_tuple_hash (F.args_tuple_hash_1 _) (beq_builtin_none _) (.inr ∅) ?_
   show wpAny _ _ (Ks (.ref a) >>= _) _ _ s;refine Hn (wpAny_tupleItemsOf hg hd ?_);refine Hn ?_;rw[<- M3];refine kB ks items.toList A.in1 s #[] _ hw (by rw[bQ]; omega) λb hb=>?_
   show wpAny _ _ (retInt (Lw b.toList)) _ _ _;rw[hb];refine Hn (NQ (Hz #[_,_,rfl,?_]))
   simpa [T.draws,OA,pi]using h
theorem kB:∀(ks:Hm T) (vs:Hm Ho) (A:Iu) (s:Hr) (b:IC HF) (Q:IC HF->Hr->Prop),IsTs s.heap ks vs->A.units+T.depths ks < cLine->
  (∀b',b'.toList=b.toList++ko w ks->Q b' { s with toks:=s.toks+T.drawss ks })->
  wpAny (model prog w) A (forIn vs b λx r=>do let h <- pyHash x; pure M4; pure (Jt (r.push h))) Q E s
 | [],_,A,s,b,Q,x,_,h=>by cases x; exact Hz (h b (by simp[ko]))
 | k::ks,_,A,s,b,Q,x,hu,h=>by
  cases x with
  | cons x1 x2=>
   simp only[T.depths]at hu;rw[Ma];refine Hn (Hn (pz k _ A s _ x1 ∅ ?_))
   refine Hn (Hz (Hz ?_));refine kB ks _ A _ _ Q x2 ∅ λb' hb=>?_
   have:=h b' (by simp[hb,ko])
   simpa [T.drawss,OA]using this
end
open SeqAt in
theorem uj:∀(d:Hu) (x y:T) (u v:Ho) (B:Iu) (s:Hr),x.depth<=d->IsT s.heap x u->IsT s.heap y v->B.units+d < cLine->B.units+y.depth < cLine->EqAt B s u v (decide (x=y))
 | d,.int i,y,_,_,B,s,_,h1,h2,hu,hv=>by
  cases h1;cases h2 with
  | int=>
   rename_i j t2;have:decide (T.int i=T.int j)=(i==j):=by by_cases e:i=j <;> simp[e]
   rw[this]; exact .int_int _ _ _ _
  | str=>rw[Ig (by simp)]; exact .int_str _ _ _ _
  | tup a c dd t=>rw[Ig (by simp)]; exact .int_tuple _ _ #[_,a,c,_,dd] (by simp only[T.depth]at hv; omega)
 | d,.str z,y,_,_,B,s,_,h1,h2,hu,hv=>by
  cases h1;cases h2 with
  | int=>rw[Ig (by simp)]; exact .str_int _ _ _ _
  | str=>
   rename_i z2 t2;have:decide (T.str z=T.str z2)=(z==z2):=by by_cases e:z=z2 <;> simp[e]
   rw[this]; exact .str_str _ _ _ _
  | tup a c dd t=>rw[Ig (by simp)]; exact .str_tuple _ _ #[_,a,c,_,dd] (by simp only[T.depth]at hv; omega)
 | 0,.tup ks,y,_,_,B,s,hd,h1,h2,hu,hv=>by simp[T.depth]at hd
 | d+1,.tup ks,y,_,_,B,s,hd,h1,h2,hu,hv=>by
  have h1':=h1;cases h1 with
  | @tup _ a o items n a1 c1 d1 t1=>
   have hT:s.heap.IsTuple a items:=#[_,a1,c1,_,d1];simp only[T.depth]at hd;cases h2 with
   | int=>rw[Ig (by simp)]; exact .tuple_int _ _ hT ∅
   | str=>rw[Ig (by simp)]; exact .tuple_str _ _ hT ∅
   | @tup ks2 b o2 items2 n2 a2 c2 d2 t2=>
    have hT2:s.heap.IsTuple b items2:=#[_,a2,c2,_,d2]
    by_cases hab:a=b
    ·subst hab;have:T.tup ks=T.tup ks2:=h1'.inj (.tup a2 c2 d2 t2);rw[Jg this];exact EqAt.same _
    ·refine EqAt.of_refs hab ?_;simp only[T.depth]at hv;have l1:items.size=ks.length:=by rw[<- Ir,t1.length]
     have l2:items2.size=ks2.length:=by rw[<- Ir,t2.length]
     let e:Hu->HV:=λj=>if h:j < ks.length/\j < ks2.length then decide (ks[j]'h.1=ks2[j]'h.2)else true
     have he:∀j (h1:j < items.size) (h2:j < items2.size),EqAt B.in1 s items[j] items2[j] (e j):=λj j1 j2=>by
      have g1:=t1.get j (l1 ▸ j1) (by simpa using j1)
      have g2:=t2.get j (l2 ▸ j2) (by simpa using j2)
      have q1:=eh (ks:=ks) j (l1 ▸ j1);have q2:=eh (ks:=ks2) j (l2 ▸ j2);have:=uj d _ _ _ _ B.in1 s ∅ g1 g2 (by rw[bQ]; omega) (by rw[bQ]; omega)
      show EqAt B.in1 s items[j] items2[j] (if h:j < ks.length/\j < ks2.length then decide (ks[j]'h.1=ks2[j]'h.2)else true)
      rw[Po #[l1 ▸ j1,l2 ▸ j2]]
      simpa using this
     have:=RcAt.tuples hT hT2 ∅ he
     have hk:((HJ (min items.size items2.size)).all e&&items.size==items2.size)=decide (T.tup ks=T.tup ks2):=by
      rw[l1,l2]
      by_cases hl:ks.length=ks2.length
      ·by_cases hq:ks=ks2
       ·subst hq;simp only[L1,Jb,LK,decide_true,HX,Iy];intro j hj;show(if h:j < ks.length/\j < ks.length then decide (ks[j]'h.1=ks[j]'h.2)else true)=true
        rw[Po #[hj,hj]]; simp
       ·rw[Ig (by simpa using hq)]
        have:∃j,∃h:j < ks.length,ks[j]≠ks2[j]'(hl ▸ h):=by
         apply Lx;intro hn;exact hq (LS hl λj h1 h2=>Lx λz=>hn #[j,h1,z])
        obtain⟨j,hj,hne⟩:=this;rw[Mk];left;rw[List.all_eq_false];refine#[j,by rw[Iy,<- hl,L1]; exact hj,?_]
        show ¬ (if h:j < ks.length/\j < ks2.length then decide (ks[j]'h.1=ks2[j]'h.2)else true)=true
        rw[Po #[hj,hl ▸ hj]]
        simpa using hne
      ·rw[Ig (by simp; intro z; exact hl (by rw[z])),Mk]
       right
       simpa using hl
     rw[hk]at this;exact this
theorem mC {n:Hu}{v:Ho}(h:∀a,v≠.ref a):eqIsQuiet n v=pure true:=by
 cases v with
 | ref a=>exact absurd rfl (h a)
 | _=>first|rfl|simp[eqIsQuiet]|(unfold eqIsQuiet; rfl)
theorem sw:∀(d:Hu) (k:T) (v:Ho) (A:Iu) (s:Hr) (Q:HV->Hr->Prop),k.depth<=d->IsT s.heap k v->Q true s->wpAny (model prog w) A (eqIsQuiet d v) Q E s
 | d,.int i,_,A,s,Q,_,x,h=>by cases x; rw[mC (λa=>by simp)]; exact Hz h
 | d,.str i,_,A,s,Q,_,x,h=>by cases x; rw[mC (λa=>by simp)]; exact Hz h
 | 0,.tup ks,_,A,s,Q,hd,x,h=>by simp[T.depth]at hd
 | d+1,.tup ks,_,A,s,Q,hd,x,h=>by
  cases x with
  | @tup _ a o items n ho hc hdt hi=>
   simp only[T.depth]at hd;have hT:s.TypeIs (.ref a) "tuple":=#[_,ho,hc];unfold eqIsQuiet;refine Hn (wpAny_specialOf hT F.slot_tuple_eq.lookup ?_);show wpAny _ _ (isInstance (.ref a) (.type "tuple") >>= _) _ _ s;refine Hn (LU hT isSubtype_tuple_tuple ?_);simp only[MR,IY,J5];refine Hn (Ku ho hdt ?_);refine Hn ?_;show wpAny _ _ (forIn items _ _) _ _ s;rw[<- M3];refine NE _ (λdj r s'=>r.1=td/\s'=s/\∃kk,IsTs s.heap kk dj/\T.depths kk<=d) _ ?_ ?_ _ _ #[rfl,rfl,ks,hi,∅]
   ·rintro v dj r s' ⟨hr,rfl,kk,hall,hdk⟩;cases hall with
    | cons q1 q2=>
     simp only[T.depths]at hdk;refine Hn (sw d _ v _ _ _ ∅ q1 ?_)
     simp only[MR,IY,J5];exact Hz #[rfl,rfl,_,q2,∅]
   ·rintro⟨r1,r2⟩ s' ⟨hr,rfl,_⟩;simp only at hr;subst hr;exact Hz h
end
noncomputable def dc (prog:HZ)(w:Iw):HeapKind prog w T where
 is:=λh k a=>IsT h k (.ref a)/\k.depth<=bS
 hash:=pi w
 draws:=T.draws
 room:=λA=>A.units+bS < cLine
 inj:=λhx hy=>hx.1.inj hy.1
 keeps:=λx ho hd hs=>#[x.1.keeps ho hd hs,x.2]
 pyHash:=λhu hk h=>pz _ _ _ _ _ hk.1 (by have:=hk.2; omega) h
 eqBool:=λhu hx hy h=>uj bS _ _ _ _ _ _ hx.2 hx.1 hy.1 hu (by have:=hy.2; omega) _ _ _ _ h
 quiet:=λhk h=>sw 8 _ _ _ _ _ (by have:=hk.2; unfold bS at this; omega) hk.1 h
noncomputable def jS (S:aa)(i:Hu):Ht (Hm (T×W)):=match S[i]? with
 | some (.dic kvs)=>gV kvs
 | some (.frd kvs)=>gV kvs
 | _=>td
noncomputable def nM (S:aa)(i:Hu):Ht (Hm (T×W)):=match S[i]? with
 | some (.dic kvs)=>gV kvs
 | _=>td
noncomputable def cx (kvs:Hm (T×W))(k:T):Ht W:=(kvs.find? λp=>decide (p.1=k)).map (·.2)
noncomputable def eG (kvs:Hm (T×W))(k:T)(v:W):Hm (T×W):=
 if (kvs.any λp=>decide (p.1=k))=true then kvs.map (λp=>if p.1=k then(p.1,v)else p)else kvs++[(k,v)]
noncomputable def gC (w:W):Ht T:=match W.t w with
 | some k=>if k.isTup=true/\k.depth<=bS then gV k else td
 | none=>td
theorem d7 {w:W}{k:T}(h:gC w=gV k):k.w=w/\k.isTup=true/\k.depth<=bS:=by
 unfold gC at h;split at h
 ·rename_i k' hk;split at h
  ·rename_i hc;cases h;exact#[W.t_w hk,hc.1,hc.2]
  ·cases h
 ·cases h
theorem c9 (kvs:Hm (T×W))(k:T)(v:W):(eG kvs k v).length<=kvs.length+1:=by
 unfold eG;split
 ·rw[Hq]; omega
 ·rw[HA,IN,Js]; omega
section
variable{X:Cx}{pins:Hm (Hx×Jn)}{σ:L2.St}{H:Hp}{s:Hr}{A:Hm Hx}{S:aa}
mutual
theorem nN (I:Inv X pins σ H s):∀(k:T) {v:V} {u:Ho},Rel X.K A H k.w v->RelV v u->IsT s.heap k u
 | .int i,_,_,r,q=>by
  cases r;obtain⟨t,rfl⟩ : ∃t,_=LQ _ t:=q;exact .int
 | .str x,_,_,r,q=>by
  cases r;obtain⟨t,rfl⟩ : ∃t,_=K7 _ t:=q;exact .str
 | .tup ks,_,_,r,q=>by
  simp only[T.w]at r;cases r with
  | tup sq rl=>
   obtain⟨its,rv,⟨o,h1,h2,n,h3⟩,hz⟩:=I.tuple sq;obtain rfl:_=IA _:=q;exact .tup h1 h2 h3 (gq I ks rl (by simpa using rv))
theorem gq (I:Inv X pins σ H s):∀(ks:Hm T) {vs:Hm V} {us:Hm Ho},RelL X.K A H (T.ws ks) vs->Vals vs us->IsTs s.heap ks us
 | [],_,_,r,q=>by
  simp only[T.ws]at r;cases r; cases q; exact .nil
 | k::ks,_,_,r,q=>by
  simp only[T.ws]at r;cases r with
  | cons r1 r2=>
   cases q with
   | cons q1 q2=>exact .cons (nN I k r1 q1) (gq I ks r2 q2)
end
theorem i4 (I:Inv X pins σ H s){k:T}{b:Hx}(r:Rel X.K A H k.w (.ref b))(hd:k.depth<=bS):(dc X.prog X.w).is s.heap k b:=#[nN I k r rfl,hd]
theorem iq {w:W}{k:T}{v:V}{u:Ho}(hk:gC w=gV k)(r:Rel X.K A H w v)(q:RelV v u):∃b,v=.ref b/\u=.ref b/\Rel X.K A H k.w (.ref b):=by
 obtain⟨h1,h2,h3⟩:=d7 hk;subst h1;cases k with
 | tup ks=>
  simp only[T.w]at r;cases r with
  | tup a b=>exact#[_,rfl,q,by simp only[T.w]; exact .tup a b]
 | _=>cases h2
theorem KRel.is {kvs:Hm (T×W)}{xs:Hm (T×Hx×Ho)}(I:Inv X pins σ H s)(r:KRel X.K A H kvs xs):∀x∈xs,(dc X.prog X.w).is s.heap x.1 x.2.1:=by
 unfold KRel at r
 induction r with
 | nil=>intro x hx; exact nomatch hx
 | @cons p q ps qs h t ih=>
  intro x hx;rcases Iq.mp hx with e|hx
  ·subst e;obtain⟨h1,h2,h3,h4,_⟩:=h;rw[h1]at h3 h4;exact i4 I h4 h3
  ·exact ih x hx
theorem KRel.length {kvs:Hm (T×W)}{xs:Hm (T×Hx×Ho)}(r:KRel X.K A H kvs xs):kvs.length=xs.length:=LJ r
theorem KRel.val {kvs:Hm (T×W)}{xs:Hm (T×Hx×Ho)}(r:KRel X.K A H kvs xs)(k:T) :
  (∀w,cx kvs k=gV w->∃p v,atKey xs k=gV p/\Rel X.K A H w v/\RelV v p.2)/\(cx kvs k=td->atKey xs k=td):=by
 unfold KRel at r
 induction r with
 | nil=>exact#[λw h=>(nomatch h),λ_=>rfl]
 | @cons p q ps qs h t ih=>
  obtain⟨h1,_,_,_,v,h5,h6⟩:=h
  by_cases e:p.1=k
  ·have e':q.1=k:=h1.symm.trans e;have a1:cx (p::ps) k=gV p.2:=by simp[cx,JL,e]
   have a2:atKey (q::qs) k=gV q.2:=by simp[atKey,JL,e']
   rw[a1,a2];exact#[λw hw=>(by cases hw; exact#[_,v,rfl,h5,h6]),λh=>nomatch h]
  ·have e':¬ q.1=k:=λz=>e (h1.trans z)
   have a1:cx (p::ps) k=cx ps k:=by simp[cx,JL,e]
   have a2:atKey (q::qs) k=atKey qs k:=by simp[atKey,JL,e']
   rw[a1,a2];exact ih
theorem KRel.repl {kvs:Hm (T×W)}{xs:Hm (T×Hx×Ho)}(r:KRel X.K A H kvs xs)(k:T){w:W}{v:V}{u:Ho}(rw':Rel X.K A H w v)(rv:RelV v u) :
  KRel X.K A H (kvs.map λp=>if p.1=k then(p.1,w)else p) (xs.map (putAt k u)):=by
 unfold KRel at r ⊢
 induction r with
 | nil=>exact .nil
 | @cons p q ps qs h t ih=>
  rw[Jr,Jr];refine .cons ?_ ih;obtain⟨h1,h2,h3,h4,h5⟩:=h;unfold putAt
  by_cases e:p.1=k
  ·rw[HW e,HW (h1.symm.trans e)]; exact#[h1,h2,h3,h4,v,rw',rv]
  ·rw[Ix e,Ix (λz=>e (h1.trans z))]; exact#[h1,h2,h3,h4,h5]
theorem pA (k:T):∀kvs:Hm (T×W),(kvs.any λp=>decide (p.1=k))=(cx kvs k).isSome
 | []=>rfl
 | p::r=>by
  rw[JR]
  by_cases e:p.1=k
  ·have a1:cx (p::r) k=gV p.2:=by simp[cx,JL,e]
   rw[a1,Jg e]; rfl
  ·have a1:cx (p::r) k=cx r k:=by simp[cx,JL,e]
   rw[a1,Ig e,MS]; exact pA k r
theorem KRel.put {kvs:Hm (T×W)}{xs:Hm (T×Hx×Ho)}(r:KRel X.K A H kvs xs){k:T}{b:Hx}{w:W}{v:V}{u:Ho}(h1:k.isTup=true)(h2:k.depth<=bS)(h3:Rel X.K A H k.w (.ref b))(rw':Rel X.K A H w v)(rv:RelV v u) :
  KRel X.K A H (eG kvs k w) (storedH xs k b u):=by
 have e:(kvs.any λp=>decide (p.1=k))=(atKey xs k).isSome:=by
  rw[pA];cases q:cx kvs k with
  | none=>rw[(r.val k).2 q]; rfl
  | some x=>obtain⟨p,_,h,_⟩:=(r.val k).1 x q; rw[h]; rfl
 unfold eG storedH;rw[e]
 by_cases q:(atKey xs k).isSome=true
 ·rw[HW q,HW q]; exact r.repl k rw' rv
 ·rw[Ix q,Ix q]; exact Paired.snoc r #[rfl,h1,h2,h3,v,rw',rv]
theorem DicAt.of {h:IF}{a:Hx}{xs:Hm (T×Hx×Ho)}(hz:xs.length<=sizeLine)(hs:(a==sysModules)=false)(d:h.DictOfH (dc X.prog X.w) a xs):DicAt X.w a xs h:=
 let ⟨o,es,ep,h1,h2,h3,h4,_,h6⟩:=d; #[hz,hs,h6,o,es,ep,h1,h2,h3,h4]
theorem DicAt.stay {wd:Iw}{h h':IF}{a:Hx}{xs:Hm (T×Hx×Ho)}(d:DicAt wd a xs h)(k:∀o,h.get? a=gV o->h'.get? a=gV o):DicAt wd a xs h':=
 let ⟨h0,hs,hn,o,es,ep,h1,h2⟩:=d; #[h0,hs,hn,o,es,ep,k _ h1,h2]
theorem DicAt.ok {P:HZ}{h:IF}{wd:Iw}{a:Hx}{xs:Hm (T×Hx×Ho)}(d:DicAt wd a xs h):ObjOk P wd H h a (ec wd a xs):=
 #[d,let ⟨_,_,_,o,_,_,h1,_⟩:=d; #[o,h1],λ_ _ p k=>p.stay k]
theorem cR {a:Hx}{xs:Hm (T×Hx×Ho)}(I:Inv X pins σ H s)(e:Rd H a (ec X.w a xs)):DicAt X.w a xs s.heap:=(show ObjOk X.prog X.w H s.heap a (ec X.w a xs)from e.ok I.hok).1
theorem DicAt.dict {kvs:Hm (T×W)}{a:Hx}{xs:Hm (T×Hx×Ho)}(d:DicAt X.w a xs s.heap)(I:Inv X pins σ H s)(r:KRel X.K A H kvs xs):s.heap.DictOfH (dc X.prog X.w) a xs:=
 let ⟨_,_,hn,o,es,ep,h1,h2,h3,h4⟩:=d; #[o,es,ep,h1,h2,h3,h4,r.is I,hn]
theorem fU {i:Hu}{kvs:Hm (T×W)}{a:Hx}(so:StoreOk X.w X.K A H S)(e:jS S i=gV kvs)(ea:A[i]?=gV a):∃xs,Rd H a (ec X.w a xs)/\KRel X.K A H kvs xs:=by
 unfold jS at e;split at e
 ·rename_i k h;cases e;obtain⟨xs,q,r⟩:=so.obj i _ a h ea;exact#[xs,.inl q,r]
 ·rename_i k h;cases e;obtain⟨o,xs,q,r⟩:=so.obj i _ a h ea;exact#[xs,.inr #[o,q],r]
 ·cases e
theorem ir {i:Hu}{kvs:Hm (T×W)}(e:nM S i=gV kvs):S[i]?=gV (.dic kvs):=by
 unfold nM at e;split at e
 ·rename_i h; cases e; exact h
 ·cases e
theorem sx {i:Hu}{kvs:Hm (T×W)}{a:Hx}(so:StoreOk X.w X.K A H S)(e:nM S i=gV kvs)(ea:A[i]?=gV a):∃xs,H a=gV (ec X.w a xs)/\KRel X.K A H kvs xs:=
 so.obj i _ a (ir e) ea
theorem pB {B:Iu}(hu:B.units+10 < cLine):(dc X.prog X.w).room B.in1:=by
 show B.in1.units+bS < cLine;rw[bQ]; unfold bS; omega
noncomputable def lK (x y:W)(S:aa):Ht (W×aa):=match x,y with
 | .ref r,.tup ks=>match jS S r,gC (.tup ks)with
  | some kvs,gV k=>(cx kvs k).map λw=>(w,S)
  | _,_=>td
 | x,y=>uc x y S
theorem Gn (hu:X.A.units+10 < cLine):LIx X lK:=by
 intro value slice pins s σ H A S x y a b u v w S' I so rx ru ry rv e hs
 by_cases hxy:∃r ks,x=.ref r/\y=.tup ks
 ·obtain⟨r,ks,rfl,rfl⟩:=hxy;simp only[lK]at e;split at e
  ·rename_i kvs k hk1 hk2;rw[Hs]at e;obtain⟨w',e1,e2⟩:=e;cases e2;cases rx with
   | ref ea=>
    obtain⟨xs,rd,kr⟩:=fU so hk1 ea;have d:=cR I rd;have dd:=d.dict I kr;obtain⟨bk,rfl,rfl,rk⟩:=iq hk2 ry rv;obtain⟨p,vv,h1,h2,h3⟩:=(kr.val k).1 _ e1;obtain rfl:u=IA _:=ru;refine KW (x:=p.2) dd.typeIs slot_dict_getitem.lookup
     (wpAny_getItem_heap (Q:=λr s'=>r=p.2/\dS X pins σ A H S w r s') (pB hu) (i4 I rk (d7 hk2).2.2) dd h1 #[rfl,vv,H,A,I.tok _,h3,.refl,so,h2]) hs
  ·cases e
 ·have:lK x y S=uc x y S:=by
   cases x <;> cases y <;> first|rfl|exact absurd #[_,_,rfl,rfl] hxy
  rw[this]at e;exact Hg hu value slice pins s σ H A S x y a b u v w S' I so rx ru ry rv e hs
noncomputable def iu (o i v:W)(S:aa):Ht aa:=match o,i with
 | .ref r,.tup ks=>match nM S r,gC (.tup ks)with
  | some kvs,gV k=>if kvs.length < sizeLine then gV (S.set r (.dic (eG kvs k v)))else td
  | _,_=>td
 | o,i=>ud o i v S
theorem El (hu:X.A.units+10 < cLine):LSet X iu:=by
 intro pins s σ H A S o i x ao ai ax uo ui ux S' I so ro ruo ri rui rx rux e
 by_cases hxy:∃r ks,o=.ref r/\i=.tup ks
 ·obtain⟨r,ks,rfl,rfl⟩:=hxy;simp only[iu]at e;split at e
  ·rename_i kvs k hk1 hk2;split at e
   ·rename_i hl;cases e;cases ro with
    | ref ea=>
     obtain⟨xs,hH,kr⟩:=sx so hk1 ea;have d:=cR I (.inl hH);have dd:=d.dict I kr;obtain⟨bk,rfl,rfl,rk⟩:=iq hk2 ri rui;obtain⟨q1,q2,q3⟩:=d7 hk2;obtain rfl:uo=IA _:=ruo;have hz:xs.length<=sizeLine:=by rw[<- kr.length]; omega
     refine wpAny_setItem_heap (hsz:=hz) (pB hu) (i4 I rk q3) dd λh' dd' hs=>?_
     have kr':=kr.put q2 q3 rk rx rux;have hz':(storedH xs k bk ux).length<=sizeLine:=by
      rw[<- kr'.length];have:=c9 kvs k x;omega
     have dn:DicAt X.w _ (storedH xs k bk ux) h':=.of hz' d.2.1 dd';obtain⟨so',ex⟩:=so.writeO (ir hk1) rfl ea (u:=ec X.w _ (storedH xs k bk ux)) (n:=.dic (eG kvs k x)) #[_,bD,kr'.mono (dD (.ext hH))];exact#[_,A,nC I (by rw[hH]; exact La) hs (let ⟨q,_,_,hq,_⟩:=dd'; #[q,hq]) dn.ok,ex,so']
   ·cases e
  ·cases e
 ·have:iu o i x S=ud o i x S:=by
   cases o <;> cases i <;> first|rfl|exact absurd #[_,_,rfl,rfl] hxy
  rw[this]at e;exact lset hu pins s σ H A S o i x ao ai ax uo ui ux S' I so ro ruo ri rui rx rux e
noncomputable def sy (x:W)(xs:Hm W)(S:aa):Ht (W×aa):=match x,xs with
 | .ref r,[y,z]=>match jS S r,gC y with
  | some kvs,gV k=>gV ((cx kvs k).getD z,S)
  | _,_=>td
 | _,_=>td
theorem rj (hu:X.A.units+10 < cLine):LMeth X "dict.get" sy:=by
 intro pins s σ H A S x a u xs vs us w S' I so rx ru rl rv e;cases rx with
 | ref ea=>
  cases rl with
  | nil=>cases e
  | cons r1 t1=>
   cases t1 with
   | nil=>cases e
   | cons r2 t2=>
    cases t2 with
    | cons _ _=>cases e
    | nil=>
     simp only[sy]at e;split at e
     ·rename_i kvs k hk1 hk2;cases e;obtain⟨xs,rd,kr⟩:=fU so hk1 ea;have d:=cR I rd;have dd:=d.dict I kr;cases rv with
      | cons v1 rv2=>
       cases rv2 with
       | cons v2 rv3=>
        cases rv3;obtain⟨bk,rfl,rfl,rk⟩:=iq hk2 r1 v1;obtain rfl:u=IA _:=ru;refine call_meetsIn Ml dd.typeIs PySem.F.entry_dict_get (PySem.F.args_dict_get_3 _ _ _) (meetsH_dict_get_default (dc X.prog X.w) _ bk d.2.1 _) #[pB hu,k,xs,i4 I rk (d7 hk2).2.2,dd,?_];cases q:cx kvs k with
        | none=>
         rw[(kr.val k).2 q];exact#[_,H,A,I.tok _,v2,.refl,so,r2]
        | some w'=>
         obtain⟨p,vv,h1,h2,h3⟩:=(kr.val k).1 _ q;rw[h1];exact#[vv,H,A,I.tok _,h3,.refl,so,h2]
     ·cases e
 | _=>cases e
noncomputable def Fy (x:W)(i:Hu)(S:aa):Ht HV:=match W.t x,gX S i with
 | some k,gV ys=>match W.ts ys with
  | some ks=>if k.depth<=bS/\T.depths ks<=bS then gV (decide (k∈ks))else td
  | none=>td
 | _,_=>td
noncomputable def Cq (x:W)(ys:Hm W):Ht HV:=match W.t x,W.ts ys with
 | some k,gV ks=>if k.depth<=bS/\T.depths ks<=bS then gV (decide (k∈ks))else td
 | _,_=>td
theorem nO {h:IF}:∀ {ks:Hm T} {vs:Hm Ho},IsTs h ks vs->∀v∈vs,∃k∈ks,IsT h k v
 | _,_,.cons a b,v,hv=>by
  rcases Iq.mp hv with rfl|hv
  ·exact#[_,.head _,a]
  ·obtain⟨k,hk,q⟩:=nO b v hv;exact#[k,.tail _ hk,q]
noncomputable def yq (h:IF)(k:T)(v:Ho):HV:=@decide (IsT h k v) (OJ _)
theorem rm {h:IF}{k k':T}{v:Ho}(x:IsT h k' v):yq h k v=decide (k'=k):=by
 unfold yq
 by_cases e:k'=k
 ·subst e; simp[x]
 ·have:¬ IsT h k v:=λy=>e (x.inj y)
  simp[e,this]
theorem nP {h:IF}{k:T}:∀ {ks:Hm T} {vs:Hm Ho},IsTs h ks vs->vs.any (yq h k)=decide (k∈ks)
 | _,_,.nil=>by simp
 | _,_,.cons (k:=k') a b=>by
  rw[JR,rm a,nP b]
  by_cases e:k'=k
  ·simp[e]
  ·have:¬ k=k':=λz=>e z.symm
   simp[e,this]
theorem kC:∀ {ks:Hm T} {k:T},k∈ks->k.depth<=T.depths ks
 | x::ks,k,h=>by
  simp only[T.depths];rcases Iq.mp h with rfl|h
  ·omega
  ·have:=kC h; omega
theorem vV {x:W}{i:Hu}{a b:V}{u v:Ho}{c:HV}(hu:X.A.units+10 < cLine)(I:Inv X pins σ H s)(so:StoreOk X.w X.K A H S)(rx:Rel X.K A H x a)(ru:RelV a u)(ry:Rel X.K A H (.ref i) b)(rv:RelV b v)(e:Fy x i S=gV c) :
  ∃l its k ks,v=.ref l/\s.heap.IsList l its/\(∀y,y∈its->K8 X.A.in1 s y u (yq s.heap k y))/\its.any (yq s.heap k)=c/\c=decide (k∈(ks:Hm T)):=by
 unfold Fy at e;split at e
 ·rename_i k ys h1 h2;split at e
  ·rename_i ks h3;split at e
   ·rename_i h4;cases e;cases ry with
    | ref ea=>
     obtain⟨vs,g1,g2⟩:=cZ so h2 ea;obtain⟨its,rv',p,_⟩:=I.list g1;obtain rfl:v=IA _:=rv;have hT:IsTs s.heap ks its:=gq I ks ((W.ts_w h3).symm ▸ g2) rv';have hk:IsT s.heap k u:=nN I k ((W.t_w h1).symm ▸ rx) ru;refine#[_,its.toArray,k,ks,rfl,p.isList,λy hy=>?_,by rw[NF]; exact nP hT,rfl]
     obtain⟨k',hk',q⟩:=nO hT y (by simpa using hy)
     rw[rm q];have:=kC hk';have kl:bS=6:=rfl;exact uj bS k' k _ _ _ _ ∅ q hk (by rw[bQ]; omega) (by rw[bQ]; omega)
   ·cases e
  ·cases e
 ·cases e
theorem zr {x:W}{ys:Hm W}{a b:V}{u v:Ho}{c:HV}(hu:X.A.units+10 < cLine)(I:Inv X pins σ H s)(rx:Rel X.K A H x a)(ru:RelV a u)(ry:Rel X.K A H (.tup ys) b)(rv:RelV b v)(e:Cq x ys=gV c) :
  ∃l its k,v=.ref l/\s.heap.IsTuple l its/\(∀y,y∈its->K8 X.A.in1 s y u (yq s.heap k y))/\its.any (yq s.heap k)=c:=by
 unfold Cq at e;split at e
 ·rename_i k ks h1 h3;split at e
  ·rename_i h4;cases e;cases ry with
   | @tup _ l vs g1 g2=>
    obtain⟨its,rv',p,_⟩:=I.tuple g1;obtain rfl:v=IA _:=rv;have hT:IsTs s.heap ks its:=gq I ks ((W.ts_w h3).symm ▸ g2) rv';have hk:IsT s.heap k u:=nN I k ((W.t_w h1).symm ▸ rx) ru;refine#[_,its.toArray,k,rfl,p,λy hy=>?_,by rw[NF]; exact nP hT]
    obtain⟨k',hk',q⟩:=nO hT y (by simpa using hy)
    rw[rm q];have:=kC hk';have kl:bS=6:=rfl;exact uj bS k' k _ _ _ _ ∅ q hk (by rw[bQ]; omega) (by rw[bQ]; omega)
  ·cases e
 ·cases e
noncomputable def b6 (o:COp)(x y:W)(S:aa):Ht (W×aa):=match o,y with
 | .isin,.ref i=>match jS S i with
  | some kvs=>(gC x).map λk=>(.bl (cx kvs k).isSome,S)
  | none=>match x with
   | .tup xs=>(Fy (.tup xs) i S).map λb=>(.bl (b),S)
   | x=>gA .isin x (.ref i) S
 | .notin,.ref i=>match jS S i with
  | some kvs=>(gC x).map λk=>(.bl (!(cx kvs k).isSome),S)
  | none=>match x with
   | .tup xs=>(Fy (.tup xs) i S).map λb=>(.bl (!b),S)
   | x=>gA .notin x (.ref i) S
 | .isin,.tup ys=>match x with
  | .tup xs=>(Cq (.tup xs) ys).map λb=>(.bl b,S)
  | x=>gA .isin x (.tup ys) S
 | o,y=>gA o x y S
theorem pE (hu:X.A.units+gY < cLine)(o:COp):LOp X (compareOp o.py) (b6 o):=by
 intro pins s σ H A S x y a b u v w S' I so rx ru ry rv e;have get:∀ {i:Hu} {kvs:Hm (T×W)} {k:T},y=.ref i->jS S i=gV kvs->gC x=gV k->∃d c xs,v=.ref d/\u=.ref c/\(d==sysModules)=false/\(dc X.prog X.w).is s.heap k c/\s.heap.DictOfH (dc X.prog X.w) d xs/\(cx kvs k).isSome=(atKey xs k).isSome:=by
  intro i kvs k hy hk1 hk2;subst hy;cases ry with
  | ref ea=>
   obtain⟨xs,rd,kr⟩:=fU so hk1 ea;have d:=cR I rd;obtain⟨bk,rfl,rfl,rk⟩:=iq hk2 rx ru;obtain rfl:v=IA _:=rv;refine#[_,bk,xs,rfl,rfl,d.2.1,i4 I rk (d7 hk2).2.2,d.dict I kr,?_];cases q:cx kvs k with
   | none=>rw[(kr.val k).2 q]; rfl
   | some w'=>obtain⟨p,_,h1,_⟩:=(kr.val k).1 _ q; rw[h1]; rfl
 have old:gA o x y S=gV (w,S')->wpAny (model X.prog X.w) X.A (compareOp o.py u v) (dS X pins σ A H S' w) X.xe s:=λh=>zn hu o pins s σ H A S x y a b u v w S' I so rx ru ry rv h
 have hu':X.A.units+10 < cLine:=by have:gY=20:=rfl; omega
 unfold b6 at e;split at e
 ·split at e
  ·rename_i kvs hk1;rw[Hs]at e;obtain⟨k,hk2,e2⟩:=e;cases e2;obtain⟨d,c,xs,rfl,rfl,q1,q2,q3,q4⟩:=get rfl hk1 hk2;rw[q4];exact wpAny_in_heap (pB hu') q2 q1 q3 #[.bl _,H,A,I.tok _,rfl,.refl,so,.bl]
  ·split at e
   ·rw[Hs]at e;obtain⟨c,hc,e⟩:=e;cases e;obtain⟨l,its,k,ks,rfl,p1,p2,p3,_⟩:=vV hu' I so rx ru ry rv hc;refine NU (yq s.heap k) p1 p2 ?_;rw[p3];exact#[.bl _,H,A,I,rfl,.refl,so,.bl]
   ·exact old e
 ·split at e
  ·rename_i kvs hk1;rw[Hs]at e;obtain⟨k,hk2,e2⟩:=e;cases e2;obtain⟨d,c,xs,rfl,rfl,q1,q2,q3,q4⟩:=get rfl hk1 hk2;rw[q4];exact wpAny_notIn_heap (pB hu') q2 q1 q3 #[.bl _,H,A,I.tok _,rfl,.refl,so,.bl]
  ·split at e
   ·rw[Hs]at e;obtain⟨c,hc,e⟩:=e;cases e;obtain⟨l,its,k,ks,rfl,p1,p2,p3,_⟩:=vV hu' I so rx ru ry rv hc;refine M2 (yq s.heap k) p1 p2 ?_;rw[p3];exact#[.bl _,H,A,I,rfl,.refl,so,.bl]
   ·exact old e
 ·split at e
  ·rw[Hs]at e;obtain⟨c,hc,e⟩:=e;cases e;obtain⟨l,its,k,rfl,p1,p2,p3⟩:=zr hu' I rx ru ry rv hc;refine NC (yq s.heap k) p1 p2 ?_;rw[p3];exact#[.bl _,H,A,I,rfl,.refl,so,.bl]
  ·exact old e
 ·exact old e
end
noncomputable def RawD (d:Hx)(es:IC JJ)(ep:Hu)(h:IF):Prop:=∃o,h.get? d=gV o/\o.ExactDict/\o.data=.dict es ep
theorem RawD.at {d:Hx}{es:IC JJ}{ep:Hu}{h h':IF}(x:RawD d es ep h)(e:∀o,h.get? d=gV o->h'.get? d=gV o):RawD d es ep h':=let ⟨o,ho,r⟩:=x; #[o,e _ ho,r]
theorem RawD.lt {d:Hx}{es:IC JJ}{ep:Hu}{h:IF}(x:RawD d es ep h):d < h.objs.size:=let ⟨_,ho,_⟩:=x; HP ho
theorem RawD.type {d:Hx}{es:IC JJ}{ep:Hu}{s:Hr}(x:RawD d es ep s.heap):s.TypeIs (.ref d) "dict":=let ⟨o,ho,hc,_⟩:=x; #[o,ho,hc.1]
section
variable{prog:HZ}{w:Iw}{A:Iu}{E:Ho->Hr->Prop}{s:Hr}{it d:Hx}{i ep:Hu}{es:IC JJ}
theorem pG {Q:Ho->Hr->Prop}(hd:(d==sysModules)=false)(hm:RawD d es ep s.heap)
  (hQ:Q (.ref s.heap.objs.size) { s with heap:=s.heap.push { cls:=.type "dict_keyiterator",data:=.fields [.ref d,.int 0 0,.int es.size 0,.int ep 0].toArray } }):wpAny (model prog w) A (pyIter (.ref d)) Q E s:=by
 have hT:=hm.type;obtain⟨o,ho,hc,hdat⟩:=id hm;refine wpAny_pyIter_slot hT F.slot_dict_iter (Ja F.slot_dict_iter hT F.entry_dict_iter ?_ (F.args_dict_iter_1 _));unfold MF.«dict.__iter__» Oq;refine Hn (Hn (wpAny_notOrdered_dict hT ?_));show wpAny _ _ (pure (IA d)) _ _ s;refine Hz ?_;show wpAny _ _ (Mm d >>= _) _ _ s;unfold Mm;rw[Ix (by rw[hd]; exact HU)]
 refine Hn (Hz (Hn (KY ho hdat (Hn (Mb ho hdat ?_)))));refine Hn (IG (Hz #[_,rfl,"dict_keyiterator",_,#[_,HQ _ rfl,rfl],F.slot_dict_keyiterator_next.lookup,?_]))
 simpa [rawInt]using hQ
theorem pH {Q:Ht Ho->Hr->Prop}(hit:s.heap.IsKeyIter it d i es.size ep)(hm:RawD d es ep s.heap)(hi:i < es.size)
  (hQ:∀h',h'.IsKeyIter it d (i+1) es.size ep->J3 it s.heap h'->Q (gV es[i].key) { s with heap:=h' }):wpAny (model prog w) A (pyNext (.ref it)) Q E s:=by
 obtain⟨o,ho,hc,hd⟩:=id hit;obtain⟨od,hod,hcd,hdd⟩:=id hm;unfold pyNext;refine Hn (LL (IR (name:=JO "__next__") hit.typeIs F.slot_dict_keyiterator_next
  (Ja F.slot_dict_keyiterator_next hit.typeIs F.entry_dict_keyiterator_next ?_ (F.args_dict_keyiterator_next_1 _))))
 refine Hn (Hz (Hn (Hn ?_)))
 first|refine Hn (JH hit.typeIs (Hz ?_))|refine Hn (Kb hit.typeIs (Hz ?_))
 refine Hn (Of ho hd ?_);have hown:Lg "dict_keyiterator" = false:=by decide
 simp only[hown,IY,J5];show wpAny _ _ (if (IA d==IK)=true then _ else _) _ _ s
 rw[Ix (show ¬ ((IA d==IK)=true)from HU)]
 refine Hn (Hz (Hn (KY hod hdd ?_)));rw[Ix (by simp)]
 refine Hn (Hz (Hn (Mb hod hdd ?_)));rw[Ix (by simp)]
 refine Hz ?_;simp only[show ¬ ((i:HF) < 0)from by omega,J5,HE,Ly hi]
 refine Hn ?_
 first|refine Hn (JH hit.typeIs (Hz ?_))|refine Hn (Kb hit.typeIs (Hz ?_))
 refine Hn (Mn hit.typeIs ?_);show wpAny _ _ (setField (.ref it) 1 (rawInt ((i:HF)+1)) >>= _) _ _ s;refine Hn (Lr ho hd (by simp) ?_)
 have hit':(s.heap.update it (OB (·.setIfInBounds 1 (rawInt ((i:HF)+1))))).IsKeyIter it d (i+1) es.size ep:=
  #[_,JX _ ho (Mo (KN hd _)),(Nn ..).trans hc,by rw[KN hd]; simp[rawInt]]
 refine Hn (Jj ?_);refine Hn (Mn (s:={ s with heap:=s.heap.update it (OB (·.setIfInBounds 1 (rawInt ((i:HF)+1)))) }) hit'.typeIs ?_)
 show wpAny _ _ (pure es[i].key) _ _ _;exact Hz (Hz #[_,rfl,Hz (hQ _ hit' (Kz ..))])
theorem sA {Q:Ht Ho->Hr->Prop}(hh:A.handled=td)(hit:s.heap.IsKeyIter it d i es.size ep)(hm:RawD d es ep s.heap)(hge:es.size<=i)
  (hQ:∀h',Mu it s.heap h'->Q td { s with heap:=h' }):wpAny (model prog w) A (pyNext (.ref it)) Q E s:=by
 obtain⟨o,ho,hc,hd⟩:=id hit;obtain⟨od,hod,hcd,hdd⟩:=id hm;unfold pyNext;refine Hn (LL (IR (name:=JO "__next__") hit.typeIs F.slot_dict_keyiterator_next
  (Ja F.slot_dict_keyiterator_next hit.typeIs F.entry_dict_keyiterator_next ?_ (F.args_dict_keyiterator_next_1 _))))
 refine Hn (Hz (Hn (Hn ?_)))
 first|refine Hn (JH hit.typeIs (Hz ?_))|refine Hn (Kb hit.typeIs (Hz ?_))
 refine Hn (Of ho hd ?_);have hown:Lg "dict_keyiterator" = false:=by decide
 simp only[hown,IY,J5];show wpAny _ _ (if (IA d==IK)=true then _ else _) _ _ s
 rw[Ix (show ¬ ((IA d==IK)=true)from HU)]
 refine Hn (Hz (Hn (KY hod hdd ?_)));rw[Ix (by simp)]
 refine Hn (Hz (Hn (Mb hod hdd ?_)));rw[Ix (by simp)]
 refine Hz ?_;simp only[show ¬ ((i:HF) < 0)from by omega,J5,HE,Array.getElem?_eq_none hge]
 refine Hn ?_
 first|refine Hn (JH hit.typeIs (Hz ?_))|refine Hn (Kb hit.typeIs (Hz ?_))
 show wpAny _ _ (setField (.ref it) 0 .none >>= _) _ _ s;refine Hn (Lr ho hd (by simp) ?_)
 show wpAny _ _ (newExc (.type "StopIteration") [] >>= _) _ _ _;refine Hn ?_;simp only[newExc,newTuple];refine Hn (IG ?_ (by size_fits))
 refine Hn (m:=firstArgMember _ _) (Mv (a:=IK) (by first|rfl|(simp only[firstArgMember]; rfl)) ?_)
 refine IG ?_ (by size_fits)
 simp only[raiseNew];refine Hn (OC ?_);rw[show A.in1.handled=td from hh]
 refine Hn (Hz (O4 ?_));refine Hn (LU (T:="StopIteration") (b:=true) #[_,HQ _ rfl,rfl] Og ?_);exact Hz (hQ _ (((Kz ..).extBut.push _).push _))
theorem uk (hh:A.handled=td)(I d:Hx)(hne:d≠I)(es:IC JJ)(ep:Hu) :
  PF prog w A I [I,d] [I] es.size (λi v=>∃e,es[i]?=gV e/\e.key=v) (λi h=>h.IsKeyIter I d i es.size ep/\RawD d es ep h) where
 sub:=λb hb=>by simp at hb; simp[hb]
 frame:=λ_ _ _ st hk=>#[st.1.at λo e=>hk I (by simp) o e,st.2.at λo e=>hk d (by simp) o e]
 item:=λi s Q E hi st hQ=>
  pH st.1 st.2 hi λh' hit' hs'=>hQ _ h' s.toks #[es[i],by simp[hi],rfl] #[hit',st.2.at λo e=>(hs'.2 d hne).trans e] λb o hb e=>hs'.extBut b o (λh=>hb (by simp[h])) e
 done:=λs Q E st hQ=>sA hh st.1 st.2 (HG _) λh' he'=>hQ h' s.toks λb o hb e=>he' b o (λh=>hb (by simp[h])) e
 self:=λ_ _ _ _ st hQ=>Mw st.1 hQ
theorem sB (lo:(d==sysModules)=false):Mx prog w "dict" d d es.size (λi v=>∃e,es[i]?=gV e/\e.key=v) (RawD d es ep) where
 type:=λ_ hm=>hm.type
 there:=λ_ hm=>#[hm.lt,hm.lt]
 keep:=λ_ _ hm hk=>hm.at λo e=>hk d (.inl rfl) o e
 notList:=by decide
 notTuple:=by decide
 hint:=λ_ _ _ _ hm hq=>PySem.W.kdl_hint_dict hm.type hq
 iter:=λ_ _ hh hm=>#[_,_,(λ_ _ hq=>pG lo hm hq),uk hh _ d (Ic hm.lt) es ep,#[#[_,HQ _ rfl,rfl,rfl],hm.at λo e=>Hv _ e]]
theorem vW {T:IX}{r d S:Hx}{n:Hu}{P:Hu->Ho->Prop}{OK:IF->Prop}{R:Nz->Hr->Prop}(K:Mx prog w T r d n P OK)(hh:A.handled=td)(hok:OK s.heap)(hn:n<=sizeLine)(hSr:S≠r)(hSd:S≠d)
  (hS:s.heap.get? S=gV { cls:=.type "list",data:=.seq #[] 0 })
  (hR:∀h' tk acc' c',(∀b o,b≠S->s.heap.get? b=gV o->h'.get? b=gV o)->h'.get? S=gV { cls:=.type "list",dict:=td,data:=.seq acc' c',slots:=#[] }->L3 P acc' n->R (.ok (.ret (.ref S))) { s with heap:=h',toks:=tk }) :
  codeAny (model prog w) A (.builtin "list.__iadd__" #[[.ref S,.ref r],[]]) R s:=by
 refine Ju F.entry_list_iadd ?_;rw[Jh F.plain_list_iadd _];show wpAny _ A.in1 (JP (.ref S) (.ref r) (.ref S)) _ _ _;exact PySem.W.kdl_extend K hh hok S hSr hSd _ 0 hS hR hn
theorem pI {T:IX}{r d:Hx}{n:Hu}{P:Hu->Ho->Prop}{OK:IF->Prop}{Q:Hm Ho->Hr->Prop}(K:Mx prog w T r d n P OK)(hh:A.handled=td)(hok:OK s.heap)(hn:n<=sizeLine)
  (hQ:∀h' tk acc,(∀b o,s.heap.get? b=gV o->h'.get? b=gV o)->s.heap.objs.size<=h'.objs.size->L3 P acc n->Q acc.toList { s with heap:=h',toks:=tk }):wpAny (model prog w) A (collect (.ref r)) Q E s:=by
 unfold collect;refine Hn (My (Ju F.entry_proto_collect ?_));rw[Jh F.plain_proto_collect _];show wpAny _ A.in1 (newList [] >>= λl=>again (.builtin "list.__iadd__" #[[l,.ref r],[]])) _ _ s
 refine Hn (IG ?_);have hlt:=K.there _ hok;refine Hz #[Kj F.plain_list_iadd _,vW (s:={ s with heap:=s.heap.push { cls:=.type "list",data:=.seq ([]:Hm Ho).toArray } }) K hh (K.keep _ _ hok λb _ o e=>Hv _ e) hn (Ke hlt.1) (Ke hlt.2) (HQ _ rfl) λh' tk acc' c' hk hS' hacc=>?_]
 show wpAny (model prog w) A (do
   let o <- load s.heap.objs.size
   match o.data with
   | .seq xs _=>pure xs.toList
   | _=>unsupported "internal:collect") Q E { s with heap:=h',toks:=tk }
 refine Hn (MZ hS' ?_);exact Hz (hQ h' tk acc' (λb o e=>hk b o (Ic (HP e)) (Hv _ e)) (KT (HP hS')) hacc)
end
mutual
noncomputable def zt:T->T->Ht HV
 | .int a,.int b=>gV (decide (a < b))
 | .str a,.str b=>gV (decide (a.cps.toList < b.cps.toList))
 | .tup xs,.tup ys=>pJ xs ys
 | _,_=>td
noncomputable def pJ:Hm T->Hm T->Ht HV
 | [],[]=>gV false
 | [],_::_=>gV true
 | _::_,[]=>gV false
 | x::xs,y::ys=>if x=y then pJ xs ys else zt x y
end
mutual
theorem IsT.kept {h h':IF}(hk:∀b o,o.cls=.type "tuple"->h.get? b=gV o->h'.get? b=gV o):∀ {x:T} {v:Ho},IsT h x v->IsT h' x v
 | _,_,.int=>.int
 | _,_,.str=>.str
 | _,_,.tup a1 c1 d1 t1=>.tup (hk _ _ c1 a1) c1 d1 (IsTs.kept hk t1)
theorem IsTs.kept {h h':IF}(hk:∀b o,o.cls=.type "tuple"->h.get? b=gV o->h'.get? b=gV o):∀ {x:Hm T} {v:Hm Ho},IsTs h x v->IsTs h' x v
 | _,_,.nil=>.nil
 | _,_,.cons a b=>.cons (IsT.kept hk a) (IsTs.kept hk b)
end
theorem Em {B:Iu}{s:Hr}{d:Hu}(hu:B.units+d < cLine)(hl:∀(x y:T) (u v:Ho) (k:HV),x.depth<=d->y.depth<=d->IsT s.heap x u->IsT s.heap y v->zt x y=gV k->LtAt B s u v k) :
  ∀(xs ys:Hm T) (us vs:Hm Ho) (k:HV),T.depths xs<=d->T.depths ys<=d->IsTs s.heap xs us->IsTs s.heap ys vs->pJ xs ys=gV k->LexR B s us vs k
 | [],[],_,_,k,_,_,h1,h2,e=>by cases h1; cases h2; cases e; exact .nn
 | [],y::ys,_,_,k,_,_,h1,h2,e=>by cases h1; cases h2; cases e; exact .nc
 | x::xs,[],_,_,k,_,_,h1,h2,e=>by cases h1; cases h2; cases e; exact .cn
 | x::xs,y::ys,_,_,k,d1,d2,h1,h2,e=>by
  simp only[T.depths]at d1 d2;cases h1 with
  | cons p1 q1=>
   cases h2 with
   | cons p2 q2=>
    have he:=uj d x y _ _ B s ∅ p1 p2 hu ∅
    simp only[pJ]at e
    by_cases hxy:x=y
    ·rw[HW hxy]at e;rw[Jg hxy]at he;exact .eq he (Em hu hl xs ys _ _ k ∅ ∅ q1 q2 e)
    ·rw[Ix hxy]at e;rw[Ig hxy]at he;exact .ne he (hl x y _ _ k ∅ ∅ p1 p2 e)
theorem En:∀(d:Hu) (x y:T) (u v:Ho) (B:Iu) (s:Hr) (k:HV),x.depth<=d->y.depth<=d->IsT s.heap x u->IsT s.heap y v->B.units+d < cLine->zt x y=gV k->LtAt B s u v k:=by
 intro d
 induction d with
 | zero=>
  intro x y u v B s k d1 d2 h1 h2 hu e;cases h1 with
  | int=>cases h2 with
   | int=>cases e; exact λprog w E Q h=>(MK h:wpAny (model prog w) B (compareOp .Lt _ _) Q E s)
   | _=>cases e
  | str=>cases h2 with
   | str=>cases e; exact λprog w E Q h=>(lt_str h:wpAny (model prog w) B (compareOp .Lt _ _) Q E s)
   | _=>cases e
  | tup _ _ _ _=>simp[T.depth]at d1
 | succ d ih=>
  intro x y u v B s k d1 d2 h1 h2 hu e;cases h1 with
  | int=>cases h2 with
   | int=>cases e; exact λprog w E Q h=>(MK h:wpAny (model prog w) B (compareOp .Lt _ _) Q E s)
   | _=>cases e
  | str=>cases h2 with
   | str=>cases e; exact λprog w E Q h=>(lt_str h:wpAny (model prog w) B (compareOp .Lt _ _) Q E s)
   | _=>cases e
  | tup a1 c1 e1 t1=>cases h2 with
   | tup a2 c2 e2 t2=>
    simp only[T.depth]at d1 d2;have hu1:B.in1.units+d < cLine:=by rw[bQ]; omega
    exact LtAt.tuples #[_,a1,c1,_,e1] #[_,a2,c2,_,e2] ∅ (Em hu1 (λx y u v k q1 q2 q3 q4 q5=>ih x y u v B.in1 s k q1 q2 q3 q4 hu1 q5) _ _ _ _ k ∅ ∅ t1 t2 e)
   | _=>cases e
section
variable{prog:HZ}{w:Iw}{A:Iu}{R:Nz->Hr->Prop}{I S:Hx}{fp wr:Hm Hx}{n:Hu}{P:Hu->Ho->Prop}{St:Hu->IF->Prop}{Ok:IF->Prop}{bt:Hu->Hu->HV}
noncomputable def vX (prog:HZ)(w:Iw)(A:Iu)(P:Hu->Ho->Prop)(Ok:IF->Prop)(bt:Hu->Hu->HV):Prop:=
 ∀i j vi vj (s:Hr) (Q:Ho->Hr->Prop) (E:Ho->Hr->Prop),Ok s.heap->P i vi->P j vj->Q (.bool (bt i j)) s->wpAny (model prog w) A (richCompare .Lt vi vj) Q E s
theorem vY (W:PF prog w A.in1 I fp wr n P St)(hcmp:vX prog w A.in1 P Ok bt)(hSf:S∉fp)(hok:∀h h',Ok h->(∀b o,b∉wr->b≠S->h.get? b=gV o->h'.get? b=gV o)->Ok h') :
  ∀(k j:Hu) (s:Hr) (vb:Ho) (c:Hu),n - (j+1)=k->j < n->St (j+1) s.heap->P (argBest bt j) vb->Ok s.heap->s.heap.get? S=gV { cls:=.type "list",dict:=td,data:=.seq [vb,vb].toArray c,slots:=#[] }->
  (∀v h' tk,P (argBest bt (n - 1)) v->(∀b o,b∉wr->b≠S->s.heap.get? b=gV o->h'.get? b=gV o)->R (.ok (.ret v)) { s with heap:=h',toks:=tk })->
  codeAny (model prog w) A (.builtin "min.loop" #[[.ref I,.none,.ref S],[]]) R s:=by
 have hSw:S∉wr:=λh=>hSf (W.sub _ h)
 have hname:(toString "min" ++ toString ".loop" : IX) = "min.loop":=by decide
 intro k
 induction k with
 | zero=>
  intro j s vb c hk hj hst hPb hO hS hR;have hin:j+1=n:=∅
  refine Ju F.entry_min_loop ?_;rw[Jh F.plain_min_loop _];show wpAny _ A.in1 (seqItems? (.ref S) >>= _) _ _ s;refine Hn (Ku hS rfl ?_);show wpAny _ A.in1 (tryCatch (pyNext (.ref I)) _ >>= _) _ _ s;refine Hn (Ls (W.done s _ _ (hin ▸ hst) λh' tk hk'=>?_))
  have hS':=hk' S _ hSw hS;show wpAny _ A.in1 (updateSeq S (λ_=>#[]) >>= _) _ _ _
  refine Hn (Mc hS' rfl (Hn (Lc (Hz ?_))));have e:j=n - 1:=∅
  exact hR vb _ tk (e ▸ hPb) λb o hbw hbS e=>(IL _ _ (Ne.symm hbS)).trans (hk' b o hbw e)
 | succ k ih=>
  intro j s vb c hk hj hst hPb hO hS hR;have hlt:j+1 < n:=∅
  refine Ju F.entry_min_loop ?_;rw[Jh F.plain_min_loop _];show wpAny _ A.in1 (seqItems? (.ref S) >>= _) _ _ s;refine Hn (Ku hS rfl ?_);show wpAny _ A.in1 (tryCatch (pyNext (.ref I)) _ >>= _) _ _ s;refine Hn (Ls (W.item (j+1) s _ _ hlt hst λv h' tk hP hst' hk'=>?_))
  have hS':=hk' S _ hSw hS;have hO':Ok h':=hok _ _ hO λb o hb _ e=>hk' b o hb e
  show wpAny _ A.in1 (tryCatch (holding [v,v] (richCompare .Lt v vb >>= _)) _ >>= _) _ _ _;refine Hn (Ls (Jj (Hn (hcmp (j+1) (argBest bt j) v vb _ _ _ hO' hP hPb ?_))));refine Hn (Jj (JI ?_));refine Hn (Lc (Hz ?_));cases hb:bt (j+1) (argBest bt j)with
  | true=>
   simp only[Kf];refine Hn (Mc hS' rfl (Hn (Lc ?_)));rw[hname];refine Hz #[Kj F.plain_min_loop _,ih (j+1) _ v _ ∅ hlt (W.frame _ _ _ hst' λb hbf o e=>?_) (by simp only[argBest,hb,Kf]; exact hP) (hok _ _ hO' λb o _ hbS e=>(IL _ _ (Ne.symm hbS)).trans e) (JX _ hS' rfl)
    λv' h'' tk'' hP' hk''=>?_]
   ·exact(IL _ _ (λh:S=b=>hSf (by rw[h]; exact hbf))).trans e
   ·exact hR v' h'' tk'' hP' λb o hbw hbS e=>hk'' b o hbw hbS ((IL _ _ (Ne.symm hbS)).trans (hk' b o hbw e))
  | false=>
   simp only[IY,J5];refine Hn (Lc ?_);rw[hname];refine Hz #[Kj F.plain_min_loop _,ih (j+1) _ vb c ∅ hlt hst' (by simp only[argBest,hb,IY,J5]; exact hPb) hO' hS' λv' h'' tk'' hP' hk''=>?_]
   exact hR v' h'' tk'' hP' λb o hbw hbS e=>hk'' b o hbw hbS (hk' b o hbw e)
theorem um (W:PF prog w A.in1 I fp wr n P St)(hcmp:vX prog w A.in1 P Ok bt)(hSf:S∉fp)(hok:∀h h',Ok h->(∀b o,b∉wr->b≠S->h.get? b=gV o->h'.get? b=gV o)->Ok h')(hn:0 < n){s:Hr}{c:Hu}(hst:St 0 s.heap)(hO:Ok s.heap)
  (hS:s.heap.get? S=gV { cls:=.type "list",dict:=td,data:=.seq #[] c,slots:=#[] })
  (hR:∀v h' tk,P (argBest bt (n - 1)) v->(∀b o,b∉wr->b≠S->s.heap.get? b=gV o->h'.get? b=gV o)->R (.ok (.ret v)) { s with heap:=h',toks:=tk }) :
  codeAny (model prog w) A (.builtin "min.loop" #[[.ref I,.none,.ref S],[]]) R s:=by
 have hSw:S∉wr:=λh=>hSf (W.sub _ h)
 have hname:(toString "min" ++ toString ".loop" : IX) = "min.loop":=by decide
 refine Ju F.entry_min_loop ?_;rw[Jh F.plain_min_loop _];show wpAny _ A.in1 (seqItems? (.ref S) >>= _) _ _ s;refine Hn (Ku hS rfl ?_);show wpAny _ A.in1 (tryCatch (pyNext (.ref I)) _ >>= _) _ _ s;refine Hn (Ls (W.item 0 s _ _ hn hst λv h' tk hP hst' hk'=>?_))
 have hS':=hk' S _ hSw hS;show wpAny _ A.in1 (updateSeq S (λ_=>[v,v].toArray) >>= _) _ _ _
 refine Hn (Mc hS' rfl ?_);rw[hname];have hO':Ok h':=hok _ _ hO λb o hb _ e=>hk' b o hb e
 refine Hz #[Kj F.plain_min_loop _,vY W hcmp hSf hok _ 0 _ v _ rfl hn (W.frame _ _ _ hst' λb hbf o e=>?_) hP (hok _ _ hO' λb o _ hbS e=>(IL _ _ (Ne.symm hbS)).trans e) (JX _ hS' rfl) λv' h'' tk'' hP' hk''=>?_]
 ·exact(IL _ _ (λh:S=b=>hSf (by rw[h]; exact hbf))).trans e
 ·exact hR v' h'' tk'' hP' λb o hbw hbS e=>hk'' b o hbw hbS ((IL _ _ (Ne.symm hbS)).trans (hk' b o hbw e))
end
section
variable{prog:HZ}{w:Iw}{A:Iu}{E:Ho->Hr->Prop}{s:Hr}
theorem vZ {l:Hx}{items:IC Ho}{bt:Hu->Hu->HV}{Q:Ho->Hr->Prop}(hh:A.handled=td)(hl:s.heap.IsList l items)(hn:0 < items.size)
  (hcmp:vX prog w A.in1 (λi v=>items[i]?=gV v) (λh=>∀b o,s.heap.get? b=gV o->h.get? b=gV o) bt)
  (hQ:∀v h' tk,items[argBest bt (items.size - 1)]?=gV v->(∀b o,s.heap.get? b=gV o->h'.get? b=gV o)->Q v { s with heap:=h',toks:=tk }) :
  wpAny (model prog w) A (call (.builtin "min") [.ref l]) Q E s:=by
 have hname:(toString "min" ++ toString ".loop" : IX) = "min.loop":=by decide
 refine call_function_tree F.kind_min F.plain_min F.entry_min (F.args_min1 _) ?_;show wpAny _ A.in1 (Ll "min" ["key","default"] 0 #[[],[]] >>= _) _ _ s;refine Hn (Mv (show Ll "min" ["key","default"] 0 #[[],[]]=pure [td,td]from rfl) ?_)
 refine Hn (Hz ?_);refine Hn (LG hl ?_);refine Hn (IG ?_);rw[hname];have hlt:l < s.heap.objs.size:=let ⟨_,ho,_⟩:=hl; HP ho
 have hne:l≠s.heap.objs.size:=Ic hlt;have W:=Pg (prog:=prog) (w:=w) (A:=A.in1) hh s.heap.objs.size l hne items;have hsz:∀o:Jn,(s.heap.push o).objs.size=s.heap.objs.size+1:=λo=>by simp[Heap.push]
 refine Hz #[Kj F.plain_min_loop _,um (A:=A) (Ok:=λh=>∀b o,s.heap.get? b=gV o->h.get? b=gV o) W hcmp (λhm=>?_) (λh h' ho hk b o e=>?_) hn #[?_,?_] (λb o e=>Hv _ (Hv _ e)) (HQ _ rfl) λv h' tk hv hk=>?_]
 ·rcases Iq.mp hm with e|hm
  ·exact absurd (show(s.heap.push _).objs.size=s.heap.objs.size from e) (by rw[hsz]; exact Nat.succ_ne_self _)
  ·have e:(s.heap.push _).objs.size=l:=HN.mp hm;rw[hsz]at e;exact absurd hlt (by rw[<- e]; exact Oh.mpr (Kt _))
 ·have hb:=HP e;refine hk b o (λz=>?_) (λz=>?_) (ho b o e)
  ·rw[HN.mp z]at hb; exact Ji _ hb
  ·have z':b=(s.heap.push _).objs.size:=z;rw[hsz]at z';rw[z']at hb;exact absurd hb (Oh.mpr (Kt _))
 ·exact#[_,Hv _ (HQ _ rfl),rfl,rfl]
 ·obtain⟨o,ho,hc⟩:=hl;exact#[o,Hv _ (Hv _ ho),hc]
 ·refine hQ v h' tk hv λb o e=>hk b o (λz=>?_) (λz=>?_) (Hv _ (Hv _ e))
  ·have hb:=HP e;rw[HN.mp z]at hb; exact Ji _ hb
  ·have hb:=HP e;have z':b=(s.heap.push _).objs.size:=z;rw[hsz]at z';rw[z']at hb;exact absurd hb (Oh.mpr (Kt _))
end
open PySem.W (KasT kas_sort kas_ask kas_cmp kas_item kas_asc kas_desc kas_tail3 kas_descPart kas_count kas_place kas_bin kas_rev)
noncomputable def nQ {α:Type}(lt:Hu->Hu->HV):KasT α->α
 | .ret a=>a
 | .ask i j k=>nQ lt (k (lt i j))
noncomputable def OkK {α:Type}(n:Hu)(P:α->Prop):KasT α->Prop
 | .ret a=>P a
 | .ask i j k=>i < n/\j < n/\∀b,OkK n P (k b)
theorem pK {α:Type}{n:Hu}{P:α->Prop}{lt:Hu->Hu->HV}:∀(t:KasT α),OkK n P t->P (nQ lt t)
 | .ret _,h=>h
 | .ask i j k,h=>pK (k (lt i j)) (h.2.2 _)
theorem nR {α:Type}{n:Hu}{P:α->Prop}{lt:Hu->Hu->HV}{t:KasT α}(h:OkK n P t):P (nQ lt t):=pK t h
theorem OkK.bind {α β:Type}{n:Hu}{P:α->Prop}{P':β->Prop}{f:α->KasT β}:∀ {t:KasT α},OkK n P t->(∀a,P a->OkK n P' (f a))->OkK n P' (t.bind f)
 | .ret a,h,hf=>hf a h
 | .ask _ _ _,h,hf=>#[h.1,h.2.1,λb=>OkK.bind (h.2.2 b) hf]
theorem mD {α:Type}{n:Hu}{P:α->Prop}{lt:Hu->Hu->HV}{cmp:Hu->Hu->(HV->Hr->Prop)->Hr->Prop}{Q:α->Hr->Prop}{s:Hr}(hc:∀i j,i < n->j < n->∀C:HV->Hr->Prop,C (lt i j) s->cmp i j C s) :
  ∀ {t:KasT α},OkK n P t->Q (nQ lt t) s->t.kasWp cmp Q s
 | .ret _,_,h=>h
 | .ask i j k,h,hq=>hc i j h.1 h.2.1 _ (mD hc (h.2.2 _) hq)
noncomputable def Pm (n:Hu)(p:IC Hu):Prop:=p.toList.Perm (HJ n)
theorem Pm.size {n:Hu}{p:IC Hu}(h:Pm n p):p.size=n:=by rw[<- Ir,h.length_eq,Iv]
theorem Pm.lt {n:Hu}{p:IC Hu}(h:Pm n p)(hn:0 < n)(i:Hu):p.getD i 0 < n:=by
 by_cases hi:i < p.size
 ·have e:p.getD i 0=p[i]:=by simp[Ph,hi]
  rw[e];have:p[i]∈p.toList:=by simp
  exact Iy.mp (h.mem_iff.mp this)
 ·have e:p.getD i 0=0:=by simp[Ph,hi]
  rw[e]; exact hn
theorem Pm.rev {n:Hu}{p:IC Hu}(h:Pm n p)(i j:Hu):Pm n (kas_rev p i j):=(Lu.mp (mirror_perm p i j _)).trans h
theorem Pm.bub {n:Hu}{p:IC Hu}(h:Pm n p)(i j:Hu):Pm n (bubble p i j):=(Lu.mp (bubble_perm p i j)).trans h
section
variable{n:Hu}(hn:0 < n)
include hn
theorem rn {p:IC Hu}(h:Pm n p):∀(f m:Hu),OkK n (λ_=>N3) (kas_asc p f m)
 | 0,_=>trivial
 | f+1,m=>#[h.lt hn _,h.lt hn _,λb=>by
  show OkK n _ (if b=true then _ else _)
  split
  ·trivial
  ·exact rn h f (m+1)]
theorem j6:∀(f:Hu) (p:IC Hu) (m q:Hu),Pm n p->OkK n (λr=>Pm n r.1) (kas_desc f p m q)
 | 0,p,m,q,h=>h
 | f+1,p,m,q,h=>#[h.lt hn _,h.lt hn _,λb=>by
  show OkK n _ (if b=true then _ else _)
  split
  ·split
   ·exact j6 f _ _ _ (h.rev _ _)
   ·exact j6 f _ _ _ h
  ·refine#[h.lt hn _,h.lt hn _,λc=>?_]
   show OkK n _ (if c=true then _ else _)
   split
   ·exact h
   ·exact j6 f _ _ _ h]
theorem sC {p:IC Hu}(h:Pm n p)(m k:Hu):OkK n (λr=>Pm n r.2) (kas_tail3 m k p):=by
 unfold kas_tail3;exact OkK.bind (rn hn (h.rev 0 m) _ _) λa _=>h.rev 0 m
theorem jJ {p:IC Hu}(h:Pm n p)(m k:Hu):OkK n (λr=>Pm n r.2) (kas_descPart m k p):=by
 unfold kas_descPart;refine OkK.bind (j6 hn _ _ _ _ h) λr hr=>?_
 split
 ·exact sC hn (hr.rev _ _) _ _
 ·exact sC hn hr _ _
theorem v6 {p:IC Hu}(h:Pm n p)(k:Hu):OkK n (λr=>Pm n r.2) (kas_count k p):=by
 unfold kas_count;refine OkK.bind (rn hn h _ _) λm _=>?_
 split
 ·exact h
 ·split
  ·refine#[h.lt hn _,h.lt hn _,λc=>?_]
   show OkK n _ (if c=true then _ else _)
   split
   ·exact h
   ·exact jJ hn (h.rev _ _) _ _
  ·exact jJ hn h _ _
theorem kD {p:IC Hu}(h:Pm n p)(k:Hu):∀(f l r:Hu),OkK n (λ_=>N3) (kas_place p k f l r)
 | 0,_,_=>trivial
 | f+1,l,r=>by
  unfold kas_place;split
  ·trivial
  ·refine#[h.lt hn _,h.lt hn _,λc=>?_]
   show OkK n _ (if c=true then _ else _)
   split
   ·exact kD h k f _ _
   ·exact kD h k f _ _
theorem v8:∀(f:Hu) (p:IC Hu) (k:Hu),Pm n p->OkK n (Pm n) (kas_bin f p k)
 | 0,p,k,h=>h
 | f+1,p,k,h=>by
  unfold kas_bin;exact OkK.bind (kD hn h k _ _ _) λl _=>v8 f _ _ (h.bub _ _)
theorem j7:OkK n (Pm n) (kas_sort n):=by
 unfold kas_sort;refine OkK.bind (v6 hn (by unfold Pm; simp) _) λr hr=>?_
 split
 ·exact v8 hn _ _ _ hr
 ·exact hr
end
section
variable{prog:HZ}{w:Iw}{A:Iu}{E:Ho->Hr->Prop}{s:Hr}{vs:Hm Ho}
noncomputable def eY (lt:Hu->Hu->HV){β:Type}(d:β)(vs:Hm β):Hm β:=if vs.length < 2 then vs else(nQ lt (kas_sort vs.length)).toList.map λi=>vs.getD i d
theorem pL {lt:Hu->Hu->HV}{β:Type}{d:β}{vs:Hm β}:(eY lt d vs).length=vs.length:=by
 unfold eY;split
 ·rfl
 ·rw[Hq,Ir,(nR (lt:=lt) (j7 (n:=vs.length) ∅)).size]
theorem uq {a:Hx}{n:Hu}{lt:Hu->Hu->HV}{κ:LV}{P:PySem.Fin->Hr->Prop}(ho:s.heap.get? a=gV (seqObj "list" vs.toArray n))(h64:vs.length < 64)
  (hkind:2<=vs.length->∀h',(∀b o,b≠a->s.heap.get? b=gV o->h'.get? b=gV o)->∀Q:LV->Hr->Prop,Q κ { s with heap:=h' }->wpAny (model prog w) A (keyKind' vs.toArray) Q (λ_ _=>IW) { s with heap:=h' })
  (hlt:2<=vs.length->∀h',(∀b o,b≠a->s.heap.get? b=gV o->h'.get? b=gV o)->∀i j,i < vs.length->j < vs.length->∀Q:HV->Hr->Prop,Q (lt i j) { s with heap:=h' }->
   wpAny (model prog w) A (keyLt' κ (vs.getD i IK) (vs.getD j IK)) Q (λ_ _=>IW) { s with heap:=h' })
  (h:∀h' c,(∀b o,b≠a->s.heap.get? b=gV o->h'.get? b=gV o)->h'.get? a=gV (seqObj "list" (eY lt IK vs).toArray c)->P (.done (.ret .none)) { s with heap:=h' }) :
  wpAny (model prog w) A (MF.«list.sort» #[[.ref a],[]]) P E s:=by
 have ha:a < s.heap.objs.size:=HP ho;obtain⟨e1,ho1⟩ : ∃e1,(s.heap.update a (Jf λ_=>(#[]:IC Ho))).get? a=gV (seqObj "list" #[] e1):=#[_,Mf ho λ_=>#[]]
 have keep:∀b o,b≠a->s.heap.get? b=gV o->(((s.heap.update a (Jf λ_=>(#[]:IC Ho))).push (seqObj "tuple" vs.toArray 0)).push (seqObj "list" #[] 0)).get? b=gV o:=λb o hb e=>
  Hv _ (Hv _ ((KA _ _ _ _ hb).trans e))
 have ho3:(((s.heap.update a (Jf λ_=>(#[]:IC Ho))).push (seqObj "tuple" vs.toArray 0)).push (seqObj "list" #[] 0)).get? a=gV (seqObj "list" #[] e1):=Hv _ (Hv _ ho1)
 have fin:∀(out:Hm Ho),out.length=vs.length->out=eY lt IK vs->P (.done (.ret .none)) { s with heap:=(((s.heap.update a (Jf λ_=>(#[]:IC Ho))).push (seqObj "tuple" vs.toArray 0)).push (seqObj "list" #[] 0)).update a (Jf λ_=>out.toArray) }:=λout hl e=>by
  obtain⟨c2,hc2⟩ : ∃c2,((((s.heap.update a (Jf λ_=>(#[]:IC Ho))).push (seqObj "tuple" vs.toArray 0)).push (seqObj "list" #[] 0)).update a (Jf λ_=>out.toArray)).get? a=gV (seqObj "list" out.toArray c2):=#[_,Mf ho3 λ_=>out.toArray]
  exact h _ c2 (λb o hb q=>(KA _ _ _ _ hb).trans (keep b o hb q)) (e ▸ hc2)
 rw[list_sort_plain];refine Hn (No ho rfl ?_);refine Hn (LM ho rfl ?_ (by rw[HH,IH]; omega) (J4 _))
 refine Hn (NR ho1 rfl ?_);refine Hn (Oi ?_ (by show vs.length<=_; rw[IH]; omega))
 refine Hn (MT ?_ (J4 _));refine Jj ?_;show wpAny (model prog w) A _ P E { s with heap:=((s.heap.update a (Jf λ_=>(#[]:IC Ho))).push (seqObj "tuple" vs.toArray 0)).push (seqObj "list" #[] 0) }
 dsimp only
 by_cases h2:vs.length < 2
 ·rw[HW (by rw[HH]; exact h2),HW (by rw[HH]; exact h2)]
  refine Hn (Hz (Hn ?_));rw[StateT.run_pure];refine Hz ?_;dsimp only;refine Hn (NR ho3 rfl ?_);have hs:((arrOf (SortSt.mk' general' (vs.toArray.zip vs.toArray) #[] 7 td)).map (·.2))=vs.toArray:=by
   show(vs.toArray.zip vs.toArray).map (·.2)=vs.toArray
   apply Array.toList_inj.mp;rw[Array.toList_map,Array.toList_zip];exact List.map_snd_zip (HG _)
  rw[hs];refine Hn (LM ho3 rfl ?_ (J4 _) (by rw[HH,IH]; omega))
  simp only[Np,IY,J5];exact Hz (fin vs rfl (by unfold eY; rw[HW h2]))
 ·have hn2:¬ vs.toArray.size < 2:=by rw[HH]; exact h2
  have h2':2<=vs.length:=∅
  rw[Ix hn2,Ix hn2];refine Hn (Jz (hkind h2' _ keep (λ(k:LV) (s':Hr)=>k=κ/\s'={ s with heap:=((s.heap.update a (Jf λ_=>(#[]:IC Ho))).push (seqObj "tuple" vs.toArray 0)).push (seqObj "list" #[] 0) }) #[rfl,rfl]) ?_ λ_ _ x=>x.elim)
  rintro _ _ ⟨rfl,rfl⟩;refine Hn (Jz (PySem.W.kat_run (Q:=λst' s'=>∃p:IC Hu,p.size=vs.length/\arrOf st'=p.map (kas_item (vs.toArray.zip vs.toArray))/\failedOf st'=td/\p=nQ lt (kas_sort vs.length)/\s'={ s with heap:=((s.heap.update a (Jf λ_=>(#[]:IC Ho))).push (seqObj "tuple" vs.toArray 0)).push (seqObj "list" #[] 0) })
   (G:=λp s'=>p=nQ lt (kas_sort vs.length)/\s'={ s with heap:=((s.heap.update a (Jf λ_=>(#[]:IC Ho))).push (seqObj "tuple" vs.toArray 0)).push (seqObj "list" #[] 0) }) rfl h2' h64 (λp' st' s' a1 a2 a3 a4=>#[p',a1,a2,a3,a4])
   (mD (lt:=lt) (λi j hi hj C hC=>hlt h2' _ keep i j hi hj C hC) (j7 (n:=vs.length) ∅) #[rfl,rfl])) ?_ λ_ _ e=>e)
  rintro⟨⟨⟩,st'⟩ s' ⟨p,hp,har,hf,ep,rfl⟩;dsimp only;have hout:=PySem.W.kat_snds rfl har;have hsz:(p.toList.map λi=>vs.getD i IK).length=vs.length:=by rw[Hq,Ir,hp]
  rw[hout];refine Hn (NR ho3 rfl ?_);refine Hn (LM ho3 rfl ?_ (J4 _) (by rw[HH,hsz,IH]; omega))
  rw[hf];simp only[Np,IY,J5];exact Hz (fin _ hsz (by unfold eY; rw[Ix h2,ep]))
theorem ur {x:Ho}{lt:Hu->Hu->HV}{κ:LV}{Q:Ho->Hr->Prop}(h64:vs.length < 64)
  (hcol:∀Q':Hm Ho->Hr->Prop,(∀h' tk,(∀b o,s.heap.get? b=gV o->h'.get? b=gV o)->s.heap.objs.size<=h'.objs.size->Q' vs { s with heap:=h',toks:=tk })->wpAny (model prog w) A.in1 (collect x) Q' E s)
  (hkind:2<=vs.length->∀h' tk,(∀b o,s.heap.get? b=gV o->h'.get? b=gV o)->∀Q:LV->Hr->Prop,Q κ { s with heap:=h',toks:=tk }->wpAny (model prog w) A.in1.in1 (keyKind' vs.toArray) Q (λ_ _=>IW) { s with heap:=h',toks:=tk })
  (hlt:2<=vs.length->∀h' tk,(∀b o,s.heap.get? b=gV o->h'.get? b=gV o)->∀i j,i < vs.length->j < vs.length->∀Q:HV->Hr->Prop,Q (lt i j) { s with heap:=h',toks:=tk }->
   wpAny (model prog w) A.in1.in1 (keyLt' κ (vs.getD i IK) (vs.getD j IK)) Q (λ_ _=>IW) { s with heap:=h',toks:=tk })
  (h:∀D h' tk c,(∀b o,s.heap.get? b=gV o->h'.get? b=gV o)->s.heap.objs.size<=D->h'.get? D=gV (seqObj "list" (eY lt IK vs).toArray c)->Q (.ref D) { s with heap:=h',toks:=tk }) :
  wpAny (model prog w) A (call (.builtin "sorted") [x]) Q E s:=by
 refine Lz kind_sorted plain_sorted entry_sorted (args_sorted1 _) ?_;unfold MF.«sorted»;refine Hn (m:=checkCount "sorted" 1 1 _) (Hz ?_);refine Hn (hcol _ λh1 tk1 hk1 hle=>?_)
 refine Hn (MT ?_ (by rw[IH]; omega))
 have hoL:(h1.push (seqObj "list" vs.toArray 0)).get? h1.objs.size=gV (seqObj "list" vs.toArray 0):=HQ _ rfl;have kp:∀b o,s.heap.get? b=gV o->(h1.push (seqObj "list" vs.toArray 0)).get? b=gV o:=λb o e=>Hv _ (hk1 b o e)
 have hne:∀b o,s.heap.get? b=gV o->b≠h1.objs.size:=λb o e=>Ic (Ih (HP e) hle)
 show wpAny _ _ _ _ _ { s with heap:=h1.push (seqObj "list" vs.toArray 0),toks:=tk1 }
 refine Hn (Jj (Ja slot_list_sort #[_,hoL,rfl] entry_list_sort ?_ (args_list_sort _)));refine uq (s:={ s with heap:=h1.push (seqObj "list" vs.toArray 0),toks:=tk1 }) (lt:=lt) (κ:=κ) hoL h64 (λh2 h' hk Q hq=>hkind h2 h' tk1 (λb o e=>hk b o (hne b o e) (kp b o e)) Q hq)
  (λh2 h' hk i j hi hj Q hq=>hlt h2 h' tk1 (λb o e=>hk b o (hne b o e) (kp b o e)) i j hi hj Q hq) λh' c hk hD=>?_
 exact#[_,rfl,Hz #[_,rfl,h _ h' tk1 c (λb o e=>hk b o (hne b o e) (kp b o e)) hle hD]]
end
end Mi
namespace Mi
open PySem PySem.Spec PyProof.Rows L2
noncomputable def fL:T->IX
 | .int _=>"int"|.str _=>"str"|.tup _=>"tuple"
noncomputable def bW:T->Ht T
 | .tup (x::_)=>gV x
 | _=>td
noncomputable def zu (ks:Hm T):Ht Hu:=
 if ks.all (λk=>fL k == "int")then gV 0
 else if ks.all (λk=>fL k == "str")then gV 1
 else if ks.all (λk=>(bW k).any λf=>fL f == "int")then gV 2
 else if ks.all (λk=>(bW k).any λf=>fL f == "str")then gV 3
 else if ks.all (λk=>(bW k).any λf=>fL f == "tuple")then gV 4
 else td
noncomputable def wa:Hu->LV
 | 0=>oneType'|1=>oneType'|2=>tuples' true|3=>tuples' true|_=>tuples' false
noncomputable def kE (ks:Hm T):HV:=ks.all λx=>ks.all λy=>(zt x y).isSome
noncomputable def Bj (ks:Hm T)(i j:Hu):HV:=(zt (ks.getD i (.int 0)) (ks.getD j (.int 0))).getD false
theorem wb {ks:Hm T}(h:kE ks=true){i j:Hu}(hi:i < ks.length)(hj:j < ks.length):zt (ks[i]) (ks[j])=gV (Bj ks i j):=by
 unfold kE at h;rw[HX]at h;have h1:=h ks[i] (IT hi);rw[HX]at h1;have h2:=h1 ks[j] (IT hj);unfold Bj;rw[show ks.getD i (.int 0)=ks[i] by simp[hi],show ks.getD j (.int 0)=ks[j] by simp[hj]]
 obtain⟨b,hb⟩:=IM.mp h2;rw[hb]; rfl
noncomputable def G3 (c:Hu)(x y:T):Prop:=match c with|0=>fL x = "int"/\fL y = "int"|1=>fL x = "str"/\fL y = "str"|2=>∃f g,bW x=gV f/\bW y=gV g/\fL f = "int"/\fL g = "int"|3=>∃f g,bW x=gV f/\bW y=gV g/\fL f = "str"/\fL g = "str"|_=>∃f g,bW x=gV f/\bW y=gV g
section
variable{prog:HZ}{w:Iw}{A:Iu}{E:Ho->Hr->Prop}{s:Hr}
theorem sD {h:IF}{k:T}{v:Ho}(x:IsT h k v):OD (model prog w) h (typeOf v) (.type (fL k)):=by
 cases x with
 | int=>exact .now
 | str=>exact .now
 | tup a c d t=>exact c ▸ ((Ps a).andThen .now:OD (model prog w) h (typeOf (.ref _)) _)
theorem IsTs.mem {h:IF}:∀ {ks:Hm T} {vs:Hm Ho},IsTs h ks vs->∀v∈vs,∃k∈ks,IsT h k v
 | _,_,.cons a b,v,hv=>by
  rcases Iq.mp hv with rfl|hv
  ·exact#[_,.head _,a]
  ·obtain⟨k,hk,q⟩:=IsTs.mem b v hv;exact#[k,.tail _ hk,q]
theorem mE {h:IF}{p:T->HV}:∀ {ks:Hm T} {vs:Hm Ho},IsTs h ks vs->ks.all (λk=>(bW k).any p)=true->∃fs,PySem.W.KatTups h vs fs/\fs.length=vs.length/\∀v∈fs,∃k,p k=true/\IsT h k v
 | _,_,.nil,_=>#[[],.nil,rfl,λv hv=>nomatch hv]
 | k::ks,_,.cons a b,hp=>by
  rw[ID,Hw]at hp;obtain⟨fs,h1,h2,h3⟩:=mE b hp.2;cases a with
  | int=>simp[bW]at hp
  | str=>simp[bW]at hp
  | @tup kk ad o items n a1 c1 d1 t1=>
   cases kk with
   | nil=>simp[bW]at hp
   | cons x xs=>
    have hx:p x=true:=by simpa [bW]using hp.1
    generalize hit:items.toList=its at t1;cases t1 with
    | @cons _ u _ us q1 q2=>
     refine#[u::fs,.cons a1 c1 d1 (by rw[<- Jp,hit]; rfl) h1,by simp[h2],λv hv=>?_]
     rcases Iq.mp hv with rfl|hv
     ·exact#[x,hx,q1]
     ·exact h3 v hv
theorem Cr {ks:Hm T}{vs:Hm Ho}{c:Hu}{Q:LV->Hr->Prop}(h:IsTs s.heap ks vs)(h2:2<=vs.length)(hc:zu ks=gV c)(hq:Q (wa c) s):wpAny (model prog w) A (keyKind' vs.toArray) Q E s:=by
 have one:∀ty:IX,(Kq ty != Kq "tuple")=true->ks.all (λk=>fL k==ty)=true->Q oneType' s->wpAny (model prog w) A (keyKind' vs.toArray) Q E s:=λty hty hall hq=>
  PySem.W.kas_kind (T:=.type ty) h2 (λv hv=>by
   obtain⟨k,hk,x⟩:=h.mem v hv;have:=eq_of_beq (HX.mp hall k hk);exact this ▸ sD x) hty (by simp) hq
 have tup:∀ty:IX,ks.all (λk=>(bW k).any λf=>fL f==ty)=true->Q (tuples' (Kq ty != Kq "tuple")) s->wpAny (model prog w) A (keyKind' vs.toArray) Q E s:=λty hall hq=>by
  obtain⟨fs,h1,h3,h4⟩:=mE h hall;exact PySem.W.kat_kind (T:=.type ty) h1 ∅ (λv hv=>by
   obtain⟨k,hk,x⟩:=h4 v hv;have:=eq_of_beq hk;exact this ▸ sD x) (by simp) hq
 unfold zu at hc;split at hc
 ·cases hc; exact one "int" #v[] (by assumption) hq
 ·split at hc
  ·cases hc; exact one "str" #v[] (by assumption) hq
  ·split at hc
   ·cases hc; exact tup "int" (by assumption) hq
   ·split at hc
    ·cases hc; exact tup "str" (by assumption) hq
    ·split at hc
     ·cases hc; exact tup "tuple" (by assumption) hq
     ·cases hc
theorem pM {b:HV}{Q:HV->Hr->Prop}{d:Hu}(hu:A.units+d < cLine):∀(xs ys:Hm T) (us vs:Hm Ho) (i:Hu) (k:HV),T.depths xs<=d->T.depths ys<=d->IsTs s.heap xs us->IsTs s.heap ys vs->pJ xs ys=gV k->
  (b=true->i=0->∀x y,xs.head?=gV x->ys.head?=gV y->(fL x = "int"/\fL y = "int")\/(fL x = "str"/\fL y = "str"))->Q k s->PySem.W.KatLex prog w A b (decide (us.length < vs.length)) Q (us.zip vs) i s
 | [],[],_,_,i,k,_,_,h1,h2,e,hb,hq=>by cases h1; cases h2; cases e; exact Mg (by simpa using hq)
 | [],y::ys,_,_,i,k,_,_,h1,h2,e,hb,hq=>by cases h1; cases h2; cases e; exact Mg (by simpa using hq)
 | x::xs,[],_,_,i,k,_,_,h1,h2,e,hb,hq=>by cases h1; cases h2; cases e; exact Mg (by simpa using hq)
 | x::xs,y::ys,_,_,i,k,d1,d2,h1,h2,e,hb,hq=>by
  simp only[T.depths]at d1 d2;cases h1 with
  | @cons _ u _ us p1 q1=>
   cases h2 with
   | @cons _ v _ vs p2 q2=>
    have he:=uj d x y _ _ A s ∅ p1 p2 hu ∅
    rw[Kg];refine PySem.W.kat_cons (he prog w _ _ ?_);simp only[pJ]at e;have hlen:decide ((u::us).length < (v::vs).length)=decide (us.length < vs.length):=by simp
    rw[hlen]
    by_cases hxy:x=y
    ·rw[HW hxy]at e;rw[Jg hxy];exact PySem.W.kat_yes (pM hu xs ys us vs (i+1) k ∅ ∅ q1 q2 e (λ_ z=>absurd z (Nat.succ_ne_zero _)) hq)
    ·rw[Ix hxy]at e;rw[Ig hxy];refine PySem.W.kat_no ?_
     by_cases hb0:b=true/\i=0
     ·obtain⟨rfl,rfl⟩:=hb0;rcases hb rfl rfl x y rfl rfl with⟨hx,hy⟩|⟨hx,hy⟩
      ·cases p1 with
       | int=>cases p2 with
        | int=>cases e; exact oneLt_int hq
        | _=>exact absurd hy (by simp[fL])
       | _=>exact absurd hx (by simp[fL])
      ·cases p1 with
       | str=>cases p2 with
        | str=>cases e; exact oneLt_str hq
        | _=>exact absurd hy (by simp[fL])
       | _=>exact absurd hx (by simp[fL])
     ·have hf:(b&&i==0)=false:=by
       cases b with
       | false=>rfl
       | true=>
        have:i≠0:=λz=>hb0 #[rfl,z]
        simpa using this
      rw[hf];exact PySem.W.kat_one _ _ ((En d x y _ _ A s k ∅ ∅ p1 p2 hu e) prog w _ _ hq)
theorem zv {c d:Hu}{x y:T}{u v:Ho}{k:HV}{Q:HV->Hr->Prop}(hu:A.units+d < cLine)(d1:x.depth<=d)(d2:y.depth<=d)(h1:IsT s.heap x u)(h2:IsT s.heap y v)(e:zt x y=gV k)
  (hc:G3 c x y)
  (hq:Q k s):wpAny (model prog w) A (keyLt' (wa c) u v) Q E s:=by
 have tup:∀b:HV,(∃f g,bW x=gV f/\bW y=gV g/\(b=true->(fL f = "int"/\fL g = "int")\/(fL f = "str"/\fL g = "str")))->wpAny (model prog w) A (keyLt' (tuples' b) u v) Q E s:=by
  rintro b ⟨f,g,hf,hg,hb⟩;cases h1 with
  | int=>cases hf
  | str=>cases hf
  | @tup xs a o items n a1 c1 e1 t1=>
   cases h2 with
   | int=>cases hg
   | str=>cases hg
   | @tup ys a' o' items' n' a2 c2 e2 t2=>
    simp only[T.depth]at d1 d2;refine PySem.W.kat_lt a1 e1 a2 e2 ?_;have:=pM (prog:=prog) (w:=w) (b:=b) (Q:=Q) hu xs ys items.toList items'.toList 0 k ∅ ∅ t1 t2 e (λhb' _ p q hp hq'=>by
     cases xs with
     | nil=>cases hp
     | cons x0 xs=>cases ys with
      | nil=>cases hq'
      | cons y0 ys=>cases hp; cases hq'; cases hf; cases hg; exact hb hb') hq
    simpa using this
 match c,hc with
 | 0,#[hx,hy]=>
  cases h1 with
  | int=>cases h2 with
   | int=>cases e; exact PySem.W.kat_lt_int hq
   | _=>exact absurd hy (by simp[fL])
  | _=>exact absurd hx (by simp[fL])
 | 1,#[hx,hy]=>
  cases h1 with
  | str=>cases h2 with
   | str=>cases e; exact PySem.W.kas_lt_str hq
   | _=>exact absurd hy (by simp[fL])
  | _=>exact absurd hx (by simp[fL])
 | 2,#[f,g,h1',h2',h3,h4]=>exact tup true #[f,g,h1',h2',λ_=>.inl #[h3,h4]]
 | 3,#[f,g,h1',h2',h3,h4]=>exact tup true #[f,g,h1',h2',λ_=>.inr #[h3,h4]]
 | n+4,#[f,g,h1',h2']=>exact tup false #[f,g,h1',h2',λz=>nomatch z]
end
theorem zw {ks:Hm T}{c:Hu}(h:zu ks=gV c){x y:T}(hx:x∈ks)(hy:y∈ks) :
  G3 c x y:=by
 have one:∀ {ty:IX},ks.all (λk=>fL k==ty)=true->fL x=ty/\fL y=ty:=λha=>#[eq_of_beq (HX.mp ha x hx),eq_of_beq (HX.mp ha y hy)]
 have fst:∀ {ty:IX},ks.all (λk=>(bW k).any λf=>fL f==ty)=true->∃f g,bW x=gV f/\bW y=gV g/\fL f=ty/\fL g=ty:=λ{ty} ha=>by
  have h1:=HX.mp ha x hx;have h2:=HX.mp ha y hy;cases e1:bW x with
  | none=>rw[e1]at h1; cases h1
  | some f=>
   cases e2:bW y with
   | none=>rw[e2]at h2; cases h2
   | some g=>
    rw[e1]at h1; rw[e2]at h2
    exact#[f,g,rfl,rfl,eq_of_beq (by simpa using h1),eq_of_beq (by simpa using h2)]
 unfold zu at h;split at h
 ·cases h; exact one (by assumption)
 ·split at h
  ·cases h; exact one (by assumption)
  ·split at h
   ·cases h; exact fst (by assumption)
   ·split at h
    ·cases h; exact fst (by assumption)
    ·split at h
     ·cases h;obtain⟨f,g,h1,h2,_⟩:=fst (by assumption)
      exact#[f,g,h1,h2]
     ·cases h
noncomputable def en (S:aa):W->Ht (Hm W)
 | .tup xs=>gV xs
 | .ref i=>match gX S i with
  | some xs=>gV xs
  | none=>(jS S i).map λkvs=>kvs.map λp=>p.1.w
 | _=>td
noncomputable def eJ:Hu:=8
noncomputable def nS (ks:Hm T):HV:=decide (ks.length < 64)&&decide (T.depths ks<=eJ)&&(decide (ks.length < 2)||((zu ks).isSome&&kE ks))
noncomputable def iw (xs:Hm W)(S:aa):Ht (W×aa):=match xs with
 | [x]=>match en S x with
  | some ws=>match W.ts ws with
   | some ks=>if nS ks then gV (.ref S.length,S++[.lst (eY (Bj ks) .non ws)])else td
   | none=>td
  | none=>td
 | _=>td
noncomputable def kF (xs:Hm W)(S:aa):Ht (W×aa):=match xs with
 | [.ref i]=>match jS S i with
  | some kvs=>gV (.ref S.length,S++[.lst (kvs.map λp=>p.1.w)])
  | none=>gN [.ref i] S
 | xs=>gN xs S
noncomputable def rq (xs:Hm W)(S:aa):Ht (W×aa):=match xs with
 | [.ref i]=>match jS S i with
  | some kvs=>gV (.int kvs.length,S)
  | none=>rg [.ref i] S
 | xs=>rg xs S
noncomputable def nT (ks:Hm T):Hu:=argBest (Bj ks) (ks.length - 1)
noncomputable def zx (xs:Hm W)(S:aa):Ht (W×aa):=match xs with
 | [.ref i]=>match gX S i with
  | some ws=>match W.ts ws with
   | some ks=>if T.depths ks<=eJ/\kE ks=true then(ws[nT ks]?).map λw=>(w,S)else td
   | none=>td
  | none=>td
 | _=>td
noncomputable def g5:Hm W->Ht (Hm HV)
 | []=>gV []
 | .bl b::ws=>(g5 ws).map (b :: ·)
 | _::_=>td
noncomputable def Cs (xs:Hm W)(S:aa):Ht (W×aa):=match xs with
 | [.ref i]=>match gX S i with
  | some ws=>(g5 ws).map λbs=>(.bl (bs.all id),S)
  | none=>td
 | _=>td
section
variable{X:Cx}{pins:Hm (Hx×Jn)}{σ:L2.St}{H:Hp}{s:Hr}{A:Hm Hx}{S:aa}
theorem RelL.pick {K:HC}{ws:Hm W}{vs:Hm V}(r:RelL K A H ws vs)(d:W)(d':V):∀(is:Hm Hu),(∀i∈is,i < ws.length)->RelL K A H (is.map λi=>ws.getD i d) (is.map λi=>vs.getD i d')
 | [],_=>.nil
 | i::is,h=>by
  have hi:=h i (.head _);obtain⟨v,h1,h2⟩:=r.get (HK hi);refine .cons ?_ (RelL.pick r d d' is λj hj=>h j (.tail _ hj))
  have e1:ws.getD i d=ws[i]:=by simp[hi]
  have e2:vs.getD i d'=v:=by simp[h1]
  show Rel K A H (ws.getD i d) (vs.getD i d');rw[e1,e2]; exact h2
theorem Vals.pick {vs:Hm V}{us:Hm Ho}(r:Vals vs us)(d:V)(d':Ho):∀(is:Hm Hu),(∀i∈is,i < vs.length)->Vals (is.map λi=>vs.getD i d) (is.map λi=>us.getD i d')
 | [],_=>.nil
 | i::is,h=>by
  have hi:=h i (.head _);obtain⟨v,h1,h2⟩:=L2.Vals.get r (HK hi);refine .cons ?_ (Vals.pick r d d' is λj hj=>h j (.tail _ hj))
  have e1:vs.getD i d=vs[i]:=by simp[hi]
  have e2:us.getD i d'=v:=by simp[h1]
  show L2.RelV (vs.getD i d) (us.getD i d');rw[e1,e2]; exact h2
theorem nU {n:Hu}{lt:Hu->Hu->HV}(hn:0 < n):∀i∈(nQ lt (NG n)).toList,i < n:=λi hi=>Iy.mp ((nR (lt:=lt) (j7 hn)).mem_iff.mp hi)
theorem wc {K:HC}{lt:Hu->Hu->HV}{ws:Hm W}{vs:Hm V}(r:RelL K A H ws vs):RelL K A H (eY lt .non ws) (eY lt .non vs):=by
 unfold eY;rw[r.length];split
 ·exact r
 ·exact r.pick _ _ _ λi hi=>by rw[r.length]; exact nU ∅ i hi
theorem ut {lt:Hu->Hu->HV}{vs:Hm V}{us:Hm Ho}(r:Vals vs us):Vals (eY lt .non vs) (eY lt .none us):=by
 unfold eY;rw[L2.Vals.length r];split
 ·exact r
 ·exact Vals.pick r _ _ _ λi hi=>by rw[L2.Vals.length r]; exact nU ∅ i hi
theorem pN {prog:HZ}{w:Iw}{B:Iu}{E:Ho->Hr->Prop}{l:Hx}{vs:Hm Ho}{Q:Hm Ho->Hr->Prop}(hl:M9 s.heap l vs.toArray)(hsz:vs.length<=sizeLine)
  (h:∀h' tk,(∀b o,s.heap.get? b=gV o->h'.get? b=gV o)->s.heap.objs.size<=h'.objs.size->Q vs { s with heap:=h',toks:=tk }):wpAny (model prog w) B (collect (.ref l)) Q E s:=by
 obtain⟨o,ho,hc,n,hd⟩:=id hl;unfold collect;refine Hn (My (Ju entry_proto_collect' ?_));show wpAny _ _ (do again (.builtin "list.__iadd__" #[[<- newList [],.ref l],[]])) _ _ s
 refine Hn (MT (Hz #[Code.quiet_builtin _ (by decide +kernel),Ju entry_list_iadd' ?_]))
 show wpAny _ _ (JP (.ref s.heap.objs.size) (.ref l) (.ref s.heap.objs.size)) _ _ { s with heap:=s.heap.push (seqObj "list" #[] 0) }
 unfold JP;have ho':(s.heap.push (seqObj "list" #[] 0)).get? l=gV o:=Hv _ ho;refine Hn (Lk (T:="tuple") #[o,ho',hc] ?_);have ht:(Kq "tuple" == Kq "tuple")=true:=by rfl
 rw[HW (by rw[ht]; simp)]
 refine Hn (No ho' hd ?_);refine Hn (No (xs:=#[]) (n:=0) (HQ _ rfl) rfl ?_);rw[Ix (by simp)]
 refine Hn (LM (xs:=#[]) (n:=0) (HQ _ rfl) rfl ?_ (J4 _) (by show(#[]++vs.toArray).size<=sizeLine+1; simp only[Array.size_append,HH,Js]; omega))
 refine Hz ?_;show wpAny (model prog w) B (do
   let o <- load s.heap.objs.size
   match o.data with
   | .seq xs _=>pure xs.toList
   | _=>unsupported "internal:collect") Q E { s with heap:=(s.heap.push (seqObj "list" #[] 0)).update s.heap.objs.size (Jf (· ++ vs.toArray)) }
 refine Hn (MZ (Mf (HQ _ rfl) _) ?_);show wpAny _ _ (pure ((#[]:IC Ho)++vs.toArray).toList) Q E _;rw[show((#[]:IC Ho)++vs.toArray).toList=vs by simp]
 refine Hz (h _ s.toks (λb o' e=>(KA _ _ _ _ (Ic (HP e))).trans (Hv _ e)) ?_)
 rw[NH,size_push'];exact Kt _
theorem DicAt.raw {wd:Iw}{a:Hx}{xs:Hm (T×Hx×Ho)}{h:IF}(d:DicAt wd a xs h):∃es ep,RawD a es ep h/\es.toList=xs.map (vK wd):=
 let ⟨_,_,_,o,es,ep,h1,h2,h3,h4⟩:=d; #[es,ep,#[o,h1,h2,h3],h4]
theorem KRel.keysL {kvs:Hm (T×W)}{xs:Hm (T×Hx×Ho)}(r:KRel X.K A H kvs xs):RelL X.K A H (kvs.map λp=>p.1.w) (xs.map λq=>V.ref q.2.1):=by
 unfold KRel at r
 induction r with
 | nil=>exact .nil
 | cons h t ih=>exact .cons h.2.2.2.1 ih
theorem mF (xs:Hm (T×Hx×Ho)):Vals (xs.map λq=>V.ref q.2.1) (xs.map λq=>IA q.2.1):=by
 induction xs with
 | nil=>exact .nil
 | cons x xs ih=>exact .cons rfl ih
theorem kG {wd:Iw}{es:IC JJ}{xs:Hm (T×Hx×Ho)}(he:es.toList=xs.map (vK wd)){acc:IC Ho}(ha:L3 (λi v=>∃e,es[i]?=gV e/\e.key=v) acc es.size):acc.toList=xs.map λq=>IA q.2.1:=by
 have hl:es.size=xs.length:=by rw[<- Ir,he,Hq]
 apply LS
 ·rw[Ir,ha.1,Hq,hl]
 ·intro i h1 h2;rw[Ir]at h1;obtain⟨e,q1,q2⟩:=ha.2 i acc[i] (by simp[h1])
  rw[<- Jp,he,Hy]at q1;rw[Hq]at h2;rw[HK h2]at q1;simp only[Ij,IB]at q1;subst q1;rw[List.getElem_map,Array.getElem_toList];exact q2.symm
theorem uu {x:W}{a:V}{u:Ho}{ws:Hm W}(hh:X.A.handled=td)(I:Inv X pins σ H s)(so:StoreOk X.w X.K A H S)(rx:Rel X.K A H x a)(ru:RelV a u)(e:en S x=gV ws):∃vs us,RelL X.K A H ws vs/\Vals vs us/\us.length<=sizeLine/\
  ∀(B:Iu) (hB:B.handled=td) (E:Ho->Hr->Prop) (Q':Hm Ho->Hr->Prop),(∀h' tk,(∀b o,s.heap.get? b=gV o->h'.get? b=gV o)->s.heap.objs.size<=h'.objs.size->Q' us { s with heap:=h',toks:=tk })->wpAny (model X.prog X.w) B (collect u) Q' E s:=by
 cases rx with
 | tup h1 r1=>
  cases e;obtain⟨its,rv,ht,hz⟩:=I.tuple h1;obtain rfl:u=IA _:=ru;exact#[_,its,r1,rv,by rw[<- L2.Vals.length rv]; exact hz,λB hB E Q' h=>pN ht (by rw[<- L2.Vals.length rv]; exact hz) h]
 | ref ea=>
  simp only[en]at e;split at e
  ·rename_i xs hx;cases e;obtain⟨vs,h1,r1⟩:=cZ so hx ea;obtain⟨its,rv,p,hz⟩:=I.list h1;obtain rfl:u=IA _:=ru;refine#[_,its,r1,rv,by rw[<- L2.Vals.length rv]; exact hz,λB hB E Q' h=>collect_list p.isList (h _ s.toks (λb o' e=>(KA _ _ _ _ (Ic (HP e))).trans (Hv _ e)) ?_) (by rw[<- L2.Vals.length rv]; exact hz)]
   rw[NH,size_push'];exact Kt _
  ·rw[Hs]at e;obtain⟨kvs,hk,rfl⟩:=e;obtain⟨xs,rd,kr⟩:=fU so hk ea;have d:=cR I rd;obtain⟨es,ep,raw,he⟩:=d.raw;obtain rfl:u=IA _:=ru;have hl:es.size=xs.length:=by rw[<- Ir,he,Hq]
   refine#[_,_,kr.keysL,mF xs,by rw[Hq]; exact d.1,λB hB E Q' h=>pI (sB d.2.1) hB raw (by rw[hl]; exact d.1) λh' tk acc hk' hle ha=>?_]
   rw[kG he ha];exact h h' tk hk' hle
 | _=>cases e
theorem mG {h':IF}{tk c:Hu}{D:Hx}{ws:Hm W}{vs:Hm V}{us:Hm Ho}(I:Inv X pins σ H s)(so:StoreOk X.w X.K A H S)(r:RelL X.K A H ws vs)(rv:Vals vs us)(hz:us.length<=sizeLine)(hk:∀b o,s.heap.get? b=gV o->h'.get? b=gV o)(hD:s.heap.objs.size<=D)
  (ho:h'.get? D=gV { cls:=.type "list",data:=.seq us.toArray c }):dS X pins σ A H (S++[.lst ws]) (.ref S.length) (.ref D) { s with heap:=h',toks:=tk }:=by
 have hn:H D=td:=I.hok.fresh hD;refine#[.ref D,_,A++[D],I.laid (a:=D) (o:=.lst vs) (t':=tk) hk hD #[by rw[L2.Vals.length rv]; exact hz,us,c,rv,ho],rfl,ee hn,so.push hn r,.ref ?_]
 rw[<- so.len]; simp
theorem nV (hh:X.A.handled=td)(hu:X.A.units+12 < cLine):LCall X (.builtin "sorted") iw:=by
 intro pins s σ H A S xs vs us w S' I so rl rv e;cases rl with
 | nil=>cases e
 | cons r t=>
  cases t with
  | cons _ _=>cases e
  | nil=>
   cases rv with
   | cons ru rv2=>
    cases rv2;simp only[iw]at e;split at e
    ·rename_i ws hw;split at e
     ·rename_i ks hk;split at e
      ·rename_i hok;cases e;obtain⟨vs',us',r1,rv1,hz,hcol⟩:=uu hh I so r ru hw;simp only[nS,Hw,Ii]at hok;obtain⟨⟨h64,hd⟩,hok⟩:=hok;have hws:T.ws ks=ws:=W.ts_w hk;have hT:IsTs s.heap ks us':=gq I ks (hws ▸ r1) rv1;have hl:us'.length=ks.length:=hT.length.symm;have sk:2<=us'.length->(zu ks).isSome=true/\kE ks=true:=λh2=>by
        rcases JK _ _ ▸ hok with h|h
        ·simp only[Ii]at h; omega
        ·simpa using h
       refine ur (vs:=us') (lt:=Bj ks) (κ:=wa ((zu ks).getD 0)) ∅ (λQ' hQ'=>hcol X.A.in1 hh _ Q' hQ') (λh2 h' tk hk' Q hq=>?_) (λh2 h' tk hk' i j hi hj Q hq=>?_) λD h' tk c hk' hD ho=>?_
       ·obtain⟨q1,q2⟩:=sk h2;obtain⟨c,hc⟩:=IM.mp q1;rw[hc]at hq;exact Cr (s:={ s with heap:=h',toks:=tk }) (hT.kept λb o _ e=>hk' b o e) h2 hc hq
       ·obtain⟨q1,q2⟩:=sk h2;obtain⟨c,hc⟩:=IM.mp q1;rw[hc];have hi':i < ks.length:=∅
        have hj':j < ks.length:=∅
        have g:=(hT.kept (h':=h') λb o _ e=>hk' b o e)
        have e1:us'.getD i IK=us'[i]:=by simp[hi]
        have e2:us'.getD j IK=us'[j]:=by simp[hj]
        rw[e1,e2];have b1:=eh (ks:=ks) i hi';have b2:=eh (ks:=ks) j hj';exact zv (s:={ s with heap:=h',toks:=tk }) (d:=eJ) (c:=c) (by rw[bQ,bQ]; unfold eJ; omega) ∅ ∅ (g.get i hi' hi) (g.get j hj' hj) (wb q2 hi' hj') (zw hc (IT hi') (IT hj')) hq
       ·exact mG I so (wc r1) (ut rv1) (by rw[pL]; exact hz) hk' hD ho
      ·cases e
     ·cases e
    ·cases e
theorem pO (hh:X.A.handled=td):LCall X (.type "list") kF:=by
 intro pins s σ H A S xs vs us w S' I so rl rv e
 by_cases hd:∃i kvs,xs=[.ref i]/\jS S i=gV kvs
 ·obtain⟨i,kvs,rfl,hk⟩:=hd;simp only[kF,hk]at e;cases e;cases rl with
  | cons r t=>
   cases t;cases rv with
   | cons ru rv2=>
    cases rv2;cases r with
    | ref ea=>
     obtain⟨xs,rd,kr⟩:=fU so hk ea;have d:=cR I rd;obtain⟨es,ep,raw,he⟩:=d.raw;obtain rfl:_=IA _:=ru;have hl:es.size=xs.length:=by rw[<- Ir,he,Hq]
     refine PySem.W.kdl_call (sB d.2.1) hh raw (by rw[hl]; exact d.1) λh' tk acc' c' hk' hD ha=>?_
     have ea':=kG he ha;refine mG (us:=acc'.toList) I so kr.keysL (ea' ▸ mF xs) (by rw[ea',Hq]; exact d.1) hk' (HG _) (c:=c') ?_
     simpa using hD
 ·have:kF xs S=gN xs S:=by
   unfold kF;split
   ·rename_i i;split
    ·rename_i kvs hk;exact absurd #[i,kvs,rfl,hk] hd
    ·rfl
   ·rfl
  rw[this]at e;exact gZ pins s σ H A S xs vs us w S' I so rl rv e
end
open PySem.W (KasT kas_sort kas_asc kas_desc kas_tail3 kas_descPart kas_count kas_place kas_bin kas_rev)
noncomputable def gt (p:IC Hu)(i:Hu):Hu:=p.getD i 0
end Mi
namespace Mi
open PySem PySem.Spec PyProof.Rows L2
theorem we {α:Type}{lt:Hu->Hu->HV}{d:α}{xs:Hm α}:(eY lt d xs).Perm xs:=by
 unfold eY;split
 ·exact .refl _
 ·have p:Pm xs.length (nQ lt (NG xs.length)):=nR (j7 ∅)
  refine(PH _ p).trans ?_;have:(HJ xs.length).map (λi=>xs.getD i d)=xs:=by
   apply LS
   ·simp
   ·intro k h1 h2; simp[h2]
  rw[this]
noncomputable def kH (xs:Hm W)(S:aa):Ht (W×aa):=match xs with
 | [.ref i]=>match uh S i with
  | some (lo,hi)=>if -(2 ^ 62)<=lo/\lo < 2 ^ 62/\-(2 ^ 62)<=hi/\hi < 2 ^ 62/\(hi - lo).toNat<=sizeLine then gV (.tup (zq lo (hi - lo).toNat),S)else td
  | none=>kz [.ref i] S
 | xs=>kz xs S
section
variable{prog:HZ}{w:Iw}{A:Iu}{E:Ho->Hr->Prop}{s:Hr}
theorem lL {Q:Hm Ho->Hr->Prop}{r:Hx}{a b c:HF}{t u v:PL}{n:Hu}(hh:A.handled=td)(hr:Pp s.heap r a b c t u v)(hsmall:Lj a b c=true)
  (hn:Jw a b c=n) (hlen:n<=2 ^ 24)
  (hQ:∀h' tk (acc:IC Ho),(∀b o,s.heap.get? b=gV o->h'.get? b=gV o)->s.heap.objs.size<=h'.objs.size->L3 (λi v=>∃t,v=.int (a+i*c) t) acc n->Q acc.toList { s with heap:=h',toks:=tk }):wpAny (model prog w) A (collect (.ref r)) Q E s:=by
 unfold collect;refine Hn (My (Ju F.entry_proto_collect ?_));rw[Jh F.plain_proto_collect _];show wpAny _ A.in1 (newList [] >>= λl=>again (.builtin "list.__iadd__" #[[l,.ref r],[]])) _ _ s
 refine Hn (IG ?_);refine Hz #[Kj F.plain_list_iadd _,Ju F.entry_list_iadd ?_];rw[Jh F.plain_list_iadd _];show wpAny _ A.in1 (JP (.ref s.heap.objs.size) (.ref r) (.ref s.heap.objs.size)) _ _ _;have hS:(s.heap.push { cls:=.type "list",data:=.seq ([]:Hm Ho).toArray }).get? s.heap.objs.size=gV { cls:=.type "list",data:=.seq #[] 0 }:=HQ _ rfl;have fin':∀s',(∃h' tk acc c',s'={ s with heap:=h',toks:=tk }/\(∀b o,s.heap.get? b=gV o->h'.get? b=gV o)/\h'.get? s.heap.objs.size=gV { cls:=.type "list",dict:=td,data:=.seq acc c',slots:=#[] }/\L3 (λi v=>∃t,v=.int (a+i*c) t) acc n)->wpAny (model prog w) A (do
   let o <- load s.heap.objs.size
   match o.data with
   | .seq xs _=>pure xs.toList
   | _=>unsupported "internal:collect") Q E s':=by
  rintro s' ⟨h',tk,acc,c',rfl,hk,hS',hacc⟩;exact Hn (MZ hS' (Hz (hQ h' tk acc hk (KT (HP hS')) hacc)))
 refine Jz (wpAny_extend_range (A:=A) (s:={ s with heap:=s.heap.push { cls:=.type "list",data:=.seq ([]:Hm Ho).toArray } }) (R:=λr s'=>r=.ok (.ret (.ref s.heap.objs.size))/\∃h' tk acc c',s'={ s with heap:=h',toks:=tk }/\(∀b o,s.heap.get? b=gV o->h'.get? b=gV o)/\h'.get? s.heap.objs.size=gV { cls:=.type "list",dict:=td,data:=.seq acc c',slots:=#[] }/\L3 (λi v=>∃t,v=.int (a+i*c) t) acc n) hh (Hv _ hr) hsmall hn hlen _ _ 0 hS λh' tk acc' c' hk hS' hacc=>#[rfl,h',tk,acc',c',rfl,λb o e=>hk b o (Ic (HP e)) (Hv _ e),hS',hacc]) (λfin s' h=>?_) (λe s' h=>?_)
 ·cases fin with
  | done f=>
   obtain⟨e,h⟩:=h;cases e;exact fin' s' h
  | again c'=>exact#[h.1,LY h.2 λr s'' hr=>by obtain⟨rfl,hr⟩:=hr; exact fin' s'' hr]
 ·exact absurd h.1 (by simp)
theorem i5 {Q₁:Ho->Hr->Prop}{r:Hx}{a b c:HF}{t u v:PL}{n:Hu}(hh:A.handled=td)(hr:Pp s.heap r a b c t u v)(hsmall:Lj a b c=true)
  (hn:Jw a b c=n) (hlen:n<=2 ^ 24)
  (h:∀(h':IF) (tk:Hu) (acc:IC Ho),(∀b o,s.heap.get? b=gV o->h'.get? b=gV o)->s.heap.objs.size<=h'.objs.size->L3 (λi v=>∃t,v=.int (a+i*c) t) acc n->Q₁ (.ref h'.objs.size) { s with heap:=h'.push { cls:=.type "tuple",data:=.seq acc },toks:=tk }) :
  codeAny (model prog w) A (.call (.builtin "tuple.__new__") #[[.type "tuple",.ref r],[]]) (wants Q₁ E) s:=by
 refine codeAny_of_tree ?_;show wpAny _ A.in1 (do checkBuiltinCall "tuple.__new__" #[[.type "tuple",.ref r],[]]; again (.builtin "tuple.__new__" #[[.type "tuple",.ref r],[]])) _ _ s
 refine Hn (Mv (F.newCall_tuple_1 _) (Hz #[Kj F.plain_tuple_new _,Ju F.entry_tuple_new ?_]));rw[Jh F.plain_tuple_new _];have hsub:=PySem.sub_tuple_self;have hinit:=PySem.init_tuple_lookup;have hmh:=PySem.madeHere_tuple;have hTI:s.TypeIs (.ref r) "range":=#[_,hr,rfl];have hh1:A.in1.handled=td:=by simp[hh]
 wp_walk using Lk hTI,lL (A:=A.in1) hh1 hr hsmall hn hlen
 intro h' tk acc hk hle hacc;show wpAny _ _ (Jq acc.toList.toArray >>= λv=>ret v) _ _ _
 unfold Jq;refine Hn (IG ?_ (by show acc.toList.toArray.size<=sizeLine; simp only[Array.toArray_toList]; rw[hacc.1,IH]; omega))
 refine Hz ?_;have e:acc.toList.toArray=acc:=by simp
 rw[e];exact h h' tk acc hk hle hacc
theorem i6 {Q:Ho->Hr->Prop}{r:Hx}{a b c:HF}{t u v:PL}{n:Hu}(hh:A.handled=td)(hr:Pp s.heap r a b c t u v)(hsmall:Lj a b c=true)
  (hn:Jw a b c=n) (hlen:n<=2 ^ 24)
  (hQ:∀(h':IF) (tk:Hu) (acc:IC Ho),(∀b o,s.heap.get? b=gV o->h'.get? b=gV o)->s.heap.objs.size<=h'.objs.size->L3 (λi v=>∃t,v=.int (a+i*c) t) acc n->Q (.ref h'.objs.size) { s with heap:=h'.push { cls:=.type "tuple",data:=.seq acc },toks:=tk }) :
  wpAny (model prog w) A (call (.type "tuple") [.ref r]) Q E s:=by
 refine callType_codes (Q₁:=λobj s₁=>s₁.TypeIs obj "tuple"/\Q obj s₁) F.called_tuple (F.typeCall_tuple_1 _) F.entry_object_init
  (i5 (by simp[hh]) hr hsmall hn hlen λh' tk acc hk hle hacc=>#[#[_,HQ _ rfl,rfl],hQ h' tk acc hk hle hacc]) λobj s₁ h₁=>?_
 exact#[h₁.1,F.args_object_init_2 obj _,object_init_meets F.called_tuple.init.lookup F.called_tuple.made #v[] prog w A.in1 _ s₁ #[h₁.1,rfl,h₁.2]]
end
section
variable{X:Cx}{pins:Hm (Hx×Jn)}{σ:L2.St}{H:Hp}{s:Hr}{A:Hm Hx}{S:aa}
theorem nW (hh:X.A.handled=td):LCall X (.type "tuple") kH:=by
 intro pins s σ H A S xs vs us w S' I so rl rv e;unfold kH at e;split at e
 ·rename_i i;split at e
  ·rename_i lo hi hr;split at e
   ·rename_i hb;cases e;obtain⟨a,ea,rfl⟩:=sv (xs:=[]) rl rv;obtain⟨b1,b2,b3,b4,b5⟩:=hb;have hH:H a=gV (.rng lo hi):=by
     unfold uh at hr;split at hr
     ·rename_i hx; cases hr; exact so.obj i _ a hx ea
     ·cases hr
    obtain⟨t,u,v,ho⟩:=I.hok a _ hH;have hn:Jw lo hi 1=((hi - lo).toNat:Hu):=by rw[MP]; split <;> omega
    refine i6 hh ho (OH b1 b2 b3 b4) hn b5 λh' tk acc hk hle hacc=>?_
    have hv:Vals ((HJ (hi - lo).toNat).map λ(k:Hu)=>V.int (lo+(k:HF))) acc.toList:=by
     refine nK (by rw[Hq,Iv,Ir,hacc.1]) λi v u e1 e2=>?_
     rw[Hy,Hs]at e1;obtain⟨k,e1,rfl⟩:=e1;obtain⟨hk,rfl⟩:=HI.mp e1;obtain⟨t,rfl⟩:=hacc.2 i u (by rw[<- Jp]; exact e2)
     exact#[t,by simp]
    have hnn:H h'.objs.size=td:=I.hok.fresh hle;refine#[.ref h'.objs.size,_,A,I.laid (a:=h'.objs.size) (o:=.tup ((HJ (hi - lo).toNat).map λ(k:Hu)=>V.int (lo+(k:HF)))) (t':=tk) (λb o e=>Hv _ (hk b o e)) hle #[by simpa using b5,acc.toList,hv,?_],rfl,dD (.inl hnn),so.lay hnn,.tup (.inl (.inl bD)) (nL _)]
    exact#[_,HQ _ rfl,rfl,0,by simp]
   ·cases e
  ·exact jH pins s σ H A S _ vs us w S' I so rl rv e
 ·exact jH pins s σ H A S _ vs us w S' I so rl rv e
end
section
variable{X:Cx}{pins:Hm (Hx×Jn)}{σ:L2.St}{H:Hp}{s:Hr}{A:Hm Hx}{S:aa}
theorem uw (hh:X.A.handled=td)(hu:X.A.units+12 < cLine):LCall X (.builtin "min") zx:=by
 intro pins s σ H A S xs vs us w S' I so rl rv e;cases rl with
 | nil=>cases e
 | cons r t=>
  cases t with
  | cons _ _=>cases r <;> cases e
  | nil=>
   cases rv with
   | cons ru rv2=>
    cases rv2;cases r with
    | ref ea=>
     simp only[zx]at e;split at e
     ·rename_i ws hw;split at e
      ·rename_i ks hk;split at e
       ·rename_i hc;rw[Hs]at e;obtain⟨w',e1,e2⟩:=e;cases e2;obtain⟨vs',h1,r1⟩:=cZ so hw ea;obtain⟨its,rv1,p,hz⟩:=I.list h1;obtain rfl:_=IA _:=ru;have hws:T.ws ks=ws:=W.ts_w hk;have hT:IsTs s.heap ks its:=gq I ks (hws ▸ r1) rv1;have hl:its.length=ks.length:=hT.length.symm;have hlw:ws.length=ks.length:=by rw[r1.length,L2.Vals.length rv1,hl]
        have hn:0 < ks.length:=by
         have:=(HI.mp e1).1;omega
        refine vZ (items:=its.toArray) (bt:=Bj ks) hh p.isList (by simpa [hl]using hn) (λi j vi vj s' Q E hk' hi hj hq=>?_) λv h' tk hv hk'=>?_
        ·have hi':i < ks.length:=by
          have:=(JV.mp hi).1
          simpa [hl]using this
         have hj':j < ks.length:=by
          have:=(JV.mp hj).1
          simpa [hl]using this
         have g:=hT.kept (h':=s'.heap) λb o _ e=>hk' b o e
         have e1:vi=its[i]'∅:=by
          have:=(JV.mp hi).2
          simpa using this.symm
         have e2:vj=its[j]'∅:=by
          have:=(JV.mp hj).2
          simpa using this.symm
         subst e1 e2;have b1:=eh (ks:=ks) i hi';have b2:=eh (ks:=ks) j hj';exact En eJ _ _ _ _ X.A.in1 s' _ ∅ ∅ (g.get i hi' ∅) (g.get j hj' ∅) (by rw[bQ]; unfold eJ; omega) (wb hc.2 hi' hj') X.prog X.w _ _ hq
        ·have hv':its[nT ks]?=gV v:=by
          have:its.toArray.size=ks.length:=by simpa using hl
          rw[this]at hv
          simpa [nT]using hv
         obtain⟨v',q1,q2⟩:=r1.get e1;obtain⟨u',q3,q4⟩:=L2.Vals.get rv1 q1;rw[hv']at q3;cases q3;exact#[v',H,A,I.kept hk',q4,.refl,so,q2]
       ·cases e
      ·cases e
     ·cases e
    | _=>cases e
theorem mH:∀ {ws:Hm W} {bs:Hm HV},g5 ws=gV bs->ws=bs.map W.bl
 | [],bs,h=>by cases h; rfl
 | .bl b::ws,bs,h=>by
  simp only[g5,Hs]at h;obtain⟨r,h1,h2⟩:=h;subst h2;rw[mH h1]; rfl
 | .non::_,_,h|.int _::_,_,h|.str _::_,_,h|.tup _::_,_,h|.ref _::_,_,h=>by cases h
theorem rs {bs:Hm HV}{vs:Hm V}{us:Hm Ho}(r:RelL X.K A H (bs.map W.bl) vs)(rv:Vals vs us):us=bs.map Ko:=by
 induction bs generalizing vs us with
 | nil=>cases r; cases rv; rfl
 | cons b bs ih=>
  cases r with
  | cons r1 r2=>
   cases rv with
   | cons v1 v2=>
    cases r1;obtain rfl:_=Ko b:=v1;rw[ih r2 v2]; rfl
theorem uy (bs:Hm HV):(HJ bs.length).all (λi=>bs.getD i false)=bs.all id:=by
 induction bs with
 | nil=>rfl
 | cons b bs ih=>simp[L0,OO,LH]at ih ⊢; rw[ih]
theorem Ct {id:IX}{fb:Hm HV->HV}{g:Hm W->aa->Ht (W×aa)}(hg:∀xs S,g xs S=match xs with|[.ref i]=>(match gX S i with|some ws=>(g5 ws).map λbs=>(.bl (fb bs),S)|none=>td)|_=>td)
  (hcall:∀ {s:Hr} {x:Ho} {Q:Ho->Hr->Prop} {E:Ho->Hr->Prop} {bs:Hm HV},wpAny (model X.prog X.w) X.A.in1 (pyIter x) (λit s₂=>∃I fp wr P St,it=.ref I/\PF X.prog X.w X.A.in1 I fp wr bs.length P St/\St 0 s₂.heap/\TruthOf X.prog X.w X.A.in1 P (λi=>bs.getD i false)/\
   ∀h' tk,(∀b o,b∉wr->s₂.heap.get? b=gV o->h'.get? b=gV o)->Q (.bool (fb bs)) { s₂ with heap:=h',toks:=tk }) E s->wpAny (model X.prog X.w) X.A (call (.builtin id) [x]) Q E s)
  (hh:X.A.handled=td):LCall X (.builtin id) g:=by
 intro pins s σ H A S xs vs us w S' I so rl rv e;rw[hg]at e;cases rl with
 | nil=>cases e
 | cons r t=>
  cases t with
  | cons _ _=>cases r <;> cases e
  | nil=>
   cases rv with
   | cons ru rv2=>
    cases rv2;cases r with
    | @ref ri ad ea=>
     simp only at e;split at e
     ·rename_i ws hw;rw[Hs]at e;obtain⟨bs,e1,e2⟩:=e;cases e2;obtain⟨vs',h1,r1⟩:=cZ so hw ea;obtain⟨its,rv1,p,hz⟩:=I.list h1;obtain rfl:_=IA _:=ru;rw[mH e1]at r1;have hits:=rs r1 rv1;refine hcall (bs:=bs) ?_;refine LG p.isList ?_;have hlt:ad < s.heap.objs.size:=by obtain⟨_,ho,_⟩:=p.isList; exact HP ho
      have W:=Pg (prog:=X.prog) (w:=X.w) (A:=X.A.in1) hh s.heap.objs.size ad (Ic hlt) its.toArray;have hsz:its.toArray.size=bs.length:=by rw[HH,hits,Hq]
      rw[hsz]at W;refine#[_,_,_,_,_,rfl,W,#[#[_,HQ _ rfl,rfl,rfl],?_],λi v s' Q E hi hq=>?_,λh' tk hk=>?_]
      ·obtain⟨o,ho,hc⟩:=p.isList;exact#[o,Hv _ ho,hc]
      ·have hb:bs[i]?.map Ko=gV v:=by rw[<- Hy,<- hits]; simpa using hi
       cases q:bs[i]? with
       | none=>rw[q]at hb; cases hb
       | some b=>
        rw[q]at hb;cases hb;have eb:bs.getD i false=b:=by simp[q]
        have hq:Q (bs.getD i false) s':=hq;rw[eb]at hq;exact JI hq
      ·refine#[.bl (fb bs),H,A,I.kept (λb o e=>hk b o (λz=>?_) (Hv _ e)),rfl,.refl,so,.bl]
       have hb:=HP e;rw[HN.mp z]at hb;exact Ji _ hb
     ·cases e
    | _=>cases e
theorem uz (hh:X.A.handled=td):LCall X (.builtin "all") Cs:=
 Ct (fb:=λbs=>bs.all id) (λxs S=>rfl) (λ{s x Q E bs} h=>call_all_walk (Jz h (λit s₂ #[I,fp,wr,P,St',a,b,c,d,f]=>#[I,fp,wr,_,P,St',_,a,b,c,d,λh' tk hk=>by rw[uy]; exact f h' tk hk]) λ_ _ e=>e)) hh
end
noncomputable abbrev FA:=Fm->aa->Ht (Hm W×aa)
noncomputable abbrev FT:=Fm->aa->Ht (HV×aa)
inductive Out where
 | nx (ρ:Fm)|rt (w:W)|bk (ρ:Fm)|ct (ρ:Fm)
noncomputable abbrev FS:=Fm->aa->Ht (Out×aa)
section
variable (X:Cx)
noncomputable def tE (f:FE):TE:=λσ H Q=>∃A ρ S w S',EnvRel X.K A H ρ σ/\StoreOk X.w X.K A H S/\f ρ S=gV (w,S')/\∀v H',EndV X.w X.K A H S' w v H'->Q v H'
noncomputable def EndB (A:Hm Hx)(H:Hp)(S':aa)(k:HV):HV->Hp->Prop:=λb H'=>b=k/\∃A',Ext X.K A H A' H'/\StoreOk X.w X.K A' H' S'
noncomputable def tT (f:FT):TT:=λσ H Q=>∃A ρ S k S',EnvRel X.K A H ρ σ/\StoreOk X.w X.K A H S/\f ρ S=gV (k,S')/\∀b H',EndB X A H S' k b H'->Q b H'
noncomputable def Cu (A:Hm Hx)(H:Hp)(S':aa)(ws:Hm W):Hm V->Hp->Prop:=λvs H'=>∃A',Ext X.K A H A' H'/\StoreOk X.w X.K A' H' S'/\RelL X.K A' H' ws vs
noncomputable def tA (f:FA):TA:=λσ H Q=>∃A ρ S ws S',EnvRel X.K A H ρ σ/\StoreOk X.w X.K A H S/\f ρ S=gV (ws,S')/\∀vs H',Cu X A H S' ws vs H'->Q vs H'
noncomputable def EndS (A:Hm Hx)(H:Hp)(o:Out)(S':aa):Ends where
 nx:=λσ' H'=>∃ρ' A',o=.nx ρ'/\Ext X.K A H A' H'/\StoreOk X.w X.K A' H' S'/\EnvRel X.K A' H' ρ' σ'
 rt:=λv H'=>∃w A',o=.rt w/\Ext X.K A H A' H'/\StoreOk X.w X.K A' H' S'/\Rel X.K A' H' w v
 bk:=λσ' H'=>∃ρ' A',o=.bk ρ'/\Ext X.K A H A' H'/\StoreOk X.w X.K A' H' S'/\EnvRel X.K A' H' ρ' σ'
 ct:=λσ' H'=>∃ρ' A',o=.ct ρ'/\Ext X.K A H A' H'/\StoreOk X.w X.K A' H' S'/\EnvRel X.K A' H' ρ' σ'
structure Imp (E D:Ends):Prop where
 nx:∀σ H,E.nx σ H->D.nx σ H
 rt:∀v H,E.rt v H->D.rt v H
 bk:∀σ H,E.bk σ H->D.bk σ H
 ct:∀σ H,E.ct σ H->D.ct σ H
noncomputable def tS (f:FS):TS:=λD σ H=>∃A ρ S o S',EnvRel X.K A H ρ σ/\StoreOk X.w X.K A H S/\f ρ S=gV (o,S')/\Imp (EndS X A H o S') D
noncomputable abbrev GE (e:HS)(f:FE):Prop:=PE X e (tE X f)
noncomputable abbrev GT (e:HS)(f:FT):Prop:=PT X e (tT X f)
noncomputable abbrev GW (e:HS)(f:FT):Prop:=PW X e (tT X f)
noncomputable abbrev GA (es:Hm HS)(f:FA):Prop:=PA X es (tA X f)
noncomputable abbrev GS (st:J8)(f:FS):Prop:=PS X st (tS X f)
noncomputable abbrev GSs (sts:Hm J8)(f:FS):Prop:=PSs X sts (tS X f)
end
theorem Imp.trans {E D F:Ends}(a:Imp E D)(b:Imp D F):Imp E F:=#[λ_ _ h=>b.nx _ _ (a.nx _ _ h),λ_ _ h=>b.rt _ _ (a.rt _ _ h),λ_ _ h=>b.bk _ _ (a.bk _ _ h),λ_ _ h=>b.ct _ _ (a.ct _ _ h)]
section
variable{X:Cx}
theorem GE.of {e:HS}{t:TE}{f:FE}(h:PE X e t)(hf:∀(σ:L2.St) (H:Hp) (A:Hm Hx) (ρ:Fm) (S:aa) (w:W) (S':aa),EnvRel X.K A H ρ σ->StoreOk X.w X.K A H S->f ρ S=gV (w,S')->∀Q:VK,(∀v H',EndV X.w X.K A H S' w v H'->Q v H')->t σ H Q):GE X e f:=
 λpins s σ H Q I #[A,ρ,S,w,S',er,so,e1,hq]=>h pins s σ H Q I (hf σ H A ρ S w S' er so e1 Q hq)
theorem GT.of {e:HS}{t:TT}{f:FT}(h:PT X e t)(hf:∀(σ:L2.St) (H:Hp) (A:Hm Hx) (ρ:Fm) (S:aa) (k:HV) (S':aa),EnvRel X.K A H ρ σ->StoreOk X.w X.K A H S->f ρ S=gV (k,S')->∀Q:HV->Hp->Prop,(∀b H',EndB X A H S' k b H'->Q b H')->t σ H Q):GT X e f:=
 λpins s σ H Q I #[A,ρ,S,w,S',er,so,e1,hq]=>h pins s σ H Q I (hf σ H A ρ S w S' er so e1 Q hq)
theorem GW.of {e:HS}{t:TT}{f:FT}(h:PW X e t)(hf:∀(σ:L2.St) (H:Hp) (A:Hm Hx) (ρ:Fm) (S:aa) (k:HV) (S':aa),EnvRel X.K A H ρ σ->StoreOk X.w X.K A H S->f ρ S=gV (k,S')->∀Q:HV->Hp->Prop,(∀b H',EndB X A H S' k b H'->Q b H')->t σ H Q):GW X e f:=
 λwh pins s σ H Q I #[A,ρ,S,w,S',er,so,e1,hq]=>h wh pins s σ H Q I (hf σ H A ρ S w S' er so e1 Q hq)
theorem GA.of {es:Hm HS}{t:TA}{f:FA}(h:PA X es t)(hf:∀(σ:L2.St) (H:Hp) (A:Hm Hx) (ρ:Fm) (S:aa) (ws:Hm W) (S':aa),EnvRel X.K A H ρ σ->StoreOk X.w X.K A H S->f ρ S=gV (ws,S')->∀Q:Hm V->Hp->Prop,(∀vs H',Cu X A H S' ws vs H'->Q vs H')->t σ H Q):GA X es f:=
 λpos pins s σ H Q I #[A,ρ,S,w,S',er,so,e1,hq]=>h pos pins s σ H Q I (hf σ H A ρ S w S' er so e1 Q hq)
theorem GS.of {st:J8}{t:TS}{f:FS}(h:PS X st t)(hf:∀(σ:L2.St) (H:Hp) (A:Hm Hx) (ρ:Fm) (S:aa) (o:Out) (S':aa),EnvRel X.K A H ρ σ->StoreOk X.w X.K A H S->f ρ S=gV (o,S')->∀D:Ends,Imp (EndS X A H o S') D->t D σ H):GS X st f:=
 λpins s σ H D I #[A,ρ,S,o,S',er,so,e1,hq]=>h pins s σ H D I (hf σ H A ρ S o S' er so e1 D hq)
theorem GSs.of {st:Hm J8}{t:TS}{f:FS}(h:PSs X st t)(hf:∀(σ:L2.St) (H:Hp) (A:Hm Hx) (ρ:Fm) (S:aa) (o:Out) (S':aa),EnvRel X.K A H ρ σ->StoreOk X.w X.K A H S->f ρ S=gV (o,S')->∀D:Ends,Imp (EndS X A H o S') D->t D σ H):GSs X st f:=
 λpins s σ H D I #[A,ρ,S,o,S',er,so,e1,hq]=>h pins s σ H D I (hf σ H A ρ S o S' er so e1 D hq)
theorem EndV.after {A A1:Hm Hx}{H H1:Hp}{S':aa}{w:W}{v:V}{H':Hp}(e:Ext X.K A H A1 H1)(h:EndV X.w X.K A1 H1 S' w v H'):EndV X.w X.K A H S' w v H':=by
 obtain⟨A',x,y,z⟩:=h;exact#[A',e.trans x,y,z]
theorem EndB.after {A A1:Hm Hx}{H H1:Hp}{S':aa}{k b:HV}{H':Hp}(e:Ext X.K A H A1 H1)(h:EndB X A1 H1 S' k b H'):EndB X A H S' k b H':=by
 obtain⟨h1,A',x,y⟩:=h;exact#[h1,A',e.trans x,y]
theorem EndS.after {A A1:Hm Hx}{H H1:Hp}{S':aa}{o:Out}(e:Ext X.K A H A1 H1):Imp (EndS X A1 H1 o S') (EndS X A H o S'):=
 #[λ_ _ #[ρ',A',a,b,c,d]=>#[ρ',A',a,e.trans b,c,d],λ_ _ #[ρ',A',a,b,c,d]=>#[ρ',A',a,e.trans b,c,d],λ_ _ #[ρ',A',a,b,c,d]=>#[ρ',A',a,e.trans b,c,d],λ_ _ #[ρ',A',a,b,c,d]=>#[ρ',A',a,e.trans b,c,d]]
noncomputable def fC (w:W):FE:=λ_ S=>gV (w,S)
noncomputable def fV (i:Hu):FE:=λρ S=>match ρ[i]? with
 | some (gV w)=>gV (w,S)
 | _=>td
theorem pP {e:HS}{v:V}{w:W}(h:PE X e (tC v))(r:∀A H,Rel X.K A H w v):GE X e (fC w):=
 GE.of h λσ H A ρ S w' S' er so e Q hq=>by cases e; exact hq _ _ (.here so (r A H))
theorem Go {i:Hu}{e:HS}(h:PE X e (DI i)):GE X e (fV i):=GE.of h λσ H A ρ S w S' er so e Q hq=>by
 unfold fV at e;split at e
 ·rename_i w' hw;cases e;obtain⟨v,h1,h2⟩:=er.2 i _ hw;exact#[v,h1,hq _ _ (.here so h2)]
 ·cases e
noncomputable def zy (g:W->W->aa->Ht (W×aa))(fa fb:FE):FE:=λρ S=>match fa ρ S with
 | some (x,S1)=>match fb ρ S1 with
  | some (y,S2)=>g x y S2
  | none=>td
 | none=>td
theorem Fz {fa fb:FE}{g:W->W->aa->Ht (W×aa)}{ρ:Fm}{S:aa}{r:W×aa}(e:zy g fa fb ρ S=gV r):∃x S1 y S2,fa ρ S=gV (x,S1)/\fb ρ S1=gV (y,S2)/\g x y S2=gV r:=by
 unfold zy at e;split at e
 ·rename_i x S1 h1;split at e
  ·rename_i y S2 h2;exact#[x,S1,y,S2,h1,h2,e]
  ·cases e
 ·cases e
theorem iy {fa fb:FE}{ρ:Fm}{S S1 S2:aa}{x y:W}{σ:L2.St}{H:Hp}{A:Hm Hx}{R:V->V->Hp->Prop}(er:EnvRel X.K A H ρ σ)(so:StoreOk X.w X.K A H S)(h1:fa ρ S=gV (x,S1))(h2:fb ρ S1=gV (y,S2))
  (h:∀a b H2 A2,Ext X.K A H A2 H2->StoreOk X.w X.K A2 H2 S2->Rel X.K A2 H2 x a->Rel X.K A2 H2 y b->R a b H2):tE X fa σ H λa H1=>tE X fb σ H1 λb H2=>R a b H2:=by
 refine#[A,ρ,S,x,S1,er,so,h1,λa H1 #[A1,e1,o1,r1]=>?_]
 refine#[A1,ρ,S1,y,S2,er.mono e1,o1,h2,λb H2 #[A2,e2,o2,r2]=>?_]
 exact h a b H2 A2 (e1.trans e2) o2 (r1.mono e2) r2
theorem LOp.opr {f:Ho->Ho->OX Ho}{g:W->W->aa->Ht (W×aa)}(h:LOp X f g):OpR X f (λa b H Q=>∃A S x y w S',StoreOk X.w X.K A H S/\Rel X.K A H x a/\Rel X.K A H y b/\g x y S=gV (w,S')/\∀v H',EndV X.w X.K A H S' w v H'->Q v H'):=by
 intro pins s σ H a b u v Q I ru rv ⟨A,S,x,y,w,S',so,rx,ry,e,hq⟩;exact cg (h pins s σ H A S x y a b u v w S' I so rx ru ry rv e) λu' s' #[v',H',A',I',r',e1,o1,z1]=>#[v',H',I',r',hq v' H' #[A',e1,o1,z1]]
theorem Bk {a b:HS}{op:Nd}{pos:JW}{fa fb:FE}{g:W->W->aa->Ht (W×aa)}(ho:LOp X (binaryOp op) g)(ha:GE X a fa)(hb:GE X b fb):GE X (.BinOp a op b pos) (zy g fa fb):=
 GE.of (DX ho.opr ha hb) λσ H A ρ S w S' er so e Q hq=>by
  obtain⟨x,S1,y,S2,h1,h2,h3⟩:=Fz e;exact iy er so h1 h2 λa b H2 A2 e2 o2 r1 r2=>#[A2,S2,x,y,w,S',o2,r1,r2,h3,λv H' z=>hq v H' (z.after e2)]
noncomputable def wf (fa:FE):FE:=λρ S=>match fa ρ S with
 | some (.int i,S1)=>gV (.int (-i),S1)
 | _=>td
theorem wg {a:HS}{pos:JW}{fa:FE}(ha:GE X a fa):GE X (.UnaryOp .USub a pos) (wf fa):=
 GE.of (DY Cc ha) λσ H A ρ S w S' er so e Q hq=>by
  unfold wf at e;split at e
  ·rename_i i S1 h1;cases e;refine#[A,ρ,S,_,_,er,so,h1,λv H1 #[A1,e1,o1,r1]=>?_]
   cases r1;exact#[_,rfl,hq _ _ #[A1,e1,o1,.int]]
  ·cases e
noncomputable def zz (o:COp)(fa fb:FE):FE:=zy (b6 o) fa fb
theorem Cv {a b:HS}{o:COp}{pos:JW}{fa fb:FE}(hu:X.A.units+gY < cLine)(ha:GE X a fa)(hb:GE X b fb)(hm:behindInMarks o.py b=false):GE X (.Compare a [o.py] [b] pos) (zz o fa fb):=
 GE.of (yI (pE hu o).opr ha hb hm) λσ H A ρ S w S' er so e Q hq=>by
  obtain⟨x,S1,y,S2,h1,h2,h3⟩:=Fz e;exact iy er so h1 h2 λa b H2 A2 e2 o2 r1 r2=>#[A2,S2,x,y,w,S',o2,r1,r2,h3,λv H' z=>hq v H' (z.after e2)]
noncomputable def wj (f:FE):FT:=λρ S=>match f ρ S with
 | some (.bl k,S')=>gV (k,S')
 | _=>td
theorem Cw {a b:HS}{o:COp}{pos:JW}{fa fb:FE}(hu:X.A.units+gY < cLine)(ha:GE X a fa)(hb:GE X b fb)(hm:behindInMarks o.py b=false):GT X (.Compare a [o.py] [b] pos) (wj (zz o fa fb)):=
 GT.of (yJ (pE hu o).opr ha hb hm) λσ H A ρ S k S' er so e Q hq=>by
  unfold wj at e;split at e
  ·rename_i k' S'' h0;cases e;obtain⟨x,S1,y,S2,h1,h2,h3⟩:=Fz h0;refine iy er so h1 h2 λa b H2 A2 e2 o2 r1 r2=>#[A2,S2,x,y,_,_,o2,r1,r2,h3,λv H' #[A',z1,z2,z3]=>?_]
   cases z3;exact#[k,rfl,hq _ _ #[rfl,A',e2.trans z1,z2]]
  ·cases e
noncomputable def gD (f:FE):FT:=λρ S=>match f ρ S with
 | some (w,S')=>(eX S' w).map λk=>(k,S')
 | none=>td
theorem c7 {e:HS}{f:FE}(h:GE X e f)(he:∀whole,isTrue e X.env whole=(do let v <- whole; standAt e.pos; holding [v] (truthy v))):GT X e (gD f):=by
 intro pins s σ H Q I ⟨A,ρ,S,k,S',er,so,e1,hq⟩;unfold gD at e1;split at e1
 ·rename_i w S1 h1;rw[Hs]at e1;obtain⟨k',ek,e2⟩:=e1;cases e2;refine isTrue_plain (cg (h pins s σ H (EndV X.w X.K A H _ w) I #[A,ρ,S,w,_,er,so,h1,λ_ _ z=>z]) λv s1 #[x,H1,I1,r1,A1,e1,o1,z1]=>?_) (he _)
  exact Gm I1 o1 z1 r1 ek λs' I'=>#[H1,I',hq _ _ #[rfl,A1,e1,o1]]
 ·cases e1
noncomputable def wm (f g:FT):FT:=λρ S=>match f ρ S with
 | some (true,S1)=>g ρ S1
 | some (false,S1)=>gV (false,S1)
 | none=>td
noncomputable def Eo (f g:FT):FT:=λρ S=>match f ρ S with
 | some (true,S1)=>gV (true,S1)
 | some (false,S1)=>g ρ S1
 | none=>td
noncomputable def zA (f:FT):FT:=λρ S=>match f ρ S with
 | some (k,S1)=>gV (!k,S1)
 | none=>td
theorem wn {f g:FT}{σ:L2.St}{H:Hp}{A:Hm Hx}{ρ:Fm}{S:aa}{k:HV}{S':aa}(er:EnvRel X.K A H ρ σ)(so:StoreOk X.w X.K A H S)(e:wm f g ρ S=gV (k,S'))(Q:HV->Hp->Prop)(hq:∀b H',EndB X A H S' k b H'->Q b H') :
  DJ (tT X f) (tT X g) σ H Q:=by
 unfold wm at e;split at e
 ·rename_i S1 h1;refine#[A,ρ,S,true,S1,er,so,h1,λb H1 #[z0,A1,z1,z2]=>?_]
  subst z0;rw[HW rfl];exact#[A1,ρ,S1,k,S',er.mono z1,z2,e,λb H' q=>hq b H' (q.after z1)]
 ·rename_i S1 h1;cases e;refine#[A,ρ,S,false,_,er,so,h1,λb H1 #[z0,A1,z1,z2]=>?_]
  subst z0;rw[Ix HU];exact hq _ _ #[rfl,A1,z1,z2]
 ·cases e
theorem zB {f g:FT}{σ:L2.St}{H:Hp}{A:Hm Hx}{ρ:Fm}{S:aa}{k:HV}{S':aa}(er:EnvRel X.K A H ρ σ)(so:StoreOk X.w X.K A H S)(e:Eo f g ρ S=gV (k,S'))(Q:HV->Hp->Prop)(hq:∀b H',EndB X A H S' k b H'->Q b H') :
  G1 (tT X f) (tT X g) σ H Q:=by
 unfold Eo at e;split at e
 ·rename_i S1 h1;cases e;refine#[A,ρ,S,true,_,er,so,h1,λb H1 #[z0,A1,z1,z2]=>?_]
  subst z0;rw[HW rfl];exact hq _ _ #[rfl,A1,z1,z2]
 ·rename_i S1 h1;refine#[A,ρ,S,false,S1,er,so,h1,λb H1 #[z0,A1,z1,z2]=>?_]
  subst z0;rw[Ix HU];exact#[A1,ρ,S1,k,S',er.mono z1,z2,e,λb H' q=>hq b H' (q.after z1)]
 ·cases e
theorem zC {a:HS}{pos:JW}{f:FT}(h:GT X a f):GW X (.BoolOp .And [a] pos) f:=yz h
theorem Cy {a:HS}{pos:JW}{f:FT}(h:GT X a f):GW X (.BoolOp .Or [a] pos) f:=BM h
theorem Cz {a b:HS}{r:Hm HS}{pos:JW}{f g:FT}(h:GT X a f)(h2:GW X (.BoolOp .And (b::r) pos) g):GW X (.BoolOp .And (a::b::r) pos) (wm f g):=
 GW.of (BN h h2) λσ H A ρ S k S' er so e Q hq=>wn er so e Q hq
theorem Er {a b:HS}{r:Hm HS}{pos:JW}{f g:FT}(h:GT X a f)(h2:GW X (.BoolOp .Or (b::r) pos) g):GW X (.BoolOp .Or (a::b::r) pos) (Eo f g):=
 GW.of (DK h h2) λσ H A ρ S k S' er so e Q hq=>zB er so e Q hq
theorem CA {a:HS}{pos:JW}{f:FT}(h:GT X a f):GT X (.UnaryOp .Not a pos) (zA f):=
 GT.of (BO h) λσ H A ρ S k S' er so e Q hq=>by
  unfold zA at e;split at e
  ·rename_i k1 S1 h1;cases e;refine#[A,ρ,S,k1,_,er,so,h1,λb H1 #[z0,A1,z1,z2]=>?_]
   subst z0;exact hq _ _ #[rfl,A1,z1,z2]
  ·cases e
noncomputable def sE (f g:FE):FE:=λρ S=>match f ρ S with
 | some (.bl true,S1)=>g ρ S1
 | some (.bl false,S1)=>gV (.bl false,S1)
 | _=>td
noncomputable def zD (f g:FE):FE:=λρ S=>match f ρ S with
 | some (.bl true,S1)=>gV (.bl true,S1)
 | some (.bl false,S1)=>g ρ S1
 | _=>td
noncomputable def sF (f:FE):FE:=λρ S=>match f ρ S with
 | some (.bl k,S1)=>gV (.bl (!k),S1)
 | _=>td
theorem CB {a:HS}{op:Pi}{pos:JW}{f:FE}(h:GE X a f):GE X (.BoolOp op [a] pos) f:=BP h
theorem CC {a b:HS}{r:Hm HS}{pos:JW}{f g:FE}(h:GE X a f)(h2:GE X (.BoolOp .And (b::r) pos) g):GE X (.BoolOp .And (a::b::r) pos) (sE f g):=
 GE.of (BQ h h2) λσ H A ρ S w S' er so e Q hq=>by
  unfold sE at e;split at e
  ·rename_i S1 h1;refine#[A,ρ,S,_,S1,er,so,h1,λv H1 #[A1,z1,z2,z3]=>?_]
   cases z3;refine#[true,rfl,?_];rw[HW rfl];exact#[A1,ρ,S1,w,S',er.mono z1,z2,e,λb H' q=>hq b H' (q.after z1)]
  ·rename_i S1 h1;cases e;refine#[A,ρ,S,_,_,er,so,h1,λv H1 #[A1,z1,z2,z3]=>?_]
   cases z3;refine#[false,rfl,?_];rw[Ix HU];exact hq _ _ #[A1,z1,z2,.bl]
  ·cases e
theorem Et {a b:HS}{r:Hm HS}{pos:JW}{f g:FE}(h:GE X a f)(h2:GE X (.BoolOp .Or (b::r) pos) g):GE X (.BoolOp .Or (a::b::r) pos) (zD f g):=
 GE.of (DN h h2) λσ H A ρ S w S' er so e Q hq=>by
  unfold zD at e;split at e
  ·rename_i S1 h1;cases e;refine#[A,ρ,S,_,_,er,so,h1,λv H1 #[A1,z1,z2,z3]=>?_]
   cases z3;refine#[true,rfl,?_];rw[HW rfl];exact hq _ _ #[A1,z1,z2,.bl]
  ·rename_i S1 h1;refine#[A,ρ,S,_,S1,er,so,h1,λv H1 #[A1,z1,z2,z3]=>?_]
   cases z3;refine#[false,rfl,?_];rw[Ix HU];exact#[A1,ρ,S1,w,S',er.mono z1,z2,e,λb H' q=>hq b H' (q.after z1)]
  ·cases e
theorem CD {a:HS}{pos:JW}{f:FE}(h:GE X a f):GE X (.UnaryOp .Not a pos) (sF f):=
 GE.of (BR h) λσ H A ρ S w S' er so e Q hq=>by
  unfold sF at e;split at e
  ·rename_i k1 S1 h1;cases e;refine#[A,ρ,S,_,_,er,so,h1,λb H1 #[A1,z1,z2,z3]=>?_]
   cases z3;exact#[_,rfl,hq _ _ #[A1,z1,z2,.bl]]
  ·cases e
noncomputable def zE (c:FT)(f g:FE):FE:=λρ S=>match c ρ S with
 | some (true,S1)=>f ρ S1
 | some (false,S1)=>g ρ S1
 | none=>td
theorem CF {c a b:HS}{pos:JW}{fc:FT}{f g:FE}(hc:GT X c fc)(ha:GE X a f)(hb:GE X b g):GE X (.IfExp c a b pos) (zE fc f g):=
 GE.of (vh hc ha hb) λσ H A ρ S w S' er so e Q hq=>by
  unfold zE at e;split at e
  ·rename_i S1 h1;refine#[A,ρ,S,_,S1,er,so,h1,λb H1 #[z0,A1,z1,z2]=>?_]
   subst z0;rw[HW rfl];exact#[A1,ρ,S1,w,S',er.mono z1,z2,e,λb H' q=>hq b H' (q.after z1)]
  ·rename_i S1 h1;refine#[A,ρ,S,_,S1,er,so,h1,λb H1 #[z0,A1,z1,z2]=>?_]
   subst z0;rw[Ix HU];exact#[A1,ρ,S1,w,S',er.mono z1,z2,e,λb H' q=>hq b H' (q.after z1)]
  ·cases e
noncomputable def iz:FA:=λ_ S=>gV ([],S)
noncomputable def dU (f:FE)(g:FA):FA:=λρ S=>match f ρ S with
 | some (w,S1)=>match g ρ S1 with
  | some (ws,S2)=>gV (w::ws,S2)
  | none=>td
 | none=>td
theorem CG:GA X [] iz:=GA.of vw λσ H A ρ S ws S' er so e Q hq=>by cases e; exact hq _ _ #[A,.refl,so,.nil]
theorem zF {e:HS}{es:Hm HS}{f:FE}{g:FA}(h:GE X e f)(h2:GA X es g)(hs:starEach (e::es) X.env=(false,eval e X.env)::starEach es X.env):GA X (e::es) (dU f g):=
 GA.of (nu h h2 hs) λσ H A ρ S ws S' er so e Q hq=>by
  unfold dU at e;split at e
  ·rename_i w S1 h1;split at e
   ·rename_i ws2 S2 h2;cases e;refine#[A,ρ,S,w,S1,er,so,h1,λv H1 #[A1,z1,z2,z3]=>?_]
    refine#[A1,ρ,S1,ws2,_,er.mono z1,z2,h2,λvs H2 #[A2,y1,y2,y3]=>?_]
    exact hq _ _ #[A2,z1.trans y1,y2,.cons (z3.mono y1) y3]
   ·cases e
  ·cases e
noncomputable def wo (f:FA):FE:=λρ S=>match f ρ S with
 | some (ws,S1)=>re S1 ws
 | none=>td
noncomputable def wp (f:FA):FE:=λρ S=>match f ρ S with
 | some (ws,S1)=>lI S1 ws
 | none=>td
theorem wq {es:Hm HS}{k:Hu}{pos:JW}{f:FA}(h:GA X es f):GE X (.Tuple es k pos) (wo f):=
 GE.of (Cf h) λσ H A ρ S w S' er so e Q hq=>by
  unfold wo at e;split at e
  ·rename_i ws S1 h1;obtain⟨hl,rfl,rfl⟩:=sh e;refine#[A,ρ,S,ws,_,er,so,h1,λvs H1 #[A1,z1,z2,z3]=>#[by rw[<- z3.length]; exact hl,λp hp=>?_]]
   exact hq _ _ (EndV.after z1 (.tup z2 z3 hp))
  ·cases e
theorem wt {es:Hm HS}{pos:JW}{f:FA}(h:GA X es f):GE X (.List es pos) (wp f):=
 GE.of (Cg h) λσ H A ρ S w S' er so e Q hq=>by
  unfold wp at e;split at e
  ·rename_i ws S1 h1;obtain⟨hl,rfl,rfl⟩:=j4 e;refine#[A,ρ,S,ws,_,er,so,h1,λvs H1 #[A1,z1,z2,z3]=>#[by rw[<- z3.length]; exact hl,λp hp=>?_]]
   exact hq _ _ (EndV.after z1 (.lst z2 z3 hp))
  ·cases e
noncomputable def jK (g:Hm W->aa->Ht (W×aa))(f:FA):FE:=λρ S=>match f ρ S with
 | some (ws,S1)=>g ws S1
 | none=>td
theorem LCall.callr {v:Ho}{g:Hm W->aa->Ht (W×aa)}(h:LCall X v g):CallR X v (λvs H Q=>∃A S ws w S',StoreOk X.w X.K A H S/\RelL X.K A H ws vs/\g ws S=gV (w,S')/\∀v H',EndV X.w X.K A H S' w v H'->Q v H'):=by
 intro pins s σ H vs us Q I rv ⟨A,S,ws,w,S',so,rl,e,hq⟩;exact cg (h pins s σ H A S ws vs us w S' I so rl rv e) λu' s' #[v',H',A',I',r',e1,o1,z1]=>#[v',H',I',r',hq v' H' #[A',e1,o1,z1]]
theorem mI {g:Hm W->aa->Ht (W×aa)}{f:FA}{σ:L2.St}{H:Hp}{A:Hm Hx}{ρ:Fm}{S:aa}{w:W}{S':aa}(er:EnvRel X.K A H ρ σ)(so:StoreOk X.w X.K A H S)(e:jK g f ρ S=gV (w,S'))(Q:VK)(hq:∀v H',EndV X.w X.K A H S' w v H'->Q v H') :
  tA X f σ H λvs H1=>∃A S ws w S',StoreOk X.w X.K A H1 S/\RelL X.K A H1 ws vs/\g ws S=gV (w,S')/\∀v H',EndV X.w X.K A H1 S' w v H'->Q v H':=by
 unfold jK at e;split at e
 ·rename_i ws S1 h1;exact#[A,ρ,S,ws,S1,er,so,h1,λvs H1 #[A1,z1,z2,z3]=>#[A1,S1,ws,w,S',z2,z3,e,λv H' q=>hq v H' (q.after z1)]]
 ·cases e
theorem sG {id:IX}{x:HL}{e:HS}{es:Hm HS}{p pos:JW}{f:FA}{g:Hm W->aa->Ht (W×aa)}(hc:LCall X (.builtin id) g)(hg:Gl X x)(hm:X.mg x=td)(hv:bootBuiltins x=gV (.builtin id))(ha:GA X (e::es) f)
  (hn:x≠"__name__") (hdb:(x==("__debug__" : HL))=false) (hs:starEach (e::es) X.env=(false,eval e X.env)::starEach es X.env) (hpl:(backTo pos (starEach es X.env)).any (·.1)=false):GE X (.Call (.Name x p) (e::es) [] pos) (jK g f):=
 GE.of (pe hc.callr hg hm hv ha hn hdb hs hpl) λσ H A ρ S w S' er so e Q hq=>mI er so e Q hq
theorem sH {id:IX}{x:HL}{e:HS}{es:Hm HS}{p pos:JW}{f:FA}{g:Hm W->aa->Ht (W×aa)}(hc:LCall X (.type id) g)(hg:Gl X x)(hm:X.mg x=td)(hv:bootBuiltins x=gV (.type id))(ha:GA X (e::es) f)
  (hn:x≠"__name__") (hdb:(x==("__debug__" : HL))=false) (hs:starEach (e::es) X.env=(false,eval e X.env)::starEach es X.env) (hpl:(backTo pos (starEach es X.env)).any (·.1)=false):GE X (.Call (.Name x p) (e::es) [] pos) (jK g f):=
 GE.of (tX hc.callr hg hm hv ha hn hdb hs hpl) λσ H A ρ S w S' er so e Q hq=>mI er so e Q hq
end
noncomputable def tyOk (T:IX)(S:aa):W->HV
 | .str _=>T == "str"
 | .ref i=>(T == "list" && (gX S i).isSome)||(T == "dict" && (jS S i).isSome)
 | _=>false
noncomputable def DC (T:IX)(g:W->Hm W->aa->Ht (W×aa))(fo:FE)(f:FA):FE:=λρ S=>match fo ρ S with
 | some (x,S1)=>if tyOk T S1 x then match f ρ S1 with
  | some (ws,S2)=>g x ws S2
  | none=>td
  else td
 | none=>td
noncomputable def Gp (fa fb:FE):FE:=zy lK fa fb
noncomputable abbrev FO:=Fm->aa->Ht (Ht HF×aa)
noncomputable def CH:FO:=λ_ S=>gV (td,S)
noncomputable def sI (f:FE):FO:=λρ S=>match f ρ S with
 | some (.int i,S1)=>gV (gV i,S1)
 | _=>td
noncomputable def Eu (fa:FE)(fl fh:FO):FE:=λρ S=>match fa ρ S with
 | some (x,S1)=>match fl ρ S1 with
  | some (lo,S2)=>match fh ρ S2 with
   | some (hi,S3)=>lF x lo hi S3
   | none=>td
  | none=>td
 | none=>td
section
variable{X:Cx}
theorem LMeth.mtr {id:IX}{g:W->Hm W->aa->Ht (W×aa)}(h:LMeth X id g):MtR X id (λa vs H Q=>∃A S x ws w S',StoreOk X.w X.K A H S/\Rel X.K A H x a/\RelL X.K A H ws vs/\g x ws S=gV (w,S')/\∀v H',EndV X.w X.K A H S' w v H'->Q v H'):=by
 intro pins s σ H a vs u us Q I ru rv ⟨A,S,x,ws,w,S',so,rx,rl,e,hq⟩;exact cg (h pins s σ H A S x a u ws vs us w S' I so rx ru rl rv e) λu' s' #[v',H',A',I',r',e1,o1,z1]=>#[v',H',I',r',hq v' H' #[A',e1,o1,z1]]
theorem tyOk.is {pins:Hm (Hx×Jn)}{σ:L2.St}{s:Hr}{A:Hm Hx}{H:Hp}{S:aa}{T:IX}{x:W}{a:V}{v:Ho}(I:Inv X pins σ H s)(so:StoreOk X.w X.K A H S)(r:Rel X.K A H x a)(rv:RelV a v)(h:tyOk T S x=true) :
  s.TypeIs v T/\∀b,v=.ref b->∃ob,s.heap.get? b=gV ob/\ob.dict=td:=by
 cases r with
 | str=>exact vF I rv (show Gh X.K T (.str _) H from eq_of_beq h)
 | ref ea=>
  simp only[tyOk,JK,Hw]at h;rcases h with⟨h1,h2⟩|⟨h1,h2⟩
  ·obtain⟨xs,hx⟩:=IM.mp h2;obtain⟨vs,h3,_⟩:=cZ so hx ea;exact vF I rv (show Gh X.K T (.ref _) H from .inl #[eq_of_beq h1,vs,h3])
  ·obtain⟨kvs,hx⟩:=IM.mp h2;obtain⟨xs,rd,_⟩:=fU so hx ea;obtain⟨_,_,_,o,es,ep,q1,q2,q3,q4⟩:=cR I rd;have e:=eq_of_beq h1;subst e;obtain rfl:v=IA _:=rv;exact#[#[o,q1,q2.1],λb e=>by cases e; exact#[o,q1,q2.2.1]]
 | _=>cases h
theorem pQ {o e:HS}{es:Hm HS}{name:HL}{apos cpos:JW}{T id:IX}{g:W->Hm W->aa->Ht (W×aa)}{fo:FE}{f:FA}(pa:PlainAttrs T)(slot:Slot T name id)(hty:typeOf (.builtin id)=pure (.type "method_descriptor"))(hm:LMeth X id g)
  (ho:GE X o fo) (ha:GA X (e::es) f) (hbase:attributeBase o name X.env (eval o X.env)=eval o X.env)
  (hfew:((backTo cpos (starEach (e::es) X.env)).all (λx=>!x.1)&&(backToKw cpos (keywordEach [] X.env)).all (λx=>x.1.isSome)
   && decide ((e::es).length+([]:Hm N1).length+(if ([]:Hm N1).isEmpty then 0 else 1) < 30))=true)
  (hline:(apos.endLine==cpos.line)=true) (hs:starEach (e::es) X.env=(false,eval e X.env)::starEach es X.env) (hplain:(backTo cpos (starEach es X.env)).any (·.1)=false) :
  GE X (.Call (.Attribute o name apos) (e::es) [] cpos) (DC T g fo f):=by
 intro pins s σ H Q I ⟨A,ρ,S,w,S',er,so,e,hq⟩;unfold DC at e;split at e
 ·rename_i x S1 h1;split at e
  ·rename_i ht;split at e
   ·rename_i ws S2 h2;refine wpAny_Call_method_late hbase hfew hline rfl (cg (ho pins s σ H (EndV X.w X.K A H S1 x) I #[A,ρ,S,_,_,er,so,h1,λ_ _ z=>z]) λv s1 #[a,H1,I1,r1,A1,e1,o1,z1]=>?_)
    obtain⟨t1,t2⟩:=tyOk.is I1 o1 z1 r1 ht;refine#[T,id,pa,slot,hty,t1,t2,?_];have hA:=ha cpos pins s1 σ H1 (Cu X A1 H1 S2 ws) I1 #[A1,ρ,S1,ws,S2,er.mono e1,o1,h2,λ_ _ z=>z]
    rw[hs]at hA ⊢;refine Calls.callWith_builtin (by show(false||(backTo cpos (starEach es X.env)).any (·.1))=false; rw[hplain] <;> rfl) (Calls.evalArgs_plain ?_)
    refine cg hA λus s2 #[vs,H2,I2,r2,A2,e2,o2,z2]=>?_
    refine cg (hm pins s2 σ H2 A2 S2 x a v ws vs us w S' I2 o2 (z1.mono e2) r1 z2 r2 e) λu' s' #[v',H',A',I',r',e3,o3,z3]=>?_
    exact#[v',H',I',r',hq v' H' #[A',(e1.trans e2).trans e3,o3,z3]]
   ·cases e
  ·cases e
 ·cases e
theorem LIx.ixr {g:W->W->aa->Ht (W×aa)}(h:LIx X g):IxR X (λa b H Q=>∃A S x y w S',StoreOk X.w X.K A H S/\Rel X.K A H x a/\Rel X.K A H y b/\g x y S=gV (w,S')/\∀v H',EndV X.w X.K A H S' w v H'->Q v H'):=by
 intro value slice pins s σ H a b u v Q I ru rv ⟨A,S,x,y,w,S',so,rx,ry,e,hq⟩ hs;exact cg (h value slice pins s σ H A S x y a b u v w S' I so rx ru ry rv e hs) λu' s' #[v',H',A',I',r',e1,o1,z1]=>#[v',H',I',r',hq v' H' #[A',e1,o1,z1]]
theorem Ev {a b:HS}{pos:JW}{fa fb:FE}(hu:X.A.units+10 < cLine)(ha:GE X a fa)(hb:GE X b fb)(hs:ny b):GE X (.Subscript a b pos) (Gp fa fb):=
 GE.of (Eg (Gn hu).ixr ha hb hs) λσ H A ρ S w S' er so e Q hq=>by
  obtain⟨x,S1,y,S2,h1,h2,h3⟩:=Fz e;exact iy er so h1 h2 λa b H2 A2 e2 o2 r1 r2=>#[A2,S2,x,y,w,S',o2,r1,r2,h3,λv H' z=>hq v H' (z.after e2)]
noncomputable def tO (X:Cx)(f:FO):TO:=λσ H Q=>∃A ρ S k S',EnvRel X.K A H ρ σ/\StoreOk X.w X.K A H S/\f ρ S=gV (k,S')/\∀H' A',Ext X.K A H A' H'->StoreOk X.w X.K A' H' S'->Q k H'
noncomputable abbrev GO (X:Cx)(e:Ht HS)(f:FO):Prop:=PO X e (tO X f)
theorem zG:GO X td CH:=λpins s σ H Q I #[A,ρ,S,k,S',er,so,e,hq]=>by
 cases e;exact yN pins s σ H Q I (hq H A .refl so)
theorem zH {e:HS}{f:FE}(h:GE X e f):GO X (gV e) (sI f):=λpins s σ H Q I #[A,ρ,S,k,S',er,so,e,hq]=>by
 unfold sI at e;split at e
 ·rename_i i S1 h1;cases e;refine yO h pins s σ H Q I #[A,ρ,S,_,_,er,so,h1,λv H1 #[A1,z1,z2,z3]=>?_]
  cases z3;exact#[i,rfl,hq H1 A1 z1 z2]
 ·cases e
theorem LSl.slr {g:W->Ht HF->Ht HF->aa->Ht (W×aa)}(h:LSl X g):Ef X (λa lo hi H Q=>∃A S x w S',StoreOk X.w X.K A H S/\Rel X.K A H x a/\g x lo hi S=gV (w,S')/\∀v H',EndV X.w X.K A H S' w v H'->Q v H'):=by
 intro pins s σ H a v vl vu lo hi sl Q I rv hs pl pu ⟨A,S,x,w,S',so,rx,e,hq⟩;obtain⟨T,id,h1,h2,h3⟩:=h pins s σ H A S x a v vl vu lo hi sl w S' I so rx rv hs pl pu e;exact#[T,id,h1,h2,cg h3 λu' s' #[v',H',A',I',r',e1,o1,z1]=>#[v',H',I',r',hq v' H' #[A',e1,o1,z1]]]
theorem Ew {a:HS}{lo hi:Ht HS}{p2 pos:JW}{fa:FE}{fl fh:FO}(ha:GE X a fa)(hl:GO X lo fl)(hh:GO X hi fh):GE X (.Subscript a (.Slice lo hi td p2) pos) (Eu fa fl fh):=
 GE.of (vC Hh.slr ha hl hh) λσ H A ρ S w S' er so e Q hq=>by
  unfold Eu at e;split at e
  ·rename_i x S1 h1;split at e
   ·rename_i l S2 h2;split at e
    ·rename_i h S3 h3;refine#[A,ρ,S,x,S1,er,so,h1,λv H1 #[A1,z1,z2,z3]=>?_]
     refine#[A1,ρ,S1,l,S2,er.mono z1,z2,h2,λH2 A2 y1 y2=>?_]
     refine#[A2,ρ,S2,h,S3,er.mono (z1.trans y1),y2,h3,λH3 A3 x1 x2=>?_]
     exact#[A3,S3,x,w,S',x2,(z3.mono y1).mono x1,e,λv H' q=>hq v H' (q.after ((z1.trans y1).trans x1))]
    ·cases e
   ·cases e
  ·cases e
noncomputable abbrev FF:=Hm W->aa->Ht (W×aa)
noncomputable def wu (wd:Iw)(K:HC)(n:Hu)(g:FF):Sp:=λvs H Q _=>∃A S ws w S',StoreOk wd K A H S/\RelL K A H ws vs/\ws.length=n/\g ws S=gV (w,S')/\∀v H',EndV wd K A H S' w v H'->Q v H'
noncomputable def pR (n:Hu)(g:FF)(f:FA):FE:=λρ S=>match f ρ S with
 | some (ws,S1)=>if ws.length=n then g ws S1 else td
 | none=>td
theorem pS {n:Hu}{g:FF}{f:FA}{σ:L2.St}{H:Hp}{A:Hm Hx}{ρ:Fm}{S:aa}{w:W}{S':aa}{E:XK}(er:EnvRel X.K A H ρ σ)(so:StoreOk X.w X.K A H S)(e:pR n g f ρ S=gV (w,S'))(Q:VK)(hq:∀v H',EndV X.w X.K A H S' w v H'->Q v H') :
  vy (wu X.w X.K n g) [] E (tA X f) σ H Q:=by
 unfold pR at e;split at e
 ·rename_i ws S1 h1;split at e
  ·rename_i hl;refine#[A,ρ,S,ws,S1,er,so,h1,λvs H1 #[A1,z1,z2,z3]=>?_]
   show wu X.w X.K n g (vs++[]) H1 Q E;rw[IZ];exact#[A1,S1,ws,w,S',z2,z3,hl,e,λv H' q=>hq v H' (q.after z1)]
  ·cases e
 ·cases e
theorem CI {k n:Hu}{fa:Hx}{fd:JU}{ps:Hm HL}{g:FF}{x:HL}{e:HS}{es:Hm HS}{p pos:JW}{f:FA}(F:FnOk X.prog X.w X.K X.mg X.base u9 k fa fd ps (wu X.w X.K n g))(hr:Room k X.A)(hg:Gl X x)(hm:X.mg x=gV (.ref fa))(hk:Jd X.K (.ref fa)=true)
  (hb:Binds X.K fd ps []) (ha:GA X (e::es) f) (hdb:(x==("__debug__" : HL))=false) (he:starEach (e::es) X.env=(false,eval e X.env)::starEach es X.env) (hpl:(backTo pos (starEach es X.env)).any (·.1)=false) :
  GE X (.Call (.Name x p) (e::es) [] pos) (pR n g f):=
 GE.of (yK F hr hg hm hk hb .nil Be ha hdb he hpl) λσ H A ρ S w S' er so e Q hq=>pS er so e Q hq
theorem zI {k n:Hu}{fa:Hx}{fd:JU}{ps:Hm HL}{g:FF}{x:HL}{p pos:JW}(F:FnOk X.prog X.w X.K X.mg X.base u9 k fa fd ps (wu X.w X.K n g))(hr:Room k X.A)(hg:Gl X x)(hm:X.mg x=gV (.ref fa))(hk:Jd X.K (.ref fa)=true)
  (hb:Binds X.K fd ps []) (hdb:(x==("__debug__" : HL))=false):GE X (.Call (.Name x p) [] [] pos) (pR n g iz):=
 GE.of (vA F hr hg hm hk hb .nil Be hdb) λσ H A ρ S w S' er so e Q hq=>by
  obtain⟨A1,S1,ws,w1,S1',a1,a2,a3,a4,a5⟩:=pS (f:=iz) (E:=E0) er so e Q hq |> λ#[A,ρ,S,ws,S',b1,b2,b3,b4]=>b4 [] H (by cases b3; exact#[A,.refl,b2,.nil])
  exact#[A1,S1,ws,w1,S1',a1,a2,a3,a4,a5]
theorem zJ:GSs X [] (λρ S=>gV (.nx ρ,S)):=GSs.of yA λσ H A ρ S o S' er so e D hd=>by cases e; exact hd.nx _ _ #[ρ,A,rfl,.refl,so,er]
noncomputable def zK (f g:FS):FS:=λρ S=>match f ρ S with
 | some (.nx ρ',S1)=>g ρ' S1
 | some (.rt w,S1)=>gV (.rt w,S1)
 | some (.bk ρ',S1)=>gV (.bk ρ',S1)
 | some (.ct ρ',S1)=>gV (.ct ρ',S1)
 | none=>td
theorem ww {st:J8}{sts:Hm J8}{f g:FS}(h:GS X st f)(h2:GSs X sts g):GSs X (st::sts) (zK f g):=GSs.of (vm h h2) λσ H A ρ S o S' er so e D hd=>by
 unfold zK at e;split at e
 ·rename_i ρ1 S1 h1;refine#[A,ρ,S,_,_,er,so,h1,#[λσ' H' #[ρ',A',e1,e2,e3,e4]=>?_,λv H' #[w,A',e1,_]=>(by cases e1),λv H' #[w,A',e1,_]=>(by cases e1),λv H' #[w,A',e1,_]=>(by cases e1)]]
  cases e1;exact#[A',_,S1,o,S',e4,e3,e,(EndS.after e2).trans hd]
 ·rename_i w S1 h1;cases e;exact#[A,ρ,S,_,_,er,so,h1,#[λσ' H' #[w,A',e1,_]=>(by cases e1),hd.rt,hd.bk,hd.ct]]
 ·rename_i w S1 h1;cases e;exact#[A,ρ,S,_,_,er,so,h1,#[λσ' H' #[w,A',e1,_]=>(by cases e1),hd.rt,hd.bk,hd.ct]]
 ·rename_i w S1 h1;cases e;exact#[A,ρ,S,_,_,er,so,h1,#[λσ' H' #[w,A',e1,_]=>(by cases e1),hd.rt,hd.bk,hd.ct]]
 ·cases e
noncomputable def zL (f:FE):FS:=λρ S=>match f ρ S with
 | some (_,S1)=>gV (.nx ρ,S1)
 | none=>td
theorem Ex {e:HS}{pos:JW}{f:FE}(h:GE X e f)(hs:swapsWith e td pos.line X.env=pure false):GS X (.Expr e pos) (zL f):=GS.of (yC h hs) λσ H A ρ S o S' er so e D hd=>by
 unfold zL at e;split at e
 ·rename_i w S1 h1;cases e;exact#[A,ρ,S,w,_,er,so,h1,λv H1 #[A1,z1,z2,z3]=>hd.nx _ _ #[ρ,A1,rfl,z1,z2,er.mono z1]]
 ·cases e
noncomputable def wx:FS:=λρ S=>gV (.nx ρ,S)
theorem CJ {x:HL}{j:Hu}{pos pos':JW}:GS X (.Expr (.Constant (.str x) j pos) pos') wx:=GS.of BU λσ H A ρ S o S' er so e D hd=>by cases e; exact hd.nx _ _ #[ρ,A,rfl,.refl,so,er]
theorem zM {pos:JW}:GS X (.Pass pos) wx:=GS.of yB λσ H A ρ S o S' er so e D hd=>by cases e; exact hd.nx _ _ #[ρ,A,rfl,.refl,so,er]
theorem wy {pos:JW}:GS X (.Break pos) (λρ S=>gV (.bk ρ,S)):=GS.of vn λσ H A ρ S o S' er so e D hd=>by cases e; exact hd.bk _ _ #[ρ,A,rfl,.refl,so,er]
theorem zN {pos:JW}:GS X (.Continue pos) (λρ S=>gV (.ct ρ,S)):=GS.of pb λσ H A ρ S o S' er so e D hd=>by cases e; exact hd.ct _ _ #[ρ,A,rfl,.refl,so,er]
noncomputable def zO (f:FE):FS:=λρ S=>match f ρ S with
 | some (w,S1)=>gV (.rt w,S1)
 | none=>td
theorem CK {e:HS}{pos:JW}{f:FE}(h:GE X e f):GS X (.Return (gV e) pos) (zO f):=GS.of (BV h) λσ H A ρ S o S' er so e D hd=>by
 unfold zO at e;split at e
 ·rename_i w S1 h1;cases e;exact#[A,ρ,S,w,_,er,so,h1,λv H1 #[A1,z1,z2,z3]=>hd.rt _ _ #[w,A1,rfl,z1,z2,z3]]
 ·cases e
theorem zP {pos:JW}:GS X (.Return td pos) (λρ S=>gV (.rt .non,S)):=GS.of yD λσ H A ρ S o S' er so e D hd=>by cases e; exact hd.rt _ _ #[_,A,rfl,.refl,so,.non]
noncomputable def zQ (c:FT)(f g:FS):FS:=λρ S=>match c ρ S with
 | some (true,S1)=>f ρ S1
 | some (false,S1)=>g ρ S1
 | none=>td
theorem Ey {c:HS}{a b:Hm J8}{pos:JW}{fc:FT}{f g:FS}(hc:GT X c fc)(ha:GSs X a f)(hb:GSs X b g):GS X (.If c a b pos) (zQ fc f g):=GS.of (DR hc ha hb) λσ H A ρ S o S' er so e D hd=>by
 unfold zQ at e;split at e
 ·rename_i S1 h1;refine#[A,ρ,S,_,S1,er,so,h1,λb H1 #[z0,A1,z1,z2]=>?_]
  subst z0;rw[HW rfl];exact#[A1,ρ,S1,o,S',er.mono z1,z2,e,(EndS.after z1).trans hd]
 ·rename_i S1 h1;refine#[A,ρ,S,_,S1,er,so,h1,λb H1 #[z0,A1,z1,z2]=>?_]
  subst z0;rw[Ix HU];exact#[A1,ρ,S1,o,S',er.mono z1,z2,e,(EndS.after z1).trans hd]
 ·cases e
noncomputable abbrev FG:=W->Fm->aa->Ht (Fm×aa)
noncomputable def tG (X:Cx)(f:FG):TG:=λv σ H Q=>∃A ρ S w ρ' S',EnvRel X.K A H ρ σ/\StoreOk X.w X.K A H S/\Rel X.K A H w v/\f w ρ S=gV (ρ',S')/\∀σ' H' A',Ext X.K A H A' H'->StoreOk X.w X.K A' H' S'->EnvRel X.K A' H' ρ' σ'->Q σ' H'
noncomputable abbrev GG (X:Cx)(tg:HS)(f:FG):Prop:=PG X tg (tG X f)
noncomputable def zR (i:Hu):FG:=λw ρ S=>gV (ρ.set i (gV w),S)
theorem sJ {i:Hu}{x:HL}{pos:JW}(hN:X.N.Nodup)(hi:X.N[i]?=gV x)(hx:yw X.env.scope x)(hf:X.fn x=true\/X.env.scope.names.lookup x=gV .local):GG X (.Name x pos) (zR i):=by
 intro pins s σ H v u Q I r ⟨A,ρ,S,w,ρ',S',er,so,rw',e,hq⟩;cases e;exact r8 hN hi hx hf pins s σ H v u Q I r (hq _ _ A .refl so (er.set rw' i))
noncomputable def dv:Hm Hu->Hm W->Fm->Ht Fm
 | [],[],ρ=>gV ρ
 | i::is,w::ws,ρ=>dv is ws (ρ.set i (gV w))
 | _,_,_=>td
noncomputable def DD (is:Hm Hu):FG:=λw ρ S=>match w with
 | .tup ws=>(dv is ws ρ).map λρ'=>(ρ',S)
 | _=>td
theorem uA:∀ {ts:Hm HS} {is:Hm Hu},(∀x∈ts,∃y p,x=.Name y p)->LW (λ(t:HS) (i:Hu)=>∃x p,t=MG x p/\X.N[i]?=gV x/\yw X.env.scope x/\(X.fn x=true\/X.env.scope.names.lookup x=gV .local)) ts is->X.N.Nodup->
  DS X ts (λvs σ H Q=>∃A ρ ws ρ' S,EnvRel X.K A H ρ σ/\StoreOk X.w X.K A H S/\RelL X.K A H ws vs/\dv is ws ρ=gV ρ'/\∀σ',EnvRel X.K A H ρ' σ'->Q σ' H):=by
 intro ts
 induction ts with
 | nil=>
  intro is _ h hN;cases h;intro pins s σ H vs us Q I r ⟨A,ρ,ws,ρ',S,er,so,rl,e,hq⟩;cases rl with
  | nil=>cases e; exact yE pins s σ H [] us Q I r #[rfl,hq _ er]
  | cons _ _=>cases e
 | cons t ts ih=>
  intro is hs h hN;cases h with
  | cons h1 h2=>
   obtain⟨x,p,rfl,hi,hl,hf⟩:=h1;have:=ih (λy hy=>hs y (IU _ hy)) h2 hN
   intro pins s σ H vs us Q I r ⟨A,ρ,ws,ρ',S,er,so,rl,e,hq⟩;cases rl with
   | nil=>cases e
   | cons r1 r2=>
    refine vo (r8 hN hi hl hf) this rfl pins s σ H _ us Q I r #[_,_,rfl,?_];exact#[A,_,_,ρ',S,er.set r1 _,so,r2,e,hq]
theorem CL {ts:Hm HS}{is:Hm Hu}{k:Hu}{pos:JW}(hc:X.calm=true)(hs:∀x∈ts,∃y p,x=.Name y p)(h:LW (λ(t:HS) (i:Hu)=>∃x p,t=MG x p/\X.N[i]?=gV x/\yw X.env.scope x/\(X.fn x=true\/X.env.scope.names.lookup x=gV .local)) ts is)(hN:X.N.Nodup)
  (hn:(assignEach ts X.env).length=ts.length) (hst:(assignEach ts X.env).findIdx? (·.1)=td):GG X (.Tuple ts k pos) (DD is):=by
 intro pins s σ H v u Q I r ⟨A,ρ,S,w,ρ',S',er,so,rw',e,hq⟩;unfold DD at e;split at e
 ·rw[Hs]at e;obtain⟨ρ1,e1,e2⟩:=e;cases e2;cases rw' with
  | tup h1 r1=>
   have hl:∀(is:Hm Hu) (ws:Hm W) (ρ ρ':Fm),dv is ws ρ=gV ρ'->is.length=ws.length:=by
    intro is
    induction is with
    | nil=>intro ws ρ ρ' e; cases ws <;> first|rfl|cases e
    | cons i is ih=>intro ws ρ ρ' e; cases ws <;> first|cases e|(simp; exact ih _ _ _ e)
   exact BZ hc (uA hs h hN) hn hst pins s σ H _ u Q I r #[_,_,rfl,h1,by rw[<- r1.length,<- hl _ _ _ _ e1,<- LJ h],A,ρ,_,_,_,er,so,r1,e1,λσ' z=>hq _ _ A .refl so z]
 ·cases e
noncomputable def zS (fo fi:FE):FG:=λw ρ S=>match fo ρ S with
 | some (o,S1)=>match fi ρ S1 with
  | some (i,S2)=>match iu o i w S2 with
   | some S3=>gV (ρ,S3)
   | none=>td
  | none=>td
 | none=>td
theorem LSet.pset {g:W->W->W->aa->Ht aa}(h:LSet X g):BY X (λao ai av H Q=>∃A S o i w S',StoreOk X.w X.K A H S/\Rel X.K A H o ao/\Rel X.K A H i ai/\Rel X.K A H w av/\g o i w S=gV S'/\∀H' A',Ext X.K A H A' H'->StoreOk X.w X.K A' H' S'->Q H'):=by
 intro pins s σ H ao ai av uo ui uv Q I ro ri rv ⟨A,S,o,i,w,S',so,r1,r2,r3,e,hq⟩;exact cg (h pins s σ H A S o i w ao ai av uo ui uv S' I so r1 ro r2 ri r3 rv e) λ_ s' #[H',A',I',e1,o1]=>#[H',I',hq H' A' e1 o1]
theorem CM {o i:HS}{pos:JW}{fo fi:FE}(hu:X.A.units+10 < cLine)(ho:GE X o fo)(hi:GE X i fi)(ha:∀v,assign (.Subscript o i pos) X.env v=(do
   let ov <- holding [v] (eval o X.env)
   let iv <- holding [v,ov] (eval i X.env)
   standAt pos
   holding [v,ov,iv] (setItem ov iv v)
   release [v,ov,iv] [])):GG X (.Subscript o i pos) (zS fo fi):=by
 intro pins s σ H v u Q I r ⟨A,ρ,S,w,ρ',S',er,so,rw',e,hq⟩;unfold zS at e;split at e
 ·rename_i o' S1 h1;split at e
  ·rename_i i' S2 h2;split at e
   ·rename_i S3 h3;cases e;refine B0 ho hi (El hu).pset ha pins s σ H v u Q I r ?_;refine#[A,ρ,S,o',S1,er,so,h1,λa H1 #[A1,e1,o1,r1]=>?_]
    refine#[A1,ρ,S1,i',S2,er.mono e1,o1,h2,λb H2 #[A2,e2,o2,r2]=>?_]
    exact#[A2,S2,o',i',w,_,o2,r1.mono e2,r2,rw'.mono (e1.trans e2),h3,λH' A' z1 z2=>hq σ H' A' ((e1.trans e2).trans z1) z2 (er.mono ((e1.trans e2).trans z1))]
   ·cases e
  ·cases e
 ·cases e
noncomputable def kI (f:FE)(g:FG):FS:=λρ S=>match f ρ S with
 | some (w,S1)=>match g w ρ S1 with
  | some (ρ',S2)=>gV (.nx ρ',S2)
  | none=>td
 | none=>td
theorem rz {tg e:HS}{pos:JW}{f:FE}{g:FG}(h:GE X e f)(hg:GG X tg g)(hs:swapsWithSole [tg] e pos.line X.env=pure false)(hw:swappedStores [tg] e X.env=pure td)(h1:(assignEach [tg] X.env).map (·.2)=[assign tg X.env]) :
  GS X (.Assign [tg] e pos) (kI f g):=GS.of (B1 h hg hs hw h1) λσ H A ρ S o S' er so e D hd=>by
 unfold kI at e;split at e
 ·rename_i w S1 h1;split at e
  ·rename_i ρ1 S2 h2;cases e;refine#[A,ρ,S,w,S1,er,so,h1,λv H1 #[A1,z1,z2,z3]=>?_]
   exact#[A1,ρ,S1,w,ρ1,_,er.mono z1,z2,z3,h2,λσ' H' A' y1 y2 y3=>hd.nx _ _ #[ρ1,A',rfl,z1.trans y1,y2,y3]]
  ·cases e
 ·cases e
noncomputable def zT (i j:Hu)(f:FA):FS:=λρ S=>match f ρ S with
 | some ([x,y],S1)=>gV (.nx ((ρ.set i (gV x)).set j (gV y)),S1)
 | _=>td
theorem CN {i j:Hu}{x y:HL}{a b:HS}{f:FA}{px py pt pos:JW}{kt k2:Hu}{pt2:JW}(hc:X.calm=true)(hN:X.N.Nodup)(hi:X.N[i]?=gV x)(hj:X.N[j]?=gV y)(hij:i≠j)
  (hx:X.env.scope.names.lookup x=gV .local) (hy:X.env.scope.names.lookup y=gV .local) (ha:GA X [a,b] f)
  (hw:swappedStores [.Tuple [.Name x px,.Name y py] kt pt] (.Tuple [a,b] k2 pt2) X.env=pure (gV [x,y]))
  (hs:swapsWithSole [.Tuple [.Name x px,.Name y py] kt pt] (.Tuple [a,b] k2 pt2) pos.line X.env=pure false) :
  GS X (.Assign [.Tuple [.Name x px,.Name y py] kt pt] (.Tuple [a,b] k2 pt2) pos) (zT i j f):=GS.of (B2 hc hN hi hj hij hx hy ha hw hs) λσ H A ρ S o S' er so e D hd=>by
 unfold zT at e;split at e
 ·rename_i x y S1 h1;cases e;refine#[A,ρ,S,_,_,er,so,h1,λvs H1 #[A1,z1,z2,z3]=>?_]
  cases z3 with
  | cons r1 t=>
   cases t with
   | cons r2 t=>
    cases t;exact#[_,_,rfl,hd.nx _ _ #[_,A1,rfl,z1,z2,((er.mono z1).set r1 i).set r2 j]]
 ·cases e
noncomputable def nX (c:FT)(b:FS):Hu->FS
 | 0,_,_=>td
 | n+1,ρ,S=>match c ρ S with
  | some (true,S1)=>match b ρ S1 with
   | some (.nx ρ',S2)=>nX c b n ρ' S2
   | some (.ct ρ',S2)=>nX c b n ρ' S2
   | some (.bk ρ',S2)=>gV (.nx ρ',S2)
   | some (.rt w,S2)=>gV (.rt w,S2)
   | none=>td
  | some (false,S1)=>gV (.nx ρ,S1)
  | none=>td
theorem wz {c:HS}{body:Hm J8}{pos:JW}{fc:FT}{fb:FS}(n:Hu)(hp:ME (model X.prog X.w) X.A X.env X.xe)(hc:GT X c fc)(hb:GSs X body fb):GS X (.While c body [] pos) (nX fc fb n):=GS.of (vp hp hc hb) λσ H A ρ S o S' er so e D hd=>by
 refine#[λm σ1 H1=>∃A1 ρ1 S1,Ext X.K A H A1 H1/\EnvRel X.K A1 H1 ρ1 σ1/\StoreOk X.w X.K A1 H1 S1/\nX fc fb m ρ1 S1=gV (o,S'),#[n,A,ρ,S,.refl,er,so,e],?_]
 rintro m σ1 H1 ⟨A1,ρ1,S1,e1,er1,so1,w1⟩;cases m with
 | zero=>cases w1
 | succ m=>
  simp only[nX]at w1;split at w1
  ·rename_i S2 h1;refine#[A1,ρ1,S1,_,S2,er1,so1,h1,λb H2 #[z0,A2,z1,z2]=>?_]
   subst z0;rw[HW rfl];refine#[λσ3 H3=>∃A3 ρ3 S3,Ext X.K A H A3 H3/\EnvRel X.K A3 H3 ρ3 σ3/\StoreOk X.w X.K A3 H3 S3/\nX fc fb m ρ3 S3=gV (o,S'),λσ' H' h=>#[m,JS _,h],?_]
   split at w1
   ·rename_i ρ3 S3 h3;refine#[A2,ρ1,S2,_,S3,er1.mono z1,z2,h3,#[λσ' H' #[ρ',A',y0,y1,y2,y3]=>?_,λv H' #[w,A',y0,_]=>(by cases y0),λv H' #[w,A',y0,_]=>(by cases y0),λv H' #[w,A',y0,_]=>(by cases y0)]]
    cases y0;exact#[A',_,S3,(e1.trans z1).trans y1,y3,y2,w1]
   ·rename_i ρ3 S3 h3;refine#[A2,ρ1,S2,_,S3,er1.mono z1,z2,h3,#[λv H' #[w,A',y0,_]=>(by cases y0),λv H' #[w,A',y0,_]=>(by cases y0),λv H' #[w,A',y0,_]=>(by cases y0),λσ' H' #[ρ',A',y0,y1,y2,y3]=>?_]]
    cases y0;exact#[A',_,S3,(e1.trans z1).trans y1,y3,y2,w1]
   ·rename_i ρ3 S3 h3;cases w1;refine#[A2,ρ1,S2,_,_,er1.mono z1,z2,h3,#[λv H' #[w,A',y0,_]=>(by cases y0),λv H' #[w,A',y0,_]=>(by cases y0),λσ' H' #[ρ',A',y0,y1,y2,y3]=>?_,λv H' #[w,A',y0,_]=>(by cases y0)]]
    cases y0;exact hd.nx _ _ #[_,A',rfl,(e1.trans z1).trans y1,y2,y3]
   ·rename_i w3 S3 h3;cases w1;refine#[A2,ρ1,S2,_,_,er1.mono z1,z2,h3,#[λv H' #[w,A',y0,_]=>(by cases y0),λv H' #[w,A',y0,y1,y2,y3]=>?_,λv H' #[w,A',y0,_]=>(by cases y0),λv H' #[w,A',y0,_]=>(by cases y0)]]
    cases y0;exact hd.rt _ _ #[_,A',rfl,(e1.trans z1).trans y1,y2,y3]
   ·cases w1
  ·rename_i S2 h1;cases w1;refine#[A1,ρ1,S1,_,_,er1,so1,h1,λb H2 #[z0,A2,z1,z2]=>?_]
   subst z0;rw[Ix HU];exact hd.nx _ _ #[_,A2,rfl,e1.trans z1,z2,er1.mono z1]
  ·cases w1
end
inductive MI where
 | its (ws:Hm W)
 | live (r:Hu)
 | zl (r q:Hu)
noncomputable def Ez (xs ys:Hm W):Hm W:=HM (λx y=>.tup [x,y]) xs ys
noncomputable def MI.at (S:aa)(i:Hu):MI->Ht (Ht W)
 | .its ws=>gV ws[i]?
 | .live r=>match gX S r with
  | some xs=>gV xs[i]?
  | none=>td
 | .zl r q=>match gX S r,gX S q with
  | some xs,gV ys=>gV (Ez xs ys)[i]?
  | _,_=>td
noncomputable def MI.len (S:aa):MI->Ht Hu
 | .its ws=>gV ws.length
 | .live r=>(gX S r).map (·.length)
 | .zl r q=>match gX S r,gX S q with
  | some xs,gV ys=>gV (Ez xs ys).length
  | _,_=>td
noncomputable abbrev FI:=Fm->aa->Ht (MI×aa)
structure MIt (wd:Iw)(K:HC)(mi:MI)(J:It)(A0:Hm Hx)(H0:Hp):Prop where
 go:∀A H S i w,Ext K A0 H0 A H->StoreOk wd K A H S->mi.at S i=gV (gV w)->J.go i H/\∀x H',J.yld i H x H'->Ext K A H A H'/\StoreOk wd K A H' S/\Rel K A H' w x
 stop:∀A H S i,Ext K A0 H0 A H->StoreOk wd K A H S->mi.at S i=gV td->J.stop i H
noncomputable def tI (X:Cx)(f:FI):TI:=λσ H R=>∃A ρ S mi S',EnvRel X.K A H ρ σ/\StoreOk X.w X.K A H S/\f ρ S=gV (mi,S')/\∀J H' A',Ext X.K A H A' H'->StoreOk X.w X.K A' H' S'->MIt X.w X.K mi J A' H'->R J H'
noncomputable abbrev GI (X:Cx)(tg iter:HS)(f:FI):Prop:=PI X tg iter (tI X f)
noncomputable def zU (f:FE):FI:=λρ S=>match f ρ S with
 | some (.tup ws,S1)=>gV (.its ws,S1)
 | some (.ref r,S1)=>match gX S1 r with
  | some _=>gV (.live r,S1)
  | none=>td
 | _=>td
noncomputable def dk (lo:HF)(n:Hu):Hm W:=(HJ n).map λ(k:Hu)=>.int (lo+(k:HF))
noncomputable def rA (f:FA):FI:=λρ S=>match f ρ S with
 | some ([.int j],S1)=>if -(2 ^ 62)<=j/\j < 2 ^ 62 then gV (.its (dk 0 j.toNat),S1)else td
 | _=>td
noncomputable def iRng2 (f:FA):FI:=λρ S=>match f ρ S with
 | some ([.int i,.int j],S1)=>if -(2 ^ 62)<=i/\i < 2 ^ 62/\-(2 ^ 62)<=j/\j < 2 ^ 62 then gV (.its (dk i (j - i).toNat),S1)else td
 | _=>td
noncomputable def fW (mi:MI)(g:FG)(b:FS):Hu->Hu->FS
 | 0,i,ρ,S=>match mi.at S i with
  | some td=>gV (.nx ρ,S)
  | _=>td
 | n+1,i,ρ,S=>match mi.at S i with
  | some (gV w)=>match g w ρ S with
   | some (ρ1,S1)=>match b ρ1 S1 with
    | some (.nx ρ2,S2)=>fW mi g b n (i+1) ρ2 S2
    | some (.ct ρ2,S2)=>fW mi g b n (i+1) ρ2 S2
    | some (.bk ρ2,S2)=>gV (.nx ρ2,S2)
    | some (.rt w,S2)=>gV (.rt w,S2)
    | none=>td
   | none=>td
  | _=>td
noncomputable def wD (fi:FI)(g:FG)(b:FS):FS:=λρ S=>match fi ρ S with
 | some (mi,S1)=>match mi.len S1 with
  | some n=>fW mi g b n 0 ρ S1
  | none=>td
 | none=>td
section
variable{X:Cx}
theorem zV {A:Hm Hx}{H:Hp}{ws:Hm W}{a:Hx}{vs:Hm V}(h:SqT X.K H a vs)(r:RelL X.K A H ws vs):MIt X.w X.K (.its ws) (DA X.K a) A H:=by
 refine#[λA' H' S i w e so hi=>?_,λA' H' S i e so hi=>?_]
 ·simp only[MI.at,IB]at hi;obtain⟨v,h1,h2⟩:=(r.mono e).get hi;refine#[#[vs,v,e.tp _ _ h,h1],λx H2 #[z1,z2]=>?_]
  subst z1;have:=z2 vs (e.tp _ _ h);rw[h1]at this; cases this
  exact#[.refl,so,h2]
 ·simp only[MI.at,IB]at hi;refine#[vs,e.tp _ _ h,?_];rw[<- r.length];exact JC.mp hi
theorem zW {A:Hm Hx}{H:Hp}{r:Hu}{a:Hx}(ea:A[r]?=gV a):MIt X.w X.K (.live r) (F1 X.K a) A H:=by
 refine#[λA' H' S i w e so hi=>?_,λA' H' S i e so hi=>?_]
 ·simp only[MI.at]at hi;split at hi
  ·rename_i xs hx;simp only[IB]at hi;obtain⟨vs,h1,r1⟩:=cZ so hx (e.ad _ _ ea);obtain⟨v,h2,h3⟩:=r1.get hi;refine#[#[vs,v,h1,h2],λx H2 #[z1,z2]=>?_]
   subst z1;have:=z2 vs h1;rw[h2]at this; cases this
   exact#[.refl,so,h3]
  ·cases hi
 ·simp only[MI.at]at hi;split at hi
  ·rename_i xs hx;simp only[IB]at hi;obtain⟨vs,h1,r1⟩:=cZ so hx (e.ad _ _ ea);refine#[vs,h1,?_];rw[<- r1.length];exact JC.mp hi
  ·cases hi
theorem eu {lo:HF}{n i:Hu}:(dk lo n)[i]?=if i < n then gV (.int (lo+i))else td:=by
 unfold dk;rw[Hy]
 by_cases h:i < n
 ·rw[HW h,Jm h]; rfl
 ·rw[Ix h,JC.mpr (by simp; omega)]; rfl
theorem sK {A:Hm Hx}{H:Hp}{lo:HF}{n:Hu}:MIt X.w X.K (.its (dk lo n)) (DV lo n) A H:=by
 refine#[λA' H' S i w e so hi=>?_,λA' H' S i e so hi=>?_]
 ·simp only[MI.at,IB]at hi;rw[eu]at hi;split at hi
  ·cases hi;refine#[by assumption,λx H2 #[z1,z2]=>?_]
   subst z1 z2;exact#[.refl,so,.int]
  ·cases hi
 ·simp only[MI.at,IB]at hi;rw[eu]at hi;split at hi
  ·cases hi
  ·show n<=i;omega
theorem pT {tg:HS}{pins:Hm (Hx×Jn)}{σ:L2.St}{H1:Hp}{s1:Hr}{R:It->Hp->Prop}{a:Hx}{xs:Hm V}{v:Ho}(I1:Inv X pins σ H1 s1)(r1:RelV (.ref a) v)(hq:SqL X.K H1 a xs)(q:R (F1 X.K a) H1) :
  wpAny (model X.prog X.w) X.A (pyIter v) (Fu X pins σ tg R) X.xe s1:=by
 cases r1;obtain⟨its,rv,p,hz⟩:=I1.list hq;refine LG p.isList ?_;refine#[s1.heap.objs.size,[s1.heap.objs.size],_,_,H1,rfl,I1.kept (t':=s1.toks) λb o e=>Hv _ e,tQ a _,#[_,HQ _ rfl,rfl,rfl],λb hb=>?_,q]
 have e:b=s1.heap.objs.size:=by simpa using hb
 subst e;exact I1.fpOk (HG _) (I1.hok.fresh (HG _))
theorem rB {tg:HS}{pins:Hm (Hx×Jn)}{σ:L2.St}{H1:Hp}{s1:Hr}{R:It->Hp->Prop}{a:Hx}{xs:Hm V}{v:Ho}(I1:Inv X pins σ H1 s1)(r1:RelV (.ref a) v)(hq:SqT X.K H1 a xs)(q:R (DA X.K a) H1) :
  wpAny (model X.prog X.w) X.A (pyIter v) (Fu X pins σ tg R) X.xe s1:=by
 cases r1;obtain⟨its,rv,p,hz⟩:=I1.tuple hq;refine M5 (show s1.heap.IsTuple a its.toArray from p) ?_
 refine#[s1.heap.objs.size,[s1.heap.objs.size],_,_,H1,rfl,I1.kept (t':=s1.toks) λb o e=>Hv _ e,qU a _,#[_,HQ _ rfl,rfl,rfl],λb hb=>?_,q]
 have e:b=s1.heap.objs.size:=by simpa using hb
 subst e;exact I1.fpOk (HG _) (I1.hok.fresh (HG _))
theorem zX {tg a:HS}{f:FA}{p pos:JW}(hg:Gl X "range")(hm:X.mg "range" = td)(ha:GA X [a] f)(hs:starEach [a] X.env=[(false,eval a X.env)]):GI X tg (.Call (.Name "range" p) [a] [] pos) (rA f):=by
 intro pins s σ H R I ⟨A,ρ,S,mi,S',er,so,e,hq⟩;unfold rA at e;split at e
 ·rename_i j S1 h1;split at e
  ·rename_i hj;cases e;refine tR hg hm ha hs pins s σ H R I #[A,ρ,S,_,_,er,so,h1,λvs H1 #[A1,z1,z2,z3]=>?_]
   cases z3 with
   | cons r1 t=>
    cases t;cases r1;exact#[j,rfl,hj.1,hj.2,hq _ _ A1 z1 z2 sK]
  ·cases e
 ·cases e
theorem zY {tg a b:HS}{f:FA}{p pos:JW}(hg:Gl X "range")(hm:X.mg "range" = td)(ha:GA X [a,b] f)(hs:starEach [a,b] X.env=[(false,eval a X.env),(false,eval b X.env)])(hs2:starEach [b] X.env=[(false,eval b X.env)]):GI X tg (.Call (.Name "range" p) [a,b] [] pos) (iRng2 f):=by
 intro pins s σ H R I ⟨A,ρ,S,mi,S',er,so,e,hq⟩;unfold iRng2 at e;split at e
 ·rename_i i j S1 h1;split at e
  ·rename_i hj;cases e;refine tU hg hm ha hs hs2 pins s σ H R I #[A,ρ,S,_,_,er,so,h1,λvs H1 #[A1,z1,z2,z3]=>?_]
   cases z3 with
   | cons r1 t=>
    cases t with
    | cons r2 t=>
     cases t;cases r1;cases r2;exact#[i,j,rfl,hj,hq _ _ A1 z1 z2 sK]
  ·cases e
 ·cases e
theorem CO {tg l:HS}{f:FE}(h:GE X l f):GI X tg l (zU f):=by
 intro pins s σ H R I ⟨A,ρ,S,mi,S',er,so,e,hq⟩;unfold zU at e;split at e
 ·rename_i ws S1 h1;cases e;refine cg (h pins s σ H (EndV X.w X.K A H _ (.tup ws)) I #[A,ρ,S,_,_,er,so,h1,λ_ _ z=>z]) λv s1 #[x,H1,I1,r1,A1,e1,o1,z1]=>?_
  cases z1 with
  | tup hq1 rl=>
   refine rB I1 r1 hq1 (hq _ _ A1 e1 o1 (zV hq1 rl))
 ·rename_i r S1 h1;split at e
  ·rename_i ys hy;cases e;refine cg (h pins s σ H (EndV X.w X.K A H _ (.ref r)) I #[A,ρ,S,_,_,er,so,h1,λ_ _ z=>z]) λv s1 #[x,H1,I1,r1,A1,e1,o1,z1]=>?_
   cases z1 with
   | ref ea=>
    obtain⟨vs,hl,_⟩:=cZ o1 hy ea;exact pT I1 r1 hl (hq _ _ A1 e1 o1 (zW ea))
  ·cases e
 ·cases e
theorem CP {tg iter:HS}{body:Hm J8}{pos:JW}{fi:FI}{g:FG}{fb:FS}(hp:ME (model X.prog X.w) X.A X.env X.xe)(hc:X.calm=true)(hi:GI X tg iter fi)(hg:GG X tg g)(hb:GSs X body fb)
  (hs:∀x,foldedSetIterable iter X.env x=pure x):GS X (.For tg iter body [] pos) (wD fi g fb):=GS.of (B4 hp hc hi hg hb hs) λσ H A ρ S o S' er so e D hd=>by
 unfold wD at e;split at e
 ·rename_i mi S1 h1;split at e
  ·rename_i n hn;refine#[A,ρ,S,mi,S1,er,so,h1,λJ H1 A1 z1 z2 mit=>?_]
   refine#[λi m σ2 H2=>∃A2 ρ2 S2,Ext X.K A1 H1 A2 H2/\EnvRel X.K A2 H2 ρ2 σ2/\StoreOk X.w X.K A2 H2 S2/\fW mi g fb m i ρ2 S2=gV (o,S'),#[n,A1,ρ,S1,.refl,er.mono z1,z2,e],?_]
   rintro i m σ2 H2 ⟨A2,ρ2,S2,e2,er2,so2,w2⟩;cases m with
   | zero=>
    simp only[fW]at w2;split at w2
    ·rename_i hs;cases w2;exact .inl #[mit.stop A2 H2 _ i e2 so2 hs,hd.nx _ _ #[_,A2,rfl,z1.trans e2,so2,er2]]
    ·cases w2
   | succ m=>
    simp only[fW]at w2;split at w2
    ·rename_i w hw;obtain⟨go,yl⟩:=mit.go A2 H2 S2 i w e2 so2 hw;refine .inr #[go,λσ3 H3=>∃A3 ρ3 S3,Ext X.K A1 H1 A3 H3/\EnvRel X.K A3 H3 ρ3 σ3/\StoreOk X.w X.K A3 H3 S3/\fW mi g fb m (i+1) ρ3 S3=gV (o,S'),λσ' H' h=>#[m,JS _,h],λx H3 hy=>?_]
     obtain⟨x1,x2,x3⟩:=yl x H3 hy;split at w2
     ·rename_i ρ3 S3 h3;refine#[A2,ρ2,S2,w,ρ3,S3,er2.mono x1,x2,x3,h3,λσ4 H4 A4 y1 y2 y3=>?_]
      have ex:Ext X.K A1 H1 A4 H4:=(e2.trans x1).trans y1;split at w2
      ·rename_i ρ5 S5 h5;refine#[A4,ρ3,S3,_,S5,y3,y2,h5,#[λσ' H' #[ρ',A',u0,u1,u2,u3]=>?_,λv H' #[w,A',y0,_]=>(by cases y0),λv H' #[w,A',y0,_]=>(by cases y0),λv H' #[w,A',y0,_]=>(by cases y0)]]
       cases u0;exact#[A',_,S5,ex.trans u1,u3,u2,w2]
      ·rename_i ρ5 S5 h5;refine#[A4,ρ3,S3,_,S5,y3,y2,h5,#[λv H' #[w,A',y0,_]=>(by cases y0),λv H' #[w,A',y0,_]=>(by cases y0),λv H' #[w,A',y0,_]=>(by cases y0),λσ' H' #[ρ',A',u0,u1,u2,u3]=>?_]]
       cases u0;exact#[A',_,S5,ex.trans u1,u3,u2,w2]
      ·rename_i ρ5 S5 h5;cases w2;refine#[A4,ρ3,S3,_,_,y3,y2,h5,#[λv H' #[w,A',y0,_]=>(by cases y0),λv H' #[w,A',y0,_]=>(by cases y0),λσ' H' #[ρ',A',u0,u1,u2,u3]=>?_,λv H' #[w,A',y0,_]=>(by cases y0)]]
       cases u0;exact hd.nx _ _ #[_,A',rfl,(z1.trans ex).trans u1,u2,u3]
      ·rename_i w5 S5 h5;cases w2;refine#[A4,ρ3,S3,_,_,y3,y2,h5,#[λv H' #[w,A',y0,_]=>(by cases y0),λv H' #[w,A',u0,u1,u2,u3]=>?_,λv H' #[w,A',y0,_]=>(by cases y0),λv H' #[w,A',y0,_]=>(by cases y0)]]
       cases u0;exact hd.rt _ _ #[_,A',rfl,(z1.trans ex).trans u1,u2,u3]
      ·cases w2
     ·cases w2
    ·cases w2
  ·cases e
 ·cases e
end
section
variable{prog:HZ}{w:Iw}{B:Iu}{E:Ho->Hr->Prop}{s:Hr}
theorem zZ {d:Hx}{es:IC JJ}{ep:Hu}{Q:Ho->Hr->Prop}(hd:(d==sysModules)=false)(hm:RawD d es ep s.heap)(hfit:(es.size:HF) < 2 ^ 63)
  (h:Q (.int es.size (s.toks+1)) { s with toks:=s.toks+1+1 }):wpAny (model prog w) B (call (.builtin "len") [.ref d]) Q E s:=by
 have hT:=hm.type;obtain⟨o,ho,hc,hdat⟩:=id hm;refine Lz kind_len plain_len entry_len (args_len1 _) ?_;unfold MF.«len»;refine Hn (m:=oneArg "len" _) (Hz ?_);refine Hn (m:=callSpecial? (.ref d) (JO "__len__")) (IR (name:=JO "__len__") hT F.slot_dict_len (Ja F.slot_dict_len hT F.entry_dict_len ?_ (F.args_dict_len_1 _)));show wpAny _ _ (dictSize d >>= _) _ _ s;unfold dictSize;refine Hn (Hn (KY ho hdat (Hz ?_)));show wpAny _ _ (Os d >>= _) _ _ s;refine Hn (wpAny_pendingCount_other hd ?_);refine wpAny_ret_mkInt ?_;rw[Nat.add_zero];show wpAny _ _ _ _ _ { s with toks:=s.toks+1 }
 refine Hn (Jj (Hz ?_));refine Hn (Lc ?_);show wpAny _ _ (if ((es.size:Hu):HF) < 0 then _ else _) _ _ _
 rw[Ix ∅]
 show wpAny _ _ (if ((es.size:Hu):HF)>=2 ^ 63 then _ else _) _ _ _
 rw[Ix ∅]
 exact Hn (NQ (Hz #[_,rfl,h]))
end
section
variable{X:Cx}{pins:Hm (Hx×Jn)}{σ:L2.St}{H:Hp}{s:Hr}{A:Hm Hx}{S:aa}
theorem rC:LCall X (.builtin "len") rq:=by
 intro pins s σ H A S xs vs us w S' I so rl rv e
 by_cases hd:∃i kvs,xs=[.ref i]/\jS S i=gV kvs
 ·obtain⟨i,kvs,rfl,hk⟩:=hd;simp only[rq,hk]at e;cases e;cases rl with
  | cons r t=>
   cases t;cases rv with
   | cons ru rv2=>
    cases rv2;cases r with
    | ref ea=>
     obtain⟨xs,rd,kr⟩:=fU so hk ea;have d:=cR I rd;obtain⟨es,ep,raw,he⟩:=d.raw;obtain rfl:_=IA _:=ru;have hl:es.size=xs.length:=by rw[<- Ir,he,Hq]
     have hz:=d.1;have hs:sizeLine=16777216:=IH;refine zZ d.2.1 raw ∅ #[.int kvs.length,H,A,I.tok _,#[_,by rw[kr.length,hl]],.refl,so,.int]
 ·have:rq xs S=rg xs S:=by
   unfold rq;split
   ·rename_i i;split
    ·rename_i kvs hk;exact absurd #[i,kvs,rfl,hk] hd
    ·rfl
   ·rfl
  rw[this]at e;exact ue pins s σ H A S xs vs us w S' I so rl rv e
noncomputable def G4 (S:aa):W->Ht IX
 | .non=>gV "NoneType"|.bl _=>gV "bool"|.int _=>gV "int"|.str _=>gV "str"|.tup _=>gV "tuple"
 | .ref i=>match gX S i with
  | some _=>gV "list"
  | none=>(jS S i).map λ_=>"dict"
noncomputable def sL:Hm IX:=["bool","int","str","tuple","list","dict"]
noncomputable def CQ (S:aa)(x:W)(c:IX):Ht HV:=match G4 S x with
 | some t=>if sL.contains c then gV (t==c||(t == "bool" && c == "int"))else td
 | none=>td
theorem g6 {K:HC}{t c:IX}(ht:t∈["NoneType","bool","int","str","tuple","list","dict"])(hc:c∈sL):PySem.W.kitOne K (.type t) (.type c)=gV (t==c||(t == "bool" && c == "int")):=by
 simp only[sL,Iq,Jk,KZ]at ht hc;rcases ht with rfl|rfl|rfl|rfl|rfl|rfl|rfl <;> rcases hc with rfl|rfl|rfl|rfl|rfl|rfl <;> rfl
theorem wF:CallR X (.builtin "isinstance") (λvs H Q=>∃A S x v c b,vs=[v,.ty c]/\StoreOk X.w X.K A H S/\Rel X.K A H x v/\CQ S x c=gV b/\Q (.bl b) H):=by
 intro pins s σ H vs us Q I rv ⟨A,S,x,v,c,b,e1,so,rx,e2,hq⟩;subst e1;cases rv with
 | cons r1 rv2=>cases rv2 with
  | cons r2 rv3=>
   cases rv3;obtain rfl:_=Kq c:=r2;unfold CQ at e2;split at e2
   ·rename_i t ht;split at e2
    ·rename_i hc;cases e2;have hc':c∈sL:=by simpa using hc
     have fin:∀tk,EP X pins σ Q (.bool (t==c||(t == "bool" && c == "int"))) { s with toks:=tk }:=λtk=>#[.bl _,H,I.tok _,rfl,hq]
     cases rx with
     | non=>cases ht; cases(show _=IK from r1); exact J0 PySem.W.kitx_none I.kIn La (g6 (by simp) hc') (λz=>nomatch z) fin
     | bl=>cases ht; cases(show _=Ko _ from r1); exact J0 PySem.W.kitx_bool I.kIn La (g6 (by simp) hc') (λz=>nomatch z) fin
     | int=>cases ht; obtain⟨t',q⟩:=(show ∃t,_=LQ _ t from r1); cases q; exact J0 PySem.W.kitx_int I.kIn La (g6 (by simp) hc') (λz=>nomatch z) fin
     | str=>cases ht; obtain⟨t',q⟩:=(show ∃t,_=K7 _ t from r1); cases q; exact J0 PySem.W.kitx_str I.kIn La (g6 (by simp) hc') (λz=>nomatch z) fin
     | tup h1 r1'=>
      cases ht;obtain⟨its,rv,⟨o,q1,q2,_⟩,hz⟩:=I.tuple h1;cases(show _=IA _ from r1)
      exact J0 PySem.W.kitx_tuple I.kIn #[o,q1,q2] (g6 (by simp) hc') (λz=>nomatch z) fin
     | ref ea=>
      cases(show _=IA _ from r1)
      simp only[G4]at ht;split at ht
      ·rename_i ws hw;cases ht;obtain⟨vs,h1,_⟩:=cZ so hw ea;obtain⟨its,rv,p,hz⟩:=I.list h1;obtain⟨o,q1,q2,_⟩:=p.isList;exact J0 PySem.W.kitx_list I.kIn #[o,q1,q2] (g6 (by simp) hc') (λz=>nomatch z) fin
      ·rw[Hs]at ht;obtain⟨kvs,hk,rfl⟩:=ht;obtain⟨xs,rd,kr⟩:=fU so hk ea;obtain⟨es,ep,⟨o,q1,q2,_⟩,he⟩:=(cR I rd).raw;exact J0 PySem.W.kitx_dict I.kIn #[o,q1,q2.1] (g6 (by simp) hc') (λz=>nomatch z) fin
    ·cases e2
   ·cases e2
noncomputable def wH (c:IX)(f:FE):FE:=λρ S=>match f ρ S with
 | some (x,S1)=>(CQ S1 x c).map λb=>(.bl b,S1)
 | none=>td
theorem CS {cn:HL}{c:IX}{e:HS}{p p2 pos:JW}{f:FE}(hg:Gl X "isinstance")(hm:X.mg "isinstance" = td)(hg2:Gl X cn)(hm2:X.mg cn=td)(hv2:bootBuiltins cn=gV (.type c))(hn2:cn≠"__name__")(hd2:(cn==("__debug__" : HL))=false)
  (he:GE X e f) (hs:starEach [e,.Name cn p2] X.env=(false,eval e X.env)::starEach [.Name cn p2] X.env):GE X (.Call (.Name "isinstance" p) [e,.Name cn p2] [] pos) (wH c f):=
 GE.of (pe (wF) hg hm rfl (nu he (nu (yy (v:=.ty c) hg2 hm2 hv2 rfl hn2 hd2) vw) hs) #v[] #v[] hs rfl) λσ H A ρ S w S' er so e Q hq=>by
  unfold wH at e;split at e
  ·rename_i x1 S1 h1;rw[Hs]at e;obtain⟨b,e1,e2⟩:=e;cases e2;exact#[A,ρ,S,x1,_,er,so,h1,λv H1 #[A1,z1,z2,z3]=>#[A1,_,x1,v,c,b,rfl,z2,z3,e1,hq _ _ #[A1,z1,z2,.bl]]]
  ·cases e
end
noncomputable def dN:Hm (T×W)->Hm W->Ht (Hm (T×W))
 | kvs,[]=>gV kvs
 | kvs,k::v::ws=>match gC k with
  | some t=>dN (eG kvs t v) ws
  | none=>td
 | _,[_]=>td
noncomputable def Bl:FE:=λ_ S=>gV (.ref S.length,S++[.dic []])
noncomputable def pU (f:FA):FE:=λρ S=>match f ρ (S++[.dic []])with
 | some (ws,S1)=>match S1[S.length]? with
  | some (.dic [])=>match dN [] ws with
   | some kvs=>gV (.ref S.length,S1.set S.length (.dic kvs))
   | none=>td
  | _=>td
 | none=>td
section
variable (K:HC) (A:Hm Hx) (H:Hp)
inductive RelP:Hm W->Hm (V×V)->Prop
 | nil:RelP [] []
 | cons {k v:W} {a b:V} {ws:Hm W} {ps:Hm (V×V)}:Rel K A H k a->Rel K A H v b->RelP ws ps->RelP (k::v::ws) ((a,b)::ps)
end
theorem RelP.mono {K:HC}{A A':Hm Hx}{H H':Hp}(e:Ext K A H A' H'){ws:Hm W}{ps:Hm (V×V)}(h:RelP K A H ws ps):RelP K A' H' ws ps:=by
 induction h with
 | nil=>exact .nil
 | cons a b c ih=>exact .cons (a.mono e) (b.mono e) ih
section
variable{X:Cx}{pins:Hm (Hx×Jn)}{σ:L2.St}{H:Hp}{s:Hr}{A:Hm Hx}{S:aa}
noncomputable def Gq (X:Cx)(A:Hm Hx)(H:Hp)(S':aa)(ws:Hm W):Hm (V×V)->Hp->Prop:=λps H'=>∃A',Ext X.K A H A' H'/\StoreOk X.w X.K A' H' S'/\RelP X.K A' H' ws ps
noncomputable def EA (X:Cx)(pos:JW)(keys:Hm (Ht HS))(values:Hm HS)(f:FA):Prop:=
 ∀(pins:Hm (Hx×Jn)) (s:Hr) (σ:L2.St) (H:Hp) (A:Hm Hx) (ρ:Fm) (S:aa) (ws:Hm W) (S':aa),Inv X pins σ H s->EnvRel X.K A H ρ σ->StoreOk X.w X.K A H S->f ρ S=gV (ws,S')->
  wpAny (model X.prog X.w) X.A (evalPairs (pairTrees keys values X.env pos)) (λvs s'=>∃ps H',Inv X pins σ H' s'/\VV ps vs/\Gq X A H S' ws ps H') X.xe s
theorem Aa {pos:JW}:EA X pos [] [] iz:=λpins s σ H A ρ S ws S' I er so e=>by
 cases e;exact pairTrees_nil_walk #[[],H,I,.nil,A,.refl,so,.nil]
theorem wI {pos:JW}{k v:HS}{ks:Hm (Ht HS)}{vs:Hm HS}{fk fv:FE}{f:FA}(hk:GE X k fk)(hv:GE X v fv)(hr:EA X pos ks vs f):EA X pos (gV k::ks) (v::vs) (dU fk (dU fv f)):=λpins s σ H A ρ S ws S' I er so e=>by
 unfold dU at e;split at e
 ·rename_i w1 S1 h1;split at e
  ·rename_i w2 S2 h2;cases e;split at h2
   ·rename_i w3 S3 h3;split at h2
    ·rename_i w4 S4 h4;cases h2;refine pairTrees_cons_walk (cg (hk pins s σ H (EndV X.w X.K A H S1 w1) I #[A,ρ,S,_,_,er,so,h1,λ_ _ z=>z]) λu s1 #[x,H1,I1,r1,A1,e1,o1,z1]=>
      cg (hv pins s1 σ H1 (EndV X.w X.K A1 H1 S3 w3) I1 #[A1,ρ,S1,_,_,er.mono e1,o1,h3,λ_ _ z=>z]) λu2 s2 #[x2,H2,I2,r2,A2,e2,o2,z2]=>
      cg (hr pins s2 σ H2 A2 ρ S3 _ _ I2 (er.mono (e1.trans e2)) o2 h4) λvs' s3 #[ps,H3,I3,rel,A3,e3,o3,z3]=>?_)
     exact#[(x,x2)::ps,H3,I3,.cons #[r1,r2] rel,A3,e1.trans (e2.trans e3),o3,.cons (z1.mono (e2.trans e3)) (z2.mono e3) z3]
    ·cases h2
   ·cases h2
  ·cases e
 ·cases e
theorem mJ {r:Hu}{d:Hx}{E:Ho->Hr->Prop}(hu:X.A.units+10 < cLine):∀(vs:Hm (Ho×Ho)) (ps:Hm (V×V)) (ws:Hm W) (kvs kvs':Hm (T×W)) (s:Hr) (H:Hp) (S:aa) (Q:PUnit->Hr->Prop),
  Inv X pins σ H s->StoreOk X.w X.K A H S->nM S r=gV kvs->A[r]?=gV d->RelP X.K A H ws ps->VV ps vs->dN kvs ws=gV kvs'->kvs.length+vs.length<=30->
  (∀s' H',Inv X pins σ H' s'->Ext X.K A H A H'->StoreOk X.w X.K A H' (S.set r (.dic kvs'))->Q M4 s')->
  wpAny (model X.prog X.w) X.A (forIn vs M4 λ(x:Ho×Ho) (_:PUnit)=>(do dictSet d x.1 x.2; pure (Jt M4):OX (ForInStep PUnit))) Q E s
 | [],_,_,kvs,kvs',s,H,S,Q,I,so,hr,ea,rp,vv,e,hl,hq=>by
  cases vv;cases rp;cases e;rw[Oj];refine Hz (hq s H I .refl ?_);have hS:=ir hr;have:S.set r (.dic kvs)=S:=by
   apply Nq;intro j;rw[JA];split
   ·rename_i e; subst e
    split
    ·exact hS.symm
    ·rename_i h; exact absurd (HI.mp hS).1 h
   ·rfl
  rw[this]; exact so
 | (ku,vu)::vs,_,_,kvs,kvs',s,H,S,Q,I,so,hr,ea,rp,vv,e,hl,hq=>by
  cases vv with
  | cons hv vv2=>
   cases rp with
   | @cons wk wv va vb ws2 ps2 rk rv' rp2=>
    simp only[dN]at e;split at e
    ·rename_i t ht;rw[Ma];obtain⟨xs,hH,kr⟩:=sx so hr ea;have dd0:=cR I (.inl hH);have dd:=dd0.dict I kr;obtain⟨bk,e1,e2,rkk⟩:=iq ht rk hv.1;have e2:ku=IA bk:=e2;subst e2;obtain⟨q1,q2,q3⟩:=d7 ht;rw[IN]at hl;have hz:xs.length<=sizeLine:=dd0.1;refine Hn (Hn (wpAny_dictSet_heap (hsz:=hz) (show X.A.units+bS < cLine by unfold bS; omega) (i4 I rkk q3) dd λh' dd' hs=>Hz ?_))
     have kr':=kr.put q2 q3 rkk rv' hv.2;have hz':(storedH xs t bk vu).length<=sizeLine:=by
      rw[<- kr'.length];have h2:=c9 kvs t wv;rw[IH];omega
     have dn:DicAt X.w d (storedH xs t bk vu) h':=.of hz' dd0.2.1 dd';obtain⟨so',ex⟩:=so.writeO (ir hr) rfl ea (u:=ec X.w d (storedH xs t bk vu)) (n:=.dic (eG kvs t wv)) #[_,bD,kr'.mono (dD (.ext hH))];have I':Inv X pins σ (cv H d (ec X.w d (storedH xs t bk vu))) { s with heap:=h',toks:=s.toks+(dc X.prog X.w).draws t }:=nC I (by rw[hH]; exact La) hs (let ⟨q,_,_,hq,_⟩:=dd'; #[q,hq]) dn.ok
     have hl':(S.set r (.dic (eG kvs t wv)))[r]?=gV (.dic (eG kvs t wv)):=by
      rw[JA,HW rfl,HW (HI.mp (ir hr)).1]
     refine mJ hu vs _ _ (eG kvs t wv) kvs' _ _ _ Q I' so' (by unfold nM; rw[hl']) ea (rp2.mono ex) vv2 e (by have:=c9 kvs t wv; omega) λs' H' I2 ex2 so2=>?_
     rw[List.set_set]at so2;exact hq s' H' I2 (ex.trans ex2) so2
    ·cases e
theorem Ab {pos:JW}:GE X (.Dict [] [] pos) Bl:=λpins s σ H Q I #[A,ρ,S,w,S',er,so,e,hq]=>by
 cases e;have hn:=I.hok.fresh (HG s.heap.objs.size);have dn:DicAt X.w s.heap.objs.size [] (s.heap.push { cls:=.type "dict",data:=.dict #[] }):=#[J4 _,Li.mpr (Ne.symm (Ic I.big)),Mz,_,#[],0,HQ _ rfl,#[rfl,rfl,rfl],rfl,rfl];refine wpAny_Dict_empty #[.ref s.heap.objs.size,_,I.laid (a:=s.heap.objs.size) (o:=ec X.w s.heap.objs.size []) (t':=s.toks) (λ_ _ q=>Hv _ q) (HG _) dn.ok,rfl,hq _ _ #[A++[s.heap.objs.size],ee hn,so.pushO hn #[[],bD,.nil],.ref ?_]]
 rw[<- so.len]; simp
theorem Ac {pos:JW}{keys:Hm (Ht HS)}{values:Hm HS}{f:FA}(hu:X.A.units+10 < cLine)(h:EA X pos keys values f)(hall:keys.all (·.isSome)=true)(hl:keys.length=values.length)(h0:keys≠[])(h15:keys.length<=15):GE X (.Dict keys values pos) (pU f):=by
 intro pins s σ H Q I ⟨A,ρ,S,w,S',er,so,e,hq⟩;unfold pU at e;split at e
 ·rename_i ws S1 h1;split at e
  ·rename_i hS1;split at e
   ·rename_i kvs hp;cases e;have hn:=I.hok.fresh (HG s.heap.objs.size);have dn:DicAt X.w s.heap.objs.size [] (s.heap.push { cls:=.type "dict",data:=.dict #[] }):=#[J4 _,Li.mpr (Ne.symm (Ic I.big)),Mz,_,#[],0,HQ _ rfl,#[rfl,rfl,rfl],rfl,rfl];have I1:=I.laid (a:=s.heap.objs.size) (o:=ec X.w s.heap.objs.size []) (h':=s.heap.push { cls:=.type "dict",data:=.dict #[] }) (t':=s.toks) (λ_ _ q=>Hv _ q) (HG _) dn.ok
    have ex0:Ext X.K A H (A++[s.heap.objs.size]) (cv H s.heap.objs.size (ec X.w s.heap.objs.size [])):=ee hn;have so0:StoreOk X.w X.K (A++[s.heap.objs.size]) (cv H s.heap.objs.size (ec X.w s.heap.objs.size [])) (S++[.dic []]):=so.pushO hn #[[],bD,.nil];have hlen:=pairTrees_length keys values X.env pos hall hl;have hne:pairTrees keys values X.env pos≠[]:=λhe=>by
     rw[he]at hlen;exact h0 (KR.mp hlen.symm)
    rw[arm_eval_Dict,zip_pairTrees keys values X.env pos hall hl,dictDisplay_pairs _ hne ∅]
    refine Hn (Lb (Hn ?_));unfold subDict;refine Hn (wpAny_alloc ?_);refine Hn (Jj ?_);rw[HW ∅]
    refine Hn (Jz (wpAny_evalPairs_len (h pins _ σ _ _ ρ _ _ _ I1 (er.mono ex0) so0 h1)) (λvs s₁ h₁=>?_) λ_ _ e=>e)
    obtain⟨hvl,ps,H2,I2,vv,A2,ex2,so2,rp⟩:=h₁;refine Jj ?_;have ea:A2[S.length]?=gV s.heap.objs.size:=ex2.ad _ _ (by rw[<- so.len]; simp)
    refine Hn (mJ hu vs ps ws [] kvs s₁ H2 S1 _ I2 so2 (by unfold nM; rw[hS1]) ea rp vv hp (by rw[Js]; omega) λs' H' I3 ex3 so3=>?_)
    exact Hz (Hz (Hz #[.ref s.heap.objs.size,H',I3,rfl,hq _ _ #[A2,ex0.trans (ex2.trans ex3),so3,.ref ea]]))
   ·cases e
  ·cases e
 ·cases e
end
noncomputable def G5 (wd:Iw)(a:Hx)(o:Jn)(xs:Hm (T×Hx×Ho)):It:=
 #[λi H=>H a=gV (.frz o (ec wd a xs))/\i < xs.length,λi H x H'=>H'=H/\∃q,xs[i]?=gV q/\x=.ref q.2.1,λi H=>H a=gV (.frz o (ec wd a xs))/\xs.length<=i]
theorem uB {P:HZ}{w:Iw}{K:HC}{tg:HS}(a it:Hx){o:Jn}{es:IC JJ}{ep:Hu}{xs:Hm (T×Hx×Ho)}(hx:o.ExactDict)(hd:o.data=.dict es ep)(he:es.toList=xs.map (vK w)) :
  Turn P w K tg (G5 w a o xs) [it] it (λi h=>h.IsKeyIter it a i es.size ep) where
 mem:=by simp
 obj:=λi h st b hb=>by
  have e:b=it:=by simpa using hb
  subst e;obtain⟨o,e,c,d⟩:=st;exact#[o,e,λv z=>by rw[d]at z; cases z]
 keep:=λi h h' st k=>st.at λo e=>k it (by simp) o e
 item:=by
  intro X hP hw hK hc i pins s σ H E I hf st hg;subst hP hw hK;obtain⟨hH,hi⟩:=hg;have ho:s.heap.get? a=gV o:=(show ObjOk X.prog X.w H s.heap a (.frz o (ec X.w a xs))from I.hok a _ hH).1
  have hl:es.size=xs.length:=by rw[<- Ir,he,Hq]
  have hi':i < es.size:=∅
  obtain⟨f0,f1,f2,f3,f4,f5⟩:=hf it (by simp)
  have hk:es[i].key=.ref (xs[i]).2.1:=by
   have:es.toList[i]?=gV (vK X.w xs[i]):=by rw[he,Hy,HK hi]; rfl
   rw[Jp,Ly hi']at this;have:=IS this;rw[this]; rfl
  refine pH st #[o,ho,hx,hd] hi' λh' st' sb=>?_
  have I1:Inv X pins σ H { s with heap:=h' }:=I.turned (t':=s.toks) (λb o hb e=>(sb.2 b hb).trans e) f0 f1 f3 f4 f5
  obtain⟨o',e,c,d⟩:=id st';exact#[_,rfl,r9 (s:={ s with heap:=h' }) e c d #v[] #[.ref (xs[i]).2.1,H,I1,hk,#[rfl,xs[i],HK hi,rfl],st',λb hb=>(hf b hb).1]]
 done:=by
  intro X hP hw hK hc i pins s σ H E I hf st hg;subst hP hw hK;obtain⟨hH,hi⟩:=hg;have ho:s.heap.get? a=gV o:=(show ObjOk X.prog X.w H s.heap a (.frz o (ec X.w a xs))from I.hok a _ hH).1
  have hl:es.size=xs.length:=by rw[<- Ir,he,Hq]
  obtain⟨f0,f1,f2,f3,f4,f5⟩:=hf it (by simp)
  exact sA (I.ok.hd hc) st #[o,ho,hx,hd] ∅ λh' eb=>#[rfl,I.turned (t':=s.toks) (λb o hb e=>eb b o hb e) f0 f1 f3 f4 f5]
 self:=λ_ _ _ _ _ st h=>Mw st h
noncomputable def fM (f:FE):FI:=λρ S=>match f ρ S with
 | some (.tup ws,S1)=>gV (.its ws,S1)
 | some (.ref r,S1)=>match gX S1 r with
  | some _=>gV (.live r,S1)
  | none=>match jS S1 r with
   | some kvs=>gV (.its (kvs.map λp=>p.1.w),S1.set r (.frd kvs))
   | none=>td
 | _=>td
section
variable{X:Cx}{pins:Hm (Hx×Jn)}{σ:L2.St}{H:Hp}{s:Hr}{A:Hm Hx}{S:aa}
theorem wJ {a:Hx}{o:Jn}{kvs:Hm (T×W)}{xs:Hm (T×Hx×Ho)}(hH:H a=gV (.frz o (ec X.w a xs)))(kr:KRel X.K A H kvs xs):MIt X.w X.K (.its (kvs.map λp=>p.1.w)) (G5 X.w a o xs) A H:=by
 refine#[λA' H' S i w e so hi=>?_,λA' H' S i e so hi=>?_]
 ·simp only[MI.at,IB]at hi;obtain⟨v,h1,h2⟩:=((kr.mono e).keysL).get hi;rw[Hy,Hs]at h1;obtain⟨q,q1,q2⟩:=h1;refine#[#[e.fz _ _ _ hH,(HI.mp q1).1],λx H2 #[z1,q',z2,z3]=>?_]
  subst z1 z3;rw[q1]at z2; cases z2
  exact#[.refl,so,by rw[q2]; exact h2]
 ·simp only[MI.at,IB]at hi;refine#[e.fz _ _ _ hH,?_];have:=JC.mp hi;rw[Hq,kr.length]at this;exact this
theorem Ad {tg l:HS}{f:FE}(h:GE X l f):GI X tg l (fM f):=by
 intro pins s σ H R I ⟨A,ρ,S,mi,S',er,so,e,hq⟩
 by_cases hd:∃r S1 kvs,f ρ S=gV (.ref r,S1)/\gX S1 r=td/\jS S1 r=gV kvs
 ·obtain⟨r,S1,kvs,h1,h2,h3⟩:=hd;simp only[fM,h1,h2,h3]at e;cases e;refine cg (h pins s σ H (EndV X.w X.K A H S1 (.ref r)) I #[A,ρ,S,_,_,er,so,h1,λ_ _ z=>z]) λv s1 #[x,H1,I1,r1,A1,e1,o1,z1]=>?_
  cases z1 with
  | @ref _ a ea=>
   obtain rfl:v=IA a:=r1;have fz:∃o xs H2,Inv X pins σ H2 s1/\Ext X.K A1 H1 A1 H2/\StoreOk X.w X.K A1 H2 (S1.set r (.frd kvs))/\H2 a=gV (.frz o (ec X.w a xs))/\KRel X.K A1 H2 kvs xs:=by
    unfold jS at h3;split at h3
    ·rename_i k hk;cases h3;obtain⟨xs,hH,kr⟩:=o1.obj r _ a hk ea;have d:=cR I1 (.inl hH);obtain⟨_,_,_,o,es,ep,q1,q2,q3,q4⟩:=id d;obtain⟨so',ex⟩:=o1.writeO hk rfl ea (u:=.frz o (ec X.w a xs)) (n:=.frd kvs) #[o,xs,bD,kr.mono (dD (.ext hH))];exact#[o,xs,_,nC (h':=s1.heap) (t':=s1.toks) (ob:=.frz o (ec X.w a xs)) I1 (by rw[hH]; exact La) (Pq _ _) #[o,q1] #[q1,d.ok],ex,so',bD,kr.mono ex]
    ·rename_i k hk;cases h3;obtain⟨o,xs,hH,kr⟩:=o1.obj r _ a hk ea;have:S1.set r (.frd kvs)=S1:=by
      apply Nq;intro j;rw[JA];split
      ·rename_i e; subst e
       split
       ·exact hk.symm
       ·rename_i h; exact absurd (HI.mp hk).1 h
      ·rfl
     rw[this];exact#[o,xs,H1,I1,.refl,o1,hH,kr]
    ·cases h3
   obtain⟨o,xs,H2,I2,ex,so2,hH,kr⟩:=fz;have d:=cR I2 (.inr #[o,hH]);have ho:s1.heap.get? a=gV o:=(show ObjOk X.prog X.w H2 s1.heap a (.frz o (ec X.w a xs))from I2.hok a _ hH).1
   obtain⟨_,hsm,_,o',es,ep,q1,q2,q3,q4⟩:=id d;rw[ho]at q1;cases q1;refine pG hsm #[o,ho,q2,q3] ?_;refine#[s1.heap.objs.size,[s1.heap.objs.size],_,_,H2,rfl,I2.kept (t':=s1.toks) λb o e=>Hv _ e,uB a _ q2 q3 q4,#[_,HQ _ rfl,rfl,rfl],λb hb=>?_,hq _ _ A1 (e1.trans ex) so2 (wJ hH kr)]
   have e:b=s1.heap.objs.size:=by simpa using hb
   subst e;exact I2.fpOk (HG _) (I2.hok.fresh (HG _))
 ·have:fM f ρ S=zU f ρ S:=by
   unfold fM zU;cases hf:f ρ S with
   | none=>rfl
   | some p=>
    obtain⟨w,S1⟩:=p;cases w with
    | ref r=>
     cases h2:gX S1 r with
     | some _=>simp only[h2]
     | none=>
      cases h3:jS S1 r with
      | none=>simp only[h2,h3]
      | some kvs=>exact absurd #[r,S1,kvs,hf,h2,h3] hd
    | _=>rfl
  rw[this]at e;exact CO h pins s σ H R I #[A,ρ,S,mi,S',er,so,e,hq]
end
noncomputable def cj (mi:MI)(g:FG)(c:FT)(f:FE):Hu->Hu->Fm->aa->Ht (Hm W×aa)
 | 0,i,_,S=>match mi.at S i with
  | some td=>gV ([],S)
  | _=>td
 | n+1,i,ρ,S=>match mi.at S i with
  | some (gV w)=>match g w ρ S with
   | some (ρ1,S1)=>match c ρ1 S1 with
    | some (true,S2)=>match f ρ1 S2 with
     | some (y,S3)=>match cj mi g c f n (i+1) ρ1 S3 with
      | some (ys,S4)=>gV (y::ys,S4)
      | none=>td
     | none=>td
    | some (false,S2)=>cj mi g c f n (i+1) ρ1 S2
    | none=>td
   | none=>td
  | _=>td
noncomputable def fN (cap:Hm (Ht Hu))(ρ:Fm):Fm:=cap.map λo=>match o with
 | some j=>(ρ[j]?).join
 | none=>td
noncomputable def kJ (fi:FI)(g:FG)(c:FT)(f:FE)(cap:Hm (Ht Hu)):FE:=λρ S=>match fi ρ S with
 | some (mi,S1)=>match mi.len S1 with
  | some n=>match cj mi g c f n 0 (fN cap ρ) S1 with
   | some (ys,S2)=>lI S2 ys
   | none=>td
  | none=>td
 | none=>td
noncomputable def Bm:FT:=λ_ S=>gV (true,S)
noncomputable def lG (X:Cx)(scope:Kl)(cl:Hm (HL×Hx))(C:Hx)(N:Hm HL)(s0:Hr)(H0:Hp)(ex:Hm Hx):Cx:=
 { X with env:=compEnvC scope cl C X.env,N:=N,s₀:=s0,H₀:=H0,outer:=X.stack,stack:=X.stack,ex:=ex,fn:=λ_=>false,pn:=[],xe:=λ_ _=>IW }
structure CompOk (X:Cx)(scope:Kl)(cl:Hm (HL×Hx))(N:Hm HL)(cap:Hm (Ht Hu)):Prop where
 clos:closureFor scope X.env=pure cl
 kind:scope.kind=.function
 names:∀y∈scope.names,y.2=.local->scope.names.lookup y.1=gV .local
 nocell:∀y∈scope.names,y.2≠.cell
 sub:∀x c,cl.lookup x=gV c->X.env.cells.lookup x=gV c
 has:∀x,((relabel scope X.env).names.lookup x=gV .cell\/(relabel scope X.env).names.lookup x=gV .free)->∃c,cl.lookup x=gV c
 len:cap.length=N.length
 cap:∀(i j:Hu) (x:HL),cap[i]?=gV (gV j)->N[i]?=gV x->X.N[j]?=gV x/\(X.env.kindOf x=gV .cell\/X.env.kindOf x=gV .free)/\((relabel scope X.env).names.lookup x=gV .cell\/(relabel scope X.env).names.lookup x=gV .free)
theorem gE {prog:HZ}{w:Iw}{A:Iu}{R:Nz->Hr->Prop}{s:Hr}{elt target iter:HS}{ifs:Hm HS}{scope:Kl}{pos:JW}{it acc:Ho}{env:Na}(I:Hu->Hr->Prop)
    (turn:∀n s,I n s->wpAny (model prog w) A (pyNext it) (λr s₁=>match r with
      | none=>R (.ok .next) s₁
      | some v=>wpAny (model prog w) A (letOwnedTupleGo target it v) (λ_ s₁=>wpAny (model prog w) A (assign target env v) (λ_ s₂=>
          wpAny (model prog w) A (forIn ifs true λc r=>if r=true then do let ok <- isTrue c env (eval c env); pure (Jt ok)else pure (Jt r)) (λok s₃=>
            if ok=true then wpAny (model prog w) A (eval elt env) (λx s₄=>
              wpAny (model prog w) A (call (.builtin "list.append") [acc,x]) (λ_ s₅=>∃m,m < n/\I m s₅) (λ_ _=>IW) s₄) (λ_ _=>IW) s₃
            else ∃m,m < n/\I m s₃) (λ_ _=>IW) s₂) (λ_ _=>IW) s₁) (λ_ _=>IW) s₁) (λ_ _=>IW) s)
    (n:Hu) (h:I n s) :
    codeAny (model prog w) A (.compLoop (.ListComp elt [#[target,iter,ifs,0]] scope pos) 0 it acc env) R s:=by
  refine codeAny_loop rfl I (λn s hI=>?_) n h
  show wpAny _ A ((compTurn (.ListComp elt [#[target,iter,ifs,0]] scope pos) 0 it acc env).onRaise (λx=>do noteFrame x env; theTreesLotGoes x)) _ _ s
  refine wpAny_noted ?_;rw[compTurn_list];refine Hn (Lb (Hn (Jz (turn n s hI) (λr s₁ h₁=>?_) λ_ _ h'=>h'.elim)))
  cases r with
  | none=>exact Hz h₁
  | some v=>
    refine Hn (Jz h₁ (λ_ s₁ h₁=>?_) λ_ _ h'=>h'.elim)
    refine Hn (Jz h₁ (λ_ s₂ h₂=>Hn (Jz h₂ (λok s₃ h₃=>?_) λ_ _ h'=>h'.elim)) λ_ _ h'=>h'.elim)
    cases ok with
    | false=>exact Hz #[rfl,h₃]
    | true=>
      exact Hn (Hn (Jz h₃ (λx s₄ h₄=>Hn (Jz h₄ (λ_ s₅ h₅=>Hz (Hz #[rfl,h₅])) λ_ _ h'=>h'.elim)) λ_ _ h'=>h'.elim))
section
variable{X:Cx}{pins:Hm (Hx×Jn)}{σ:L2.St}{H:Hp}{s:Hr}
theorem Inv.adopt {D:Hx}{o:HO}(I:Inv X pins σ H s)(hn:H D=td)(h1:D∈X.ex\/X.s₀.heap.objs.size<=D)(hL:D≠X.env.locals)(h2:∀x c,X.env.cells.lookup x=gV c->c≠D)(h3:∀p∈X.pn++pins,p.1≠D)
  (new:ObjOk X.prog X.w (cv H D o) s.heap D o):Inv X pins σ (cv H D o) s:=by
 have nit:∀b u,H b=gV u->b≠D:=λb u e z=>by rw[z,hn]at e; cases e
 have key:Inv X pins σ (cv H D o) { s with heap:=s.heap,gens:=s.gens,drawn:=s.drawn,toks:=s.toks }:=by
  refine I.step (g':=s.gens) (d':=s.drawn) (t':=s.toks) (h':=s.heap) (ch:=[D]) (λb hb=>?_) (λb o _ _ hc e _=>e) (λb o _ _ hc e _=>#[o.slots,e]) (λb o hc e n=>?_)
   (λb o hc e=>#[o,e]) (λb xs e=>?_) (λb o xs e=>?_) (λb ps e=>#[#[],?_]) (λm hm=>hm) (λb u e=>?_) I.bare
  ·have e:b=D:=by simpa using hb
   subst e;exact#[h1,hL,h2,h3]
  ·rw[aX (λz=>hc (by simp[z]))]; exact n
  ·rw[aX (nit b _ e)]; exact e
  ·rw[aX (nit b _ e)]; exact e
  ·rw[aX (nit b _ e),e]; simp
  ·by_cases hb:b=D
   ·subst hb; rw[bD]at e; cases e; exact new
   ·rw[aX hb]at e;refine(I.hok b u e).stay (λc v hc q=>q) (λc q=>?_) λc xs q=>?_
    ·rw[aX (nit c _ q)]; exact q
    ·rw[aX (nit c _ q)]; exact q
 exact key
theorem CT {scope:Kl}{cl:Hm (HL×Hx)}{N:Hm HL}{cap:Hm (Ht Hu)}{C:Hx}{s0:Hr}{ex:Hm Hx}(I:Inv X pins σ H s)(ck:CompOk X scope cl N cap)(hs:s.heap.objs.size<=s0.heap.objs.size)(hC:s0.heap.objs.size<=C)
  (hk:∀b o,s.heap.get? b=gV o->s0.heap.get? b=gV o) (hex:∀b∈ex,(b≠C)/\(∀x c,X.env.cells.lookup x=gV c->c≠b)/\(∀o,X.base.get? b≠gV o)/\b∉qT X.stack) :
  (lG X scope cl C N s0 H ex).Ok where
 mod:=I.ok.mod
 kind:=ck.kind
 glob:=I.ok.glob
 blt:=I.ok.blt
 above:=hC
 inj:=λx y c h1 h2=>I.ok.inj x y c (ck.sub x c h1) (ck.sub y c h2)
 has:=λx h=>ck.has x h
 cab:=λx c h=>by cases h
 hd:=I.ok.hd
 frames:=I.ok.frames
 stk:=.inl rfl
 exf:=λb hb=>#[(hex b hb).1,λx c h=>(hex b hb).2.1 x c (ck.sub x c h)]
 bs:=λb o e=>#[hk b o (I.bk b o e),(I.bs b o e).2]
 bsz:=IE (IE I.ok.bsz I.sz) hs
 noex:=λb o e hb=>(hex b hb).2.2.1 o e
 exfs:=λb hb=>(hex b hb).2.2.2
 funs:=I.stack.of_keeps λb o e _=>#[o,hk b o e,rfl]
 frf:=I.stkFree
structure BlockOk (X:Cx)(scope:Kl)(cl:Hm (HL×Hx))(N:Hm HL)(tg elt:HS)(ifs:Hm HS)(g:FG)(c:FT)(f:FE):Prop where
 tgt:∀C s0 H0 ex,GG (lG X scope cl C N s0 H0 ex) tg g
 tst:∀C s0 H0 ex pins s σ H Q,Inv (lG X scope cl C N s0 H0 ex) pins σ H s->tT (lG X scope cl C N s0 H0 ex) c σ H Q->
  wpAny (model X.prog X.w) X.A (forIn ifs true λc r=>if r=true then do let ok <- isTrue c (compEnvC scope cl C X.env) (eval c (compEnvC scope cl C X.env)); pure (Jt ok)else pure (Jt r)) (TP (lG X scope cl C N s0 H0 ex) pins σ Q) (λ_ _=>IW) s
 elt:∀C s0 H0 ex,GE (lG X scope cl C N s0 H0 ex) elt f
theorem nY {prog:HZ}{w:Iw}{B:Iu}{s:Hr}{E:Ho->Hr->Prop}{Q:Ho->Hr->Prop}{D:Hx}{its:Hm Ho}{n:Hu}{u:Ho}(e:s.heap.get? D=gV { cls:=.type "list",data:=.seq its.toArray n })(hz:its.length < sizeLine)
  (h:∀h' n',h'.get? D=gV { cls:=.type "list",data:=.seq (its++[u]).toArray n' }->(∀b o,b≠D->s.heap.get? b=gV o->h'.get? b=gV o)->Q .none { s with heap:=h' }) :
  wpAny (model prog w) B (call (.builtin "list.append") [.ref D,u]) Q E s:=by
 refine Lq F.slot_list_append #[_,e,rfl] F.entry_list_append (F.args_list_append_2 _ _) (Nj D its.toArray n u (by rw[HH]; omega)) #[e,?_]
 have q:=ND e (λa=>a.push u)
 have e2:its.toArray.push u=(its++[u]).toArray:=by simp
 rw[e2]at q;exact h _ _ q (λb o hb ho=>(IL s.heap (Jf λa=>a.push u) (Ne.symm hb)).trans ho)
theorem mK {scope:Kl}{cl:Hm (HL×Hx)}{N:Hm HL}{cap:Hm (Ht Hu)}{tg elt iter:HS}{ifs:Hm HS}{g:FG}{c:FT}{f:FE}{pos:JW}{A:Hm Hx}{ρ:Fm}{S S':aa}{mi:MI}{n:Hu}{ws:Hm W}{E:Ho->Hr->Prop}
  {it:Hx} {fp:Hm Hx} {tn:Hu->IF->Prop} {J:It} {RR:Ho->Hx->Nz->Hr->Prop}
  (I:Inv X pins σ H s) (hc:X.calm=true) (er:EnvRel X.K A H ρ σ) (so:StoreOk X.w X.K A H S) (ck:CompOk X scope cl N cap) (bk:BlockOk X scope cl N tg elt ifs g c f)
  (T:Turn X.prog X.w X.K tg J fp it tn) (t0:tn 0 s.heap) (hfp:∀b∈fp,iX X pins H b) (mit:MIt X.w X.K mi J A H) (e:cj mi g c f n 0 (fN cap ρ) S=gV (ws,S')) (hz:ws.length<=sizeLine)
  (fin:∀D C s' H' A' vs m,s'.heap.Ns C m->H' D=td->D≠C->C≠X.env.locals->C∉X.fs->H' C=td->X.s₀.heap.objs.size<=C->(∀x c,X.env.cells.lookup x=gV c->c≠C)->(∀p∈X.pn++pins,p.1≠C)->
   Inv X pins σ (cv H' D (.lst vs)) s'->Ext X.K A H A' H'->StoreOk X.w X.K A' H' S'->RelL X.K A' H' ws vs->RR (.ref D) C (.ok .next) s') :
  wpAny (model X.prog X.w) X.A (newList []) (λacc s₃=>wpAny (model X.prog X.w) X.A (newFunctionEnv scope X.env.globals cl [] X.env.qual td .none (gV X.env)) (λcenv s₄=>
   codeAny (model X.prog X.w) X.A (.compStart (.ListComp elt [#[tg,iter,ifs,0]] scope pos) 0 (.ref it) acc { cenv with scope:=relabel scope X.env }) (RR acc cenv.locals) s₄) E s₃) E s:=by
 refine IG (wpAny_newFunctionEnv ck.nocell (by intro y hy; simp at hy) (λh₁ hns₁ hsb₁=>?_) ck.kind)
 dsimp only at hns₁ hsb₁ ⊢;generalize hH2:s.heap.push { cls:=.type "list",dict:=td,data:=.seq ([]:Hm Ho).toArray }=h2 at hns₁ hsb₁ ⊢;have hCs:h2.objs.size=s.heap.objs.size+1:=by rw[<- hH2,Ol]
 have k2:∀b o,s.heap.get? b=gV o->h2.get? b=gV o:=λb o z=>hH2 ▸ Hv _ z
 have lt2:∀b o,h2.get? b=gV o->b < h2.objs.size:=λb o z=>HP z
 have k1:∀b o,h2.get? b=gV o->h₁.get? b=gV o:=λb o z=>hsb₁.extBut b o (Ic (lt2 b o z)) (Hv _ z)
 have hD2:h2.get? s.heap.objs.size=gV { cls:=.type "list",data:=.seq ([]:Hm Ho).toArray }:=hH2 ▸ HQ _ rfl;have hDC:s.heap.objs.size≠h2.objs.size:=by rw[hCs]; omega
 have fresh:∀a,s.heap.objs.size<=a->H a=td:=λa ha=>I.hok.fresh ha
 have cellLt:∀x c,X.env.cells.lookup x=gV c->c < s.heap.objs.size:=λx c z=>let ⟨_,q⟩:=I.cell x c z; q.lt
 have fpLt:∀b∈fp,b < s.heap.objs.size:=λb hb=>let ⟨_,q,_⟩:=T.obj 0 s.heap t0 b hb; HP q
 have stkLt:∀b∈qT X.stack,b < s.heap.objs.size:=λb hb=>let ⟨_,o,q,_⟩:=I.stack.mem hb; HP q
 have baseLt:∀b o,X.base.get? b=gV o->b < s.heap.objs.size:=λb o z=>HP (I.bk b o z)
 have fpStk:∀b∈fp,b∉qT X.stack:=λb hb z=>by
  rcases Iq.mp (I.stkSub b z)with q|q
  ·exact(hfp b hb).2.1 q
  ·exact(hfp b hb).2.2.1 q
 have fpBase:∀b∈fp,∀o,X.base.get? b≠gV o:=λb hb o z=>by
  rcases(hfp b hb).2.2.2.1 with q|q
  ·exact I.ok.noex b o z q
  ·exact absurd (Ih (HP (I.ok.bs b o z).1) q) (Ji _)
 have ltC:∀ {b:Hx},b < s.heap.objs.size->b≠h2.objs.size:=λhb=>by rw[hCs]; exact Ic (Nat.lt_succ_of_lt hb)
 let s3:Hr:={ s with heap:=h2 }
 have ok':(lG X scope cl h2.objs.size N s3 H (fp++[s.heap.objs.size])).Ok:=by
  refine CT I ck (show s.heap.objs.size<=h2.objs.size by rw[hCs]; omega) (HG _) k2 λb hb=>?_
  rcases Iz.mp hb with hb|hb
  ·exact#[ltC (fpLt b hb),(hfp b hb).2.2.2.2.1,fpBase b hb,fpStk b hb]
  ·have eb:b=s.heap.objs.size:=by simpa using hb
   subst eb;exact#[hDC,λx c z=>Ic (cellLt x c z),λo z=>Ji _ (baseLt _ o z),λz=>Ji _ (stkLt _ z)]
 obtain⟨m0,hn0,hl0⟩:=I.loc;have I0:Inv (lG X scope cl h2.objs.size N s3 H (fp++[s.heap.objs.size])) [] (cap.map λo=>match o with|some j=>(σ[j]?).join|none=>td) H { s3 with heap:=h₁,toks:=s3.toks+([]:Hm (HL×Ho)).length }:=by
  refine#[ok',rfl,I.bare,Un.kept k1,#[_,hns₁,λi x v e1 e2 e3=>?_],λx cc z=>?_,fresh _ (show s.heap.objs.size<=h2.objs.size by rw[hCs]; exact Kt _),λx cc z=>I.freeC x cc (ck.sub x cc z),λp hp=>absurd hp (by simp[lG]),(I.hok.kept k2).kept k1,by rw[Hq]; exact ck.len]
  ·rw[Hy]at e2;cases q:cap[i]? with
   | none=>rw[q]at e2; cases e2
   | some oj=>
    rw[q]at e2;cases oj with
    | none=>cases e2
    | some j=>
     obtain⟨z1,z2,z3⟩:=ck.cap i j x q e1;have e2':(σ[j]?).join=gV v:=by simpa using e2
     have e2'':σ[j]?=gV (gV v):=by
      cases r:σ[j]? with
      | none=>rw[r]at e2'; cases e2'
      | some y=>rw[r]at e2'; exact congrArg gV e2'
     obtain⟨u,ru,lk⟩:=hl0 j x v z1 e2'' (by
      rcases z2 with z|z
      ·exact .inr (.inl z)
      ·exact .inr (.inr z))
     refine#[u,ru,?_];rcases lk with⟨zk,_⟩|⟨_,cc,zc,zi⟩
     ·rcases z2 with z|z <;> (rw[zk]at z; cases z)
     ·obtain⟨c2,hc2⟩:=ck.has x z3;have:=ck.sub x c2 hc2;rw[zc]at this; cases this
      refine .inr #[z3,cc,hc2,?_];obtain⟨o,ho,hd⟩:=zi;exact#[o,k1 _ _ (k2 _ _ ho),hd]
  ·obtain⟨v,o,ho,hd⟩:=I.cell x cc (ck.sub x cc z);exact#[v,o,k1 _ _ (k2 _ _ ho),hd]
 have er0:EnvRel X.K A H (fN cap ρ) (cap.map λo=>match o with|some j=>(σ[j]?).join|none=>td):=by
  refine#[by simp[fN],λi w q=>?_]
  unfold fN at q;rw[Hy]at q ⊢;cases r:cap[i]? with
  | none=>rw[r]at q; cases q
  | some oj=>
   rw[r]at q;cases oj with
   | none=>cases q
   | some j=>
    have q':(ρ[j]?).join=gV w:=by simpa using q
    have q'':ρ[j]?=gV (gV w):=by
     cases z:ρ[j]? with
     | none=>rw[z]at q'; cases q'
     | some y=>rw[z]at q'; exact congrArg gV q'
    obtain⟨v,z1,z2⟩:=er.2 j w q'';exact#[v,by simp[z1],z2]
 have t1:tn 0 h₁:=T.keep 0 s.heap h₁ t0 λb hb o z=>k1 b o (k2 b o z)
 have fpOk':∀ {H':Hp} {pp:Hm (Hx×Jn)},(∀b∈fp,H' b=td)->(∀p∈pp,p.1=s.heap.objs.size)->∀b∈fp,iX (lG X scope cl h2.objs.size N s3 H (fp++[s.heap.objs.size])) pp H' b:=λhn hp b hb=>
  #[hn b hb,ltC (fpLt b hb),fpStk b hb,.inl (J2 _ hb),λx cc z=>(hfp b hb).2.2.2.2.1 x cc (ck.sub x cc z),λp hpp=>by
   rw[hp p (by simpa [lG]using hpp)]
   exact(Ic (fpLt b hb)).symm]
 have DinEx:s.heap.objs.size∈fp++[s.heap.objs.size]:=Ik _ (by simp)
 have cellD:∀x c,cl.lookup x=gV c->c≠s.heap.objs.size:=λx cc z=>Ic (cellLt x cc (ck.sub x cc z))
 have fpD:∀b∈fp,b≠s.heap.objs.size:=λb hb=>Ic (fpLt b hb)
 have theEnd:∀s' σ' H' A' vs its nn,Inv (lG X scope cl h2.objs.size N s3 H (fp++[s.heap.objs.size])) [] σ' H' s'->s'.heap.get? s.heap.objs.size=gV { cls:=.type "list",data:=.seq its nn }->∀(hits:∃l:Hm Ho,its=l.toArray/\Vals vs l),H' s.heap.objs.size=td->Ext X.K A H A' H'->StoreOk X.w X.K A' H' S'->RelL X.K A' H' ws vs->
   RR (.ref s.heap.objs.size) h2.objs.size (.ok .next) s':=by
  intro s' σ' H' A' vs its nn I' hD hits hDn ex so' rl;obtain⟨l,rfl,rv⟩:=hits;obtain⟨m,hn,_⟩:=id I'.loc;have un:Un (qT X.stack) (fp++[s.heap.objs.size]) H H' s.heap s'.heap:=(Un.kept k2).trans I'.base;have hch:∀b∈fp++[s.heap.objs.size],(b∈X.ex\/X.s₀.heap.objs.size<=b)/\b≠X.env.locals/\(∀x c,X.env.cells.lookup x=gV c->c≠b)/\∀p∈X.pn++pins,p.1≠b:=λb hb=>by
   rcases Iz.mp hb with hb|hb
   ·exact#[(hfp b hb).2.2.2.1,(hfp b hb).2.1,(hfp b hb).2.2.2.2.1,(hfp b hb).2.2.2.2.2]
   ·have eb:b=s.heap.objs.size:=by simpa using hb
    subst eb;exact#[.inr I.sz,(Ic I.lt).symm,λx cc z=>Ic (cellLt x cc z),λp hp=>Ic (HP (I.pin p hp).1)]
  have I2:Inv X pins σ H' s':=I.call' (show s'.os=s.os from I'.os) un I'.hok I'.bare hch
  have I3:Inv X pins σ (cv H' s.heap.objs.size (.lst vs)) s':=Inv.adopt I2 hDn (hch _ DinEx).1 (hch _ DinEx).2.1 (hch _ DinEx).2.2.1 (hch _ DinEx).2.2.2 #[by rw[<- rl.length]; exact hz,l,nn,rv,hD]
  have hCle:s.heap.objs.size<=h2.objs.size:=by rw[hCs]; exact Kt _
  exact fin _ _ s' H' A' vs m hn hDn hDC (Ke (Ih I.lt hCle)) (I.nofs hCle) I'.free (IE I.sz hCle) (λx cc z=>Ic (Ih (cellLt x cc z) hCle))
   (λp hp=>Ic (Ih (HP (I.pin p hp).1) hCle)) I3 ex so' rl
 have loop:∀s4:Hr,s4={ s3 with heap:=h₁,toks:=s3.toks+([]:Hm (HL×Ho)).length }->
   codeAny (model X.prog X.w) X.A (.compLoop (.ListComp elt [#[tg,iter,ifs,0]] scope pos) 0 (.ref it) (.ref s.heap.objs.size) (compEnvC scope cl h2.objs.size X.env)) (RR (.ref s.heap.objs.size) h2.objs.size) s4:=by
  rintro s4 rfl;refine gE (λk s5=>∃i σ5 H5 A5 ρ5 S5 done its nn vs ys,Inv (lG X scope cl h2.objs.size N s3 H (fp++[s.heap.objs.size])) [] σ5 H5 s5/\tn i s5.heap/\(∀b∈fp,H5 b=td)/\s5.heap.get? s.heap.objs.size=gV { cls:=.type "list",data:=.seq (its:Hm Ho).toArray nn }/\H5 s.heap.objs.size=td/\Vals vs its/\
   Ext X.K A H A5 H5/\EnvRel X.K A5 H5 ρ5 σ5/\StoreOk X.w X.K A5 H5 S5/\RelL X.K A5 H5 done vs/\ws=done++ys/\cj mi g c f k i ρ5 S5=gV (ys,S')) ?_ n
   #[0,_,H,A,_,S,[],[],0,[],ws,I0,t1,λb hb=>(hfp b hb).1,k1 _ _ hD2,fresh _ (HG _),.nil,.refl,er0,so,.nil,rfl,e]
  rintro k s5 ⟨i,σ5,H5,A5,ρ5,S5,done,its,nn,vs,ys,I5,t5,f5,d5,n5,v5,e5,er5,so5,rl5,hw5,w5⟩;have pinD:Inv (lG X scope cl h2.objs.size N s3 H (fp++[s.heap.objs.size])) [(s.heap.objs.size,{ cls:=.type "list",data:=.seq its.toArray nn })] σ5 H5 s5:=I5.pins_of λp hp=>by
   have hp':p=(s.heap.objs.size,{ cls:=.type "list",data:=.seq its.toArray nn }):=by simpa using hp
   subst hp';exact#[d5,n5,hDC,λz=>Ji _ (stkLt _ z),λv z=>by cases z]
  have oneD:∀p∈[(s.heap.objs.size,({ cls:=.type "list",data:=.seq its.toArray nn }:Jn))],p.1=s.heap.objs.size:=λp hp=>by
   have hp':p=(s.heap.objs.size,{ cls:=.type "list",data:=.seq its.toArray nn }):=by simpa using hp
   rw[hp']
  cases k with
  | zero=>
   simp only[cj]at w5;split at w5
   ·rename_i hst;cases w5;rw[IZ]at hw5;subst hw5;refine cg (T.done (lG X scope cl h2.objs.size N s3 H (fp++[s.heap.objs.size])) rfl rfl rfl hc i _ s5 σ5 H5 _ pinD (fpOk' f5 oneD) t5 (mit.stop A5 H5 _ i e5 so5 hst)) λr s6 #[hr,I6]=>?_
    subst hr;have p6:=I6.pin _ (Ik _ (HN.mpr rfl));exact theEnd s6 σ5 H5 A5 vs _ nn (I6.pins_of λp hp=>absurd hp (by simp)) p6.1 #[its,rfl,v5] n5 e5 so5 rl5
   ·cases w5
  | succ k=>
   simp only[cj]at w5;split at w5
   ·rename_i w hw;obtain⟨go,yl⟩:=mit.go A5 H5 S5 i w e5 so5 hw;refine cg (T.item (lG X scope cl h2.objs.size N s3 H (fp++[s.heap.objs.size])) rfl rfl rfl hc i _ s5 σ5 H5 _ pinD (fpOk' f5 oneD) t5 go) λr s6 #[u,hr,h6]=>?_
    subst hr;refine cg h6 λ_ s7 #[x,H7,I7,r7,y7,t7,f7]=>?_
    obtain⟨x1,x2,x3⟩:=yl x H7 y7;have I7':=I7.pinned (fpOk' f7 oneD) (T.obj _ _ t7);split at w5
    ·rename_i ρ8 S8 h8;refine cg (bk.tgt _ _ _ _ _ s7 σ5 H7 x u (λσ' H'=>∃A',Ext X.K A5 H5 A' H'/\StoreOk X.w X.K A' H' S8/\EnvRel X.K A' H' ρ8 σ') I7' r7 #[A5,ρ5,S5,w,ρ8,S8,er5.mono x1,x2,x3,h8,λσ' H' A' q1 q2 q3=>#[A',x1.trans q1,q2,q3]]) λ_ s8 #[σ8,H8,I8,A8,e58,so8,er8]=>?_
     have e8:Ext X.K A H A8 H8:=e5.trans e58;have pD:∀ {σ':L2.St} {H':Hp} {s':Hr},Inv (lG X scope cl h2.objs.size N s3 H (fp++[s.heap.objs.size])) ([(s.heap.objs.size,{ cls:=.type "list",data:=.seq its.toArray nn })]++iY fp s7.heap) σ' H' s'->s'.heap.get? s.heap.objs.size=gV { cls:=.type "list",data:=.seq its.toArray nn }/\H' s.heap.objs.size=td:=λI'=>
      let q:=I'.pin _ (Ik _ (J2 _ (HN.mpr rfl)))
      #[q.1,q.2.1]
     have pF:∀ {σ':L2.St} {H':Hp} {s':Hr},Inv (lG X scope cl h2.objs.size N s3 H (fp++[s.heap.objs.size])) ([(s.heap.objs.size,{ cls:=.type "list",data:=.seq its.toArray nn })]++iY fp s7.heap) σ' H' s'->(∀b∈fp,H' b=td)/\∀b∈fp,∀o,s7.heap.get? b=gV o->s'.heap.get? b=gV o:=λI'=>
      #[λb hb=>by
       obtain⟨o,eo,_⟩:=T.obj _ _ t7 b hb;exact(I'.pin (b,o) (Ik _ (Ik _ (fA hb eo)))).2.1,
       λb hb o eo=>(I'.pin (b,o) (Ik _ (Ik _ (fA hb eo)))).1]
     split at w5
     ·rename_i S9 h9;refine cg (bk.tst _ _ _ _ _ s8 σ8 H8 (λb H'=>b=true/\∃A',Ext X.K A8 H8 A' H'/\StoreOk X.w X.K A' H' S9) I8 #[A8,ρ8,S8,true,S9,er8,so8,h9,λb H' #[z0,A',z1,z2]=>#[z0,A',z1,z2]]) λb s9 #[H9,I9,z0,A9,e9,so9]=>?_
      subst z0;rw[HW rfl];split at w5
      ·rename_i y S10 h10;split at w5
       ·rename_i ys' S4 h11;cases w5;refine cg (bk.elt _ _ _ _ _ s9 σ8 H9 (EndV X.w X.K A9 H9 S10 y) I9 #[A9,ρ8,S9,y,S10,er8.mono e9,so9,h10,λ_ _ z=>z]) λu10 s10 #[v10,H10,I10,r10,A10,e10,so10,rl10]=>?_
        obtain⟨d10,n10⟩:=pD I10;obtain⟨f10,k10⟩:=pF I10;have hlen:its.length < sizeLine:=by
         have l1:=v5.length;have l2:=rl5.length;rw[hw5,HA,IN]at hz;omega
        refine nY d10 hlen λh' n' hd' hk'=>?_
        have Ib:Inv (lG X scope cl h2.objs.size N s3 H (fp++[s.heap.objs.size])) [] σ8 H10 { s10 with heap:=h' }:=by
         have Ia:Inv (lG X scope cl h2.objs.size N s3 H (fp++[s.heap.objs.size])) [] σ8 H10 s10:=I10.pins_of λp hp=>absurd hp (by simp)
         exact Ia.turned (t':=s10.toks) (it:=s.heap.objs.size) hk' n10 hDC (.inl DinEx) cellD (λp hp=>absurd hp (by simp[lG]))
        refine#[k,JS k,i+1,σ8,H10,A10,ρ8,S10,done++[y],its++[u10],n',vs++[v10],ys',Ib,?_,f10,hd',n10,v5.append #v[r10],(e8.trans e9).trans e10,(er8.mono e9).mono e10,so10,?_,?_,h11]
        ·exact T.keep (i+1) s7.heap h' t7 λb hb o eo=>hk' b o (fpD b hb) (k10 b hb o eo)
        ·exact(rl5.mono ((e58.trans e9).trans e10)).append #v[rl10]
        ·rw[hw5,Km]; rfl
       ·cases w5
      ·cases w5
     ·rename_i S9 h9;refine cg (bk.tst _ _ _ _ _ s8 σ8 H8 (λb H'=>b=false/\∃A',Ext X.K A8 H8 A' H'/\StoreOk X.w X.K A' H' S9) I8 #[A8,ρ8,S8,false,S9,er8,so8,h9,λb H' #[z0,A',z1,z2]=>#[z0,A',z1,z2]]) λb s9 #[H9,I9,z0,A9,e9,so9]=>?_
      subst z0;rw[Ix HU];obtain⟨d9,n9⟩:=pD I9;obtain⟨f9,k9⟩:=pF I9;refine#[k,JS k,i+1,σ8,H9,A9,ρ8,S9,done,its,nn,vs,ys,I9.pins_of λp hp=>absurd hp (by simp),T.keep (i+1) s7.heap _ t7 k9,f9,d9,n9,v5,e8.trans e9,er8.mono e9,so9,rl5.mono (e58.trans e9),hw5,w5]
     ·cases w5
    ·cases w5
   ·cases w5
 exact codeAny_compStart_list (loop _ rfl) (T.self X.A 0 _ _ _ t1 (loop _ rfl))
theorem pV {fi:FI}{g:FG}{c:FT}{f:FE}{cap:Hm (Ht Hu)}{ρ:Fm}{S:aa}{w:W}{S':aa}(e:kJ fi g c f cap ρ S=gV (w,S')) :
  ∃mi S1 n ys S2,fi ρ S=gV (mi,S1)/\mi.len S1=gV n/\cj mi g c f n 0 (fN cap ρ) S1=gV (ys,S2)/\ys.length<=sizeLine/\w=.ref S2.length/\S'=S2++[.lst ys]:=by
 unfold kJ at e;split at e
 ·rename_i mi S1 h1;split at e
  ·rename_i n h2;split at e
   ·rename_i ys S2 h3;obtain⟨h4,h5,h6⟩:=j4 e;exact#[mi,S1,n,ys,S2,h1,h2,h3,h4,h5,h6]
   ·cases e
  ·cases e
 ·cases e
theorem Ae {scope:Kl}{N:Hm HL}{cap:Hm (Ht Hu)}{tg elt iter:HS}{ifs:Hm HS}{fi:FI}{g:FG}{c:FT}{f:FE}{pos:JW}(hc:X.calm=true)(hi:GI X tg iter fi)(hck:X.Ok->∃cl,CompOk X scope cl N cap/\BlockOk X scope cl N tg elt ifs g c f)
  (hs:∀x,foldedSetIterable iter X.env x=pure x):GE X (.ListComp elt [#[tg,iter,ifs,0]] scope pos) (kJ fi g c f cap):=by
 intro pins s σ H Q I ⟨A,ρ,S,w,S',er,so,e,hq⟩;obtain⟨mi,S1,n,ys,S2,h1,h2,h3,h4,rfl,rfl⟩:=pV e;obtain⟨cl,ck,bk⟩:=hck I.ok;rw[eval_ListComp];refine LN (use:=td) rfl hs ck.clos ck.kind ck.names (cg (hi pins s σ H (λJ H'=>∃A',Ext X.K A H A' H'/\StoreOk X.w X.K A' H' S1/\MIt X.w X.K mi J A' H') I #[A,ρ,S,mi,S1,er,so,h1,λJ H' A' z1 z2 z3=>#[A',z1,z2,z3]]) λv s1 q1=>cg q1 λitv s2 q2=>?_)
 obtain⟨it,fp,tn,J,H2,rfl,I2,T,t0,hfp,A2,e2,so2,mit⟩:=q2;refine mK (RR:=λacc C=>compPost (model X.prog X.w) X.A X.xe td (EP X pins σ Q) acc C) I2 hc (er.mono e2) so2 ck bk T t0 hfp mit h3 h4 ?_
 intro D C s' H' A' vs m hn hDn hDC hCL hCf hCn hCs hCc hCp I3 ex so3 rl;refine#[m,hn,λh' hs'=>?_]
 have I4:Inv X pins σ (cv H' D (.lst vs)) { s' with heap:=h' }:=I3.turned (t':=s'.toks) (it:=C) (λb o hb eo=>hs'.extBut b o hb eo) (by rw[aX (Ne.symm hDC)]; exact hCn) hCL (.inr hCs) hCc hCp
 exact#[.ref D,_,I4,rfl,hq _ _ (EndV.after (e2.trans ex) (.lst so3 rl hDn))]
theorem rD {scope:Kl}{N:Hm HL}{cap:Hm (Ht Hu)}{tg elt iter:HS}{ifs:Hm HS}{fi:FI}{g:FG}{c:FT}{f:FE}{pos py spos:JW}{y:HL}{i:Hu}(hc:X.calm=true)(hi:GI X tg iter fi)(hck:X.Ok->∃cl,CompOk X scope cl N cap/\BlockOk X scope cl N tg elt ifs g c f)
  (hs:∀x,foldedSetIterable iter X.env x=pure x) (hsw:swapsWith (.ListComp elt [#[tg,iter,ifs,0]] scope pos) (gV (.Name y py)) spos.line X.env=pure true) (hN:X.N.Nodup) (hy:X.N[i]?=gV y) (hl:X.env.scope.names.lookup y=gV .local) :
  GS X (.Assign [.Name y py] (.ListComp elt [#[tg,iter,ifs,0]] scope pos) spos) (kI (kJ fi g c f cap) (zR i)):=by
 intro pins s σ H Dd I ⟨A,ρ,S,o,S',er,so,e,hd⟩;unfold kI at e;split at e
 ·rename_i w S0 h0;simp only[zR]at e;cases e;obtain⟨mi,S1,n,ys,S2,h1,h2,h3,h4,rfl,rfl⟩:=pV h0;obtain⟨cl,ck,bk⟩:=hck I.ok;rw[exec_Assign_Name_used _ _ _ _ hsw];refine Hn (Lb (Hn ?_));show wpAny _ X.A (do let _ <- comprehension (.ListComp elt [⟨tg,iter,ifs,0⟩] scope pos) scope X.env _ (newList []) false (eval iter X.env) (gV (assign (.Name y py) X.env))) _ _ s
  refine Hn (Jz (LN (use:=gV (assign (.Name y py) X.env)) (Q:=λ_ s'=>SP X pins Dd .next s') rfl hs ck.clos ck.kind ck.names
   (cg (hi pins s σ H (λJ H'=>∃A',Ext X.K A H A' H'/\StoreOk X.w X.K A' H' S1/\MIt X.w X.K mi J A' H') I #[A,ρ,S,mi,S1,er,so,h1,λJ H' A' z1 z2 z3=>#[A',z1,z2,z3]]) λv s1 q1=>cg q1 λitv s2 q2=>?_)) (λ_ s' hq=>Hz (Hz hq)) λ_ _ e=>e)
  obtain⟨it,fp,tn,J,H2,rfl,I2,T,t0,hfp,A2,e2,so2,mit⟩:=q2;refine mK (RR:=λacc C=>compPost (model X.prog X.w) X.A X.xe (gV (assign (.Name y py) X.env)) (λ_ s'=>SP X pins Dd .next s') acc C) I2 hc (er.mono e2) so2 ck bk T t0 hfp mit h3 h4 ?_
  intro D C s' H' A' vs m hn hDn hDC hCL hCf hCn hCs hCc hCp I3 ex so3 rl;obtain⟨oC,esC,epC,hoC,hdC,hrC⟩:=id hn;have I3':Inv X (pins++[(C,oC)]) σ (cv H' D (.lst vs)) s':=I3.pins_of λp hp=>by
   rcases Iz.mp hp with hp|hp
   ·exact I3.pin p (Ik _ hp)
   ·have hp':p=(C,oC):=by simpa using hp
    subst hp';exact#[hoC,by rw[aX (Ne.symm hDC)]; exact hCn,hCL,hCf,λv z=>by rw[hdC]at z; cases z]
  show wpAny _ X.A (assign (.Name y py) X.env (.ref D)) _ _ _;refine Nb (ii I3' hN hy (.inl hl) (v:=.ref D) rfl (λs4 I4=>?_) (.inr hl))
  have pC:=I4.pin (C,oC) (Ik _ (Ik _ (HN.mpr rfl)));refine#[m,#[oC,esC,epC,pC.1,hdC,hrC],λh' hs'=>?_]
  have I5:Inv X pins (σ.set i (gV (.ref D))) (cv H' D (.lst vs)) s4:=I4.pins_of λp hp=>I4.pin p (Ik _ (J2 _ hp))
  have I6:Inv X pins (σ.set i (gV (.ref D))) (cv H' D (.lst vs)) { s4 with heap:=h' }:=I5.turned (t':=s4.toks) (it:=C) (λb o hb eo=>hs'.extBut b o hb eo) (by rw[aX (Ne.symm hDC)]; exact hCn) hCL (.inr hCs) hCc hCp
  obtain⟨Af,f1,f2,f3⟩:=EndV.after (e2.trans ex) (EndV.lst so3 rl hDn);exact#[_,_,I6,hd.nx _ _ #[_,Af,rfl,f1,f2,(er.mono f1).set f3 i]]
 ·cases e
end
open PySem.Builtin.SmallTypes (nextOf)
section
variable{prog:HZ}{w:Iw}
structure Zit (prog:HZ)(w:Iw)(it:Hx)(T:Hu->IF->Prop)(C:IF->Prop)(i:Hu)(U:Ht (Ho->Prop)):Prop where
 keep:∀j h h',T j h->(∀o,h.get? it=gV o->h'.get? it=gV o)->T j h'
 next:∀V,U=gV V->∀(B:Iu) (s:Hr) (Q:Ho->Hr->Prop) (E:Ho->Hr->Prop),T i s.heap->C s.heap->(∀u h' tk,V u->T (i+1) h'->J3 it s.heap h'->Q u { s with heap:=h',toks:=tk })->wpAny (model prog w) B (nextOf (.ref it)) Q E s
 stop:U=td->∀(B:Iu) (s:Hr) (Q:Ho->Hr->Prop) (E:Ho->Hr->Prop),B.handled=td->T i s.heap->C s.heap->(∀h' e,Mu it s.heap h'->(∃o,h'.get? e=gV o/\o.cls=.type "StopIteration")->E (.ref e) { s with heap:=h' })->wpAny (model prog w) B (nextOf (.ref it)) Q E s
variable{B:Iu}{E:Ho->Hr->Prop}{s:Hr}{z p q i1 i2:Hx}{T1 T2:Hu->IF->Prop}{C1 C2:IF->Prop}{i:Hu}{a b:Ho}
noncomputable def Zc (z q i1 i2:Hx)(C:IF->Prop):Prop:=∀h h',C h->(∀c o,c≠z->c≠q->c≠i1->c≠i2->h.get? c=gV o->h'.get? c=gV o)->C h'
end
end Mi
namespace Mi
open PySem PySem.Spec PyProof.Rows L2
open PySem.Builtin.SmallTypes (nextOf)
noncomputable def rE (prog:HZ)(w:Iw)(v:Ho)(o:Jn)(C:IF->Prop):Prop:=∀(B:Iu) (s:Hr) (Q:Ho->Hr->Prop) (E:Ho->Hr->Prop),C s.heap->Q (.ref s.heap.objs.size) { s with heap:=s.heap.push o }->wpAny (model prog w) B (pyIter v) Q E s
end Mi
namespace Mi
open PySem PySem.Spec PyProof.Rows L2
open PySem.Builtin.SmallTypes (nextOf)
section
variable{prog:HZ}{w:Iw}{A:Iu}{E:Ho->Hr->Prop}{s:Hr}
theorem EB {it t:Hx}{i:Hu}{items:IC Ho}{x:Ho}{Q:Ho->Hr->Prop}(hit:s.heap.IsTupleIter it t i)(ht:s.heap.IsTuple t items)(hx:items[i]?=gV x)
  (hQ:∀h',h'.IsTupleIter it t (i+1)->J3 it s.heap h'->Q x { s with heap:=h' }):wpAny (model prog w) A (nextOf (.ref it)) Q E s:=by
 obtain⟨o,ho,hc,hd⟩:=id hit;obtain⟨ot,hot,_,nt,hdt⟩:=ht;unfold LA;refine Hn (IR (name:=JO "__next__") hit.typeIs F.slot_tuple_iterator_next (Ja F.slot_tuple_iterator_next hit.typeIs F.entry_tuple_iterator_next ?_ (F.args_tuple_iterator_next_1 _)));show wpAny _ _ (field (.ref it) 0 >>= _) _ _ s;refine Hn (JG ho hd (x:=.ref t) rfl ?_);show wpAny _ _ (if (IA t==IK)=true then _ else _) _ _ s
 rw[Ix (show ¬ ((IA t==IK)=true)from HU)]
 show wpAny _ _ (field (.ref it) 1 >>= _) _ _ s;refine Hn (JG ho hd (x:=.int i 0) rfl (Hn (Ku hot hdt ?_)));simp only[HE,hx];refine Hn (Lr ho hd (by simp) (Hz #[x,rfl,Hz (hQ _ #[_,JX _ ho (Mo (KN hd _)),(Nn ..).trans hc,?_] (Kz ..))]))
 rw[KN hd]; simp[rawInt]
theorem EC {it t:Hx}{i:Hu}{items:IC Ho}{Q:Ho->Hr->Prop}(hh:A.handled=td)(hit:s.heap.IsTupleIter it t i)(ht:s.heap.IsTuple t items)(hx:items[i]?=td)
  (hE:∀h' e,Mu it s.heap h'->(∃o,h'.get? e=gV o/\o.cls=.type "StopIteration")->E (.ref e) { s with heap:=h' }):wpAny (model prog w) A (nextOf (.ref it)) Q E s:=by
 obtain⟨o,ho,hc,hd⟩:=id hit;obtain⟨ot,hot,_,nt,hdt⟩:=ht;unfold LA;refine Hn (IR (name:=JO "__next__") hit.typeIs F.slot_tuple_iterator_next (Ja F.slot_tuple_iterator_next hit.typeIs F.entry_tuple_iterator_next ?_ (F.args_tuple_iterator_next_1 _)));show wpAny _ _ (field (.ref it) 0 >>= _) _ _ s;refine Hn (JG ho hd (x:=.ref t) rfl ?_);show wpAny _ _ (if (IA t==IK)=true then _ else _) _ _ s
 rw[Ix (show ¬ ((IA t==IK)=true)from HU)]
 show wpAny _ _ (field (.ref it) 1 >>= _) _ _ s;refine Hn (JG ho hd (x:=.int i 0) rfl (Hn (Ku hot hdt ?_)));simp only[HE,hx];refine Hn (MY (Hn (Lr ho hd (by simp) ?_)))
 show wpAny _ _ (newExc (.type "StopIteration") [] >>= _) _ _ _;refine Hn ?_;simp only[newExc,newTuple];refine Hn (IG ?_ (by size_fits))
 refine Hn (m:=firstArgMember _ _) (Mv (a:=IK) (by first|rfl|(simp only[firstArgMember]; rfl)) (IG ?_ (by size_fits)))
 simp only[raiseNew];refine Hn (OC ?_)
 first|rw[show A.in1.handled=td from hh]|rw[hh]
 exact Hn (Hz (O4 (hE _ _ (((Kz ..).extBut.push _).push _) #[_,HQ _ rfl,rfl])))
end
inductive Zs where|tup (a:Hx)|lst (a:Hx)|txt (x:HL)
noncomputable def Zs.T (it:Hx):Zs->Hu->IF->Prop
 | .tup a,i,h=>h.IsTupleIter it a i
 | .lst a,i,h=>h.IsListIter it a i
 | .txt x,i,h=>∃t,h.IsStrIter it "str_ascii_iterator" x t i\/h.IsStrIter it "str_iterator" x t i
noncomputable def Zs.at (K:HC)(H:Hp)(i:Hu)(v:V):Zs->Prop
 | .tup a=>∃xs,SqT K H a xs/\xs[i]?=gV v
 | .lst a=>∃xs,SqL K H a xs/\xs[i]?=gV v
 | .txt x=>∃c,x.cps[i]?=gV c/\v=.str #[[c].toArray]
noncomputable def Zs.out (K:HC)(H:Hp)(i:Hu):Zs->Prop
 | .tup a=>∃xs,SqT K H a xs/\xs.length<=i
 | .lst a=>∃xs,SqL K H a xs/\xs.length<=i
 | .txt x=>x.cps.size<=i
theorem Zs.keep {S:Zs}{it:Hx}{j:Hu}{h h':IF}(t:S.T it j h)(k:∀o,h.get? it=gV o->h'.get? it=gV o):S.T it j h':=by
 cases S with
 | tup a=>exact t.at k
 | lst a=>exact t.at k
 | txt x=>
  obtain⟨tk,t⟩:=t;exact#[tk,t.imp (λ#[o,e,r]=>#[o,k _ e,r]) λ#[o,e,r]=>#[o,k _ e,r]]
section
variable{X:Cx}{pins:Hm (Hx×Jn)}{σ:L2.St}{H:Hp}{s:Hr}
theorem wK (I:Inv X pins σ H s){a b:Hx}{o:Jn}(h:X.K.lookup a=gV o)(f:iX X pins H b):a≠b:=λz=>by
 subst z;have hb:=I.ok.mod.kin a o h;rcases f.2.2.2.1 with q|q
 ·exact I.ok.noex a o hb q
 ·exact absurd (Ih (HP (I.ok.bs a o hb).1) q) (Ji _)
end
end Mi
namespace Mi
open PySem PySem.Spec PyProof.Rows L2
open PySem.Builtin.SmallTypes (nextOf)
section
variable{X:Cx}{pins:Hm (Hx×Jn)}{σ:L2.St}{H:Hp}{s:Hr}{h':IF}
theorem wL {a b:Hx}{u:HO}(h:Rd H a u)(f:H b=td):a≠b:=λz=>by
 subst z;rcases h with h|⟨o,h⟩ <;> (rw[f]at h; cases h)
theorem Inv.turnedL {t':Hu}{ch:Hm Hx}(I:Inv X pins σ H s)(k:∀b o,b∉ch->s.heap.get? b=gV o->h'.get? b=gV o)(hf:∀b∈ch,iX X pins H b):Inv X pins σ H { s with heap:=h',toks:=t' }:=by
 have nit:∀b u,H b=gV u->b∉ch:=λb u e z=>by have:=(hf b z).1; rw[e]at this; cases this
 refine I.step (g':=s.gens) (d':=s.drawn) (ch:=ch) (λb hb=>?_) (λb o _ _ hc e _=>k b o hc e) (λb o _ _ hc e _=>#[o.slots,k b o hc e]) (λ_ _ _ _ n=>n) (λb o hc e=>#[o,k b o hc e]) (λ_ _ e=>e) (λ_ _ _ e=>e) (λb ps e=>#[#[],by rw[e]; simp]) (λm hm=>?_) (λb u e=>?_) I.bare
 ·obtain⟨_,f1,_,f3,f4,f5⟩:=hf b hb;exact#[f3,f1,f4,f5]
 ·obtain⟨o,es,ep,ho,r⟩:=hm;exact#[o,es,ep,k _ o (λz=>(hf _ z).2.1 rfl) ho,r]
 ·refine(I.hok b u e).stay (λc v hc q=>k c v ?_ q) (λ_ q=>q) λ_ _ q=>q
  rcases hc with z|z
  ·rw[z]; exact nit b u e
  ·exact nit c _ z
theorem Zs.zit {S:Zs}{it z q i1 i2:Hx}{i:Hu}{U:Ht V}(I:Inv X pins σ H s)(hf:∀b∈[z,q,i1,i2],iX X pins H b)(g:match U with|some v=>S.at X.K H i v|none=>S.out X.K H i) :
  ∃C,Zit X.prog X.w it (S.T it) C i (U.map λv u=>RelV v u)/\C s.heap/\Zc z q i1 i2 C:=by
 have zc:∀(a:Hx) (P:IF->Prop),(∀h h',P h->(∀o,h.get? a=gV o->h'.get? a=gV o)->P h')->(∀b∈[z,q,i1,i2],a≠b)->Zc z q i1 i2 P:=λa P hP hn h h' p k=>
  hP h h' p λo e=>k a o (hn z (by simp)) (hn q (by simp)) (hn i1 (by simp)) (hn i2 (by simp)) e
 have sep:∀ {a:Hx} {u:HO} {o:Jn} {b:Hx},(Rd H a u\/X.K.lookup a=gV o)->b∈[z,q,i1,i2]->a≠b:=λh hb=>h.elim (λr=>wL r (hf _ hb).1) λr=>wK I r (hf _ hb)
 cases S with
 | tup a=>
  obtain⟨xs,hq,hx⟩ : ∃xs,SqT X.K H a xs/\(match U with|some v=>xs[i]?=gV v|none=>xs.length<=i):=by
   cases U <;> exact g
  obtain⟨its,rv,p,_⟩:=I.tuple hq;have hne:∀b∈[z,q,i1,i2],a≠b:=λb hb=>by
   rcases hq with r|⟨o,_,_,r,_⟩
   ·exact wL r (hf b hb).1
   ·exact wK I r (hf b hb)
  refine#[λh=>h.IsTuple a its.toArray,#[λj h h' t k=>Zs.keep (S:=.tup a) t k,λV hV B s2 Q E t c hQ=>?_,λhU B s2 Q E hh t c hE=>?_],p,zc a _ (λh h' #[o,e,r] k=>#[o,k _ e,r]) hne]
  ·cases U with
   | none=>cases hV
   | some v=>
    cases hV;obtain⟨u,hu,ru⟩:=rv.get hx;exact EB t c (x:=u) (by simpa using hu) λh' t' sb=>hQ u h' s2.toks ru t' sb
  ·cases U with
   | some v=>cases hU
   | none=>
    have:=L2.Vals.length rv;have hx':xs.length<=i:=hx;exact EC hh t c (by simp; omega) hE
 | lst a=>
  obtain⟨xs,hq,hx⟩ : ∃xs,SqL X.K H a xs/\(match U with|some v=>xs[i]?=gV v|none=>xs.length<=i):=by
   cases U <;> exact g
  obtain⟨its,rv,p,_⟩:=I.list hq;have hne:∀b∈[z,q,i1,i2],a≠b:=λb hb=>by
   rcases hq with r|⟨o,_,_,r,_⟩
   ·exact wL r (hf b hb).1
   ·exact wK I r (hf b hb)
  refine#[λh=>h.IsList a its.toArray,#[λj h h' t k=>Zs.keep (S:=.lst a) t k,λV hV B s2 Q E t c hQ=>?_,λhU B s2 Q E hh t c hE=>?_],p.isList,zc a _ (λh h' #[o,e,r] k=>#[o,k _ e,r]) hne]
  ·cases U with
   | none=>cases hV
   | some v=>
    cases hV;obtain⟨u,hu,ru⟩:=rv.get hx;exact wpAny_nextOf_list_item t c (x:=u) (by simpa using hu) λh' t' sb=>hQ u h' s2.toks ru t' sb
  ·cases U with
   | some v=>cases hU
   | none=>
    have:=L2.Vals.length rv;have hx':xs.length<=i:=hx;exact wpAny_nextOf_list_end hh t c (by simp; omega) hE
 | txt x=>
  refine#[λ_=>N3,#[λj h h' t k=>Zs.keep (S:=.txt x) t k,λV hV B s2 Q E t _ hQ=>?_,λhU B s2 Q E hh t _ hE=>?_],trivial,λ_ _ _ _=>trivial]
  ·cases U with
   | none=>cases hV
   | some v=>
    cases hV;obtain⟨c,hc,rfl⟩ : ∃c,x.cps[i]?=gV c/\v=.str #[[c].toArray]:=g;obtain⟨tk,t|t⟩:=t
    ·exact wpAny_nextOf_ascii_item t hc λh' t' sb=>hQ _ h' _ #[_,rfl] #[tk,.inl t'] sb
    ·exact wpAny_nextOf_wide_item t hc λh' t' sb=>hQ _ h' _ #[_,rfl] #[tk,.inr t'] sb
  ·cases U with
   | some v=>cases hU
   | none=>
    have hx:x.cps[i]?=td:=by simpa using(show x.cps.size<=i from g)
    obtain⟨tk,t|t⟩:=t
    ·exact wpAny_nextOf_ascii_end hh t hx hE
    ·exact wpAny_nextOf_wide_end hh t hx hE
end
noncomputable def Zs.is (K:HC)(H:Hp)(i:Hu)(v:V):Zs->Prop
 | .tup a=>∀xs,SqT K H a xs->xs[i]?=gV v
 | .lst a=>∀xs,SqL K H a xs->xs[i]?=gV v
 | .txt x=>∃c,x.cps[i]?=gV c/\v=.str #[[c].toArray]
theorem Zs.at_is {S:Zs}{X:Cx}{pins:Hm (Hx×Jn)}{σ:L2.St}{H:Hp}{s:Hr}{i:Hu}{v:V}(I:Inv X pins σ H s)(h:S.at X.K H i v):S.is X.K H i v:=by
 cases S with
 | tup a=>obtain⟨xs,hq,hx⟩:=h; exact λys hy=>by rw[I.tuple_inj hy hq]; exact hx
 | lst a=>obtain⟨xs,hq,hx⟩:=h; exact λys hy=>by rw[I.list_inj hy hq]; exact hx
 | txt x=>exact h
end Mi
namespace Mi
open PySem PySem.Spec PyProof.Rows L2
noncomputable def FB:W->Ht (Hm W)
 | .tup xs=>gV xs
 | .str x=>gV (x.cps.toList.map λc=>.str #[[c].toArray])
 | _=>td
section
variable{X:Cx}{pins:Hm (Hx×Jn)}{σ:L2.St}{H:Hp}{s:Hr}{A:Hm Hx}
noncomputable def ZRel (K:HC)(A:Hm Hx)(H:Hp)(xs:Hm W):Zs->Prop
 | .tup a=>∃vs,SqT K H a vs/\RelL K A H xs vs
 | .lst a=>IW
 | .txt x=>xs=x.cps.toList.map λc=>.str #[[c].toArray]
theorem ZRel.mono {K:HC}{A A':Hm Hx}{H H':Hp}{xs:Hm W}{S:Zs}(e:Ext K A H A' H')(h:ZRel K A H xs S):ZRel K A' H' xs S:=by
 cases S with
 | tup a=>obtain⟨vs,h1,h2⟩:=h; exact#[vs,e.tp _ _ h1,h2.mono e]
 | lst a=>exact h
 | txt x=>exact h
theorem ZRel.at {K:HC}{xs:Hm W}{S:Zs}{i:Hu}{w:W}(h:ZRel K A H xs S)(hi:xs[i]?=gV w):∃v,S.at K H i v/\Rel K A H w v:=by
 cases S with
 | tup a=>obtain⟨vs,h1,h2⟩:=h; obtain⟨v,h3,h4⟩:=h2.get hi; exact#[v,#[vs,h1,h3],h4]
 | lst a=>exact h.elim
 | txt x=>
  have h:xs=x.cps.toList.map λc=>.str #[[c].toArray]:=h
  subst h;rw[Hy,Hs]at hi;obtain⟨c,hc,rfl⟩:=hi;exact#[.str #[[c].toArray],#[c,by rw[<- Jp]; exact hc,rfl],.str]
theorem ZRel.is {K:HC}{xs:Hm W}{S:Zs}{i:Hu}{w:W}{v:V}(h:ZRel K A H xs S)(hi:xs[i]?=gV w)(z:S.is K H i v):Rel K A H w v:=by
 obtain⟨v',h1,h2⟩:=h.at hi;cases S with
 | tup a=>
  obtain⟨vs,q,e⟩:=h1;have:=z vs q;rw[e]at this; cases this
  exact h2
 | lst a=>exact h.elim
 | txt x=>
  obtain⟨c,e,rfl⟩:=h1;obtain⟨c',e',rfl⟩:=z;rw[e]at e'; cases e'
  exact h2
theorem ZRel.out {K:HC}{xs:Hm W}{S:Zs}{i:Hu}(h:ZRel K A H xs S)(hi:xs.length<=i):S.out K H i:=by
 cases S with
 | tup a=>obtain⟨vs,h1,h2⟩:=h; exact#[vs,h1,by rw[<- h2.length]; exact hi]
 | lst a=>exact h.elim
 | txt x=>
  have h:xs=x.cps.toList.map λc=>.str #[[c].toArray]:=h
  subst h;show x.cps.size<=i
  simpa using hi
theorem Ag {x:W}{v:V}{u:Ho}{xs:Hm W}(I:Inv X pins σ H s)(r:Rel X.K A H x v)(ru:RelV v u)(e:FB x=gV xs) :
  ∃(S:Zs) (o:Jn) (C:IF->Prop),ZRel X.K A H xs S/\rE X.prog X.w u o C/\C s.heap/\(∀h o,C h->C (h.push o))/\o.isFreed=false/\∀it h,h.get? it=gV o->S.T it 0 h:=by
 cases r with
 | @tup ws a vs hq rl=>
  cases e;obtain⟨its,rv,p,_⟩:=I.tuple hq;obtain rfl:u=IA a:=ru;exact#[.tup a,{ cls:=.type "tuple_iterator",data:=.fields [.ref a,.int 0 0].toArray },λh=>h.IsTuple a its.toArray,#[vs,hq,rl],λB s Q E c hQ=>M5 c hQ,p,λh o #[ot,e,r]=>#[ot,Hv _ e,r],rfl,λit h e=>#[_,e,rfl,rfl]]
 | @str x=>
  cases e;obtain⟨t,rfl⟩:=ru;cases ha:x.cps.all (· < 128)with
  | false=>exact#[.txt x,{ cls:=.type "str_iterator",data:=.fields [.str x t,.int 0 0].toArray },λ_=>N3,rfl,λB s Q E _ hQ=>wpAny_pyIter_wide ha hQ,trivial,λ_ _ _=>trivial,rfl,λit h e=>#[t,.inr #[_,e,rfl,rfl]]]
  | true=>exact#[.txt x,{ cls:=.type "str_ascii_iterator",data:=.fields [.str x t,.int 0 0].toArray },λ_=>N3,rfl,λB s Q E _ hQ=>wpAny_pyIter_ascii ha hQ,trivial,λ_ _ _=>trivial,rfl,λit h e=>#[t,.inl #[_,e,rfl,rfl]]]
 | _=>cases e
end
open PySem.Builtin.SmallTypes (nextOf)
section
variable{prog:HZ}{w:Iw}{B:Iu}{E:Ho->Hr->Prop}{s:Hr}{e it:Hx}{T:Hu->IF->Prop}{C:IF->Prop}{i:Hu}{old:Ho}
structure EnAt (h0 h:IF)(e it:Hx)(fs:IC Ho)(T:IF->Prop):Prop where
 here:h.get? e=gV { cls:=.type "enumerate",dict:=td,data:=.fields fs,slots:=#[] }
 turn:T h
 kept:∀b o,b≠e->b≠it->h0.get? b=gV o->h.get? b=gV o
theorem EnAt.put {h0:IF}{fs:IC Ho}{T:IF->Prop}{k:Hu}{v:Ho}{Q:Unit->Hr->Prop}(x:EnAt h0 s.heap e it fs T)(hne:e≠it)(kT:∀h h',T h->(∀o,h.get? it=gV o->h'.get? it=gV o)->T h')(hk:k < fs.size)
  (q:∀h',EnAt h0 h' e it (fs.setIfInBounds k v) T->J3 e s.heap h'->Q () { s with heap:=h' }):wpAny (model prog w) B (setField (.ref e) k v) Q E s:=
 wpAny_setField_rec x.here hk λh' y sb=>q h' #[y,kT _ _ x.turn λo z=>sb.extBut _ _ (Ne.symm hne) z,λb o h1 h2 z=>sb.extBut b o h1 (x.kept b o h1 h2 z)] sb
theorem mL {U:Ht (Ho->Prop)}{Q:Ho->Hr->Prop}(Z:Zit prog w it T C i U)(hh:B.handled=td)(he:Pj s.heap e it (i:HF) old)(t:T i s.heap)(c:C s.heap)(hne:e≠it)
  (hI:∀V,U=gV V->∀u h' tk tk0,V u->IsEnumOut h' e it ((i:HF)+1) u s.heap.objs.size->T (i+1) h'->h'.get? s.heap.objs.size=gV { cls:=.type "tuple",data:=.seq [.int i tk0,u].toArray }->
   (∀b o,b≠e->b≠it->s.heap.get? b=gV o->h'.get? b=gV o)->Q (.ref s.heap.objs.size) { s with heap:=h',toks:=tk })
  (hE:U=td->∀h' x,Mu it s.heap h'->(∃o,h'.get? x=gV o/\o.cls=.type "StopIteration")->E (.ref x) { s with heap:=h' }) :
  wpAny (model prog w) B (MF.«enumerate.__next__» #[[.ref e],[]]) (λfin s'=>∃v,fin=.done (.ret v)/\Q v s') E s:=by
 obtain⟨hp,g,d,tk,os⟩:=s;show wpAny _ _ (field (.ref e) 2 >>= _) _ _ _;refine Hn (JG he rfl (x:=.ref it) rfl (Hn ?_));cases U with
 | none=>exact Z.stop rfl _ _ _ _ hh t c λh' x a b=>hE rfl h' x a b
 | some V=>
  refine Z.next V rfl _ _ _ _ t c λu ha tka hu ta sba=>?_
  have kT:=Z.keep (i+1);have xa:EnAt hp ha e it [.none,.bool false,.ref it,rawInt i,.none,old].toArray (T (i+1)):=#[(sba.2 e hne).trans he,ta,λb o _ h2 z=>sba.extBut b o h2 z]
  have za:ha.objs.size=hp.objs.size:=sba.1;clear sba ta;show wpAny _ _ (field (.ref e) 3 >>= _) _ _ #[ha,g,d,tka,os];refine Hn (JG xa.here rfl (x:=rawInt i) rfl ?_);show wpAny _ _ (field (.ref e) 4 >>= _) _ _ #[ha,g,d,tka,os];refine Hn (JG xa.here rfl (x:=.none) rfl ?_);show wpAny _ _ (mkInt i >>= _) _ _ #[ha,g,d,tka,os];refine Hn (NQ (Hn (xa.put (s:=#[ha,g,d,tka+1,os]) hne kT (by simp) λhb xb sb1=>Hn (xb.put (s:=#[hb,g,d,tka+1,os]) hne kT (by simp) λhc xc sb2=>Hn (Oi ?_)))))
  have zc:hc.objs.size=hp.objs.size:=by rw[sb2.1,<- za]; exact sb1.1
  have hel:hp.objs.size≠e:=Ke (HP he);have new:=HQ hc (o:={ cls:=.type "tuple",data:=.seq [.int i tka,u].toArray }) rfl;have xd:EnAt hp (hc.push { cls:=.type "tuple",data:=.seq [.int i tka,u].toArray }) e it [.none,.bool false,.ref it,rawInt ((i:HF)+1),.none,old].toArray (T (i+1)):=#[Hv _ xc.here,kT _ _ xc.turn λo z=>Hv _ z,λb o h1 h2 z=>Hv _ (xc.kept b o h1 h2 z)]
  rw[zc]at new;show wpAny _ _ (KG (.ref e) >>= _) _ _ #[hc.push _,g,d,tka+1,os];rw[zc];generalize hc.push { cls:=.type "tuple",data:=.seq [.int i tka,u].toArray }=hd at new xd ⊢;clear zc sb2 xc sb1 xb hb xa za;refine Hn ?_;unfold KG;refine Hn (JG xd.here rfl (x:=.none) rfl (Hz ?_));simp only[Kf];refine Hn (MY (Hn (JG xd.here rfl (x:=old) rfl (Hn (xd.put (s:=#[hd,g,d,tka+1,os]) hne kT (by simp) λh1 x1 s1=>Hn ?_)))))
  unfold ML;refine Hn (x1.put (s:=#[h1,g,d,tka+1,os]) hne kT (by simp) λh2 x2 s2=>x2.put (s:=#[h2,g,d,tka+1,os]) hne kT (by simp) λh3 x3 s3=>Hn (Lc (Hz #[_,rfl,hI V rfl u h3 (tka+1) tka hu x3.here x3.turn ?_ x3.kept])))
  exact s3.extBut _ _ hel (s2.extBut _ _ hel (s1.extBut _ _ hel new))
variable{v:Ho}{o:Jn}
theorem pW (h1:rE prog w v o C) :
  MeetsIn prog w (MF.«enumerate.__new__» #[[.type "enumerate",v],[]]) (λ_ R s=>C s.heap/\R (.ok (.ret (.ref (s.heap.push o).objs.size))) { s with heap:=(s.heap.push o).push { cls:=.type "enumerate",data:=.fields [.none,.bool false,.ref s.heap.objs.size,rawInt 0,.none,.none].toArray } }):=
 .of_wp λA R s h=>by
  obtain⟨hp,g,d,tk,os⟩:=s;obtain⟨c,h⟩:=h;have hsub:=sub_enumerate;have d1:∀(B:Iu) (Q:Ho->Hr->Prop) (E:Ho->Hr->Prop),Q (.ref hp.objs.size) #[hp.push o,g,d,tk,os]->wpAny (model prog w) B (pyIter v) Q E #[hp,g,d,tk,os]:=λB Q E q=>h1 B #[hp,g,d,tk,os] Q E c q
  wp_walk
  refine wpAny_stack_any λst=>Hz ?_
  split
  ·rename_i c _ _ _ _ _;cases(c==Kq "enumerate")
   ·wp_walk using d1 _ _ _
    exact#[_,rfl,h]
   ·wp_walk using d1 _ _ _
    exact#[_,rfl,h]
  ·wp_walk using d1 _ _ _
   exact#[_,rfl,h]
theorem uC {Q:Ho->Hr->Prop}(h1:rE prog w v o C)(c:C s.heap)(n1:o.isFreed=false)
  (h:∀h',Pj h' (s.heap.objs.size+1) s.heap.objs.size 0 .none->h'.get? s.heap.objs.size=gV o->(∀b o,s.heap.get? b=gV o->h'.get? b=gV o)->Q (.ref (s.heap.objs.size+1)) { s with heap:=h' }) :
  wpAny (model prog w) B (call (.type "enumerate") [v]) Q E s:=by
 refine callType_newIn F.called_enumerate #v[] (F.typeCall_enumerate_1 _) (F.newCall_enumerate_1 _) (λobj=>F.args_object_init_2 obj _) F.entry_enumerate_new (pW h1) #[c,?_]
 have hz:(s.heap.push o).objs.size=s.heap.objs.size+1:=Ol ..;show _/\_;rw[hz];have he:Pj ((s.heap.push o).push { cls:=.type "enumerate",data:=.fields [.none,.bool false,.ref s.heap.objs.size,rawInt 0,.none,.none].toArray }) (s.heap.objs.size+1) s.heap.objs.size 0 .none:=by
  have:=HQ (s.heap.push o) (o:={ cls:=.type "enumerate",data:=.fields [.none,.bool false,.ref s.heap.objs.size,rawInt 0,.none,.none].toArray }) rfl;rw[hz]at this; exact this
 exact#[#[_,he,rfl],h _ he (Hv _ (HQ _ n1)) λb o x=>Hv _ (Hv _ x)]
end
noncomputable def G6 (K:HC)(S1:Zs):It:=
 #[λi H=>∃x,S1.at K H i x,λi H v H'=>∃p x,S1.is K H i x/\v=.ref p/\H p=td/\H'=cv H p (.tup [.int i,x]),λi H=>S1.out K H i]
theorem uD {P:HZ}{w:Iw}{K:HC}{els:Hm HS}{k0:Hu}{tp:JW}{S1:Zs}{z i1:Hx}(D:z≠i1) :
  Turn P w K (.Tuple els k0 tp) (G6 K S1) [z,i1] z (λi h=>(∃old,Pj h z i1 i old)/\S1.T i1 i h) where
 mem:=by simp
 obj:=λi h #[#[old,a],d] b' hb=>by
  have it:∀ {S:Zs} {it:Hx},S.T it i h->∃o,h.get? it=gV o/\∀v,o.data≠.cell v:=λ{S it} t=>by
   cases S with
   | tup a=>obtain⟨o,e,_,d⟩:=t; exact#[o,e,λv z=>by rw[d]at z; cases z]
   | lst a=>obtain⟨o,e,_,d⟩:=t; exact#[o,e,λv z=>by rw[d]at z; cases z]
   | txt x=>obtain⟨tk,⟨o,e,_,d⟩|⟨o,e,_,d⟩⟩:=t <;> exact#[o,e,λv z=>by rw[d]at z; cases z]
  simp only[Iq,Jk,KZ]at hb;rcases hb with rfl|rfl
  ·exact#[_,a,λv z=>by cases z]
  ·exact it d
 keep:=λi h h' #[#[old,a],d] k=>#[#[old,k z (by simp) _ a],Zs.keep d (k i1 (by simp))]
 item:=by
  intro X hP hw hK hc i pins s σ H E I hf st hg;subst hP hw hK;obtain⟨x,g1⟩:=hg;obtain⟨⟨old,a⟩,d⟩:=st;have hf4:∀b∈[z,z,i1,i1],iX X pins H b:=λb hb=>hf b (by simp only[Iq,Jk,KZ]at hb ⊢; rcases hb with h|h|h|h <;> simp[h])
  obtain⟨C1,Z1,c1,k1⟩:=Zs.zit (it:=i1) (U:=gV x) I hf4 g1;have hT:s.TypeIs (.ref z) "enumerate":=#[_,a,rfl];unfold pyNext;refine Hn (LL (IR (name:=JO "__next__") hT F.slot_enumerate_next (Ja F.slot_enumerate_next hT F.entry_enumerate_next ?_ (F.args_enumerate_next_1 _))));refine mL Z1 (I.ok.hd hc) a d c1 D (λV e1 u g tk tk0 r1 zg t1 ng kp=>?_) (λz=>by cases z)
  cases e1;refine Hz #[_,rfl,?_];refine wpAny_letOwnedTupleGo_enum (s:={ s with heap:=g,toks:=tk }) zg λg' zg' sb=>?_
  have N0:H s.heap.objs.size=td:=I.hok.fresh (HG _);have lt:∀ {b:Hx},b∈[z,i1]->s.heap.objs.size≠b:=λ{b} hb=>by
   have:∃o,s.heap.get? b=gV o:=by
    have it:∀ {S:Zs} {it:Hx},S.T it i s.heap->∃o,s.heap.get? it=gV o:=λ{S it} t=>by
     cases S with
     | tup a=>obtain⟨o,e,_⟩:=t; exact#[o,e]
     | lst a=>obtain⟨o,e,_⟩:=t; exact#[o,e]
     | txt x=>obtain⟨tk,⟨o,e,_⟩|⟨o,e,_⟩⟩:=t <;> exact#[o,e]
    simp only[Iq,Jk,KZ]at hb;rcases hb with rfl|rfl
    ·exact#[_,a]
    ·exact it d
   obtain⟨o,e⟩:=this;exact Ke (HP e)
  have up:∀b o,b∉[z,i1]->s.heap.get? b=gV o->g'.get? b=gV o:=λb o hb e=>by
   simp only[Iq,Jk,KZ,not_or]at hb;exact sb.extBut _ _ hb.1 (kp b o hb.1 hb.2 e)
  have I1:Inv X pins σ H { s with heap:=g',toks:=tk }:=Mi.Inv.turnedL I up hf
  have ng':g'.get? s.heap.objs.size=gV { cls:=.type "tuple",data:=.seq [.int i tk0,u].toArray }:=sb.extBut _ _ (lt (by simp)) ng
  have I2:Inv X pins σ (cv H s.heap.objs.size (.tup [.int i,x])) { s with heap:=g',toks:=tk }:=by
   refine Mi.Inv.adopt I1 N0 (.inr I.sz) (Ke I.lt) (λw c e=>?_) (λp hp=>?_) #[by show 2<=sizeLine; decide,[.int i tk0,u],.cons #[_,rfl] #v[r1],#[_,ng',rfl,0,rfl]]
   ·obtain⟨v,q⟩:=I.cell w c e;exact Ic q.lt
   ·exact Ic (HP (I.pin p hp).1)
  refine#[.ref s.heap.objs.size,_,I2,rfl,#[s.heap.objs.size,x,Zs.at_is I g1,rfl,N0,rfl],#[#[_,zg'],Zs.keep t1 λo e=>sb.extBut _ _ (Ne.symm D) e],λb hb=>?_]
  rw[aX (Ne.symm (lt hb))];exact(hf b hb).1
 done:=by
  intro X hP hw hK hc i pins s σ H E I hf st hg;subst hP hw hK;obtain⟨⟨old,a⟩,d⟩:=st;have hf4:∀b∈[z,z,i1,i1],iX X pins H b:=λb hb=>hf b (by simp only[Iq,Jk,KZ]at hb ⊢; rcases hb with h|h|h|h <;> simp[h])
  obtain⟨C1,Z1,c1,k1⟩:=Zs.zit (it:=i1) (U:=td) I hf4 hg;have hT:s.TypeIs (.ref z) "enumerate":=#[_,a,rfl];unfold pyNext;refine Hn (LL (IR (name:=JO "__next__") hT F.slot_enumerate_next (Ja F.slot_enumerate_next hT F.entry_enumerate_next ?_ (F.args_enumerate_next_1 _))));refine mL Z1 (I.ok.hd hc) a d c1 D (λV e1=>by cases e1) λ_ h' e k #[o,ho,hc]=>?_
  exact Hn (LU (T:="StopIteration") (b:=true) #[o,ho,hc] Og (Hz #[rfl,Mi.Inv.turnedL (t':=s.toks) I (λb o hb e=>by
    simp only[Iq,Jk,KZ,not_or]at hb;exact k b o hb.2 e) hf]))
 self:=λ_ _ _ _ _ st h=>by obtain⟨⟨old,a⟩,_⟩:=st; exact Nr a h
noncomputable def i7 (xs:Hm W):Hm W:=xs.zipIdx.map λp=>.tup [.int (p.2:Hu),p.1]
theorem kK {xs:Hm W}{i:Hu}{w:W}(h:(i7 xs)[i]?=gV w):∃x,xs[i]?=gV x/\w=.tup [.int i,x]:=by
 unfold i7 at h;rw[Hy,List.getElem?_zipIdx,Option.map_map,Hs]at h;obtain⟨x,h1,rfl⟩:=h;exact#[x,h1,by simp]
noncomputable def wM (f:FA):FI:=λρ S=>match f ρ S with
 | some ([x],S1)=>match FB x with
  | some xs=>gV (.its (i7 xs),S1)
  | none=>td
 | _=>td
section
variable{X:Cx}{pins:Hm (Hx×Jn)}{σ:L2.St}{H:Hp}{s:Hr}{A:Hm Hx}
theorem wQ {S1:Zs}{xs:Hm W}(z1:ZRel X.K A H xs S1):MIt X.w X.K (.its (i7 xs)) (G6 X.K S1) A H:=by
 refine#[λA' H' S i w e so hi=>?_,λA' H' S i e so hi=>?_]
 ·simp only[MI.at,IB]at hi;obtain⟨x,e1,rfl⟩:=kK hi;obtain⟨v,g1,r1⟩:=(z1.mono e).at e1;refine#[#[v,g1],λp H2 #[a,v',q1,hp,hn,hH]=>?_]
  subst hp hH;have ex:Ext X.K A' H' A' (cv H' a (.tup [.int i,v'])):=dD (.inl hn);exact#[ex,so.lay hn,.tup (.of bD) #v[.int,((z1.mono e).is e1 q1).mono ex]]
 ·simp only[MI.at,IB,JC,i7,Hq,List.length_zipIdx]at hi;exact(z1.mono e).out hi
theorem uE:bootBuiltins "enumerate" = gV (.type "enumerate"):=rfl
theorem Ah {els:Hm HS}{k0:Hu}{tp:JW}{a:HS}{f:FA}{p pos:JW}(hg:Gl X "enumerate")(hm:X.mg "enumerate" = td)(ha:GA X [a] f)(hs:starEach [a] X.env=[(false,eval a X.env)]) :
  GI X (.Tuple els k0 tp) (.Call (.Name "enumerate" p) [a] [] pos) (wM f):=by
 intro pins s σ H R I ⟨A,ρ,S,mi,S',er,so,e,hq⟩;unfold wM at e;split at e
 ·rename_i x S1 h1;split at e
  ·rename_i xs e1;cases e;refine Call_ (iW I hg hm uE (JN (cg (ha pos pins s σ H _ I #[A,ρ,S,_,_,er,so,h1,λ_ _ z=>z]) λus s1 #[vs,H1,I1,r1,A1,z1,z2,z3]=>?_) (by rw[hs]; rfl) (by rfl)))
   cases z3 with
   | cons ra t=>
    cases t;cases r1 with
    | cons ua t=>
     cases t;obtain⟨Sa,oa,Ca,za,ia,ca,ka,na,ta⟩:=Ag I1 ra ua e1;refine uC ia ca na λh' hz g1 kp=>?_
     have I2:Inv X pins σ H1 { s1 with heap:=h' }:=I1.kept (t':=s1.toks) kp
     refine Nr (s:={ s1 with heap:=h' }) hz ?_
     refine#[s1.heap.objs.size+1,_,_,_,H1,rfl,I2,uD (S1:=Sa) (i1:=s1.heap.objs.size) (by simp),#[#[_,hz],ta _ _ g1],λb hb=>?_,hq _ _ A1 z1 z2 (wQ za)]
     have hb':s1.heap.objs.size<=b:=by
      simp only[Iq,Jk,KZ]at hb;rcases hb with rfl|rfl
      ·exact Nat.le_add_right _ _
      ·exact HG _
     exact I1.fpOk hb' (I1.hok.fresh hb')
  ·cases e
 ·cases e
end
end Mi
namespace Mi
open PySem PySem.Spec PyProof.Rows L2
noncomputable def CU (g1 g2:Hm W->aa->Ht (W×aa))(xs:Hm W)(S:aa):Ht (W×aa):=match g1 xs S with
 | some r=>gV r
 | none=>g2 xs S
theorem wR {X:Cx}{f:Ho}{g1 g2:Hm W->aa->Ht (W×aa)}(h1:LCall X f g1)(h2:LCall X f g2):LCall X f (CU g1 g2):=by
 intro pins s σ H A S xs vs us w S' I so rl rv e;unfold CU at e;split at e
 ·rename_i r hr;cases e;exact h1 pins s σ H A S xs vs us w S' I so rl rv hr
 ·exact h2 pins s σ H A S xs vs us w S' I so rl rv e
inductive Bi where|len|list|tuple|int|sorted|range|all|min
 deriving Kn
noncomputable def Bi.fn:Bi->Hm W->aa->Ht (W×aa)
 | .len=>rq|.list=>CU ip kF|.tuple=>kH|.int=>Ek|.sorted=>iw|.range=>nJ|.all=>Cs|.min=>zx
noncomputable def Bi.name:Bi->HL
 | .len=>"len"|.list=>"list"|.tuple=>"tuple"|.int=>"int"|.sorted=>"sorted"|.range=>"range"|.all=>"all"|.min=>"min"
inductive Me where|append|extend|join|pop|get
 deriving Kn
noncomputable def Me.fn:Me->W->Hm W->aa->Ht (W×aa)
 | .append=>io|.extend=>j5|.join=>vU|.pop=>zp|.get=>sy
noncomputable def Me.name:Me->HL
 | .append=>"append"|.extend=>"extend"|.join=>"join"|.pop=>"pop"|.get=>"get"
noncomputable def Me.ty:Me->IX
 | .append=>"list"|.extend=>"list"|.join=>"str"|.pop=>"list"|.get=>"dict"
inductive Tg where
 | nm (i:Hu)|tp (is:Hm Hu)
set_option genSizeOf false in
set_option genInjectivity false in
mutual
inductive E where
 | c (w:W)|v (i:Hu)
 | op (o:BOp) (a b:E)
 | cmp (o:COp) (a b:E)
 | and (a b:E)|or (a b:E)|not (a:E)
 | own (f:HL) (n:Hu) (es:Es)|bi (b:Bi) (es:Es)|me (m:Me) (o:E) (es:Es)
 | ix (a b:E)|sl (a:E) (lo hi:Ep)|tup (es:Es)|lst (es:Es)
 | isi (c:IX) (a:E)
 | neg (a:E)|dnew|disp (es:Es)|ite (t a b:E)
 | comp (elt:E) (tg:Tg) (it:Ie) (cs:Es) (cap:Hm (Ht Hu))
inductive Es where
 | nil|cons (e:E) (es:Es)
inductive Ep where
 | no|yes (e:E)
inductive Ie where
 | seq (e:E)|rng (es:Es)|rng2 (es:Es)|enu (es:Es)
end
set_option genSizeOf false in
set_option genInjectivity false in
mutual
inductive Sm where
 | set (i:Hu) (e:E)|asg (is:Hm Hu) (e:E)|par (i j:Hu) (es:Es)|put (o k e:E)
 | ex (e:E)|ret (e:E)|retN|pass|brk|cont|bad
 | ite (t:E) (a b:Ss)|whl (t:E) (b:Ss)|loop (tg:Tg) (it:Ie) (b:Ss)
inductive Ss where
 | nil|cons (s:Sm) (ss:Ss)
end
noncomputable def fX:Tg->FG
 | .nm i=>zR i
 | .tp is=>DD is
section
variable (Φ:HL->FF)
mutual
noncomputable def aK:E->FE
 | .c w=>fC w
 | .v i=>fV i
 | .op o a b=>zy (im o) (aK a) (aK b)
 | .cmp o a b=>zz o (aK a) (aK b)
 | .and a b=>sE (aK a) (aK b)
 | .or a b=>zD (aK a) (aK b)
 | .not a=>sF (aK a)
 | .own f n es=>pR n (Φ f) (dq es)
 | .bi b es=>jK b.fn (dq es)
 | .me m o es=>DC m.ty m.fn (aK o) (dq es)
 | .ix a b=>Gp (aK a) (aK b)
 | .sl a lo hi=>Eu (aK a) (sM lo) (sM hi)
 | .tup es=>wo (dq es)
 | .lst es=>wp (dq es)
 | .isi c a=>wH c (aK a)
 | .neg a=>wf (aK a)
 | .dnew=>Bl
 | .disp es=>pU (dq es)
 | .ite t a b=>zE (dm t) (aK a) (aK b)
 | .comp elt tg it cs cap=>kJ (j8 it) (fX tg) (Ai cs) (aK elt) cap
noncomputable def dm:E->FT
 | .cmp o a b=>wj (zz o (aK a) (aK b))
 | .and a b=>wm (dm a) (dm b)
 | .or a b=>Eo (dm a) (dm b)
 | .not a=>zA (dm a)
 | .c w=>gD (fC w)
 | .v i=>gD (fV i)
 | .op o a b=>gD (zy (im o) (aK a) (aK b))
 | .own f n es=>gD (pR n (Φ f) (dq es))
 | .bi b es=>gD (jK b.fn (dq es))
 | .me m o es=>gD (DC m.ty m.fn (aK o) (dq es))
 | .ix a b=>gD (Gp (aK a) (aK b))
 | .sl a lo hi=>gD (Eu (aK a) (sM lo) (sM hi))
 | .tup es=>gD (wo (dq es))
 | .lst es=>gD (wp (dq es))
 | .isi c a=>gD (wH c (aK a))
 | .neg a=>gD (wf (aK a))
 | .dnew=>λ_ _=>td
 | .disp _=>λ_ _=>td
 | .ite _ _ _=>λ_ _=>td
 | .comp _ _ _ _ _=>λ_ _=>td
noncomputable def dq:Es->FA
 | .nil=>iz
 | .cons e es=>dU (aK e) (dq es)
noncomputable def Ai:Es->FT
 | .nil=>Bm
 | .cons e .nil=>dm e
 | .cons _ (.cons _ _)=>λ_ _=>td
noncomputable def sM:Ep->FO
 | .no=>CH
 | .yes e=>sI (aK e)
noncomputable def j8:Ie->FI
 | .seq e=>fM (aK e)
 | .rng es=>rA (dq es)
 | .rng2 es=>iRng2 (dq es)
 | .enu es=>wM (dq es)
end
variable (fuel:Hu)
mutual
noncomputable def fR:Sm->FS
 | .set i e=>kI (aK Φ e) (zR i)
 | .asg is e=>kI (aK Φ e) (DD is)
 | .par i j es=>zT i j (dq Φ es)
 | .put o k e=>kI (aK Φ e) (zS (aK Φ o) (aK Φ k))
 | .ex e=>zL (aK Φ e)
 | .ret e=>zO (aK Φ e)
 | .retN=>λ_ S=>gV (.rt .non,S)
 | .pass=>wx
 | .brk=>λρ S=>gV (.bk ρ,S)
 | .cont=>λρ S=>gV (.ct ρ,S)
 | .bad=>λ_ _=>td
 | .ite t a b=>zQ (dm Φ t) (fY a) (fY b)
 | .whl t b=>nX (dm Φ t) (fY b) fuel
 | .loop tg it b=>wD (j8 Φ it) (fX tg) (fY b)
noncomputable def fY:Ss->FS
 | .nil=>λρ S=>gV (.nx ρ,S)
 | .cons s ss=>zK (fR s) (fY ss)
end
end
structure Gam where
 sc:Hm (HL×Jx)
 N:Hm HL
 fns:Hm (HL×Hu)
 blt:Hm HL
 dfn:HV
noncomputable def CV:Ht Jx->HV
 | some .local=>true|some .cell=>true|some .free=>true|_=>false
noncomputable def Aj:Ht Jx->HV
 | some .cell=>true|some .free=>true|_=>false
noncomputable def fZ (names outer:Hm (HL×Jx)):Hm (HL×Jx):=names.map λ(n,k)=>if (k==.free&&outer.lookup n==gV .cell)then(n,.cell)else(n,k)
noncomputable def slot (Γ:Gam)(x:HL):Ht Hu:=if CV (Γ.sc.lookup x) && !(x==("__debug__" : HL)) && !(x==("__classdict__" : HL))then Γ.N.findIdx? (· == x)else td
noncomputable def sN:Nd->Ht BOp
 | .Add=>gV .add|.Sub=>gV .sub|.Mult=>gV .mul|.FloorDiv=>gV .fdiv|.Mod=>gV .mod|.Pow=>gV .pow|_=>td
noncomputable def sO:OI->Ht COp
 | .Eq=>gV .eq|.NotEq=>gV .ne|.Lt=>gV .lt|.LtE=>gV .le|.Gt=>gV .gt|.GtE=>gV .ge|.In=>gV .isin|.NotIn=>gV .notin|.Is=>gV .is|.IsNot=>gV .isnot
noncomputable def Ak (x:HL):Ht Bi:=[Bi.len,.list,.tuple,.int,.sorted,.range,.all,.min].find? λb=>b.name==x
noncomputable def Al (x:HL):Ht Me:=[Me.append,.extend,.join,.pop,.get].find? λb=>b.name==x
noncomputable def ED (Γ:Gam)(x:HL):HV:=Γ.sc.lookup x==gV .globalImplicit && !(x==("__debug__" : HL))
noncomputable def wW (x:HL):Ht IX:=if x==("bool" : HL)then gV "bool" else if x==("int" : HL)then gV "int" else if x==("str" : HL)then gV "str" else if x==("tuple" : HL)then gV "tuple" else if x==("list" : HL)then gV "list" else if x==("dict" : HL)then gV "dict" else td
noncomputable def sP:Hm (Ht HS)->Hm HS->Hm HS
 | some k::ks,v::vs=>k::v::sP ks vs
 | _,_=>[]
noncomputable def Am (Γ:Gam)(f:HS->Ht E):Hm HS->Ht E
 | [a,.Name c _]=>if ED Γ c&&Γ.blt.contains c then match wW c,f a with
  | some cs,gV a'=>gV (.isi cs a')
  | _,_=>td
  else td
 | _=>td
noncomputable def gr:HS->HV
 | .Name _ _=>true|.Constant _ _ _=>true|.Subscript _ _ _=>true|_=>false
noncomputable def lM (Γ:Gam)(x:HL):HV:=Γ.sc.lookup x==gV .globalImplicit && !(x==("__debug__" : HL))
noncomputable def dw (Γ:Gam)(x:HL):Ht Hu:=if (Γ.sc.lookup x==gV .local)||(Γ.dfn&&Γ.sc.lookup x==gV .cell)then Γ.N.findIdx? (· == x)else td
noncomputable def cA (f:HS->Ht E)(es:Hm HS):Ht Es:=es.foldr (λe acc=>match f e,acc with|some e',gV es'=>gV (.cons e' es')|_,_=>td) (gV .nil)
noncomputable def cB (f:HS->Ht E)(op:Pi):Hm HS->Ht E
 | []=>td
 | [a]=>f a
 | a::b::dj=>match f a,cB f op (b::dj)with
  | some a',gV b'=>gV (match op with|.And=>.and a' b'|.Or=>.or a' b')
  | _,_=>td
noncomputable def cP (f:HS->Ht E):Ht HS->Ht Ep
 | none=>gV .no
 | some e=>(f e).map .yes
noncomputable def isTup:HS->HV
 | .Tuple _ _ _=>true
 | _=>false
noncomputable def cI (Γ:Gam)(f:HS->Ht E)(tg:HS):HS->Ht Ie
 | .Call (.Name x p) [a] [] q=>if x==("range" : HL)&&lM Γ x&&Γ.blt.contains x then(cA f [a]).map .rng else if x==("enumerate" : HL)&&lM Γ x&&Γ.blt.contains x&&isTup tg then(cA f [a]).map .enu else(f (.Call (.Name x p) [a] [] q)).map .seq
 | .Call (.Name x p) [a,b] [] q=>if x==("range" : HL)&&lM Γ x&&Γ.blt.contains x then(cA f [a,b]).map .rng2 else(f (.Call (.Name x p) [a,b] [] q)).map .seq
 | e=>(f e).map .seq
noncomputable def DE (Γ:Gam):Hm HS->Ht (Hm Hu)
 | []=>gV []
 | .Name x _::ts=>match dw Γ x,DE Γ ts with
  | some i,gV is=>gV (i::is)
  | _,_=>td
 | _::_=>td
noncomputable def cT (Γ:Gam):HS->Ht Tg
 | .Name x _=>(dw Γ x).map .nm
 | .Tuple ts _ _=>(DE Γ ts).map .tp
 | _=>td
noncomputable def gO (names:Hm (HL×Jx)):Hm HL:=(names.filter λp=>p.2==.local||p.2==.free).map (·.1)
noncomputable def gv (Γ:Gam)(names:Hm (HL×Jx)):Hm (Ht Hu):=(gO names).map λx=>if names.lookup x==gV .local then td else Γ.N.findIdx? (· == x)
noncomputable def wX (Γ:Gam)(scope:Kl):HV:=
 (scope.kind==.function)&&scope.names.all (λy=>!(y.2==.local)||scope.names.lookup y.1==gV .local)&&scope.names.all (λy=>!(y.2==.cell)) &&
 scope.names.all (λy=>!(y.2==.free)||(Aj (Γ.sc.lookup y.1)&&scope.names.lookup y.1==gV .free&&(Γ.N.findIdx? (· == y.1)).isSome))&&decide (gO scope.names).Nodup
noncomputable def gP (Γ:Gam)(scope:Kl):Gam:={ Γ with sc:=fZ scope.names Γ.sc,N:=gO scope.names,dfn:=false }
noncomputable def wY (f:HS->Ht E)(keys:Hm (Ht HS))(values:Hm HS):Ht E:=
 if keys.isEmpty&&values.isEmpty then gV .dnew
 else if keys.all (·.isSome)&&decide (keys.length=values.length)&&decide (keys.length<=15)then(cA f (sP keys values)).map .disp else td
noncomputable def cE:Hu->Gam->HS->Ht E
 | 0,_,_=>td
 | n+1,Γ,e=>match e with
  | .Constant (.int i) _ _=>gV (.c (.int i))
  | .Constant (.str x) _ _=>gV (.c (.str x))
  | .Constant (.bool b) _ _=>gV (.c (.bl b))
  | .Constant .none _ _=>gV (.c .non)
  | .Name x _=>match slot Γ x with
   | some i=>gV (.v i)
   | none=>td
  | .BinOp a op b _=>match sN op,cE n Γ a,cE n Γ b with
   | some o,gV a',gV b'=>gV (.op o a' b')
   | _,_,_=>td
  | .UnaryOp .Not a _=>(cE n Γ a).map .not
  | .UnaryOp .USub a _=>(cE n Γ a).map .neg
  | .BoolOp op vs _=>cB (cE n Γ) op vs
  | .Compare a [op] [b] _=>match sO op,cE n Γ a,cE n Γ b with
   | some o,gV a',gV b'=>gV (.cmp o a' b')
   | _,_,_=>td
  | .IfExp t a b _=>match cE n Γ t,cE n Γ a,cE n Γ b with
   | some t',gV a',gV b'=>gV (.ite t' a' b')
   | _,_,_=>td
  | .Call (.Name f _) args [] _=>if lM Γ f then match Γ.fns.lookup f with
    | some k=>(cA (cE n Γ) args).map (.own f k)
    | none=>if f==("isinstance" : HL)then(if Γ.blt.contains f then Am Γ (cE n Γ) args else td)else match Ak f,args with
     | some b,a::as=>if Γ.blt.contains f then(cA (cE n Γ) (a::as)).map (.bi b)else td
     | _,_=>td
   else td
  | .Call (.Attribute o m apos) (a::as) [] cpos=>match Al m,cE n Γ o,cA (cE n Γ) (a::as)with
   | some m',gV o',gV es=>if gr o&&(apos.endLine==cpos.line)&&decide ((a::as).length < 29)then gV (.me m' o' es)else td
   | _,_,_=>td
  | .Subscript a (.Slice lo hi td _) _=>match cE n Γ a,cP (cE n Γ) lo,cP (cE n Γ) hi with
   | some a',gV lo',gV hi'=>gV (.sl a' lo' hi')
   | _,_,_=>td
  | .Subscript a b _=>match cE n Γ a,cE n Γ b with
   | some a',gV b'=>gV (.ix a' b')
   | _,_=>td
  | .Tuple es _ _=>(cA (cE n Γ) es).map .tup
  | .List es _=>(cA (cE n Γ) es).map .lst
  | .Dict keys values _=>wY (cE n Γ) keys values
  | .ListComp elt [#[tg,iter,ifs,asy]] scope _=>if (asy==0)&&(wX Γ scope&&decide (ifs.length<=1))then
    match cI Γ (cE n Γ) tg iter,cT (gP Γ scope) tg,cA (cE n (gP Γ scope)) ifs,cE n (gP Γ scope) elt with
    | some it,gV t,gV cs,gV el=>gV (.comp el t it cs (gv Γ scope.names))
    | _,_,_,_=>td
   else td
  | _=>td
structure CtxOk (Φ:HL->FF)(X:Cx)(Γ:Gam):Prop where
 names:X.env.scope.names=Γ.sc
 kind:X.env.scope.kind=.function
 N:X.N=Γ.N
 nd:Γ.N.Nodup
 calm:X.calm=true
 xe:X.xe=λ_ _=>IW
 un:X.A.units+gY < cLine
 dfn:Γ.dfn=true->∀x,X.fn x=true
 blt:∀x∈Γ.blt,X.mg x=td
 fns:∀f n,Γ.fns.lookup f=gV n->∃k fa fd ps,FnOk X.prog X.w X.K X.mg X.base u9 k fa fd ps (wu X.w X.K n (Φ f))/\Room k X.A/\X.mg f=gV (.ref fa)/\Jd X.K (.ref fa)=true/\Binds X.K fd ps []
theorem bc {α:Type}{x:α}{P:Prop}(h:(td:Ht α)=gV x):P:=nomatch h
noncomputable def g7:HS->HV
 | .Starred _ _=>false
 | _=>true
theorem aH {e:HS}{es:Hm HS}{env:Na}(h:g7 e=true):starEach (e::es) env=(false,eval e env)::starEach es env:=by
 cases e <;> first|rfl|cases h
theorem bT {env:Na}{pos:JW}:∀ {es:Hm HS},es.all g7=true->(backTo pos (starEach es env)).any (·.1)=false
 | [],_=>rfl
 | e::es,h=>by
  rw[ID,Hw]at h;rw[aH h.1];show(false||(backTo pos (starEach es env)).any (·.1))=false
  rw[bT h.2];rfl
theorem pX {env:Na}{pos:JW}:∀ {es:Hm HS},es.all g7=true->(backTo pos (starEach es env)).all (λx=>!x.1)=true
 | [],_=>rfl
 | e::es,h=>by
  rw[ID,Hw]at h;rw[aH h.1];show(true&&(backTo pos (starEach es env)).all (λx=>!x.1))=true
  rw[pX h.2];rfl
theorem i8 {n:Hu}{Γ:Gam}{e:HS}{e':E}(h:cE n Γ e=gV e'):g7 e=true:=by
 cases n with
 | zero=>cases h
 | succ n=>cases e <;> first|rfl|(exact bc h)
theorem iA {f:HS->Ht E}{e:HS}{es:Hm HS}{r:Es}(h:cA f (e::es)=gV r):∃e' es',f e=gV e'/\cA f es=gV es'/\r=.cons e' es':=by
 simp only[cA,NW]at h;split at h
 ·rename_i e' es' h1 h2;cases h;exact#[e',es',h1,h2,rfl]
 ·cases h
theorem da {n:Hu}{Γ:Gam}:∀ {es:Hm HS} {r:Es},cA (cE n Γ) es=gV r->es.all g7=true
 | [],_,_=>rfl
 | e::es,r,h=>by
  obtain⟨e',es',h1,h2,_⟩:=iA h;rw[ID,i8 h1,da h2];rfl
theorem dG {N:Hm HL}{x:HL}{i:Hu}(h:N.findIdx? (· == x)=gV i):N[i]?=gV x:=by
 obtain⟨hl,h1,_⟩:=List.findIdx?_eq_some_iff_getElem.mp h;rw[HK hl];exact congrArg gV (eq_of_beq h1)
section
variable{Φ:HL->FF}{X:Cx}{Γ:Gam}
theorem j9 {e:HS}:GT X e (λ_ _=>td):=λpins s σ H Q I #[A,ρ,S,k,S',er,so,e1,hq]=>by cases e1
theorem w6 {x:HL}(h:CV (X.env.scope.names.lookup x)=true):FL X.env.scope x:=by
 unfold CV at h;split at h
 ·exact .inl (by assumption)
 ·exact .inr (.inl (by assumption))
 ·exact .inr (.inr (by assumption))
 ·cases h
theorem w8 (K:CtxOk Φ X Γ){x:HL}{pos:JW}{i:Hu}(h:slot Γ x=gV i):GE X (.Name x pos) (fV i):=by
 unfold slot at h;split at h
 ·rename_i hc;rw[Hw,Hw]at hc;obtain⟨⟨h1,h2⟩,h3⟩:=hc;refine Go (BL (by rw[K.N]; exact dG h) (w6 (by rw[K.names]; exact h1)) (by simpa using h2) (by simpa using h3))
 ·cases h
theorem kL (K:CtxOk Φ X Γ){x:HL}(h:lM Γ x=true):Gl X x/\(x==("__debug__" : HL))=false:=by
 unfold lM at h;rw[Hw]at h;refine#[?_,by simpa using h.2]
 show X.env.scope.names.lookup x=_;rw[K.names];exact eq_of_beq h.1
theorem w9 {o:OI}{c:COp}(h:sO o=gV c):c.py=o:=by
 cases o <;> (simp only[sO,IB]at h; subst h; rfl)
theorem xf {o:Nd}{c:BOp}(h:sN o=gV c):c.py=o:=by
 cases o <;> simp only[sN,IB]at h <;> first|(subst h; rfl)|cases h
theorem uF {x:HL}{b:Bi}(h:Ak x=gV b):b.name=x:=by
 have:=Mh h;exact eq_of_beq this
theorem uG {x:HL}{b:Me}(h:Al x=gV b):b.name=x:=by
 have:=Mh h;exact eq_of_beq this
theorem dO {n:Hu}(ih:∀ {e:HS} {e':E},cE n Γ e=gV e'->GE X e (aK Φ e')):∀ {es:Hm HS} {r:Es},cA (cE n Γ) es=gV r->GA X es (dq Φ r)
 | [],r,h=>by cases h; exact CG
 | e::es,r,h=>by
  obtain⟨e',es',h1,h2,rfl⟩:=iA h;exact zF (ih h1) (dO ih h2) (aH (i8 h1))
theorem EE (K:CtxOk Φ X Γ){n:Hu}{f:HL}{p pos:JW}{args:Hm HS}{k:Hu}{r:Es}(hg:lM Γ f=true)(hf:Γ.fns.lookup f=gV k)(ha:cA (cE n Γ) args=gV r)(h:GA X args (dq Φ r)):GE X (.Call (.Name f p) args [] pos) (pR k (Φ f) (dq Φ r)):=by
 obtain⟨d,fa,fd,ps,F,hr,hm,hk,hb⟩:=K.fns f k hf;obtain⟨g1,g2⟩:=kL K hg;cases args with
 | nil=>cases ha; exact zI F hr g1 hm hk hb g2
 | cons a as=>
  have ns:=da ha;rw[ID,Hw]at ns;exact CI F hr g1 hm hk hb h g2 (aH ns.1) (bT ns.2)
theorem Gr (K:CtxOk Φ X Γ){n:Hu}{f:HL}{p pos:JW}{a:HS}{as:Hm HS}{b:Bi}{r:Es}(hg:lM Γ f=true)(hb:Ak f=gV b)(hc:Γ.blt.contains f=true)(ha:cA (cE n Γ) (a::as)=gV r)(h:GA X (a::as) (dq Φ r)):GE X (.Call (.Name f p) (a::as) [] pos) (jK b.fn (dq Φ r)):=by
 obtain⟨g1,g2⟩:=kL K hg;have hm:X.mg f=td:=K.blt f (by simpa using hc)
 have ns:=da ha;rw[ID,Hw]at ns;have e:=uF hb;subst e;have hu:X.A.units+12 < cLine:=by have:=K.un; have:gY=20:=rfl; omega
 have calm:∀ {f:Ho} {g:Hm W->aa->Ht (W×aa)},(X.A.handled=td->LCall X f g)->LCall X f g:=λh pins s σ H A S xs vs us w S' I=>h (I.ok.hd K.calm) pins s σ H A S xs vs us w S' I
 cases b with
 | len=>exact sG rC g1 hm PySem.boot_len h #v[] g2 (aH ns.1) (bT ns.2)
 | list=>exact sH (calm λhh=>wR (pv hh) (pO hh)) g1 hm rfl h #v[] g2 (aH ns.1) (bT ns.2)
 | tuple=>exact sH (calm nW) g1 hm rfl h #v[] g2 (aH ns.1) (bT ns.2)
 | int=>exact sH uf g1 hm rfl h #v[] g2 (aH ns.1) (bT ns.2)
 | sorted=>exact sG (calm λhh=>nV hh hu) g1 hm rfl h #v[] g2 (aH ns.1) (bT ns.2)
 | range=>exact sH pr g1 hm rfl h #v[] g2 (aH ns.1) (bT ns.2)
 | all=>exact sG (calm uz) g1 hm rfl h #v[] g2 (aH ns.1) (bT ns.2)
 | min=>exact sG (calm λhh=>uw hh hu) g1 hm rfl h #v[] g2 (aH ns.1) (bT ns.2)
theorem xg {x:HL}{c:IX}(h:wW x=gV c):bootBuiltins x=gV (.type c)/\x≠"__name__":=by
 unfold wW at h;split at h
 ·rename_i e; cases h; rw[eq_of_beq e]; exact#[rfl,#v[]]
 ·split at h
  ·rename_i e; cases h; rw[eq_of_beq e]; exact#[rfl,#v[]]
  ·split at h
   ·rename_i e; cases h; rw[eq_of_beq e]; exact#[rfl,#v[]]
   ·split at h
    ·rename_i e; cases h; rw[eq_of_beq e]; exact#[rfl,#v[]]
    ·split at h
     ·rename_i e; cases h; rw[eq_of_beq e]; exact#[rfl,#v[]]
     ·split at h
      ·rename_i e; cases h; rw[eq_of_beq e]; exact#[rfl,#v[]]
      ·cases h
theorem EF (K:CtxOk Φ X Γ){n:Hu}{f:HL}{p pos:JW}{args:Hm HS}{r:E}(hg:lM Γ f=true)(hb:(f==("isinstance" : HL))=true)(hc:Γ.blt.contains f=true)(ih:∀ {e:HS} {e':E},cE n Γ e=gV e'->GE X e (aK Φ e'))(h:Am Γ (cE n Γ) args=gV r) :
  GE X (.Call (.Name f p) args [] pos) (aK Φ r)/\∃a c,r=.isi c a:=by
 obtain⟨g1,g2⟩:=kL K hg;have hm:X.mg f=td:=K.blt f (by simpa using hc)
 have e:=eq_of_beq hb;subst e;unfold Am at h;split at h
 ·rename_i a c q;split at h
  ·rename_i hcc;rw[Hw]at hcc;obtain⟨g3,g4⟩:=kL K (x:=c) hcc.1;have hm2:X.mg c=td:=K.blt c (by simpa using hcc.2)
   split at h
   ·rename_i cs a' h1 h2;cases h;obtain⟨b1,b2⟩:=xg h1;exact#[CS g1 hm g3 hm2 b1 b2 g4 (ih h2) (aH (i8 h2)),a',cs,rfl]
   ·cases h
  ·cases h
 ·cases h
theorem eZ {o:HS}{name:HL}{env:Na}(h:gr o=true):attributeBase o name env (eval o env)=eval o env:=by
 cases o <;> first|rfl|cases h
theorem sQ {n:Hu}{pos:JW}(ih:∀ {e:HS} {e':E},cE n Γ e=gV e'->GE X e (aK Φ e')):∀(keys:Hm (Ht HS)) (values:Hm HS) {r:Es},keys.all (·.isSome)=true->keys.length=values.length->cA (cE n Γ) (sP keys values)=gV r->EA X pos keys values (dq Φ r)
 | [],[],r,_,_,h=>by cases h; exact Aa
 | [],_::_,r,_,hl,_=>by cases hl
 | _::_,[],r,_,hl,_=>by cases hl
 | none::_,_::_,r,ha,_,_=>by cases ha
 | some k::ks,v::vs,r,ha,hl,h=>by
  simp only[sP]at h;obtain⟨e1,es1,h1,h2,rfl⟩:=iA h;obtain⟨e2,es2,h3,h4,rfl⟩:=iA h2;rw[ID,Hw]at ha;exact wI (ih h1) (ih h3) (sQ ih ks vs ha.2 (by simpa using hl) h4)
theorem Gs (K:CtxOk Φ X Γ){n:Hu}{m:HL}{apos cpos:JW}{o a:HS}{as:Hm HS}{b:Me}{o':E}{r:Es}(hm:Al m=gV b)(hr:gr o=true)(hl:(apos.endLine==cpos.line)=true)(hn:(a::as).length < 29)(ho:GE X o (aK Φ o'))(ha:cA (cE n Γ) (a::as)=gV r)(h:GA X (a::as) (dq Φ r)) :
  GE X (.Call (.Attribute o m apos) (a::as) [] cpos) (DC b.ty b.fn (aK Φ o') (dq Φ r)):=by
 have ns:=da ha;have ns':=ns;rw[ID,Hw]at ns;have mQ:((backTo cpos (starEach (a::as) X.env)).all (λx=>!x.1)&&(backToKw cpos (keywordEach [] X.env)).all (λx=>x.1.isSome)&&decide ((a::as).length+([]:Hm N1).length+(if ([]:Hm N1).isEmpty then 0 else 1) < 30))=true:=by
  rw[pX ns',Kk,Hw];exact#[rfl,Jg (by simp only[Js,List.isEmpty_nil,Kf]; omega)]
 have e:=uG hm;subst e;cases b with
 | append=>exact pQ KS PySem.F.slot_list_append PySem.F.type_list_append nG ho h (eZ hr) mQ hl (aH ns.1) (bT ns.2)
 | extend=>exact pQ KS PySem.F.slot_list_extend PySem.F.type_list_extend nH ho h (eZ hr) mQ hl (aH ns.1) (bT ns.2)
 | join=>exact pQ PySem.F.plainAttrs_str PySem.F.slot_str_join PySem.F.type_str_join rh ho h (eZ hr) mQ hl (aH ns.1) (bT ns.2)
 | pop=>exact pQ KS PySem.F.slot_list_pop PySem.F.type_list_pop ug ho h (eZ hr) mQ hl (aH ns.1) (bT ns.2)
 | get=>exact pQ PySem.F.plainAttrs_dict Ml PySem.F.type_dict_get (rj (by have:=K.un; have:gY=20:=rfl; omega)) ho h (eZ hr) mQ hl (aH ns.1) (bT ns.2)
theorem pY {n:Hu}{Γ:Gam}{e:HS}{e':E}{op:OI}(h:cE n Γ e=gV e'):behindInMarks op e=false:=by
 cases n with
 | zero=>cases h
 | succ n=>cases e <;> first|rfl|(exact bc h)
theorem rF {n:Hu}{Γ:Gam}{e:HS}{e':E}(h:cE n Γ e=gV e'):ny e:=by
 cases n with
 | zero=>cases h
 | succ n=>cases e <;> first|(intro o i; rfl)|(exact bc h)
theorem nZ {n:Hu}{Γ:Gam}{f:HS->Ht E}{e:HS}{i:Ie}{env:Na}{tg:HS}(hf:∀el k p,f (.Set el k p)=td)(h:cI Γ f tg e=gV i):∀x,foldedSetIterable e env x=pure x:=by
 intro x;cases e <;> first|rfl|(simp[cI,hf]at h)
theorem n0 {n:Hu}{op:Pi}{pos:JW}(ih:∀ {e:HS} {e':E},cE n Γ e=gV e'->GE X e (aK Φ e')):∀ {vs:Hm HS} {r:E},cB (cE n Γ) op vs=gV r->GE X (.BoolOp op vs pos) (aK Φ r)
 | [],r,h=>by cases h
 | [a],r,h=>CB (ih h)
 | a::b::dj,r,h=>by
  simp only[cB]at h;split at h
  ·rename_i a' b' h1 h2;cases h;cases op with
   | And=>exact CC (ih h1) (n0 ih h2)
   | Or=>exact Et (ih h1) (n0 ih h2)
  ·cases h
theorem n6 {n:Hu}{op:Pi}{pos:JW}(ih:∀ {e:HS} {e':E},cE n Γ e=gV e'->GT X e (dm Φ e')):∀ {vs:Hm HS} {r:E},cB (cE n Γ) op vs=gV r->GW X (.BoolOp op vs pos) (dm Φ r)
 | [],r,h=>by cases h
 | [a],r,h=>by
  cases op with
  | And=>exact zC (ih h)
  | Or=>exact Cy (ih h)
 | a::b::dj,r,h=>by
  simp only[cB]at h;split at h
  ·rename_i a' b' h1 h2;cases h;cases op with
   | And=>exact Cz (ih h1) (n6 ih h2)
   | Or=>exact Er (ih h1) (n6 ih h2)
  ·cases h
theorem xh {n:Hu}(ih:∀ {e:HS} {e':E},cE n Γ e=gV e'->GE X e (aK Φ e')){o:Ht HS}{p:Ep}(h:cP (cE n Γ) o=gV p):GO X o (sM Φ p):=by
 cases o with
 | none=>cases h; exact zG
 | some e=>
  simp only[cP,Hs]at h;obtain⟨e',h1,rfl⟩:=h;exact zH (ih h1)
theorem rG (K:CtxOk Φ X Γ){n:Hu}(ih:∀ {e:HS} {e':E},cE n Γ e=gV e'->GE X e (aK Φ e')){tg e:HS}{i:Ie}(h:cI Γ (cE n Γ) tg e=gV i):GI X tg e (j8 Φ i):=by
 have gen:(cE n Γ e).map Ie.seq=gV i->GI X tg e (j8 Φ i):=λh=>by
  rw[Hs]at h;obtain⟨e',h1,rfl⟩:=h;exact Ad (ih h1)
 unfold cI at h;split at h
 ·rename_i x p a pos;split at h
  ·rename_i hc;rw[Hw,Hw]at hc;obtain⟨⟨h1,h2⟩,h3⟩:=hc;have hx:=eq_of_beq h1;subst hx;rw[Hs]at h;obtain⟨r,hr,rfl⟩:=h;have ns:=da hr;rw[ID,Hw]at ns;exact zX (kL K h2).1 (K.blt _ (by simpa using h3)) (dO ih hr) (aH ns.1)
  ·split at h
   ·rename_i hc;rw[Hw,Hw,Hw]at hc;obtain⟨⟨⟨h1,h2⟩,h3⟩,h4⟩:=hc;have hx:=eq_of_beq h1;subst hx;rw[Hs]at h;obtain⟨r,hr,rfl⟩:=h;have ns:=da hr;rw[ID,Hw]at ns;cases tg with
    | Tuple els k0 tp=>exact Ah (kL K h2).1 (K.blt _ (by simpa using h3)) (dO ih hr) (aH ns.1)
    | _=>cases h4
   ·exact gen h
 ·rename_i x p a b pos;split at h
  ·rename_i hc;rw[Hw,Hw]at hc;obtain⟨⟨h1,h2⟩,h3⟩:=hc;have hx:=eq_of_beq h1;subst hx;rw[Hs]at h;obtain⟨r,hr,rfl⟩:=h;have ns:=da hr;rw[ID,ID,Hw,Hw]at ns;exact zY (kL K h2).1 (K.blt _ (by simpa using h3)) (dO ih hr) (by rw[aH ns.1,aH ns.2.1]; rfl) (aH ns.2.1)
  ·exact gen h
 ·exact gen h
theorem n8 (K:CtxOk Φ X Γ){x:HL}{i:Hu}(h:dw Γ x=gV i):X.N[i]?=gV x/\yw X.env.scope x/\(X.fn x=true\/X.env.scope.names.lookup x=gV .local):=by
 unfold dw at h;split at h
 ·rename_i hc;refine#[by rw[K.N]; exact dG h,?_]
  unfold L2.yw;rw[K.names];rw[JK,Hw]at hc;rcases hc with hc|⟨hd,hc⟩
  ·have:=eq_of_beq hc;exact#[.inl this,.inr this]
  ·exact#[.inr (eq_of_beq hc),.inl (K.dfn hd x)]
 ·cases h
theorem pZ (K:CtxOk Φ X Γ):∀ {ts:Hm HS} {is:Hm Hu},DE Γ ts=gV is->(∀x∈ts,∃y p,x=MG y p)/\LW (λ(t:HS) (i:Hu)=>∃x p,t=MG x p/\X.N[i]?=gV x/\yw X.env.scope x/\(X.fn x=true\/X.env.scope.names.lookup x=gV .local)) ts is
 | [],is,h=>by cases h; exact#[λx hx=>by simp at hx,.nil]
 | t::ts,is,h=>by
  cases t with
  | Name x p=>
   simp only[DE]at h;split at h
   ·rename_i i is' h1 h2;cases h;obtain⟨a,b⟩:=pZ K h2;exact#[λy hy=>(Iq.mp hy).elim (λe=>#[x,p,e]) (a y),.cons #[x,p,rfl,n8 K h1] b]
   ·cases h
  | _=>cases h
theorem g8 {env:Na}:∀ {ts:Hm HS},(∀x∈ts,∃y p,x=MG y p)->(assignEach ts env).length=ts.length/\(assignEach ts env).findIdx? (·.1)=td
 | [],_=>#[rfl,rfl]
 | t::ts,h=>by
  obtain⟨y,p,rfl⟩:=h t Jv;obtain⟨a,b⟩:=g8 (env:=env) λx hx=>h x (IU _ hx)
  refine#[by show(assignEach ts env).length+1=ts.length+1; rw[a],?_]
  show List.findIdx? (·.1) ((false,assign (.Name y p) env)::assignEach ts env)=td
  rw[List.findIdx?_cons,b];rfl
theorem sR (K:CtxOk Φ X Γ){tg:HS}{t:Tg}(h:cT Γ tg=gV t):GG X tg (fX t):=by
 have hN:X.N.Nodup:=by rw[K.N]; exact K.nd
 cases tg with
 | Name x p=>
  simp only[cT,Hs]at h;obtain⟨i,h1,rfl⟩:=h;obtain⟨a,b,c⟩:=n8 K h1;exact sJ hN a b c
 | Tuple ts k p=>
  simp only[cT,Hs]at h;obtain⟨is,h1,rfl⟩:=h;obtain⟨a,b⟩:=pZ K h1;exact CL K.calm a b hN (g8 a).1 (g8 a).2
 | _=>cases h
end
noncomputable def eR (env:Na):Hm (HL×Jx)->Hm (HL×Hx)->Hm (HL×Hx)
 | [],cs=>cs
 | (n,k)::r,cs=>eR env r (if k==.free then(n,(env.cells.lookup n).getD 0)::cs else cs)
theorem i9 {env:Na}:∀(names:Hm (HL×Jx)) (cs:Hm (HL×Hx)),(∀y∈names,y.2=.free->(env.cells.lookup y.1).isSome=true)->
  (forIn names cs λx r=>match x with|(name,kind)=>if (kind==KH)=true then do let a <- cellOf env name; pure (Jt ((name,a)::r))else pure (Jt r):OX (Hm (HL×Hx)))=pure (eR env names cs)
 | [],cs,_=>by rw[Oj]; rfl
 | (n,k)::r,cs,h=>by
  rw[Ma];have hr:=λy hy=>h y (IU _ hy)
  by_cases hk:(k==KH)=true
  ·obtain⟨c,hc⟩:=IM.mp (h (n,k) Jv (eq_of_beq hk));have e1:cellOf env n=pure c:=by unfold cellOf; rw[hc]
   simp only[hk,Kf,e1,pure_bind];rw[i9 r _ hr];simp only[eR,hk,Kf,hc,NJ]
  ·have hk':(k==KH)=false:=by simpa using hk
   simp only[hk',IY,J5,pure_bind];rw[i9 r _ hr];simp only[eR,hk',IY,J5]
theorem jT {scope:Kl}{env:Na}(h:∀y∈scope.names,y.2=.free->(env.cells.lookup y.1).isSome=true):closureFor scope env=pure (eR env scope.names []):=by
 have:=i9 scope.names [] h;unfold closureFor;simp only[this,pure_bind]
theorem kM {env:Na}:∀(names:Hm (HL×Jx)) (cs:Hm (HL×Hx)),(∀y∈names,y.2=.free->(env.cells.lookup y.1).isSome=true)->(∀x c,cs.lookup x=gV c->env.cells.lookup x=gV c)->
  ∀x c,(eR env names cs).lookup x=gV c->env.cells.lookup x=gV c
 | [],cs,_,h,x,c,e=>h x c e
 | (n,k)::r,cs,hn,h,x,c,e=>by
  refine kM r _ (λy hy=>hn y (IU _ hy)) (λx c e=>?_) x c e
  split at e
  ·rename_i hk;rw[Jy]at e;split at e
   ·rename_i hx;cases e;have:=eq_of_beq hx;subst this;obtain⟨c,hc⟩:=IM.mp (hn (x,k) Jv (eq_of_beq hk));rw[hc]; rfl
   ·exact h x c e
  ·exact h x c e
theorem jL {env:Na}{x:HL}:∀(names:Hm (HL×Jx)) (cs:Hm (HL×Hx)),(∃c,cs.lookup x=gV c)->∃c,(eR env names cs).lookup x=gV c
 | [],cs,h=>h
 | (n,k)::r,cs,h=>by
  refine jL r _ ?_;split
  ·rw[Jy];split
   ·exact#[_,rfl]
   ·exact h
  ·exact h
theorem kN {env:Na}{x:HL}:∀(names:Hm (HL×Jx)) (cs:Hm (HL×Hx)),(x,KH)∈names->∃c,(eR env names cs).lookup x=gV c
 | [],cs,h=>by simp at h
 | (n,k)::r,cs,h=>by
  rcases Iq.mp h with e|h
  ·cases e;refine jL r _ ?_;simp[Jy]
  ·exact kN r _ h
theorem kO {x:HL}{k:Jx}:∀ {l:Hm (HL×Jx)},l.lookup x=gV k->(x,k)∈l
 | [],h=>by simp at h
 | (n,j)::r,h=>by
  rw[Jy]at h;split at h
  ·rename_i hx;cases h;have:=eq_of_beq hx;subst this;exact Jv
  ·exact IU _ (kO h)
theorem eS {X:Cx}{Φ:HL->FF}{Γ:Gam}(K:CtxOk Φ X Γ)(scope:Kl):(relabel scope X.env).names=fZ scope.names Γ.sc:=by
 unfold relabel fZ L4;rw[K.kind,K.names];refine JM λ#[n,k] _=>?_
 have e:(M6==M6)=true:=rfl;simp only[e,LK]
theorem ey {outer:Hm (HL×Jx)}{x:HL}:∀ {names:Hm (HL×Jx)},(fZ names outer).lookup x=(names.lookup x).map λk=>if (k==.free&&outer.lookup x==gV .cell)then .cell else k
 | []=>rfl
 | (n,k)::r=>by
  have ih:=ey (outer:=outer) (x:=x) (names:=r);show List.lookup x ((if (k==KH&&outer.lookup n==gV .cell)=true then(n,PJ)else(n,k))::fZ r outer)=_
  cases hx:x==n with
  | true=>
   have:=eq_of_beq hx;subst this;simp only[Jy,Jb,Ij];split <;> simp[Jy]
  | false=>
   simp only[Jy,hx];split <;> (simp only[Jy,hx]; exact ih)
section
variable{Φ:HL->FF}{X:Cx}{Γ:Gam}
structure ScOk (Γ:Gam)(scope:Kl):Prop where
 kind:scope.kind=.function
 names:∀y∈scope.names,y.2=.local->scope.names.lookup y.1=gV .local
 nocell:∀y∈scope.names,y.2≠.cell
 free:∀y∈scope.names,y.2=.free->Aj (Γ.sc.lookup y.1)=true/\scope.names.lookup y.1=gV .free/\(Γ.N.findIdx? (· == y.1)).isSome=true
 nd:(gO scope.names).Nodup
theorem sS {scope:Kl}(h:wX Γ scope=true):ScOk Γ scope:=by
 unfold wX at h;rw[Hw,Hw,Hw,Hw]at h;obtain⟨⟨⟨⟨h1,h2⟩,h3⟩,h4⟩,h5⟩:=h;refine#[eq_of_beq h1,λy hy e=>?_,λy hy e=>?_,λy hy e=>?_,IV h5]
 ·have:=HX.mp h2 y hy;rw[e]at this
  simpa using this
 ·have:=HX.mp h3 y hy;rw[e]at this;simp at this
 ·have:=HX.mp h4 y hy;rw[e]at this;simp only[Jb,MR,MS,Hw]at this;exact#[this.1.1,eq_of_beq this.1.2,this.2]
theorem sT {o:Ht Jx}(h:Aj o=true):o=gV .cell\/o=gV .free:=by
 unfold Aj at h;split at h
 ·exact .inl rfl
 ·exact .inr rfl
 ·cases h
theorem mM (K:CtxOk Φ X Γ)(ok:X.Ok){scope:Kl}(sc:ScOk Γ scope):CompOk X scope (eR X.env scope.names []) (gO scope.names) (gv Γ scope.names):=by
 have cells:∀y∈scope.names,y.2=.free->(X.env.cells.lookup y.1).isSome=true:=λy hy e=>by
  have hk:=sT (sc.free y hy e).1;obtain⟨c,hc⟩:=ok.has y.1 (by unfold L4; rw[K.names]; exact hk)
  rw[hc]; rfl
 have relab:∀x,((relabel scope X.env).names.lookup x=gV .cell\/(relabel scope X.env).names.lookup x=gV .free)->(x,KH)∈scope.names:=λx h=>by
  rw[eS K,ey]at h;cases q:scope.names.lookup x with
  | none=>rw[q]at h; rcases h with h|h <;> cases h
  | some k=>
   rw[q]at h;have hm:=kO q;cases k with
   | free=>exact hm
   | cell=>exact absurd rfl (sc.nocell _ hm)
   | _=>rcases h with h|h <;> simp at h
 refine#[jT cells,sc.kind,sc.names,sc.nocell,kM _ _ cells (λx c e=>by cases e),λx h=>kN _ _ (relab x h),by simp[gv],λi j x hi hx=>?_]
 unfold gv at hi;rw[Hy,hx]at hi;simp only[Ij,IB]at hi;split at hi
 ·cases hi
 ·rename_i hl;have hx2:x∈gO scope.names:=HR hx;unfold gO at hx2;obtain⟨⟨x',k⟩,hf,e⟩:=Io.mp hx2;obtain⟨hm,hk⟩:=KJ.mp hf;have e':x'=x:=e;subst e';have hkf:k=.free:=by
   simp only[JK]at hk;rcases hk with hk|hk
   ·have:k=.local:=eq_of_beq hk;subst this;have:=sc.names (x',.local) hm rfl;rw[this]at hl;simp at hl
   ·exact eq_of_beq hk
  subst hkf;obtain⟨f1,f2,f3⟩:=sc.free _ hm rfl;refine#[by rw[K.N]; exact dG hi,by unfold L4; rw[K.names]; exact sT f1,?_]
  rw[eS K,ey,f2];simp only[Ij,IB,Jb,Kk];split
  ·exact .inl rfl
  ·exact .inr rfl
theorem fg (K:CtxOk Φ X Γ){scope:Kl}(sc:ScOk Γ scope)(C:Hx)(s0:Hr)(H0:Hp)(ex:Hm Hx):CtxOk Φ (lG X scope (eR X.env scope.names []) C (gO scope.names) s0 H0 ex) (gP Γ scope) where
 names:=eS K scope
 kind:=sc.kind
 N:=rfl
 nd:=sc.nd
 calm:=K.calm
 xe:=rfl
 un:=K.un
 dfn:=λh=>by cases h
 blt:=K.blt
 fns:=K.fns
theorem p4 {cs:Es}{n:Hu}{ifs:Hm HS}{Γ:Gam}(hl:ifs.length<=1)(hc:cA (cE n Γ) ifs=gV cs){Y:Cx}(ih:∀ {e:HS} {e':E},cE n Γ e=gV e'->GT Y e (dm Φ e'))(hx:Y.xe=λ_ _=>IW) :
  ∀pins s σ H Q,Inv Y pins σ H s->tT Y (Ai Φ cs) σ H Q->
  wpAny (model Y.prog Y.w) Y.A (forIn ifs true λc r=>if r=true then do let ok <- isTrue c Y.env (eval c Y.env); pure (Jt ok)else pure (Jt r)) (TP Y pins σ Q) (λ_ _=>IW) s:=by
 intro pins s σ H Q I h
 match ifs,hl,hc with
 | [],_,hc=>
  cases hc;obtain⟨A,ρ,S,k,S',er,so,e,hq⟩:=h;cases e;exact wpAny_tests_nil #[H,I,hq _ _ #[rfl,A,.refl,so]]
 | [c],_,hc=>
  obtain⟨e',es',h1,h2,rfl⟩:=iA hc;cases h2;have:=ih h1 pins s σ H Q I h;rw[hx]at this;exact wpAny_tests_one this
theorem cy:∀(n:Hu) {Γ:Gam} {X:Cx} {e:HS} {e':E},CtxOk Φ X Γ->cE n Γ e=gV e'->GE X e (aK Φ e')/\GT X e (dm Φ e'):=by
 intro n
 induction n with
 | zero=>intro Γ X e e' K h; cases h
 | succ n ih=>
  intro Γ X e e' K h;have ihE:∀ {e:HS} {e':E},cE n Γ e=gV e'->GE X e (aK Φ e'):=λq=>(ih K q).1
  have ihT:∀ {e:HS} {e':E},cE n Γ e=gV e'->GT X e (dm Φ e'):=λq=>(ih K q).2
  have hu10:X.A.units+10 < cLine:=by have:=K.un; have:gY=20:=rfl; omega
  cases e with
  | Constant c k p=>
   cases c <;> cases h
   all_goals first
    | exact#[pP vf (λ_ _=>.non),c7 (pP vf (λ_ _=>.non)) λ_=>rfl]
    | exact#[pP Bc (λ_ _=>.bl),c7 (pP Bc (λ_ _=>.bl)) λ_=>rfl]
    | exact#[pP ve (λ_ _=>.int),c7 (pP ve (λ_ _=>.int)) λ_=>rfl]
    | exact#[pP vg (λ_ _=>.str),c7 (pP vg (λ_ _=>.str)) λ_=>rfl]
  | Name x p=>
   replace h:(match slot Γ x with|some i=>gV (E.v i)|none=>td)=gV e':=h
   split at h
   ·rename_i i h1;cases h;exact#[w8 K h1,c7 (w8 K h1) λ_=>rfl]
   ·cases h
  | BinOp a op b p=>
   replace h:(match sN op,cE n Γ a,cE n Γ b with|some o,gV a',gV b'=>gV (E.op o a' b')|_,_,_=>td)=gV e':=h
   split at h
   ·rename_i o a' b' h1 h2 h3;cases h;have e:=xf h1;subst e;exact#[Bk (si o) (ihE h2) (ihE h3),c7 (Bk (si o) (ihE h2) (ihE h3)) λ_=>rfl]
   ·cases h
  | UnaryOp op a p=>
   cases op with
   | Not=>
    replace h:(cE n Γ a).map E.not=gV e':=h;rw[Hs]at h;obtain⟨a',h1,rfl⟩:=h;exact#[CD (ihE h1),CA (ihT h1)]
   | USub=>
    replace h:(cE n Γ a).map E.neg=gV e':=h;rw[Hs]at h;obtain⟨a',h1,rfl⟩:=h;exact#[wg (ihE h1),c7 (wg (ihE h1)) λ_=>rfl]
   | _=>exact bc h
  | BoolOp op vs p=>
   replace h:cB (cE n Γ) op vs=gV e':=h;exact#[n0 ihE h,(n6 ihT h).pt]
  | Compare a ops cs p=>
   match ops,cs,h with
   | [op],[b],h=>
    replace h:(match sO op,cE n Γ a,cE n Γ b with|some o,gV a',gV b'=>gV (E.cmp o a' b')|_,_,_=>td)=gV e':=h
    split at h
    ·rename_i o a' b' h1 h2 h3;cases h;have e:=w9 h1;subst e;exact#[Cv K.un (ihE h2) (ihE h3) (pY h3),Cw K.un (ihE h2) (ihE h3) (pY h3)]
    ·cases h
   | [],_,h=>exact bc h
   | [_],[],h=>exact bc h
   | [_],_::_::_,h=>exact bc h
   | _::_::_,_,h=>exact bc h
  | IfExp t a b p=>
   replace h:(match cE n Γ t,cE n Γ a,cE n Γ b with|some t',gV a',gV b'=>gV (E.ite t' a' b')|_,_,_=>td)=gV e':=h
   split at h
   ·rename_i t' a' b' h1 h2 h3;cases h;exact#[CF (ihT h1) (ihE h2) (ihE h3),j9]
   ·cases h
  | Call f args kws p=>
   cases kws with
   | cons _ _=>cases f <;> first|(exact bc h)|(cases args <;> (exact bc h))
   | nil=>
    cases f with
    | Name x q=>
     replace h:(if lM Γ x then match Γ.fns.lookup x with|some k=>(cA (cE n Γ) args).map (E.own x k)|none=>if x==("isinstance" : HL)then(if Γ.blt.contains x then Am Γ (cE n Γ) args else td)else match (generalizing:=false) Ak x,args with|some b,a::as=>if Γ.blt.contains x then(cA (cE n Γ) (a::as)).map (E.bi b)else td|_,_=>td else td)=gV e':=h
     split at h
     ·rename_i hg;split at h
      ·rename_i k hk;rw[Hs]at h;obtain⟨r,hr,rfl⟩:=h;have g:=EE (pos:=p) (p:=q) K hg hk hr (dO ihE hr);exact#[g,c7 g λ_=>rfl]
      ·split at h
       ·rename_i his;split at h
        ·rename_i hc;obtain⟨g,a',c',rfl⟩:=EF (pos:=p) (p:=q) K hg his hc ihE h;exact#[g,c7 g λ_=>rfl]
        ·cases h
       ·split at h
        ·rename_i bb a as hb;split at h
         ·rename_i hc;rw[Hs]at h;obtain⟨r,hr,rfl⟩:=h;have g:=Gr (pos:=p) (p:=q) K hg hb hc hr (dO ihE hr);exact#[g,c7 g λ_=>rfl]
         ·cases h
        ·cases h
     ·cases h
    | Attribute o m q=>
     cases args with
     | nil=>exact bc h
     | cons a as=>
      replace h:(match Al m,cE n Γ o,cA (cE n Γ) (a::as)with|some m',gV o',gV es=>if gr o&&(q.endLine==p.line)&&decide ((a::as).length < 29)then gV (E.me m' o' es)else td|_,_,_=>td)=gV e':=h
      split at h
      ·rename_i m' o' es h1 h2 h3;split at h
       ·rename_i hc;rw[Hw,Hw,Ii]at hc;cases h;have g:=Gs K (cpos:=p) (apos:=q) h1 hc.1.1 hc.1.2 hc.2 (ihE h2) h3 (dO ihE h3);exact#[g,c7 g λ_=>rfl]
       ·cases h
      ·cases h
    | _=>exact bc h
  | Subscript a b p=>
   have plain:(match cE n Γ a,cE n Γ b with|some a',gV b'=>gV (E.ix a' b')|_,_=>td)=gV e'->GE X (.Subscript a b p) (aK Φ e')/\GT X (.Subscript a b p) (dm Φ e'):=λh=>by
    split at h
    ·rename_i a' b' h1 h2;cases h;have g:=Ev (pos:=p) hu10 (ihE h1) (ihE h2) (rF h2);exact#[g,c7 g λ_=>rfl]
    ·cases h
   cases b with
   | Slice lo hi st q=>
    cases st with
    | none=>
     replace h:(match cE n Γ a,cP (cE n Γ) lo,cP (cE n Γ) hi with|some a',gV lo',gV hi'=>gV (E.sl a' lo' hi')|_,_,_=>td)=gV e':=h
     split at h
     ·rename_i a' lo' hi' h1 h2 h3;cases h;have g:=Ew (pos:=p) (p2:=q) (ihE h1) (xh ihE h2) (xh ihE h3);exact#[g,c7 g λ_=>rfl]
     ·cases h
    | some z=>exact plain h
   | _=>exact plain h
  | Tuple es k p=>
   replace h:(cA (cE n Γ) es).map E.tup=gV e':=h;rw[Hs]at h;obtain⟨r,h1,rfl⟩:=h;exact#[wq (dO ihE h1),c7 (wq (dO ihE h1)) λ_=>rfl]
  | List es p=>
   replace h:(cA (cE n Γ) es).map E.lst=gV e':=h;rw[Hs]at h;obtain⟨r,h1,rfl⟩:=h;exact#[wt (dO ihE h1),c7 (wt (dO ihE h1)) λ_=>rfl]
  | Dict keys values p=>
   replace h:wY (cE n Γ) keys values=gV e':=h;unfold wY at h;split at h
   ·rename_i hc;cases h;rw[Hw]at hc;have k0:keys=[]:=NK.mp hc.1;have v0:values=[]:=NK.mp hc.2;subst k0 v0;exact#[Ab,j9]
   ·rename_i hc0;split at h
    ·rename_i hc;rw[Hw,Hw,Ii,Ii]at hc;rw[Hs]at h;obtain⟨r,hr,rfl⟩:=h;have h0:keys≠[]:=λz=>by
      subst z;have v0:values=[]:=KR.mp hc.1.2.symm;subst v0;exact hc0 rfl
     exact#[Ac (pos:=p) hu10 (sQ ihE keys values hc.1.1 hc.1.2 hr) hc.1.1 hc.1.2 h0 hc.2,j9]
    ·cases h
  | ListComp elt gens scope p=>
   match gens,h with
   | [#[tg,iter,ifs,asy]],h=>
    replace h:(if (asy==0)&&(wX Γ scope&&decide (ifs.length<=1))then match cI Γ (cE n Γ) tg iter,cT (gP Γ scope) tg,cA (cE n (gP Γ scope)) ifs,cE n (gP Γ scope) elt with|some it,gV t,gV cs,gV el=>gV (E.comp el t it cs (gv Γ scope.names))|_,_,_,_=>td else td)=gV e':=h
    split at h
    ·rename_i hc;rw[Hw,Hw,Ii]at hc;have e0:asy=0:=eq_of_beq hc.1;subst e0;replace hc:=hc.2;split at h
     ·rename_i it t cs el h1 h2 h3 h4;cases h;have sc:=sS hc.1;refine#[Ae K.calm (rG K ihE h1) (λok=>#[_,mM K ok sc,?_]) (nZ (n:=n) (λel k p=>by cases n <;> rfl) h1),j9]
      refine#[λC s0 H0 ex=>sR (fg K sc C s0 H0 ex) h2,λC s0 H0 ex pins s σ H Q I q=>?_,λC s0 H0 ex=>(ih (fg K sc C s0 H0 ex) h4).1]
      exact p4 hc.2 h3 (λz=>(ih (fg K sc C s0 H0 ex) z).2) rfl pins s σ H Q I q
     ·cases h
    ·cases h
   | [],h=>exact bc h
   | #[_,_,_,_]::_::_,h=>exact bc h
  | _=>exact bc h
end
noncomputable abbrev cz:Hu:=30
noncomputable def Bn:HS->HV
 | .Constant (.str _) _ _=>true
 | _=>false
noncomputable def ja:HS->HV
 | .ListComp _ _ _ _=>true
 | _=>false
noncomputable def sU:HS->HV
 | .Slice _ _ _ _=>true
 | _=>false
noncomputable def uH (f:J8->Ht Sm)(ss:Hm J8):Ht Ss:=ss.foldr (λs acc=>match f s,acc with|some s',gV ss'=>gV (.cons s' ss')|_,_=>td) (gV .nil)
noncomputable def CW (Γ:Gam):Hm HS->HS->Ht Sm
 | [.Name x px,.Name y py],.Tuple [a,b] _ _=>match Γ.N.findIdx? (· == x),Γ.N.findIdx? (· == y),cA (cE cz Γ) [a,b]with
  | some i,gV j,gV es=>if !(i==j)&&(Γ.sc.lookup x==gV .local)&&(Γ.sc.lookup y==gV .local)&&(py.line==px.line) && !([a,b].all (foldedForSure 8)) && !([a,b].all (constantsAlone 8))then gV (.par i j es)else td
  | _,_,_=>td
 | _,_=>td
noncomputable def cS:Hu->Gam->J8->Ht Sm
 | 0,_,_=>td
 | n+1,Γ,st=>match st with
  | .Assign [.Name x _] e _=>match dw Γ x,cE cz Γ e with
   | some i,gV e'=>gV (.set i e')
   | _,_=>td
  | .Assign [.Tuple ts _ _] e _=>if isTup e then CW Γ ts e else if ja e then td else match DE Γ ts,cE cz Γ e with
   | some is,gV e'=>gV (.asg is e')
   | _,_=>td
  | .Assign [.Subscript o k _] e _=>if sU k then td else match cE cz Γ o,cE cz Γ k,cE cz Γ e with
   | some o',gV k',gV e'=>gV (.put o' k' e')
   | _,_,_=>td
  | .Expr e _=>if Bn e then gV .pass else if ja e then td else(cE cz Γ e).map .ex
  | .Return (gV e) _=>(cE cz Γ e).map .ret
  | .Return td _=>gV .retN
  | .Pass _=>gV .pass
  | .Raise _ _ _=>gV .bad
  | .Break _=>gV .brk
  | .Continue _=>gV .cont
  | .If t a b _=>match cE cz Γ t,uH (cS n Γ) a,uH (cS n Γ) b with
   | some t',gV a',gV b'=>gV (.ite t' a' b')
   | _,_,_=>td
  | .While t b [] _=>match cE cz Γ t,uH (cS n Γ) b with
   | some t',gV b'=>gV (.whl t' b')
   | _,_=>td
  | .For tg it b [] _=>match cT Γ tg,cI Γ (cE cz Γ) tg it,uH (cS n Γ) b with
   | some t,gV i,gV b'=>gV (.loop t i b')
   | _,_,_=>td
  | _=>td
section
variable{Φ:HL->FF}{X:Cx}{Γ:Gam}{fuel:Hu}
theorem xi {f:J8->Ht Sm}{s:J8}{ss:Hm J8}{r:Ss}(h:uH f (s::ss)=gV r):∃s' ss',f s=gV s'/\uH f ss=gV ss'/\r=.cons s' ss':=by
 simp only[uH,NW]at h;split at h
 ·rename_i e' es' h1 h2;cases h;exact#[e',es',h1,h2,rfl]
 ·cases h
theorem gw {n:Hu}(ih:∀ {st:J8} {s':Sm},cS n Γ st=gV s'->GS X st (fR Φ fuel s')):∀ {ss:Hm J8} {r:Ss},uH (cS n Γ) ss=gV r->GSs X ss (fY Φ fuel r)
 | [],r,h=>by cases h; exact zJ
 | s::ss,r,h=>by
  obtain⟨s',ss',h1,h2,rfl⟩:=xi h;exact ww (ih h1) (gw ih h2)
theorem kP {e:HS}{t:Ht HS}{l:Hu}{env:Na}(h:ja e=false)(n:Hu){Γ:Gam}{e':E}(hc:cE n Γ e=gV e'):swapsWith e t l env=pure false:=by
 cases n with
 | zero=>cases hc
 | succ n=>cases e <;> first|(exfalso; exact bc hc)|rfl|cases h
theorem rH (K:CtxOk Φ X Γ){n:Hu}{elt:HS}{gens:Hm Comprehension}{scope:Kl}{p:JW}{e':E}(h:cE (n+1) Γ (.ListComp elt gens scope p)=gV e') :
  ∃tg iter ifs fi g c f cap,gens=[#[tg,iter,ifs,0]]/\aK Φ e'=kJ fi g c f cap/\GI X tg iter fi/\(X.Ok->∃cl,CompOk X scope cl (gO scope.names) cap/\BlockOk X scope cl (gO scope.names) tg elt ifs g c f)/\∀x,foldedSetIterable iter X.env x=pure x:=by
 match gens,h with
 | [#[tg,iter,ifs,asy]],h=>
  replace h:(if (asy==0)&&(wX Γ scope&&decide (ifs.length<=1))then match cI Γ (cE n Γ) tg iter,cT (gP Γ scope) tg,cA (cE n (gP Γ scope)) ifs,cE n (gP Γ scope) elt with|some it,gV t,gV cs,gV el=>gV (E.comp el t it cs (gv Γ scope.names))|_,_,_,_=>td else td)=gV e':=h
  split at h
  ·rename_i hc;rw[Hw,Hw,Ii]at hc;have e0:asy=0:=eq_of_beq hc.1;subst e0;replace hc:=hc.2;split at h
   ·rename_i it t cs el h1 h2 h3 h4;cases h;have sc:=sS hc.1;refine#[tg,iter,ifs,_,_,_,_,_,rfl,rfl,rG K (λz=>(cy n K z).1) h1,λok=>#[_,mM K ok sc,?_],nZ (n:=n) (λel k p=>by cases n <;> rfl) h1]
    refine#[λC s0 H0 ex=>sR (fg K sc C s0 H0 ex) h2,λC s0 H0 ex pins s σ H Q I q=>?_,λC s0 H0 ex=>(cy n (fg K sc C s0 H0 ex) h4).1]
    exact p4 hc.2 h3 (λz=>(cy n (fg K sc C s0 H0 ex) z).2) rfl pins s σ H Q I q
   ·cases h
  ·cases h
 | [],h=>exact bc h
 | #[_,_,_,_]::_::_,h=>exact bc h
theorem EG (K:CtxOk Φ X Γ){x:HL}{px pos:JW}{e:HS}{i:Hu}{e':E}(hi:dw Γ x=gV i)(he:cE cz Γ e=gV e'):GS X (.Assign [.Name x px] e pos) (kI (aK Φ e') (zR i)):=by
 obtain⟨a,b,c⟩:=n8 K hi;have hN:X.N.Nodup:=by rw[K.N]; exact K.nd
 have plain:swapsWith e (gV (.Name x px)) pos.line X.env=pure false->GS X (.Assign [.Name x px] e pos) (kI (aK Φ e') (zR i)):=λhs=>rz (cy _ K he).1 (sJ hN a b c) hs (by cases e <;> rfl) rfl
 cases hc:ja e with
 | false=>exact plain (kP hc _ he)
 | true=>
  cases e with
  | ListComp elt gens scope p=>
   cases hsw:(X.env.blockKind==.function&&X.env.kindOf x==gV .local&&px.line==p.line && !(scope.names.any λ(n,k)=>n==x&&(k==.local||k==.cell)))with
   | false=>
    refine plain ?_;show(pure (X.env.blockKind==.function&&X.env.kindOf x==gV .local&&px.line==p.line && !(scope.names.any λ(n,k)=>n==x&&(k==.local||k==.cell))):OX HV)=pure false
    rw[hsw]
   | true=>
    have hsw':swapsWith (.ListComp elt gens scope p) (gV (.Name x px)) pos.line X.env=pure true:=by
     show(pure (X.env.blockKind==.function&&X.env.kindOf x==gV .local&&px.line==p.line && !(scope.names.any λ(n,k)=>n==x&&(k==.local||k==.cell))):OX HV)=pure true
     rw[hsw]
    rw[Hw,Hw,Hw]at hsw;have hl:X.env.scope.names.lookup x=gV .local:=eq_of_beq hsw.1.1.2;obtain⟨tg,iter,ifs,fi,g,c',f,cap,rfl,e2,gi,hck,hs⟩:=rH K he;rw[e2];exact rD K.calm gi hck hs hsw' hN a hl
  | _=>cases hc
theorem p7 (K:CtxOk Φ X Γ){x y:HL}{px py pt pt2:JW}{kt k2:Hu}{a b:HS}(hxy:x≠y)(hx:Γ.sc.lookup x=gV .local)(hy:Γ.sc.lookup y=gV .local)(hl:(py.line==px.line)=true)(h1:[a,b].all (foldedForSure 8)=false)(h2:[a,b].all (constantsAlone 8)=false)(hs:g7 a=true)(hs2:g7 b=true) :
  swappedStores [.Tuple [.Name x px,.Name y py] kt pt] (.Tuple [a,b] k2 pt2) X.env=pure (gV [x,y]):=by
 have kx:(X.env.kindOf x==gV .local)=true:=by unfold L4; rw[K.names,hx]; rfl
 have ky:(X.env.kindOf y==gV .local)=true:=by unfold L4; rw[K.names,hy]; rfl
 have bk:(X.env.blockKind != .function)=false:=by
  unfold Env.blockKind;rw[K.kind];rfl
 have hp:(px.line==px.line)=true:=by simp
 have ed:([x,y].eraseDups.length != [x,y].length)=false:=by
  have:(y==x)=false:=by simpa using Ne.symm hxy
  simp[MM,this]
 have kx':X.env.kindOf x=gV .local:=eq_of_beq kx;have ky':X.env.kindOf y=gV .local:=eq_of_beq ky;have hl':py.line=px.line:=eq_of_beq hl;have bk':X.env.blockKind=.function:=by simpa using bk
 have yx:(y==x)=false:=by simpa using Ne.symm hxy
 have h1':(foldedForSure 8 a&&foldedForSure 8 b)=false:=by simpa using h1
 have h2':(constantsAlone 8 a&&constantsAlone 8 b)=false:=by simpa using h2
 unfold swappedStores;simp only[JR,List.any_nil,Ow,Ky,List.filterMap_nil,kx',ky',bk',List.head?_cons,Ij,NJ,IN,Js,ID,OP,LK,h1',h2'];refine Eq.trans (Ix ?_) (Eq.trans (Ix ?_) ?_)
 ·decide
 ·rw[JK];rintro(hh|hh)
  ·clear h1 h2 h1' h2';cases a <;> first|(cases hh; done)|(cases hs; done)
  ·clear h1 h2 h1' h2';cases b <;> first|(cases hh; done)|(cases hs2; done)
 ·simp[Expr.pos,hl',yx,MM]
theorem An (fuel:Hu)(K:CtxOk Φ X Γ):∀(n:Hu) {st:J8} {s':Sm},cS n Γ st=gV s'->GS X st (fR Φ fuel s'):=by
 have hN:X.N.Nodup:=by rw[K.N]; exact K.nd
 have own:ME (model X.prog X.w) X.A X.env X.xe:=by rw[K.xe]; exact Px
 intro n
 induction n with
 | zero=>intro st s' h; cases h
 | succ n ih=>
  intro st s' h;cases st with
  | Expr e p=>
   replace h:(if Bn e then gV Sm.pass else if ja e then td else(cE cz Γ e).map Sm.ex)=gV s':=h
   split at h
   ·rename_i hd;cases h;cases e with
    | Constant c k q=>
     cases c with
     | str x=>exact CJ
     | _=>cases hd
    | _=>cases hd
   ·split at h
    ·cases h
    ·rename_i hd hc;rw[Hs]at h;obtain⟨e',h1,rfl⟩:=h;exact Ex (cy _ K h1).1 (kP (by simpa using hc) _ h1)
  | Return o p=>
   cases o with
   | none=>cases h; exact zP
   | some e=>
    replace h:(cE cz Γ e).map Sm.ret=gV s':=h;rw[Hs]at h;obtain⟨e',h1,rfl⟩:=h;exact CK (cy _ K h1).1
  | Pass p=>cases h; exact zM
  | Raise exc cause pos=>cases h; exact λpins s D σ H I #[A,ρ,S,o,S',er,so,e,hq]=>nomatch e
  | Break p=>cases h; exact wy
  | Continue p=>cases h; exact zN
  | If t a b p=>
   replace h:(match cE cz Γ t,uH (cS n Γ) a,uH (cS n Γ) b with|some t',gV a',gV b'=>gV (Sm.ite t' a' b')|_,_,_=>td)=gV s':=h
   split at h
   ·rename_i t' a' b' h1 h2 h3;cases h;exact Ey (cy _ K h1).2 (gw ih h2) (gw ih h3)
   ·cases h
  | While t b o p=>
   cases o with
   | cons _ _=>exact bc h
   | nil=>
    replace h:(match cE cz Γ t,uH (cS n Γ) b with|some t',gV b'=>gV (Sm.whl t' b')|_,_=>td)=gV s':=h
    split at h
    ·rename_i t' b' h1 h2;cases h;exact wz fuel own (cy _ K h1).2 (gw ih h2)
    ·cases h
  | For tg it b o p=>
   cases o with
   | cons _ _=>exact bc h
   | nil=>
    replace h:(match cT Γ tg,cI Γ (cE cz Γ) tg it,uH (cS n Γ) b with|some t,gV i,gV b'=>gV (Sm.loop t i b')|_,_,_=>td)=gV s':=h
    split at h
    ·rename_i t i b' h1 h2 h3;cases h;exact CP own K.calm (rG K (λz=>(cy _ K z).1) h2) (sR K h1) (gw ih h3) (nZ (n:=cz) (λel k p=>rfl) h2)
    ·cases h
  | Assign ts e p=>
   match ts,h with
   | [],h=>exact bc h
   | a::_::_,h=>cases a <;> exact bc h
   | [t],h=>
    cases t with
    | Name x px=>
     replace h:(match dw Γ x,cE cz Γ e with|some i,gV e'=>gV (Sm.set i e')|_,_=>td)=gV s':=h
     split at h
     ·rename_i i e' h1 h2;cases h;exact EG K h1 h2
     ·cases h
    | Subscript o k q=>
     replace h:(if sU k then td else match cE cz Γ o,cE cz Γ k,cE cz Γ e with|some o',gV k',gV e'=>gV (Sm.put o' k' e')|_,_,_=>td)=gV s':=h
     split at h
     ·cases h
     ·rename_i hc;split at h
      ·rename_i o' k' e' h1 h2 h3;cases h;refine rz (cy _ K h3).1 (CM (by have:=K.un; have:gY=20:=rfl; omega) (cy _ K h1).1 (cy _ K h2).1 ?_) (by cases e <;> rfl) (by cases e <;> rfl) rfl
       intro v;cases k <;> first|rfl|exact absurd rfl hc
      ·cases h
    | Tuple ts' k q=>
     have par:∀ {x y:HL} {px py:JW} {a b:PySem.Expr} {k2:Hu} {q2:JW},(match Γ.N.findIdx? (· == x),Γ.N.findIdx? (· == y),cA (cE cz Γ) [a,b]with
       | some i,gV j,gV es=>if !(i==j)&&(Γ.sc.lookup x==gV .local)&&(Γ.sc.lookup y==gV .local)&&(py.line==px.line) && !([a,b].all (foldedForSure 8)) && !([a,b].all (constantsAlone 8))then gV (Sm.par i j es)else td
       | _,_,_=>td)=gV s'->GS X (.Assign [.Tuple [.Name x px,.Name y py] k q] (.Tuple [a,b] k2 q2) p) (fR Φ fuel s'):=λ{x y px py a b k2 q2} h=>by
      split at h
      ·rename_i i j es h1 h2 h3;split at h
       ·rename_i hc;cases h;rw[Hw,Hw,Hw,Hw,Hw]at hc;obtain⟨⟨⟨⟨⟨c1,c2⟩,c3⟩,c4⟩,c5⟩,c6⟩:=hc;have hij:i≠j:=by simpa using c1
        have ns:=da h3;rw[ID,ID,Hw,Hw]at ns;have hi:X.N[i]?=gV x:=by rw[K.N]; exact dG h1
        have hj:X.N[j]?=gV y:=by rw[K.N]; exact dG h2
        refine CN K.calm hN hi hj hij (by rw[K.names]; exact eq_of_beq c2) (by rw[K.names]; exact eq_of_beq c3) (dO (λz=>(cy _ K z).1) h3) (p7 K ?_ (eq_of_beq c2) (eq_of_beq c3) c4 (by rw[<- K1]; exact c5) (by rw[<- K1]; exact c6) ns.1 ns.2.1) rfl
        rintro rfl;rw[h1]at h2;cases h2;exact hij rfl
       ·cases h
      ·cases h
     replace h:(if isTup e then CW Γ ts' e else if ja e then td else match DE Γ ts',cE cz Γ e with|some is,gV e'=>gV (Sm.asg is e')|_,_=>td)=gV s':=h
     split at h
     ·unfold CW at h;split at h
      ·exact par h
      ·cases h
     ·split at h
      ·cases h
      ·rename_i hc1 hc2;split at h
       ·rename_i is e' h1 h2;cases h;refine rz (cy _ K h2).1 (sR (tg:=.Tuple ts' k q) (t:=.tp is) K (by simp[cT,h1])) (kP (t:=gV (.Tuple ts' k q)) (l:=p.line) (env:=X.env) (by simpa using hc2) _ h2) ?_ rfl
        cases e <;> first|rfl|exact absurd rfl hc1
       ·cases h
    | _=>exact bc h
  | _=>exact bc h
end
structure Df where
 ps:Hm HL
 N:Hm HL
 body:Ss
noncomputable def fB (N:Hm HL)(ws:Hm W):Fm:=ws.map gV++HY (N.length - ws.length) td
noncomputable def au (defs:Hm (HL×Df))(fuel:Hu):Hu->HL->FF
 | 0,_,_,_=>td
 | d+1,f,ws,S=>match defs.lookup f with
  | some df=>if ws.length=df.ps.length then match fY (au defs fuel d) fuel df.body (fB df.N ws) S with
    | some (.rt w,S')=>gV (w,S')
    | some (.nx _,S')=>gV (.non,S')
    | _=>td
   else td
  | none=>td
structure Md where
 fns:Hm (HL×Hu)
 blt:Hm HL
noncomputable def Bo (M:Md)(st:J8)(N:Hm HL):Gam:={ sc:=(ag st).names,N:=N,fns:=M.fns,blt:=M.blt,dfn:=true }
noncomputable def bR (M:Md)(st:J8)(df:Df):Prop:=uH (cS 20 (Bo M st df.N)) (db st)=gV df.body
theorem mN {K:HC}{A:Hm Hx}{H:Hp}{ws:Hm W}{vs:Hm V}{N:Hm HL}(r:RelL K A H ws vs):EnvRel K A H (fB N ws) (fS N vs):=by
 refine#[by simp[fB,L2.fS,r.length],λi w h=>?_]
 unfold fB at h;unfold L2.fS
 by_cases hi:i < ws.length
 ·rw[Im (by simpa using hi),Hy]at h
  rw[Im (by rw[Hq,<- r.length]; exact hi),Hy]
  cases q:ws[i]? with
  | none=>rw[q]at h; cases h
  | some w'=>
   rw[q]at h;simp only[Ij,IB]at h;subst h;obtain⟨v,h1,h2⟩:=r.get q;exact#[v,by rw[h1]; rfl,h2]
 ·rw[Je (by simpa using hi)]at h
  have:=HR h;simp at this
section
variable{P:HZ}{w:Iw}{K:HC}{mg:HL->Ht Ho}{base:IF}
noncomputable def Bp (P:HZ)(w:Iw)(K:HC)(mg:HL->Ht Ho)(base:IF)(M:Md)(defs:Hm (HL×Df))(fuel d:Hu):Prop:=
 ∀f n,M.fns.lookup f=gV n->∃fa fd ps,FnOk P w K mg base u9 d fa fd ps (wu w K n (au defs fuel d f))/\mg f=gV (.ref fa)/\Jd K (.ref fa)=true/\Binds K fd ps []
structure MdOk (w:Iw)(K:HC)(mg:HL->Ht Ho)(M:Md):Prop where
 blt:∀y∈M.blt,mg y=td
theorem Bq {M:Md}{defs:Hm (HL×Df)}{fuel d:Hu}{x qual:HL}{st:J8}{f:Hx}{fd:JU}{df:Df}(F:Fun K x qual st f fd)(S:FnScope df.N df.ps (ag st))(hd:defs.lookup x=gV df)(hc:bR M st df)
  (hb:MdOk w K mg M) (prev:Bp P w K mg base M defs fuel d):FnOk P w K mg base u9 (d+1) f fd df.ps (wu w K df.ps.length (au defs fuel (d+1) x)):=by
 refine F.ok S (λvs H Q E h=>?_) (λcdv A outer s H vs Q E hr h=>?_)
 ·obtain⟨A,S,ws,w',S',_,rl,hl,_⟩:=h;rw[<- rl.length]; exact hl
 ·obtain⟨A',St,ws,w',S',so,rl,hl,e,hq⟩:=h;have K':CtxOk (au defs fuel d) (qY u9 P w K mg base df.N qual (ag st) f cdv A outer s H E).nox (Bo M st df.N):=by
   refine#[rfl,S.kind,rfl,S.nd,rfl,rfl,?_,λ_ _=>rfl,hb.blt,λg n hg=>?_]
   ·have:=hr.un;show(A.deeper _).units+20 < cLine;omega
   ·obtain⟨fa,fd',ps',h1,h2,h3,h4⟩:=prev g n hg;exact#[d,fa,fd',ps',h1,hr,h2,h3,h4]
  refine#[tS _ (fY (au defs fuel d) fuel df.body),gw (λz=>An fuel K' 20 z) hc,?_]
  simp only[au,hd]at e;rw[HW hl]at e;split at e
  ·rename_i w1 S1 h1;cases e;refine#[A',fB df.N ws,St,_,_,mN rl,so,h1,#[λσ' H' #[_,_,z,_]=>(by cases z),λv H' #[w2,A2,z0,z1,z2,z3]=>?_,λσ' H' #[_,_,z,_]=>(by cases z),λσ' H' #[_,_,z,_]=>(by cases z)]]
   cases z0;exact hq v H' #[A2,z1,z2,z3]
  ·rename_i ρ1 S1 h1;cases e;refine#[A',fB df.N ws,St,_,_,mN rl,so,h1,#[λσ' H' #[w2,A2,z0,z1,z2,z3]=>?_,λσ' H' #[_,_,z,_]=>(by cases z),λσ' H' #[_,_,z,_]=>(by cases z),λσ' H' #[_,_,z,_]=>(by cases z)]]
   exact hq _ H' #[A2,z1,z2,.non]
  ·cases e
theorem uI {H:Hp}{a:Hx}{ns:Hm HF}(hO:vH H)(hS:SqL K H a (ns.map V.int)):StoreOk w K [a] H [.fro (ns.map W.int)]/\RelL K [a] H [.ref 0] [.ref a]:=by
 have rl:∀ns:Hm HF,RelL K [a] H (ns.map W.int) (ns.map V.int):=by
  intro ns
  induction ns with
  | nil=>exact .nil
  | cons n ns ih=>exact .cons .int ih
 have fr:FroL K H a (ns.map V.int):=by
  rcases hS with(h|⟨o,h⟩)|h
  ·rcases hO a with z|⟨o,xs,z⟩ <;> (rw[z]at h; cases h)
  ·exact .inl #[o,h]
  ·exact .inr h
 refine#[#[rfl,λi j b o u e1 m1 e2 m2 _ _=>?_,λi o b e1 e2=>?_],.cons (.ref rfl) .nil]
 ·cases i with
  | zero=>simp at e1; subst e1; cases m1
  | succ i=>simp at e1
 ·cases i with
  | zero=>
   simp at e1 e2;subst e1 e2;exact#[_,fr,rl ns]
  | succ i=>simp at e1
theorem CY {g:FF}{H:Hp}{a:Hx}{ns:Hm HF}(h:∃S',g [.ref 0] [.fro (ns.map W.int)]=gV (.bl true,S'))(hO:vH H)(hS:SqL K H a (ns.map V.int)):wu w K 1 g [.ref a] H (λv _=>v=.bl true) λ_ _ _=>IW:=by
 obtain⟨S',e⟩:=h;obtain⟨so,rl⟩:=uI hO hS;exact#[[a],_,_,_,S',so,rl,rfl,e,λv H' #[A',z1,z2,z3]=>by cases z3; rfl]
end
noncomputable def Wp {α:Type}(o:Ht α)(Q:α->Prop):Prop:=∃a,o=gV a/\Q a
theorem ae {α:Type}{a:α}{Q:α->Prop}:Wp (gV a) Q↔Q a:=#[λ#[b,e,h]=>(by cases e; exact h),λh=>#[a,rfl,h]]
theorem af {α:Type}{Q:α->Prop}:Wp (td:Ht α) Q↔IW:=#[λ#[b,e,h]=>(by cases e),λh=>h.elim]
theorem Wp.mono {α:Type}{o:Ht α}{Q Q':α->Prop}(h:Wp o Q)(k:∀a,Q a->Q' a):Wp o Q':=let ⟨a,e,q⟩:=h; #[a,e,k a q]
theorem Gu {α β:Type}{o:Ht α}{f:α->β}{Q:β->Prop}:Wp (o.map f) Q↔Wp o λa=>Q (f a):=by cases o <;> simp[ae,af]
section
variable{Φ:HL->FF}{fuel:Hu}{ρ:Fm}{S:aa}
noncomputable abbrev QW:=W×aa->Prop
theorem Hi {w:W}{Q:QW}:Wp (aK Φ (.c w) ρ S) Q↔Q (w,S):=by simp[aK,fC,ae,af]
theorem G7 {i:Hu}{Q:QW}:Wp (aK Φ (.v i) ρ S) Q↔∃w,ρ[i]?=gV (gV w)/\Q (w,S):=by
 simp only[aK,fV];rcases h:ρ[i]? with _|_|w <;> simp[ae,af]
theorem xj {g:W->W->aa->Ht (W×aa)}{a b:FE}{Q:QW}:Wp (zy g a b ρ S) Q↔Wp (a ρ S) λp=>Wp (b ρ p.2) λq=>Wp (g p.1 q.1 q.2) Q:=by
 unfold zy;rcases h:a ρ S with _|⟨x,S1⟩
 ·simp[ae,af]
 ·rcases h2:b ρ S1 with _|⟨y,S2⟩ <;> simp[ae,af,h2]
theorem Gv {o:BOp}{a b:E}{Q:QW}:Wp (aK Φ (.op o a b) ρ S) Q↔Wp (aK Φ a ρ S) λp=>Wp (aK Φ b ρ p.2) λq=>Wp (im o p.1 q.1 q.2) Q:=by rw[aK]; exact xj
theorem Br {o:COp}{a b:E}{Q:QW}:Wp (aK Φ (.cmp o a b) ρ S) Q↔Wp (aK Φ a ρ S) λp=>Wp (aK Φ b ρ p.2) λq=>Wp (b6 o p.1 q.1 q.2) Q:=by rw[aK]; exact xj
theorem Gw {a b:E}{Q:QW}:Wp (aK Φ (.ix a b) ρ S) Q↔Wp (aK Φ a ρ S) λp=>Wp (aK Φ b ρ p.2) λq=>Wp (lK p.1 q.1 q.2) Q:=by rw[aK]; exact xj
theorem EH {a b:E}{Q:QW}:Wp (aK Φ (.and a b) ρ S) Q↔Wp (aK Φ a ρ S) λp=>∃k,p.1=.bl k/\(k=true->Wp (aK Φ b ρ p.2) Q)/\(k=false->Q (.bl false,p.2)):=by
 simp only[aK,sE];rcases h:aK Φ a ρ S with _|⟨x,S1⟩
 ·simp[ae,af]
 ·cases x <;> simp[ae,af]
  rename_i b; cases b <;> simp[ae,af]
theorem Gx {a b:E}{Q:QW}:Wp (aK Φ (.or a b) ρ S) Q↔Wp (aK Φ a ρ S) λp=>∃k,p.1=.bl k/\(k=true->Q (.bl true,p.2))/\(k=false->Wp (aK Φ b ρ p.2) Q):=by
 simp only[aK,zD];rcases h:aK Φ a ρ S with _|⟨x,S1⟩
 ·simp[ae,af]
 ·cases x <;> simp[ae,af]
  rename_i b; cases b <;> simp[ae,af]
theorem EI {a:E}{Q:QW}:Wp (aK Φ (.not a) ρ S) Q↔Wp (aK Φ a ρ S) λp=>∃k,p.1=.bl k/\Q (.bl (!k),p.2):=by
 simp only[aK,sF];rcases h:aK Φ a ρ S with _|⟨x,S1⟩
 ·simp[ae,af]
 ·cases x <;> simp[ae,af]
  rename_i k; cases k <;> simp
theorem EJ {t a b:E}{Q:QW}:Wp (aK Φ (.ite t a b) ρ S) Q↔Wp (dm Φ t ρ S) λp=>(p.1=true->Wp (aK Φ a ρ p.2) Q)/\(p.1=false->Wp (aK Φ b ρ p.2) Q):=by
 simp only[aK,zE];rcases h:dm Φ t ρ S with _|⟨x,S1⟩
 ·simp[ae,af]
 ·cases x <;> simp[ae,af]
theorem Bs {f:HL}{n:Hu}{es:Es}{Q:QW}:Wp (aK Φ (.own f n es) ρ S) Q↔Wp (dq Φ es ρ S) λp=>p.1.length=n/\Wp (Φ f p.1 p.2) Q:=by
 simp only[aK,pR];rcases h:dq Φ es ρ S with _|⟨x,S1⟩
 ·simp[ae,af]
 ·by_cases hl:x.length=n <;> simp[ae,af,hl]
theorem EK {b:Bi}{es:Es}{Q:QW}:Wp (aK Φ (.bi b es) ρ S) Q↔Wp (dq Φ es ρ S) λp=>Wp (b.fn p.1 p.2) Q:=by
 simp only[aK,jK];rcases h:dq Φ es ρ S with _|⟨x,S1⟩ <;> simp[ae,af]
theorem Gy {m:Me}{o:E}{es:Es}{Q:QW}:Wp (aK Φ (.me m o es) ρ S) Q↔Wp (aK Φ o ρ S) λp=>tyOk m.ty p.2 p.1=true/\Wp (dq Φ es ρ p.2) λq=>Wp (m.fn p.1 q.1 q.2) Q:=by
 simp only[aK,DC];rcases h:aK Φ o ρ S with _|⟨x,S1⟩
 ·simp[ae,af]
 ·by_cases ht:tyOk m.ty S1 x=true
  ·rcases h2:dq Φ es ρ S1 with _|⟨y,S2⟩ <;> simp[ae,af,ht,h2]
  ·simp[ae,af,ht]
theorem Gz {a:E}{lo hi:Ep}{Q:QW}:Wp (aK Φ (.sl a lo hi) ρ S) Q↔Wp (aK Φ a ρ S) λp=>Wp (sM Φ lo ρ p.2) λq=>Wp (sM Φ hi ρ q.2) λr=>Wp (lF p.1 q.1 r.1 r.2) Q:=by
 simp only[aK,Eu];rcases h:aK Φ a ρ S with _|⟨x,S1⟩
 ·simp[ae,af]
 ·rcases h2:sM Φ lo ρ S1 with _|⟨y,S2⟩
  ·simp[ae,af,h2]
  ·rcases h3:sM Φ hi ρ S2 with _|⟨z,S3⟩ <;> simp[ae,af,h2,h3]
theorem GB {Q:Ht HF×aa->Prop}:Wp (sM Φ .no ρ S) Q↔Q (td,S):=by simp[sM,CH,ae,af]
theorem EL {a:E}{Q:Ht HF×aa->Prop}:Wp (sM Φ (.yes a) ρ S) Q↔Wp (aK Φ a ρ S) λp=>∃i,p.1=.int i/\Q (gV i,p.2):=by
 simp only[sM,sI];rcases h:aK Φ a ρ S with _|⟨x,S1⟩
 ·simp[ae,af]
 ·cases x <;> simp[ae,af]
theorem EM {es:Es}{Q:QW}:Wp (aK Φ (.tup es) ρ S) Q↔Wp (dq Φ es ρ S) λp=>p.1.length<=sizeLine/\Q (.tup p.1,p.2):=by
 simp only[aK,wo,re];rcases h:dq Φ es ρ S with _|⟨x,S1⟩
 ·simp[ae,af]
 ·by_cases hl:x.length<=sizeLine <;> simp[ae,af,hl]
theorem EN {es:Es}{Q:QW}:Wp (aK Φ (.lst es) ρ S) Q↔Wp (dq Φ es ρ S) λp=>p.1.length<=sizeLine/\Q (.ref p.2.length,p.2++[.lst p.1]):=by
 simp only[aK,wp,lI];rcases h:dq Φ es ρ S with _|⟨x,S1⟩
 ·simp[ae,af]
 ·by_cases hl:x.length<=sizeLine <;> simp[ae,af,hl]
theorem Bt {c:IX}{a:E}{Q:QW}:Wp (aK Φ (.isi c a) ρ S) Q↔Wp (aK Φ a ρ S) λp=>∃k,CQ p.2 p.1 c=gV k/\Q (.bl k,p.2):=by
 simp only[aK,wH];rcases h:aK Φ a ρ S with _|⟨x,S1⟩
 ·simp[ae,af]
 ·cases h2:CQ S1 x c <;> simp[ae,af,h2]
  rename_i k; cases k <;> simp
theorem EO {a:E}{Q:QW}:Wp (aK Φ (.neg a) ρ S) Q↔Wp (aK Φ a ρ S) λp=>∃i,p.1=.int i/\Q (.int (-i),p.2):=by
 simp only[aK,wf];rcases h:aK Φ a ρ S with _|⟨x,S1⟩
 ·simp[ae,af]
 ·cases x <;> simp[ae,af]
theorem CZ {es:Es}{Q:QW}:Wp (aK Φ (.disp es) ρ S) Q↔Wp (dq Φ es ρ (S++[.dic []])) λp=>p.2[S.length]?=gV (.dic [])/\∃kvs,dN [] p.1=gV kvs/\Q (.ref S.length,p.2.set S.length (.dic kvs)):=by
 have e:aK Φ (.disp es) ρ S=pU (dq Φ es) ρ S:=by rw[aK]
 rw[e];unfold pU;cases dq Φ es ρ (S++[.dic []])with
 | none=>simp[af]
 | some p=>
  obtain⟨x,S1⟩:=p;simp only[ae];cases h2:S1[S.length]? with
  | none=>simp[af]
  | some o=>
   cases o with
   | lst _=>simp[af]
   | fro _=>simp[af]
   | frd _=>simp[af]
   | rng _ _=>simp[af]
   | dic kvs=>
    cases kvs with
    | nil=>cases h3:dN [] x <;> simp[ae,af]
    | cons a b=>simp[af]
theorem EQ {Q:Hm W×aa->Prop}:Wp (dq Φ .nil ρ S) Q↔Q ([],S):=by simp[dq,iz,ae,af]
theorem C0 {e:E}{es:Es}{Q:Hm W×aa->Prop}:Wp (dq Φ (.cons e es) ρ S) Q↔Wp (aK Φ e ρ S) λp=>Wp (dq Φ es ρ p.2) λq=>Q (p.1::q.1,q.2):=by
 simp only[dq,dU];rcases h:aK Φ e ρ S with _|⟨x,S1⟩
 ·simp[ae,af]
 ·rcases h2:dq Φ es ρ S1 with _|⟨y,S2⟩ <;> simp[ae,af,h2]
noncomputable abbrev QB:=HV×aa->Prop
theorem ER {f:FE}{Q:QB}:Wp (wj f ρ S) Q↔Wp (f ρ S) λp=>∃k,p.1=.bl k/\Q (k,p.2):=by
 unfold wj;rcases h:f ρ S with _|⟨x,S1⟩
 ·simp[ae,af]
 ·cases x <;> simp[ae,af]
  rename_i k; cases k <;> simp
theorem sV {f:FE}{Q:QB}:Wp (gD f ρ S) Q↔Wp (f ρ S) λp=>∃k,eX p.2 p.1=gV k/\Q (k,p.2):=by
 unfold gD;rcases h:f ρ S with _|⟨x,S1⟩
 ·simp[ae,af]
 ·cases h2:eX S1 x <;> simp[ae,af,h2]
  rename_i k; cases k <;> simp
theorem ES {o:COp}{a b:E}{Q:QB}:Wp (dm Φ (.cmp o a b) ρ S) Q↔Wp (aK Φ (.cmp o a b) ρ S) λp=>∃k,p.1=.bl k/\Q (k,p.2):=by rw[dm,aK]; exact ER
theorem ET {a b:E}{Q:QB}:Wp (dm Φ (.and a b) ρ S) Q↔Wp (dm Φ a ρ S) λp=>(p.1=true->Wp (dm Φ b ρ p.2) Q)/\(p.1=false->Q (false,p.2)):=by
 simp only[dm,wm];rcases h:dm Φ a ρ S with _|⟨x,S1⟩
 ·simp[ae,af]
 ·cases x <;> simp[ae,af]
theorem GC {a b:E}{Q:QB}:Wp (dm Φ (.or a b) ρ S) Q↔Wp (dm Φ a ρ S) λp=>(p.1=true->Q (true,p.2))/\(p.1=false->Wp (dm Φ b ρ p.2) Q):=by
 simp only[dm,Eo];rcases h:dm Φ a ρ S with _|⟨x,S1⟩
 ·simp[ae,af]
 ·cases x <;> simp[ae,af]
theorem EU {a:E}{Q:QB}:Wp (dm Φ (.not a) ρ S) Q↔Wp (dm Φ a ρ S) λp=>Q (!p.1,p.2):=by
 simp only[dm,zA];rcases h:dm Φ a ρ S with _|⟨x,S1⟩ <;> simp[ae,af]
theorem Hj {i:Hu}{Q:QB}:Wp (dm Φ (.v i) ρ S) Q↔Wp (aK Φ (.v i) ρ S) λp=>∃k,eX p.2 p.1=gV k/\Q (k,p.2):=by rw[dm,aK]; exact sV
theorem EV {f:HL}{n:Hu}{es:Es}{Q:QB}:Wp (dm Φ (.own f n es) ρ S) Q↔Wp (aK Φ (.own f n es) ρ S) λp=>∃k,eX p.2 p.1=gV k/\Q (k,p.2):=by rw[dm,aK]; exact sV
theorem GD {b:Bi}{es:Es}{Q:QB}:Wp (dm Φ (.bi b es) ρ S) Q↔Wp (aK Φ (.bi b es) ρ S) λp=>∃k,eX p.2 p.1=gV k/\Q (k,p.2):=by rw[dm,aK]; exact sV
theorem EW {c:IX}{a:E}{Q:QB}:Wp (dm Φ (.isi c a) ρ S) Q↔Wp (aK Φ (.isi c a) ρ S) λp=>∃k,eX p.2 p.1=gV k/\Q (k,p.2):=by rw[dm,aK]; exact sV
noncomputable abbrev QO:=Out×aa->Prop
theorem EX {Q:QO}:Wp (fY Φ fuel .nil ρ S) Q↔Q (.nx ρ,S):=by simp[fY,ae,af]
theorem C3 {s:Sm}{ss:Ss}{Q:QO}:Wp (fY Φ fuel (.cons s ss) ρ S) Q↔Wp (fR Φ fuel s ρ S) λp=>(∀ρ',p.1=.nx ρ'->Wp (fY Φ fuel ss ρ' p.2) Q)/\((∀ρ',p.1≠.nx ρ')->Q p):=by
 simp only[fY,zK];rcases h:fR Φ fuel s ρ S with _|⟨o,S1⟩
 ·simp[ae,af]
 ·cases o <;> simp[ae,af]
theorem xk {f:FE}{g:FG}{Q:QO}:Wp (kI f g ρ S) Q↔Wp (f ρ S) λp=>Wp (g p.1 ρ p.2) λq=>Q (.nx q.1,q.2):=by
 unfold kI;rcases h:f ρ S with _|⟨x,S1⟩
 ·simp[ae,af]
 ·rcases h2:g x ρ S1 with _|⟨y,S2⟩ <;> simp[ae,af,h2]
theorem C4 {i:Hu}{e:E}{Q:QO}:Wp (fR Φ fuel (.set i e) ρ S) Q↔Wp (aK Φ e ρ S) λp=>Q (.nx (ρ.set i (gV p.1)),p.2):=by
 rw[fR,xk]; simp[zR,ae,af]
theorem C5 {is:Hm Hu}{e:E}{Q:QO}:Wp (fR Φ fuel (.asg is e) ρ S) Q↔Wp (aK Φ e ρ S) λp=>∃ws ρ',p.1=.tup ws/\dv is ws ρ=gV ρ'/\Q (.nx ρ',p.2):=by
 rw[fR,xk];constructor
 ·refine λh=>h.mono λp hp=>?_
  obtain⟨w,S1⟩:=p;obtain⟨q,h1,h2⟩:=hp;cases w with
  | tup ws=>
   simp only[DD,Hs]at h1;obtain⟨ρ',h3,rfl⟩:=h1;exact#[ws,ρ',rfl,h3,h2]
  | _=>cases h1
 ·refine λh=>h.mono λp hp=>?_
  obtain⟨w,S1⟩:=p;obtain⟨ws,ρ',h0,h1,h2⟩:=hp;subst h0;exact#[(ρ',S1),by simp[DD,h1],h2]
theorem C6 {i j:Hu}{es:Es}{Q:QO}:Wp (fR Φ fuel (.par i j es) ρ S) Q↔Wp (dq Φ es ρ S) λp=>∃x y,p.1=[x,y]/\Q (.nx ((ρ.set i (gV x)).set j (gV y)),p.2):=by
 simp only[fR,zT];rcases h:dq Φ es ρ S with _|⟨x,S1⟩
 ·simp[af]
 ·match x with
  | []=>simp[ae,af]
  | [_]=>simp[ae,af]
  | [a,b]=>
   simp only[ae];exact#[λh=>#[a,b,rfl,h],λ#[x,y,e,h]=>by cases e; exact h]
  | _::_::_::_=>simp[ae,af]
theorem C7 {o k e:E}{Q:QO}:Wp (fR Φ fuel (.put o k e) ρ S) Q↔Wp (aK Φ e ρ S) λp=>Wp (aK Φ o ρ p.2) λq=>Wp (aK Φ k ρ q.2) λr=>∃S',iu q.1 r.1 p.1 r.2=gV S'/\Q (.nx ρ,S'):=by
 rw[fR,xk];rcases h:aK Φ e ρ S with _|⟨x,S1⟩
 ·simp[ae,af]
 ·simp only[ae];unfold zS;rcases h2:aK Φ o ρ S1 with _|⟨y,S2⟩
  ·simp[ae,af]
  ·rcases h3:aK Φ k ρ S2 with _|⟨z,S3⟩
   ·simp[ae,af,h3]
   ·cases h4:iu y z x S3 <;> simp[ae,af,h3,h4]
theorem EY {e:E}{Q:QO}:Wp (fR Φ fuel (.ex e) ρ S) Q↔Wp (aK Φ e ρ S) λp=>Q (.nx ρ,p.2):=by
 simp only[fR,zL];rcases h:aK Φ e ρ S with _|⟨x,S1⟩ <;> simp[ae,af]
theorem C8 {e:E}{Q:QO}:Wp (fR Φ fuel (.ret e) ρ S) Q↔Wp (aK Φ e ρ S) λp=>Q (.rt p.1,p.2):=by
 simp only[fR,zO];rcases h:aK Φ e ρ S with _|⟨x,S1⟩ <;> simp[ae,af]
theorem C9 {t:E}{a b:Ss}{Q:QO}:Wp (fR Φ fuel (.ite t a b) ρ S) Q↔Wp (dm Φ t ρ S) λp=>(p.1=true->Wp (fY Φ fuel a ρ p.2) Q)/\(p.1=false->Wp (fY Φ fuel b ρ p.2) Q):=by
 simp only[fR,zQ];rcases h:dm Φ t ρ S with _|⟨x,S1⟩
 ·simp[ae,af]
 ·cases x <;> simp[ae,af]
end
section
variable{Φ:HL->FF}{fuel:Hu}{ρ:Fm}{S:aa}
noncomputable def xl (I:Fm->aa->Prop)(Q:QO)(o:Out×aa):Prop:=match o.1 with
 | .nx ρ'=>I ρ' o.2
 | .ct ρ'=>I ρ' o.2
 | .bk ρ'=>Q (.nx ρ',o.2)
 | .rt w=>Q (.rt w,o.2)
theorem jb {mi:MI}{g:FG}{b:FS}{xs:Hm W}{Q:QO}(I:Hu->Fm->aa->Prop)(hat:∀i ρ S,I i ρ S->mi.at S i=gV xs[i]?)
  (hstep:∀i w ρ S,xs[i]?=gV w->I i ρ S->Wp (g w ρ S) λq=>Wp (b q.1 q.2) (xl (I (i+1)) Q)) (hend:∀ρ S,I xs.length ρ S->Q (.nx ρ,S)):∀(n i:Hu) (ρ:Fm) (S:aa),i+n=xs.length->I i ρ S->Wp (fW mi g b n i ρ S) Q
 | 0,i,ρ,S,hl,hI=>by
  have e:mi.at S i=gV td:=by rw[hat i ρ S hI,Mp ∅]
  simp only[fW,e];have hi:i=xs.length:=∅
  exact ae.mpr (hend ρ S (hi ▸ hI))
 | n+1,i,ρ,S,hl,hI=>by
  have hi:i < xs.length:=∅
  have e:mi.at S i=gV (gV xs[i]):=by rw[hat i ρ S hI,HK hi]
  obtain⟨⟨ρ1,S1⟩,h1,⟨o,S2⟩,h2,h3⟩:=hstep i xs[i] ρ S (HK hi) hI;simp only[fW,e,h1,h2];cases o with
  | nx ρ2=>exact jb I hat hstep hend n (i+1) ρ2 S2 ∅ h3
  | ct ρ2=>exact jb I hat hstep hend n (i+1) ρ2 S2 ∅ h3
  | bk ρ2=>exact ae.mpr h3
  | rt w=>exact ae.mpr h3
theorem EZ {fi:FI}{g:FG}{b:FS}{Q:QO}:Wp (wD fi g b ρ S) Q↔Wp (fi ρ S) λp=>∃n,p.1.len p.2=gV n/\Wp (fW p.1 g b n 0 ρ p.2) Q:=by
 unfold wD;rcases h:fi ρ S with _|⟨mi,S1⟩
 ·simp[af]
 ·cases h2:mi.len S1 <;> simp[ae,af,h2]
theorem dY {mi:MI}{g:FG}{c:FT}{f:FE}{xs:Hm W}{Q:Hm W×aa->Prop}(I:Hu->Hm W->Fm->aa->Prop)(hat:∀i ys ρ S,I i ys ρ S->mi.at S i=gV xs[i]?)
  (hstep:∀i w ys ρ S,xs[i]?=gV w->I i ys ρ S->Wp (g w ρ S) λq=>Wp (c q.1 q.2) λk=>(k.1=true->Wp (f q.1 k.2) λy=>I (i+1) (ys++[y.1]) q.1 y.2)/\(k.1=false->I (i+1) ys q.1 k.2))
  (hend:∀ys ρ S,I xs.length ys ρ S->Q (ys,S)):∀(n i:Hu) (ys:Hm W) (ρ:Fm) (S:aa),i+n=xs.length->I i ys ρ S->Wp (cj mi g c f n i ρ S) λp=>Q (ys++p.1,p.2)
 | 0,i,ys,ρ,S,hl,hI=>by
  have e:mi.at S i=gV td:=by rw[hat i ys ρ S hI,Mp ∅]
  simp only[cj,e];refine ae.mpr ?_;have:i=xs.length:=∅
  simpa using hend ys ρ S (this ▸ hI)
 | n+1,i,ys,ρ,S,hl,hI=>by
  have hi:i < xs.length:=∅
  have e:mi.at S i=gV (gV xs[i]):=by rw[hat i ys ρ S hI,HK hi]
  obtain⟨⟨ρ1,S1⟩,h1,⟨k,S2⟩,h2,h3,h4⟩:=hstep i xs[i] ys ρ S (HK hi) hI;simp only[cj,e,h1,h2];cases k with
  | true=>
   obtain⟨⟨y,S3⟩,h5,h6⟩:=h3 rfl;simp only[h5];obtain⟨⟨zs,S4⟩,h7,h8⟩:=dY I hat hstep hend n (i+1) (ys++[y]) ρ1 S3 ∅ h6
   simp only[h7];exact ae.mpr (by simpa using h8)
  | false=>exact dY I hat hstep hend n (i+1) ys ρ1 S2 ∅ (h4 rfl)
theorem xm {elt:E}{tg:Tg}{it:Ie}{cs:Es}{cap:Hm (Ht Hu)}{Q:QW}:Wp (aK Φ (.comp elt tg it cs cap) ρ S) Q↔Wp (j8 Φ it ρ S) λp=>∃n,p.1.len p.2=gV n/\Wp (cj p.1 (fX tg) (Ai Φ cs) (aK Φ elt) n 0 (fN cap ρ) p.2) λq=>q.1.length<=sizeLine/\Q (.ref q.2.length,q.2++[.lst q.1]):=by
 simp only[aK,kJ,lI];rcases h:j8 Φ it ρ S with _|⟨mi,S1⟩
 ·simp[af]
 ·rcases h2:mi.len S1 with _|n
  ·simp[ae,af,h2]
  ·rcases h3:cj mi (fX tg) (Ai Φ cs) (aK Φ elt) n 0 (fN cap ρ) S1 with _|⟨ys,S2⟩
   ·simp[ae,af,h2,h3]
   ·by_cases hl:ys.length<=sizeLine <;> simp[ae,af,h2,h3,hl]
theorem E1 {Q:QB}:Wp (Ai Φ .nil ρ S) Q↔Q (true,S):=by simp[Ai,Bm,ae]
theorem E2 {e:E}{Q:QB}:Wp (Ai Φ #v[e] ρ S) Q↔Wp (dm Φ e ρ S) Q:=by rw[Ai]
theorem GF {i:Hu}{w:W}{Q:Fm×aa->Prop}:Wp (fX (.nm i) w ρ S) Q↔Q (ρ.set i (gV w),S):=by simp[fX,zR,ae]
theorem kQ {c:FT}{b:FS}{Q:QO}(I:Hu->Fm->aa->Prop)(hstep:∀m ρ S,I m ρ S->Wp (c ρ S) λk=>(k.1=true->∃m',m=m'+1/\Wp (b ρ k.2) (xl (I m') Q))/\(k.1=false->Q (.nx ρ,k.2))) :
  ∀(n m:Hu) (ρ:Fm) (S:aa),m < n->I m ρ S->Wp (nX c b n ρ S) Q
 | 0,m,ρ,S,h,_=>∅
 | n+1,m,ρ,S,h,hI=>by
  obtain⟨⟨k,S1⟩,h1,h2,h3⟩:=hstep m ρ S hI;simp only[nX,h1];cases k with
  | false=>exact ae.mpr (h3 rfl)
  | true=>
   obtain⟨m',rfl,⟨o,S2⟩,h5,h6⟩:=h2 rfl;simp only[h5];cases o with
   | nx ρ2=>exact kQ I hstep n m' ρ2 S2 ∅ h6
   | ct ρ2=>exact kQ I hstep n m' ρ2 S2 ∅ h6
   | bk ρ2=>exact ae.mpr h6
   | rt w=>exact ae.mpr h6
theorem uJ {defs:Hm (HL×Df)}{d:Hu}{f:HL}{ws:Hm W}{df:Df}{Q:QW}(h:defs.lookup f=gV df)(hl:ws.length=df.ps.length)
  (hb:Wp (fY (au defs fuel d) fuel df.body (fB df.N ws) S) λp=>match p.1 with|.rt w=>Q (w,p.2)|.nx _=>Q (.non,p.2)|_=>IW):Wp (au defs fuel (d+1) f ws S) Q:=by
 obtain⟨⟨o,S1⟩,h1,h2⟩:=hb;simp only[au,h,HW hl,h1];cases o with
 | rt w=>exact ae.mpr h2
 | nx ρ=>exact ae.mpr h2
 | bk _=>exact h2.elim
 | ct _=>exact h2.elim
end
section
variable{S:aa}{Q:QW}
theorem dW {a b:HF}:im .add (.int a) (.int b) S=gV (.int (a+b),S):=rfl
theorem mO {a b:HF}:im .sub (.int a) (.int b) S=gV (.int (a - b),S):=rfl
theorem og {c:HF->HF->HV}{f:HF->HF->HF}{i j:HF}(h:c i j=true):yp c f (.int i) (.int j) S=gV (.int (f i j),S):=by
 unfold yp;dsimp only;rw[HW h]
theorem sW {a b:HF}(h : -(2 ^ 64) < b)(h2:b < 2 ^ 64):im .mul (.int a) (.int b) S=gV (.int (a*b),S):=og (c:=ub) (f:=(· * ·)) (by
 unfold ub;simp only[JK,Hw,Ii];exact .inr #[h,h2])
theorem kR {a b:HF}(h:0 < b):im .mod (.int a) (.int b) S=gV (.int (a % b),S):=og (c:=λ_ j=>decide (0 < j)) (f:=(· % ·)) (Jg h)
theorem oh {a b:HF}(h:0 < b)(h2:b < 1073741824):im .fdiv (.int a) (.int b) S=gV (.int (a / b),S):=og (c:=λ_ j=>yW j) (f:=(· / ·)) (by
 unfold yW;simp only[Hw,Ii];exact#[h,h2])
theorem Da:im .pow (.int 10) (.int 18) S=gV (.int 1000000000000000000,S):=rfl
theorem eT {xs ys:Hm W}(h:(xs++ys).length<=sizeLine):im .add (.tup xs) (.tup ys) S=gV (.tup (xs++ys),S):=by simp only[im,vM,re]; rw[HW h]
theorem rJ {i j:Hu}{xs ys:Hm W}(h1:S[i]?=gV (.lst xs))(h2:S[j]?=gV (.lst ys))(h:(xs++ys).length<=sizeLine):im .add (.ref i) (.ref j) S=gV (.ref S.length,S++[.lst (xs++ys)]):=by
 simp only[im,vM,o8,h1,h2,lI]; rw[HW h]
theorem kS {a b:HF}:b6 .eq (.int a) (.int b) S=gV (.bl (a==b),S):=rfl
theorem Db {a b:HF}:b6 .ne (.int a) (.int b) S=gV (.bl (!(a==b)),S):=rfl
theorem xn {a b:HF}:b6 .lt (.int a) (.int b) S=gV (.bl (decide (a < b)),S):=rfl
theorem Ao {a b:HF}:b6 .gt (.int a) (.int b) S=gV (.bl (decide (a > b)),S):=rfl
theorem GH {a b:HF}:b6 .ge (.int a) (.int b) S=gV (.bl (decide (a>=b)),S):=rfl
theorem aL {r:Hu}{xs:Hm W}(h:S[r]?=gV (.lst xs)):gX S r=gV xs:=by simp[gX,h]
theorem Ap {r:Hu}{xs:Hm W}(h:S[r]?=gV (.fro xs)):gX S r=gV xs:=by simp[gX,h]
theorem cU {r:Hu}{xs:Hm W}(h:S[r]?=gV (.lst xs)):o8 S r=gV xs:=by simp[o8,h]
theorem iB {r:Hu}{xs:Hm W}(h:S[r]?=gV (.lst xs)):jS S r=td:=by simp[jS,h]
theorem cK {r:Hu}{kvs:Hm (T×W)}(h:S[r]?=gV (.dic kvs)):jS S r=gV kvs:=by simp[jS,h]
theorem ol {r:Hu}{kvs:Hm (T×W)}(h:S[r]?=gV (.dic kvs)):gX S r=td:=by simp[gX,h]
theorem Aq {r:Hu}{kvs:Hm (T×W)}(h:S[r]?=gV (.frd kvs)):jS S r=gV kvs:=by simp[jS,h]
theorem atI_nat {α:Type}{xs:Hm α}{j:Hu}{w:α}(h:xs[j]?=gV w):pf xs (j:HF)=gV w:=by
 have hl:=(HI.mp h).1;unfold pf se;rw[HW (HB j),HW (by exact_mod_cast hl)]
 simpa using h
theorem om {α:Type}{xs:Hm α}{i:HF}{w:α}(h0:0<=i)(h:xs[i.toNat]?=gV w):pf xs i=gV w:=by
 have:=atI_nat h
 rwa [MJ h0]at this
theorem xo {r:Hu}{xs:Hm W}{i:HF}{w:W}(h:S[r]?=gV (.lst xs))(h0:0<=i)(hw:xs[i.toNat]?=gV w):lK (.ref r) (.int i) S=gV (w,S):=by
 show uc (.ref r) (.int i) S=_;simp[uc,aL h,om h0 hw]
theorem E3 {xs:Hm W}{i:HF}{w:W}(h0:0<=i)(hw:xs[i.toNat]?=gV w):lK (.tup xs) (.int i) S=gV (w,S):=by
 show uc (.tup xs) (.int i) S=_;simp[uc,om h0 hw]
theorem E4 {x:HL}{i:HF}{c:Hu}(hz:x.length<=sizeLine)(h0:0<=i)(hw:x.cps.toList[i.toNat]?=gV c):lK (.str x) (.int i) S=gV (.str #[[c].toArray],S):=by
 show uc (.str x) (.int i) S=_;simp[uc,hz,om h0 hw]
theorem Bu {r:Hu}{xs:Hm W}{i:HF}{w:W}(h:S[r]?=gV (.lst xs))(h0:0<=i)(hi:i.toNat < xs.length):iu (.ref r) (.int i) w S=gV (S.set r (.lst (xs.set i.toNat w))):=by
 show ud (.ref r) (.int i) w S=_;have:se xs.length i=gV i.toNat:=by
  unfold se;rw[HW h0,HW ∅]
 simp[ud,cU h,this]
theorem Bv {r:Hu}{xs:Hm W}(h:S[r]?=gV (.lst xs)):rq [.ref r] S=gV (.int xs.length,S):=by
 simp[rq,iB h,rg,aL h]
theorem sX {r:Hu}{xs:Hm W}{y:W}(h:S[r]?=gV (.lst xs))(hl:xs.length < sizeLine):io (.ref r) [y] S=gV (.non,S.set r (.lst (xs++[y]))):=by
 simp[io,cU h,hl]
theorem E5 {r:Hu}{xs:Hm W}(h:S[r]?=gV (.lst xs)):kH [.ref r] S=gV (.tup xs,S):=by
 simp[kH,uh,h,kz,aL h]
theorem dP {r:Hu}{xs:Hm W}(h:S[r]?=gV (.lst xs)):tyOk "list" S (.ref r)=true:=by simp[tyOk,aL h]
theorem b7 {r:Hu}{o o':O}(h:S[r]?=gV o):(S.set r o')[r]?=gV o':=by
 rw[JA,HW rfl,HW (HI.mp h).1]
theorem bV {r j:Hu}{o':O}(h:r≠j):(S.set r o')[j]?=S[j]?:=by rw[JA,Ix h]
theorem ak {o:O}:(S++[o])[S.length]?=gV o:=by simp
theorem aq {j:Hu}{o u:O}(h:S[j]?=gV o):(S++[u])[j]?=gV o:=by rw[Im (HI.mp h).1]; exact h
theorem cF {j:Hu}{o:O}(h:S[j]?=gV o):j < S.length:=(HI.mp h).1
structure Kp (r:Hu)(S S':aa):Prop where
 get:∀j o,j≠r->S[j]?=gV o->S'[j]?=gV o
 len:S.length<=S'.length
theorem Kp.refl {r:Hu}{S:aa}:Kp r S S:=#[λ_ _ _ h=>h,HG _]
theorem Kp.trans {r:Hu}{S S' S'':aa}(a:Kp r S S')(b:Kp r S' S''):Kp r S S'':=#[λj o n h=>b.get j o n (a.get j o n h),IE a.len b.len]
theorem Kp.set {r:Hu}{S:aa}{o:O}:Kp r S (S.set r o):=#[λj u n h=>by rw[bV (Ne.symm n)]; exact h,by simp]
theorem Kp.push {r:Hu}{S:aa}{o:O}:Kp r S (S++[o]):=#[λj u n h=>aq h,by simp]
theorem Kp.late {r t:Hu}{S0 S:aa}{o:O}(a:Kp r S0 S)(h:S0.length<=t):Kp r S0 (S.set t o):=
 #[λj u n e=>by
  have:=cF e;rw[bV ∅]; exact a.get j u n e,by simpa using a.len]
end
noncomputable def wO {α:Type}(o:Ht α)(Q:α->Prop):Prop:=match o with
 | some a=>Q a
 | none=>IW
theorem cQ {α:Type}{o:Ht α}{Q:α->Prop}(h:wO o Q):Wp o Q:=by
 cases o with
 | none=>exact h.elim
 | some a=>exact#[a,rfl,h]
theorem E6 {α:Type}{o:Ht α}{Q:α->Prop}(h:Wp o Q):wO o Q:=by
 obtain⟨a,rfl,q⟩:=h;exact q
theorem ac {α:Type}{o:Ht α}{a:α}{Q:α->Prop}(e:o=gV a)(h:Q a):wO o Q:=by subst e; exact h
noncomputable def wB:W->(HV->Prop)->Prop
 | .bl k,Q=>Q k
 | _,_=>IW
noncomputable def wN:W->(HF->Prop)->Prop
 | .int k,Q=>Q k
 | _,_=>IW
noncomputable def wU:W->(Hm W->Prop)->Prop
 | .tup k,Q=>Q k
 | _,_=>IW
theorem sY {w:W}{Q:HV->Prop}(h:wB w Q):∃k,w=.bl k/\Q k:=by cases w <;> first|exact h.elim|exact#[_,rfl,h]
theorem Bw {w:W}{Q:HF->Prop}(h:wN w Q):∃k,w=.int k/\Q k:=by cases w <;> first|exact h.elim|exact#[_,rfl,h]
theorem E7 {w:W}{Q:Hm W->Prop}(h:wU w Q):∃k,w=.tup k/\Q k:=by cases w <;> first|exact h.elim|exact#[_,rfl,h]
noncomputable def w2:Hm W->(W->W->Prop)->Prop
 | [x,y],Q=>Q x y
 | _,_=>IW
theorem E8 {xs:Hm W}{Q:W->W->Prop}(h:w2 xs Q):∃x y,xs=[x,y]/\Q x y:=by
 match xs,h with
 | [x,y],h=>exact#[x,y,rfl,h]
noncomputable def wG:Ht W->(W->Prop)->Prop
 | some w,Q=>Q w
 | none,_=>IW
noncomputable def wV:Fm->Hu->(W->Prop)->Prop
 | [],_,_=>IW
 | o::_,0,Q=>wG o Q
 | _::ρ,n+1,Q=>wV ρ n Q
theorem xp {Q:W->Prop}:∀ {ρ:Fm} {i:Hu},wV ρ i Q->∃w,ρ[i]?=gV (gV w)/\Q w
 | [],i,h=>h.elim
 | some w::ρ,0,h=>#[w,rfl,h]
 | none::ρ,0,h=>h.elim
 | x::ρ,n+1,h=>by
  obtain⟨w,e2,q⟩:=xp (ρ:=ρ) (i:=n) h;exact#[w,e2,q]
noncomputable def br (Φ:HL->FF)(f:HL)(n:Hu)(ws:Hm W)(S:aa):Ht (W×aa):=if ws.length=n then Φ f ws S else td
section
variable (Φ:HL->FF) (fuel:Hu)
mutual
noncomputable def wE:E->Fm->aa->QW->Prop
 | .c w,_,S,Q=>Q (w,S)
 | .v i,ρ,S,Q=>wV ρ i λw=>Q (w,S)
 | .op o a b,ρ,S,Q=>wE a ρ S λp=>wE b ρ p.2 λq=>wO (im o p.1 q.1 q.2) Q
 | .cmp o a b,ρ,S,Q=>wE a ρ S λp=>wE b ρ p.2 λq=>wO (b6 o p.1 q.1 q.2) Q
 | .and a b,ρ,S,Q=>wE a ρ S λp=>wB p.1 λk=>(k=true->wE b ρ p.2 Q)/\(k=false->Q (.bl false,p.2))
 | .or a b,ρ,S,Q=>wE a ρ S λp=>wB p.1 λk=>(k=true->Q (.bl true,p.2))/\(k=false->wE b ρ p.2 Q)
 | .not a,ρ,S,Q=>wE a ρ S λp=>wB p.1 λk=>Q (.bl (!k),p.2)
 | .own f n es,ρ,S,Q=>wA es ρ S λp=>wO (br Φ f n p.1 p.2) Q
 | .bi b es,ρ,S,Q=>wA es ρ S λp=>wO (b.fn p.1 p.2) Q
 | .me m o es,ρ,S,Q=>wE o ρ S λp=>tyOk m.ty p.2 p.1=true/\wA es ρ p.2 λq=>wO (m.fn p.1 q.1 q.2) Q
 | .ix a b,ρ,S,Q=>wE a ρ S λp=>wE b ρ p.2 λq=>wO (lK p.1 q.1 q.2) Q
 | .sl a lo hi,ρ,S,Q=>wE a ρ S λp=>wP lo ρ p.2 λq=>wP hi ρ q.2 λr=>wO (lF p.1 q.1 r.1 r.2) Q
 | .tup es,ρ,S,Q=>wA es ρ S λp=>Q (.tup p.1,p.2)
 | .lst es,ρ,S,Q=>wA es ρ S λp=>Q (.ref p.2.length,p.2++[.lst p.1])
 | .isi c a,ρ,S,Q=>wE a ρ S λp=>wO (CQ p.2 p.1 c) λk=>Q (.bl k,p.2)
 | .neg a,ρ,S,Q=>wE a ρ S λp=>wN p.1 λi=>Q (.int (-i),p.2)
 | .dnew,_,S,Q=>Q (.ref S.length,S++[.dic []])
 | .disp es,ρ,S,Q=>wA es ρ (S++[.dic []]) λp=>p.2[S.length]?=gV (.dic [])/\wO (dN [] p.1) λkvs=>Q (.ref S.length,p.2.set S.length (.dic kvs))
 | .ite t a b,ρ,S,Q=>wT t ρ S λp=>(p.1=true->wE a ρ p.2 Q)/\(p.1=false->wE b ρ p.2 Q)
 | .comp elt tg it cs cap,ρ,S,Q=>Wp (aK Φ (.comp elt tg it cs cap) ρ S) Q
noncomputable def wT:E->Fm->aa->QB->Prop
 | .cmp o a b,ρ,S,Q=>wE a ρ S λp=>wE b ρ p.2 λq=>wO (b6 o p.1 q.1 q.2) λr=>wB r.1 λk=>Q (k,r.2)
 | .and a b,ρ,S,Q=>wT a ρ S λp=>(p.1=true->wT b ρ p.2 Q)/\(p.1=false->Q (false,p.2))
 | .or a b,ρ,S,Q=>wT a ρ S λp=>(p.1=true->Q (true,p.2))/\(p.1=false->wT b ρ p.2 Q)
 | .not a,ρ,S,Q=>wT a ρ S λp=>Q (!p.1,p.2)
 | .isi c a,ρ,S,Q=>wE a ρ S λp=>wO (CQ p.2 p.1 c) λk=>Q (k,p.2)
 | .c w,ρ,S,Q=>Wp (dm Φ (.c w) ρ S) Q
 | .v i,ρ,S,Q=>wV ρ i λw=>wO (eX S w) λk=>Q (k,S)
 | .op o a b,ρ,S,Q=>Wp (dm Φ (.op o a b) ρ S) Q
 | .own f n es,ρ,S,Q=>wA es ρ S λp=>wO (br Φ f n p.1 p.2) λq=>wO (eX q.2 q.1) λk=>Q (k,q.2)
 | .bi b es,ρ,S,Q=>wA es ρ S λp=>wO (b.fn p.1 p.2) λq=>wO (eX q.2 q.1) λk=>Q (k,q.2)
 | .me m o es,ρ,S,Q=>Wp (dm Φ (.me m o es) ρ S) Q
 | .ix a b,ρ,S,Q=>Wp (dm Φ (.ix a b) ρ S) Q
 | .sl a lo hi,ρ,S,Q=>Wp (dm Φ (.sl a lo hi) ρ S) Q
 | .tup es,ρ,S,Q=>Wp (dm Φ (.tup es) ρ S) Q
 | .lst es,ρ,S,Q=>Wp (dm Φ (.lst es) ρ S) Q
 | .neg a,ρ,S,Q=>Wp (dm Φ (.neg a) ρ S) Q
 | .dnew,ρ,S,Q=>Wp (dm Φ .dnew ρ S) Q
 | .disp es,ρ,S,Q=>Wp (dm Φ (.disp es) ρ S) Q
 | .ite t a b,ρ,S,Q=>Wp (dm Φ (.ite t a b) ρ S) Q
 | .comp elt tg it cs cap,ρ,S,Q=>Wp (dm Φ (.comp elt tg it cs cap) ρ S) Q
noncomputable def wA:Es->Fm->aa->(Hm W×aa->Prop)->Prop
 | .nil,_,S,Q=>Q ([],S)
 | .cons e es,ρ,S,Q=>wE e ρ S λp=>wA es ρ p.2 λq=>Q (p.1::q.1,q.2)
noncomputable def wP:Ep->Fm->aa->(Ht HF×aa->Prop)->Prop
 | .no,_,S,Q=>Q (td,S)
 | .yes a,ρ,S,Q=>wE a ρ S λp=>wN p.1 λi=>Q (gV i,p.2)
end
noncomputable def p8 (K:Fm->aa->Prop)(Q:QO)(p:Out×aa):Prop:=match p.1 with
 | .nx ρ=>K ρ p.2
 | o=>Q (o,p.2)
mutual
noncomputable def wS:Sm->Fm->aa->(Fm->aa->Prop)->QO->Prop
 | .set i e,ρ,S,K,_=>wE Φ e ρ S λp=>K (ρ.set i (gV p.1)) p.2
 | .asg is e,ρ,S,K,_=>wE Φ e ρ S λp=>wU p.1 λws=>wO (dv is ws ρ) λρ'=>K ρ' p.2
 | .par i j es,ρ,S,K,_=>wA Φ es ρ S λp=>w2 p.1 λx y=>K ((ρ.set i (gV x)).set j (gV y)) p.2
 | .put o k e,ρ,S,K,_=>wE Φ e ρ S λp=>wE Φ o ρ p.2 λq=>wE Φ k ρ q.2 λr=>wO (iu q.1 r.1 p.1 r.2) λS'=>K ρ S'
 | .ex e,ρ,S,K,_=>wE Φ e ρ S λp=>K ρ p.2
 | .ret e,ρ,S,_,Q=>wE Φ e ρ S λp=>Q (.rt p.1,p.2)
 | .retN,_,S,_,Q=>Q (.rt .non,S)
 | .pass,ρ,S,K,_=>K ρ S
 | .brk,ρ,S,_,Q=>Q (.bk ρ,S)
 | .cont,ρ,S,_,Q=>Q (.ct ρ,S)
 | .bad,_,_,_,_=>IW
 | .ite t a b,ρ,S,K,Q=>wT Φ t ρ S λp=>∀Q':QO,(∀ρ' S',K ρ' S'->Q' (.nx ρ',S'))->(∀o S',(∀ρ',o≠.nx ρ')->Q (o,S')->Q' (o,S'))->(p.1=true->yr a ρ p.2 Q')/\(p.1=false->yr b ρ p.2 Q')
 | .whl t b,ρ,S,K,Q=>Wp (fR Φ fuel (.whl t b) ρ S) (p8 K Q)
 | .loop tg it b,ρ,S,K,Q=>Wp (fR Φ fuel (.loop tg it b) ρ S) (p8 K Q)
noncomputable def yr:Ss->Fm->aa->QO->Prop
 | .nil,ρ,S,Q=>Q (.nx ρ,S)
 | .cons s ss,ρ,S,Q=>wS s ρ S (λρ' S'=>yr ss ρ' S' Q) Q
end
end
noncomputable def FC:Es->Hu
 | .nil=>0
 | .cons _ es=>FC es+1
mutual
noncomputable def eA:E->HV
 | .c _|.v _|.comp _ _ _ _ _|.dnew=>true
 | .op _ a b|.cmp _ a b|.and a b|.or a b|.ix a b=>eA a&&eA b
 | .ite a b c=>eA a&&eA b&&eA c
 | .neg a|.not a|.isi _ a=>eA a
 | .own _ n es=>FC es==n&&p9 es
 | .bi _ es|.disp es=>p9 es
 | .me _ o es=>eA o&&p9 es
 | .sl a lo hi=>eA a&&GJ lo&&GJ hi
 | .tup es|.lst es=>decide (FC es<=1000)&&p9 es
noncomputable def p9:Es->HV
 | .nil=>true
 | .cons e es=>eA e&&p9 es
noncomputable def GJ:Ep->HV
 | .no=>true
 | .yes e=>eA e
end
mutual
noncomputable def G8:Sm->HV
 | .set _ e|.asg _ e|.ex e|.ret e=>eA e
 | .put o k e=>eA o&&eA k&&eA e
 | .par _ _ es=>p9 es
 | .ite t a b=>eA t&&ga a&&ga b
 | _=>true
noncomputable def ga:Ss->HV
 | .nil=>true
 | .cons s ss=>G8 s&&ga ss
end
section
variable{Φ:HL->FF}{fuel:Hu}
theorem iC:∀ {es:Es} {ρ:Fm} {S S':aa} {ws:Hm W},dq Φ es ρ S=gV (ws,S')->ws.length=FC es
 | .nil,ρ,S,S',ws,h=>by rw[dq]at h; cases h; rfl
 | .cons e es,ρ,S,S',ws,h=>by
  rw[dq]at h;unfold dU at h;split at h
  ·split at h
   ·rename_i h2; cases h; rw[IN,iC h2]; rfl
   ·cases h
  ·cases h
theorem xq {n:Hu}(h:decide (n<=1000)=true):n<=sizeLine:=IE (IV h) (by rw[IH]; decide)
theorem dt {a b:HV}(h:(a&&b)=true):a=true:=by cases a <;> first|rfl|cases h
theorem eB {a b:HV}(h:(a&&b)=true):b=true:=by cases a <;> first|exact h|cases h
mutual
theorem bG:∀(e:E) {ρ:Fm} {S:aa} {Q:QW},eA e=true->wE Φ e ρ S Q->Wp (aK Φ e ρ S) Q
 | .c w,ρ,S,Q,k,h=>Hi.mpr h
 | .v i,ρ,S,Q,k,h=>G7.mpr (xp h)
 | .op o a b,ρ,S,Q,k,h=>Gv.mpr ((bG a (dt k) h).mono λp hp=>(bG b (eB k) hp).mono λq hq=>cQ hq)
 | .cmp o a b,ρ,S,Q,k,h=>Br.mpr ((bG a (dt k) h).mono λp hp=>(bG b (eB k) hp).mono λq hq=>cQ hq)
 | .and a b,ρ,S,Q,k,h=>EH.mpr ((bG a (dt k) h).mono λp hp=>let ⟨c,e,h1,h2⟩:=sY hp; #[c,e,λz=>bG b (eB k) (h1 z),h2])
 | .or a b,ρ,S,Q,k,h=>Gx.mpr ((bG a (dt k) h).mono λp hp=>let ⟨c,e,h1,h2⟩:=sY hp; #[c,e,h1,λz=>bG b (eB k) (h2 z)])
 | .not a,ρ,S,Q,k,h=>EI.mpr ((bG a k h).mono λp hp=>sY hp)
 | .own f n es,ρ,S,Q,k,h=>Bs.mpr (by
   obtain⟨⟨ws,S1⟩,e,hq⟩:=gQ es (eB k) h;have hl:ws.length=n:=(iC e).trans (eq_of_beq (dt k));simp only[br,HW hl]at hq;exact#[_,e,hl,cQ hq])
 | .bi b es,ρ,S,Q,k,h=>EK.mpr ((gQ es k h).mono λp hp=>cQ hp)
 | .me m o es,ρ,S,Q,k,h=>Gy.mpr ((bG o (dt k) h).mono λp hp=>#[hp.1,(gQ es (eB k) hp.2).mono λq hq=>cQ hq])
 | .ix a b,ρ,S,Q,k,h=>Gw.mpr ((bG a (dt k) h).mono λp hp=>(bG b (eB k) hp).mono λq hq=>cQ hq)
 | .sl a lo hi,ρ,S,Q,k,h=>Gz.mpr ((bG a (dt (dt k)) h).mono λp hp=>(Bx lo (eB (dt k)) hp).mono λq hq=>(Bx hi (eB k) hq).mono λr hr=>cQ hr)
 | .tup es,ρ,S,Q,k,h=>EM.mpr (by
   obtain⟨⟨ws,S1⟩,e,hq⟩:=gQ es (eB k) h;exact#[_,e,by rw[iC e]; exact xq (dt k),hq])
 | .lst es,ρ,S,Q,k,h=>EN.mpr (by
   obtain⟨⟨ws,S1⟩,e,hq⟩:=gQ es (eB k) h;exact#[_,e,by rw[iC e]; exact xq (dt k),hq])
 | .isi c a,ρ,S,Q,k,h=>Bt.mpr ((bG a k h).mono λp hp=>cQ hp)
 | .neg a,ρ,S,Q,k,h=>EO.mpr ((bG a k h).mono λp hp=>Bw hp)
 | .dnew,ρ,S,Q,k,h=>#[_,rfl,h]
 | .disp es,ρ,S,Q,k,h=>CZ.mpr ((gQ es k h).mono λp hp=>#[hp.1,let ⟨kvs,e,q⟩:=cQ hp.2; #[kvs,e,q]])
 | .ite t a b,ρ,S,Q,k,h=>EJ.mpr ((iD t (dt (dt k)) h).mono λp hp=>#[λz=>bG a (eB (dt k)) (hp.1 z),λz=>bG b (eB k) (hp.2 z)])
 | .comp elt tg it cs cap,ρ,S,Q,k,h=>h
theorem gQ:∀(es:Es) {ρ:Fm} {S:aa} {Q:Hm W×aa->Prop},p9 es=true->wA Φ es ρ S Q->Wp (dq Φ es ρ S) Q
 | .nil,ρ,S,Q,k,h=>EQ.mpr h
 | .cons e es,ρ,S,Q,k,h=>C0.mpr ((bG e (dt k) h).mono λp hp=>gQ es (eB k) hp)
theorem Bx:∀(e:Ep) {ρ:Fm} {S:aa} {Q:Ht HF×aa->Prop},GJ e=true->wP Φ e ρ S Q->Wp (sM Φ e ρ S) Q
 | .no,ρ,S,Q,k,h=>GB.mpr h
 | .yes a,ρ,S,Q,k,h=>EL.mpr ((bG a k h).mono λp hp=>Bw hp)
theorem iD:∀(e:E) {ρ:Fm} {S:aa} {Q:QB},eA e=true->wT Φ e ρ S Q->Wp (dm Φ e ρ S) Q
 | .cmp o a b,ρ,S,Q,k,h=>ES.mpr (Br.mpr ((bG a (dt k) h).mono λp hp=>(bG b (eB k) hp).mono λq hq=>(cQ hq).mono λr hr=>sY hr))
 | .and a b,ρ,S,Q,k,h=>ET.mpr ((iD a (dt k) h).mono λp hp=>#[λz=>iD b (eB k) (hp.1 z),hp.2])
 | .or a b,ρ,S,Q,k,h=>GC.mpr ((iD a (dt k) h).mono λp hp=>#[hp.1,λz=>iD b (eB k) (hp.2 z)])
 | .not a,ρ,S,Q,k,h=>EU.mpr (iD a k h)
 | .isi c a,ρ,S,Q,k,h=>EW.mpr (Bt.mpr ((bG a k h).mono λp hp=>let ⟨b,e,q⟩:=cQ hp; #[b,e,b,rfl,q]))
 | .v i,ρ,S,Q,k,h=>Hj.mpr (G7.mpr (let ⟨w,e,q⟩:=xp h; #[w,e,cQ q]))
 | .own f n es,ρ,S,Q,k,h=>EV.mpr (Bs.mpr (by
   obtain⟨⟨ws,S1⟩,e,hq⟩:=gQ es (eB k) h;have hl:ws.length=n:=(iC e).trans (eq_of_beq (dt k));simp only[br,HW hl]at hq;exact#[_,e,hl,(cQ hq).mono λq hq=>cQ hq]))
 | .c w,ρ,S,Q,k,h=>h
 | .op o a b,ρ,S,Q,k,h=>h
 | .bi b es,ρ,S,Q,k,h=>GD.mpr (EK.mpr ((gQ es k h).mono λp hp=>(cQ hp).mono λq hq=>cQ hq))
 | .me m o es,ρ,S,Q,k,h=>h
 | .ix a b,ρ,S,Q,k,h=>h
 | .sl a lo hi,ρ,S,Q,k,h=>h
 | .tup es,ρ,S,Q,k,h=>h
 | .lst es,ρ,S,Q,k,h=>h
 | .neg a,ρ,S,Q,k,h=>h
 | .dnew,ρ,S,Q,k,h=>h
 | .disp es,ρ,S,Q,k,h=>h
 | .ite t a b,ρ,S,Q,k,h=>h
 | .comp elt tg it cs cap,ρ,S,Q,k,h=>h
end
mutual
theorem E9:∀(s:Sm) {ρ:Fm} {S:aa} {K:Fm->aa->Prop} {Q:QO},G8 s=true->wS Φ fuel s ρ S K Q->Wp (fR Φ fuel s ρ S) (p8 K Q)
 | .set i e,ρ,S,K,Q,k,h=>C4.mpr (bG e k h)
 | .asg is e,ρ,S,K,Q,k,h=>C5.mpr ((bG e k h).mono λp hp=>let ⟨ws,e1,h1⟩:=E7 hp; let ⟨ρ',e2,h2⟩:=cQ h1; #[ws,ρ',e1,e2,h2])
 | .par i j es,ρ,S,K,Q,k,h=>C6.mpr ((gQ es k h).mono λp hp=>E8 hp)
 | .put o i e,ρ,S,K,Q,k,h=>C7.mpr ((bG e (eB k) h).mono λp hp=>(bG o (dt (dt k)) hp).mono λq hq=>(bG i (eB (dt k)) hq).mono λr hr=>cQ hr)
 | .ex e,ρ,S,K,Q,k,h=>EY.mpr (bG e k h)
 | .ret e,ρ,S,K,Q,k,h=>C8.mpr (bG e k h)
 | .retN,ρ,S,K,Q,k,h=>#[_,rfl,h]
 | .pass,ρ,S,K,Q,k,h=>#[_,rfl,h]
 | .brk,ρ,S,K,Q,k,h=>#[_,rfl,h]
 | .cont,ρ,S,K,Q,k,h=>#[_,rfl,h]
 | .bad,ρ,S,K,Q,k,h=>h.elim
 | .ite t a b,ρ,S,K,Q,k,h=>C9.mpr ((iD t (dt (dt k)) h).mono λp hp=>by
   obtain⟨h1,h2⟩:=hp (p8 K Q) (λρ' S' z=>z) (λo S' hn z=>by cases o <;> first|exact z|exact absurd rfl (hn _))
   exact#[λz=>jc a (eB (dt k)) (h1 z),λz=>jc b (eB k) (h2 z)])
 | .whl t b,ρ,S,K,Q,k,h=>h
 | .loop tg it b,ρ,S,K,Q,k,h=>h
theorem jc:∀(ss:Ss) {ρ:Fm} {S:aa} {Q:QO},ga ss=true->yr Φ fuel ss ρ S Q->Wp (fY Φ fuel ss ρ S) Q
 | .nil,ρ,S,Q,k,h=>EX.mpr h
 | .cons s ss,ρ,S,Q,k,h=>C3.mpr ((E9 s (dt k) h).mono λp hp=>by
   obtain⟨o,S1⟩:=p;cases o with
   | nx ρ'=>exact#[λρ2 e=>by cases e; exact jc ss (eB k) hp,λz=>absurd rfl (z ρ')]
   | _=>exact#[λρ2 e=>(by cases e),λ_=>hp])
end
structure wZ (Φ:HL->FF)(fuel:Hu)(ss:Ss)(ρ:Fm)(S:aa)(Q:QO):Prop where
 out:yr Φ fuel ss ρ S Q
theorem Fa {ss:Ss}{ρ:Fm}{S:aa}{Q:QO}:yr Φ fuel ss ρ S Q=wZ Φ fuel ss ρ S Q:=propext #[λh=>#[h],λh=>h.out]
theorem Dc {defs:Hm (HL×Df)}{d:Hu}{f:HL}{n:Hu}{ws:Hm W}{df:Df}{S:aa}{Q:QW}(h:defs.lookup f=gV df)(hn:ws.length=n)(hl:ws.length=df.ps.length)(ok:ga df.body=true)
  (hb:∀Q':QO,(∀w S',Q (w,S')->Q' (.rt w,S'))->wZ (au defs fuel d) fuel df.body (fB df.N ws) S Q'):wO (br (au defs fuel (d+1)) f n ws S) Q:=by
 unfold br;rw[HW hn];exact E6 (uJ h hl ((jc _ ok (hb (λp=>match p.1 with|.rt w=>Q (w,p.2)|_=>IW) λw S' q=>q).out).mono λp hp=>by
  obtain⟨o,S1⟩:=p;cases o <;> first|exact hp|exact hp.elim))
end
section
variable{Φ:HL->FF}{fuel:Hu}{ρ:Fm}{S:aa}{K:Fm->aa->Prop}{Q:QO}
noncomputable def uK (Φ:HL->FF)(fuel:Hu)(b:Ss)(ρ:Fm)(S:aa)(I:Fm->aa->Prop)(Q:QO):Prop:=∀Q':QO,(∀ρ' S',I ρ' S'->Q' (.nx ρ',S'))->(∀w S',Q (.rt w,S')->Q' (.rt w,S'))->wZ Φ fuel b ρ S Q'
theorem gb {tg:Tg}{it:Ie}{b:Ss}{mi:MI}{S1:aa}{xs:Hm W}(I:Hu->Fm->aa->Prop)(ok:ga b=true)(hi:j8 Φ it ρ S=gV (mi,S1))(hat:∀i ρ S,I i ρ S->mi.at S i=gV xs[i]?)(hl:mi.len S1=gV xs.length)(h0:I 0 ρ S1)
  (hstep:∀(i:Hu) (w:W) (ρ:Fm) (S:aa),xs[i]?=gV w->I i ρ S->wO (fX tg w ρ S) λq=>uK Φ fuel b q.1 q.2 (I (i+1)) Q) (hend:∀ρ S,I xs.length ρ S->K ρ S):Wp (fR Φ fuel (.loop tg it b) ρ S) (p8 K Q):=by
 rw[fR,EZ];refine#[_,hi,xs.length,hl,?_];refine jb (Q:=p8 K Q) I hat (λi w ρ S h1 h2=>?_) (λρ S h=>hend ρ S h) _ 0 ρ S1 ∅ h0
 exact(cQ (hstep i w ρ S h1 h2)).mono λq hq=>jc b ok (wZ.out (hq _ (λ_ _ h=>h) λ_ _ h=>h))
theorem cG {e:E}{Q:QW}(ok:eA e=true)(h:wE Φ e ρ S Q):∃w S',aK Φ e ρ S=gV (w,S')/\Q (w,S'):=let ⟨⟨w,S'⟩,a,b⟩:=bG e ok h; #[w,S',a,b]
theorem cV {i0:Hu}{e:E}{b:Ss}(j:HF)(I:Hu->Fm->aa->Prop)(oe:eA e=true)(ok:ga b=true)(hj : -(2 ^ 62)<=j/\j < 2 ^ 62)(he:wE Φ e ρ S λp=>p.1=.int j/\I 0 ρ p.2)
  (hstep:∀(i:Hu) (ρ:Fm) (S:aa),(i:HF) < j->I i ρ S->uK Φ fuel b (ρ.set i0 (gV (.int i))) S (I (i+1)) Q) (hend:∀ρ S,I j.toNat ρ S->K ρ S):Wp (fR Φ fuel (.loop (.nm i0) (.rng #v[e]) b) ρ S) (p8 K Q):=by
 obtain⟨w,S1,e1,rfl,h0⟩:=cG oe he;have hl:(dk 0 j.toNat).length=j.toNat:=by simp[dk]
 refine gb (mi:=.its (dk 0 j.toNat)) (S1:=S1) (xs:=dk 0 j.toNat) I ok ?_ (λ_ _ _ _=>rfl) rfl h0 (λi w ρ S hw hI=>?_) λρ S hI=>hend ρ S (hl ▸ hI)
 ·simp only[j8,dq,dU,iz,rA,e1];rw[HW hj]
 ·rw[eu]at hw;split at hw
  ·rename_i hk;cases hw;rw[K4];exact hstep i ρ S ∅ hI
  ·cases hw
theorem for_tup {tg:Tg}{e:E}{b:Ss}(xs:Hm W)(I:Hu->Fm->aa->Prop)(oe:eA e=true)(ok:ga b=true)(he:wE Φ e ρ S λp=>p.1=.tup xs/\I 0 ρ p.2)
  (hstep:∀(i:Hu) (w:W) (ρ:Fm) (S:aa),xs[i]?=gV w->I i ρ S->wO (fX tg w ρ S) λq=>uK Φ fuel b q.1 q.2 (I (i+1)) Q) (hend:∀ρ S,I xs.length ρ S->K ρ S):Wp (fR Φ fuel (.loop tg (.seq e) b) ρ S) (p8 K Q):=by
 obtain⟨w,S1,e1,rfl,h0⟩:=cG oe he;exact gb (mi:=.its xs) (S1:=S1) I ok (by simp only[j8,fM,e1]) (λ_ _ _ _=>rfl) rfl h0 hstep hend
theorem sZ {tg:Tg}{e:E}{b:Ss}(t:Hu)(xs:Hm W)(I:Hu->Fm->aa->Prop)(oe:eA e=true)(ok:ga b=true)(he:wE Φ e ρ S λp=>p.1=.ref t/\I 0 ρ p.2)(hat:∀i ρ S,I i ρ S->S[t]?=gV (.lst xs))
  (hstep:∀(i:Hu) (w:W) (ρ:Fm) (S:aa),xs[i]?=gV w->I i ρ S->wO (fX tg w ρ S) λq=>uK Φ fuel b q.1 q.2 (I (i+1)) Q) (hend:∀ρ S,I xs.length ρ S->K ρ S):Wp (fR Φ fuel (.loop tg (.seq e) b) ρ S) (p8 K Q):=by
 obtain⟨w,S1,e1,rfl,h0⟩:=cG oe he;exact gb (mi:=.live t) (S1:=S1) I ok (by simp only[j8,fM,e1,aL (hat _ _ _ h0)]) (λi ρ S h=>by simp only[MI.at,aL (hat _ _ _ h)]) (by simp only[MI.len,aL (hat _ _ _ h0),Ij]) h0 hstep hend
theorem By {t:E}{b:Ss}(I:Hu->Fm->aa->Prop)(m:Hu)(ot:eA t=true)(ok:ga b=true)(hm:m < fuel)(h0:I m ρ S)
  (hstep:∀m ρ S,I m ρ S->wT Φ t ρ S λk=>(k.1=true->∃m',m=m'+1/\uK Φ fuel b ρ k.2 (I m') Q)/\(k.1=false->K ρ k.2)):Wp (fR Φ fuel (.whl t b) ρ S) (p8 K Q):=by
 rw[fR];refine kQ (Q:=p8 K Q) I (λm ρ S hI=>(iD t ot (hstep m ρ S hI)).mono λk hk=>#[λz=>?_,λz=>hk.2 z]) fuel m ρ S hm h0
 obtain⟨m',e,h⟩:=hk.1 z;exact#[m',e,jc b ok (wZ.out (h _ (λ_ _ h=>h) λ_ _ h=>h))]
noncomputable def wC (Φ:HL->FF):Es->Fm->aa->QB->Prop
 | .nil,_,S,Q=>Q (true,S)
 | .cons e .nil,ρ,S,Q=>wT Φ e ρ S Q
 | .cons _ (.cons _ _),_,_,_=>IW
theorem Bz {cs:Es}{Q:QB}(ok:p9 cs=true)(h:wC Φ cs ρ S Q):Wp (Ai Φ cs ρ S) Q:=by
 match cs,h,ok with
 | .nil,h,_=>exact E1.mpr h
 | .cons e .nil,h,ok=>exact E2.mpr (iD e (dt ok) h)
noncomputable def iV (Φ:HL->FF)(elt:E)(cs:Es)(ρ:Fm)(S:aa)(G:W->Fm->aa->Prop)(N:Fm->aa->Prop):Prop:=wC Φ cs ρ S λk=>(k.1=true->wE Φ elt ρ k.2 λy=>G y.1 ρ y.2)/\(k.1=false->N ρ k.2)
theorem kU {elt:E}{tg:Tg}{it:Ie}{cs:Es}{cap:Hm (Ht Hu)}{mi:MI}{S1:aa}{xs:Hm W}{Q:QW}(I:Hu->Hm W->Fm->aa->Prop)(oe:eA elt=true)(oc:p9 cs=true)(hi:j8 Φ it ρ S=gV (mi,S1))(hat:∀i ys ρ S,I i ys ρ S->mi.at S i=gV xs[i]?)(hl:mi.len S1=gV xs.length)(h0:I 0 [] (fN cap ρ) S1)
  (hstep:∀(i:Hu) (w:W) (ys:Hm W) (ρ:Fm) (S:aa),xs[i]?=gV w->I i ys ρ S->wO (fX tg w ρ S) λq=>iV Φ elt cs q.1 q.2 (λy=>I (i+1) (ys++[y])) (I (i+1) ys))
  (hend:∀ys ρ S,I xs.length ys ρ S->ys.length<=sizeLine/\Q (.ref S.length,S++[.lst ys])):Wp (aK Φ (.comp elt tg it cs cap) ρ S) Q:=by
 rw[xm];refine#[_,hi,xs.length,hl,?_];refine(dY (xs:=xs) (Q:=λq=>q.1.length<=sizeLine/\Q (.ref q.2.length,q.2++[.lst q.1])) I hat (λi w ys ρ S h1 h2=>?_) hend xs.length 0 [] _ S1 ∅ h0).mono λq hq=>by simpa using hq
 exact(cQ (hstep i w ys ρ S h1 h2)).mono λq hq=>(Bz oc hq).mono λk hk=>#[λz=>bG elt oe (hk.1 z),hk.2]
theorem eL {elt e:E}{i0:Hu}{cs:Es}{cap:Hm (Ht Hu)}{Q:QW}(j:HF)(I:Hu->Hm W->Fm->aa->Prop)(oi:eA e=true)(oe:eA elt=true)(oc:p9 cs=true)(hj : -(2 ^ 62)<=j/\j < 2 ^ 62)(he:wE Φ e ρ S λp=>p.1=.int j/\I 0 [] (fN cap ρ) p.2)
  (hstep:∀(i:Hu) (ys:Hm W) (ρ:Fm) (S:aa),(i:HF) < j->I i ys ρ S->iV Φ elt cs (ρ.set i0 (gV (.int i))) S (λy=>I (i+1) (ys++[y])) (I (i+1) ys))
  (hend:∀ys ρ S,I j.toNat ys ρ S->ys.length<=sizeLine/\Q (.ref S.length,S++[.lst ys])):Wp (aK Φ (.comp elt (.nm i0) (.rng #v[e]) cs cap) ρ S) Q:=by
 obtain⟨w,S1,e1,rfl,h0⟩:=cG oi he;have hl:(dk 0 j.toNat).length=j.toNat:=by simp[dk]
 refine kU (mi:=.its (dk 0 j.toNat)) (S1:=S1) (xs:=dk 0 j.toNat) I oe oc ?_ (λ_ _ _ _ _=>rfl) rfl h0 (λi w ys ρ S hw hI=>?_) λys ρ S hI=>hend ys ρ S (hl ▸ hI)
 ·simp only[j8,dq,dU,iz,rA,e1];rw[HW hj]
 ·rw[eu]at hw;split at hw
  ·rename_i hk;cases hw;rw[K4];exact hstep i ys ρ S ∅ hI
  ·cases hw
theorem tf {elt e:E}{tg:Tg}{cs:Es}{cap:Hm (Ht Hu)}{Q:QW}(xs:Hm W)(I:Hu->Hm W->Fm->aa->Prop)(oi:eA e=true)(oe:eA elt=true)(oc:p9 cs=true)(he:wE Φ e ρ S λp=>p.1=.tup xs/\I 0 [] (fN cap ρ) p.2)
  (hstep:∀(i:Hu) (w:W) (ys:Hm W) (ρ:Fm) (S:aa),xs[i]?=gV w->I i ys ρ S->wO (fX tg w ρ S) λq=>iV Φ elt cs q.1 q.2 (λy=>I (i+1) (ys++[y])) (I (i+1) ys))
  (hend:∀ys ρ S,I xs.length ys ρ S->ys.length<=sizeLine/\Q (.ref S.length,S++[.lst ys])):Wp (aK Φ (.comp elt tg (.seq e) cs cap) ρ S) Q:=by
 obtain⟨w,S1,e1,rfl,h0⟩:=cG oi he;exact kU (mi:=.its xs) (S1:=S1) I oe oc (by simp only[j8,fM,e1]) (λ_ _ _ _ _=>rfl) rfl h0 hstep hend
theorem tj {elt e:E}{tg:Tg}{cs:Es}{cap:Hm (Ht Hu)}{Q:QW}(t:Hu)(xs:Hm W)(I:Hu->Hm W->Fm->aa->Prop)(oi:eA e=true)(oe:eA elt=true)(oc:p9 cs=true)(he:wE Φ e ρ S λp=>p.1=.ref t/\I 0 [] (fN cap ρ) p.2)(hat:∀i ys ρ S,I i ys ρ S->S[t]?=gV (.lst xs))
  (hstep:∀(i:Hu) (w:W) (ys:Hm W) (ρ:Fm) (S:aa),xs[i]?=gV w->I i ys ρ S->wO (fX tg w ρ S) λq=>iV Φ elt cs q.1 q.2 (λy=>I (i+1) (ys++[y])) (I (i+1) ys))
  (hend:∀ys ρ S,I xs.length ys ρ S->ys.length<=sizeLine/\Q (.ref S.length,S++[.lst ys])):Wp (aK Φ (.comp elt tg (.seq e) cs cap) ρ S) Q:=by
 obtain⟨w,S1,e1,rfl,h0⟩:=cG oi he;exact kU (mi:=.live t) (S1:=S1) I oe oc (by simp only[j8,fM,e1,aL (hat _ _ _ _ h0)]) (λi ys ρ S h=>by simp only[MI.at,aL (hat _ _ _ _ h)]) (by simp only[MI.len,aL (hat _ _ _ _ h0),Ij]) h0 hstep hend
theorem Ar {elt a:E}{tg:Tg}{cs:Es}{cap:Hm (Ht Hu)}{Q:QW}(xs:Hm W)(I:Hu->Hm W->Fm->aa->Prop)(oa:eA a=true)(oe:eA elt=true)(oc:p9 cs=true)(he:wE Φ a ρ S λp=>FB p.1=gV xs/\I 0 [] (fN cap ρ) p.2)
  (hstep:∀(i:Hu) (x:W) (ys:Hm W) (ρ:Fm) (S:aa),xs[i]?=gV x->I i ys ρ S->wO (fX tg (.tup [.int i,x]) ρ S) λq=>iV Φ elt cs q.1 q.2 (λy=>I (i+1) (ys++[y])) (I (i+1) ys))
  (hend:∀ys ρ S,I xs.length ys ρ S->ys.length<=sizeLine/\Q (.ref S.length,S++[.lst ys])):Wp (aK Φ (.comp elt tg (.enu #v[a]) cs cap) ρ S) Q:=by
 obtain⟨x,S1,e1,h1,h0⟩:=cG oa he;have hl:(i7 xs).length=xs.length:=by simp[i7]
 refine kU (mi:=.its (i7 xs)) (S1:=S1) (xs:=i7 xs) I oe oc (by simp only[j8,dq,dU,iz,wM,e1,h1]) (λ_ _ _ _ _=>rfl) rfl h0 (λi w ys ρ S hw hI=>?_) λys ρ S hI=>hend ys ρ S (hl ▸ hI)
 obtain⟨y,hy,rfl⟩:=kK hw;exact hstep i y ys ρ S hy hI
theorem st {s:Sm}{ss:Ss}(h:wS Φ fuel s ρ S (λρ' S'=>wZ Φ fuel ss ρ' S' Q) Q):wZ Φ fuel (.cons s ss) ρ S Q:=#[by
 rw[yr];simp only[Fa];exact h]
theorem bZ (h:Q (.nx ρ,S)):wZ Φ fuel .nil ρ S Q:=#[by rw[yr]; exact h]
theorem ar {t:HV}{a b:Ss}{Q Q0:QO}{K:Fm->aa->Prop}(ha:t=true->∀Q':QO,(∀ρ' S',K ρ' S'->Q' (.nx ρ',S'))->(∀w S',Q (.rt w,S')->Q' (.rt w,S'))->wZ Φ fuel a ρ S Q')(hb:t=false->∀Q':QO,(∀ρ' S',K ρ' S'->Q' (.nx ρ',S'))->(∀w S',Q (.rt w,S')->Q' (.rt w,S'))->wZ Φ fuel b ρ S Q') :
  ∀Q':QO,(∀ρ' S',K ρ' S'->Q' (.nx ρ',S'))->(∀o S',(∀ρ',o≠.nx ρ')->Q (o,S')->Q' (o,S'))->(t=true->yr Φ fuel a ρ S Q')/\(t=false->yr Φ fuel b ρ S Q'):=
 λQ' h1 h2=>#[λe=>(ha e Q' h1 λw S'=>h2 (.rt w) S' (λ_ z=>nomatch z)).out,λe=>(hb e Q' h1 λw S'=>h2 (.rt w) S' (λ_ z=>nomatch z)).out]
end
noncomputable def eC:Ss:=
 #v[.ret (.lst #v[.bi .list #v[.v 0],.c (.int 0),.c (.int 0),.c (.int 1),.c (.int 0)])]
noncomputable def c8:Ss:=
 #v[.ite (.and (.cmp .eq (.ix (.v 0) (.c (.int 2))) (.c (.int 0))) (.cmp .lt (.ix (.v 0) (.c (.int 1))) (.bi .len #v[.ix (.v 0) (.c (.int 0))]))) #v[.set 2 (.ix (.ix (.v 0) (.c (.int 0))) (.ix (.v 0) (.c (.int 1)))),.put (.v 0) (.c (.int 1)) (.op .add (.ix (.v 0) (.c (.int 1))) (.c (.int 1))),.ite (.cmp .ge (.v 2) (.op .pow (.c (.int 10)) (.c (.int 18)))) #v[.put (.v 0) (.c (.int 2)) (.v 2)] #v[.put (.v 0) (.c (.int 3)) (.op .mod (.op .add (.op .add (.op .mul (.ix (.v 0) (.c (.int 3))) (.c (.int 40013))) (.op .mod (.v 2) (.c (.int 1000003)))) (.c (.int 1))) (.c (.int 2147483647)))]] .nil,.ite (.cmp .gt (.ix (.v 0) (.c (.int 2))) (.c (.int 0))) #v[.set 3 (.op .mod (.ix (.v 0) (.c (.int 2))) (.v 1)),.put (.v 0) (.c (.int 2)) (.op .fdiv (.ix (.v 0) (.c (.int 2))) (.v 1)),.ret (.v 3)] .nil,.put (.v 0) (.c (.int 4)) (.op .add (.ix (.v 0) (.c (.int 4))) (.c (.int 1))),.put (.v 0) (.c (.int 3)) (.op .mod (.op .add (.op .add (.op .mul (.ix (.v 0) (.c (.int 3))) (.c (.int 48271))) (.c (.int 12820163))) (.ix (.v 0) (.c (.int 4)))) (.c (.int 2147483647))),.ret (.op .mod (.op .fdiv (.op .mod (.op .mul (.op .add (.op .mod (.ix (.v 0) (.c (.int 3))) (.c (.int 65521))) (.c (.int 1))) (.op .add (.op .fdiv (.ix (.v 0) (.c (.int 3))) (.c (.int 65521))) (.c (.int 7919)))) (.c (.int 1000003))) (.c (.int 7))) (.v 1))]
noncomputable def dE:Ss:=
 #v[.ite (.cmp .lt (.v 3) (.v 2)) #v[.ret (.ix (.ix (.ix (.v 1) (.v 2)) (.c (.int 1))) (.v 3))] .nil,.ret (.ix (.ix (.ix (.v 0) (.c (.int 1))) (.ix (.ix (.ix (.v 1) (.v 3)) (.c (.int 1))) (.v 2))) (.c (.int 1)))]
noncomputable def dy:Ss:=
 #v[.set 3 (.lst .nil),.loop (.nm 4) (.rng #v[.bi .len #v[.v 2]]) #v[.set 5 (.ix (.v 2) (.v 4)),.ex (.me .append (.v 3) #v[.tup #v[.ix (.ix (.v 1) (.v 5)) (.c (.int 0)),.bi .tuple #v[.comp (.own "_law_between" 4 #v[.v 3,.v 4,.v 2,.v 1]) (.nm 1) (.seq (.sl (.v 2) .no (.yes (.v 4)))) .nil [td,td,gV 5,gV 0,gV 1]]]])],.ret (.bi .tuple #v[.v 3])]
noncomputable def gc:Ss:=
 #v[.ret (.lst #v[.tup #v[.c (.int 0),.c (.int 1),.c (.int 2)],.tup #v[.c (.int 0),.c (.int 2),.c (.int 1)],.tup #v[.c (.int 1),.c (.int 0),.c (.int 2)],.tup #v[.c (.int 1),.c (.int 2),.c (.int 0)],.tup #v[.c (.int 2),.c (.int 0),.c (.int 1)],.tup #v[.c (.int 2),.c (.int 1),.c (.int 0)]])]
noncomputable def dZ:Ss:=
 #v[.ret (.bi .min #v[.comp (.own "_law_part" 3 #v[.v 2,.v 3,.v 1]) (.nm 1) (.seq (.own "_law_turns" 0 .nil)) .nil [td,td,gV 0,gV 1]])]
noncomputable def eM:Ss:=
 #v[.set 2 (.ix (.lst #v[.lst #v[.tup #v[.c (.int 0)]],.lst #v[.tup #v[.c (.int 0),.c (.int 1)],.tup #v[.c (.int 1),.c (.int 0)]],.lst #v[.tup #v[.c (.int 0),.c (.int 1),.c (.int 2)],.tup #v[.c (.int 1),.c (.int 0),.c (.int 2)],.tup #v[.c (.int 0),.c (.int 2),.c (.int 1)]]]) (.op .sub (.v 1) (.c (.int 1)))),.ret (.ix (.v 2) (.own "_law_pick" 2 #v[.v 0,.bi .len #v[.v 2]]))]
noncomputable def dF:Ss:=
 #v[.set 4 (.own "_law_names" 2 #v[.v 0,.op .add (.v 1) (.bi .len #v[.v 2])]),.set 5 (.bi .tuple #v[.comp (.tup #v[.ix (.v 4) (.op .add (.v 3) (.v 1)),.ix (.v 2) (.v 1)]) (.nm 1) (.rng #v[.bi .len #v[.v 2]]) .nil [td,td,gV 2,gV 1,gV 4]]),.ret (.tup #v[.sl (.v 4) .no (.yes (.v 1)),.v 5,.bi .tuple #v[.bi .sorted #v[.v 3]]])]
noncomputable def cL:Ss:=
 #v[.set 3 (.lst .nil),.loop (.nm 4) (.rng #v[.c (.int 3)]) #v[.ex (.me .append (.v 3) #v[.tup #v[.own "_law_pick" 2 #v[.v 0,.v 1],.bi .tuple #v[.comp (.own "_law_pick" 2 #v[.v 2,.v 3]) (.nm 1) (.rng #v[.v 4]) .nil [td,td,gV 0,gV 2]]]])],.ret (.bi .tuple #v[.v 3])]
noncomputable def eN:Ss:=
 #v[.set 1 (.lst #v[.tup #v[.c (.int 1),.c (.int 1)],.tup #v[.c (.int 2),.c (.int 1)],.tup #v[.c (.int 3),.c (.int 1)],.tup #v[.c (.int 1),.c (.int 2)],.tup #v[.c (.int 1),.c (.int 2)],.tup #v[.c (.int 2),.c (.int 2)],.tup #v[.c (.int 2),.c (.int 2)],.tup #v[.c (.int 3),.c (.int 2)],.tup #v[.c (.int 1),.c (.int 3)],.tup #v[.c (.int 1),.c (.int 3)],.tup #v[.c (.int 2),.c (.int 3)]]),.ret (.ix (.v 1) (.own "_law_pick" 2 #v[.v 0,.c (.int 11)]))]
noncomputable def de:Ss:=
 #v[.asg [1,2] (.own "_law_sizes" 1 #v[.v 0]),.set 3 (.own "_law_rule_of" 4 #v[.v 0,.v 1,.own "_law_backs" 2 #v[.v 0,.v 2],.tup .nil]),.set 4 .dnew,.loop (.nm 5) (.rng #v[.own "_law_pick" 2 #v[.v 0,.c (.int 9)]]) #v[.put (.v 4) (.own "_law_figure" 2 #v[.v 3,.own "_law_free_three" 3 #v[.v 0,.v 1,.v 2]]) (.c (.bl true))],.ret (.tup #v[.ix (.v 3) (.c (.int 0)),.ix (.v 3) (.c (.int 1)),.bi .tuple #v[.bi .sorted #v[.v 4]]])]
noncomputable def cC:Ss:=
 #v[.set 1 (.lst #v[.tup #v[.tup #v[.c (.int 1),.c (.int 0)],.disp #v[.tup #v[.c (.int 0),.c (.int 0)],.lst #v[.c (.int 0)]],.c (.int 3)],.tup #v[.tup #v[.c (.int 0),.c (.int 2),.c (.int 1)],.disp #v[.tup #v[.c (.int 1),.c (.int 1)],.lst #v[.c (.int 1)]],.c (.int 2)],.tup #v[.tup #v[.c (.int 0),.c (.int 1)],.disp #v[.tup #v[.c (.int 1),.c (.int 1)],.lst #v[.c (.int 1)]],.c (.int 3)]]),.ex (.me .append (.v 1) #v[.tup #v[.tup #v[.c (.int 0),.c (.int 1)],.disp #v[.tup #v[.c (.int 1),.c (.int 1)],.lst #v[.c (.int 1)],.tup #v[.c (.int 0),.c (.int 0)],.lst #v[.c (.int 1)]],.c (.int 3)]]),.ex (.me .append (.v 1) #v[.tup #v[.tup #v[.c (.int 0),.c (.int 1)],.disp #v[.tup #v[.c (.int 1),.c (.int 1)],.lst .nil],.c (.int 1)]]),.ex (.me .append (.v 1) #v[.tup #v[.tup #v[.c (.int 0),.c (.int 2),.c (.int 1)],.disp #v[.tup #v[.c (.int 0),.c (.int 0)],.lst #v[.c (.int 0)],.tup #v[.c (.int 0),.c (.int 1)],.lst #v[.c (.int 1)],.tup #v[.c (.int 1),.c (.int 0)],.lst #v[.c (.int 1)],.tup #v[.c (.int 1),.c (.int 1)],.lst #v[.c (.int 1)]],.c (.int 2)]]),.ex (.me .append (.v 1) #v[.tup #v[.tup #v[.c (.int 1),.c (.int 0)],.dnew,.c (.int 3)]]),.ex (.me .append (.v 1) #v[.tup #v[.tup #v[.c (.int 0),.c (.int 1),.c (.int 2)],.disp #v[.tup #v[.c (.int 2),.c (.int 2)],.lst #v[.c (.int 2)],.tup #v[.c (.int 1),.c (.int 2)],.lst #v[.c (.int 1)],.tup #v[.c (.int 2),.c (.int 1)],.lst #v[.c (.int 1)],.tup #v[.c (.int 1),.c (.int 1)],.lst #v[.c (.int 1),.c (.int 2)]],.c (.int 2)]]),.ex (.me .append (.v 1) #v[.tup #v[.tup #v[.c (.int 0),.c (.int 1),.c (.int 2)],.disp #v[.tup #v[.c (.int 0),.c (.int 0)],.lst #v[.c (.int 0),.c (.int 1)]],.c (.int 2)]]),.ret (.ix (.v 1) (.own "_law_pick" 2 #v[.v 0,.c (.int 9)]))]
noncomputable def d0:Ss:=
 #v[.set 5 (.disp #v[.tup #v[.c (.int 1),.c (.int 0)],.v 2,.tup #v[.c (.int 2),.c (.int 0)],.v 3,.tup #v[.c (.int 2),.c (.int 1)],.v 4]),.loop (.nm 6) (.seq (.bi .list #v[.v 5])) #v[.put (.v 5) (.tup #v[.ix (.v 6) (.c (.int 1)),.ix (.v 6) (.c (.int 0))]) (.ix (.v 0) (.ix (.v 5) (.v 6)))],.loop (.tp [7,8,9]) (.seq (.own "_law_turns" 0 .nil)) #v[.ite (.cmp .notin (.ix (.v 5) (.tup #v[.v 7,.v 9])) (.me .get (.v 1) #v[.tup #v[.ix (.v 5) (.tup #v[.v 7,.v 8]),.ix (.v 5) (.tup #v[.v 8,.v 9])],.lst #v[.ix (.v 5) (.tup #v[.v 7,.v 9])]])) #v[.ret (.c (.bl true))] .nil],.ret (.c (.bl false))]
noncomputable def bU:Ss:=
 #v[.set 3 (.bi .len #v[.v 1]),.set 4 (.lst #v[.lst #v[.tup #v[.c (.int 0)]],.lst #v[.tup #v[.c (.int 0),.c (.int 1)],.tup #v[.c (.int 1),.c (.int 0)]]]),.ex (.me .append (.v 4) #v[.lst #v[.tup #v[.c (.int 0),.c (.int 1),.c (.int 2)],.tup #v[.c (.int 0),.c (.int 2),.c (.int 1)],.tup #v[.c (.int 2),.c (.int 0),.c (.int 1)],.tup #v[.c (.int 2),.c (.int 1),.c (.int 0)]]]),.set 5 (.ix (.v 4) (.op .sub (.v 3) (.c (.int 1)))),.ite (.cmp .eq (.v 1) (.tup #v[.c (.int 0),.c (.int 1),.c (.int 2)])) #v[.set 5 (.own "_law_turns" 0 .nil)] .nil,.set 6 (.ix (.v 5) (.own "_law_pick" 2 #v[.v 0,.bi .len #v[.v 5]])),.set 7 (.op .mul (.lst #v[.c (.int 0)]) (.v 3)),.loop (.nm 8) (.rng #v[.v 3]) #v[.put (.v 7) (.ix (.v 6) (.v 8)) (.ix (.v 6) (.ix (.v 1) (.v 8)))],.set 9 .dnew,.loop (.tp [10,11]) (.seq (.v 2)) #v[.put (.v 9) (.tup #v[.ix (.v 6) (.v 10),.ix (.v 6) (.v 11)]) (.comp (.ix (.v 2) (.v 1)) (.nm 1) (.seq (.ix (.v 2) (.tup #v[.v 10,.v 11]))) .nil [td,td,gV 6])],.ret (.tup #v[.bi .tuple #v[.v 7],.v 9])]
noncomputable def cD:Ss:=
 #v[.set 1 (.own "_law_pick" 2 #v[.v 0,.c (.int 7)]),.ite (.cmp .eq (.v 1) (.c (.int 0))) #v[.ret (.own "_law_free_rule" 1 #v[.v 0])] .nil,.ite (.cmp .eq (.v 1) (.c (.int 1))) #v[.ret (.own "_law_one_way_rule" 1 #v[.v 0])] .nil,.asg [2,3,4] (.own "_law_laying_kind" 1 #v[.v 0]),.set 5 (.op .add (.c (.int 1)) (.own "_law_pick" 2 #v[.v 0,.v 4])),.asg [2,3] (.own "_law_numbered" 3 #v[.v 0,.v 2,.v 3]),.set 6 (.own "_law_rule_of" 4 #v[.v 0,.v 5,.v 2,.tup .nil]),.set 7 .dnew,.set 8 (.bi .len #v[.v 2]),.loop (.nm 9) (.rng #v[.op .mul (.op .mul (.v 8) (.v 8)) (.v 8)]) #v[.par 10 11 #v[.op .mod (.v 9) (.v 8),.op .mod (.op .fdiv (.v 9) (.v 8)) (.v 8)],.set 12 (.op .fdiv (.op .fdiv (.v 9) (.v 8)) (.v 8)),.ite (.own "_law_breaks" 5 #v[.v 2,.v 3,.v 10,.v 11,.v 12]) #v[.loop (.nm 13) (.seq (.own "_law_rising" 1 #v[.v 5])) #v[.set 14 (.tup #v[.tup #v[.ix (.v 13) (.c (.int 0)),.tup .nil],.tup #v[.ix (.v 13) (.c (.int 1)),.tup #v[.v 10]]]),.put (.v 7) (.own "_law_figure" 2 #v[.v 6,.op .add (.v 14) (.tup #v[.tup #v[.ix (.v 13) (.c (.int 2)),.tup #v[.v 11,.v 12]]])]) (.c (.bl true))]] .nil],.ret (.tup #v[.ix (.v 6) (.c (.int 0)),.ix (.v 6) (.c (.int 1)),.bi .tuple #v[.bi .sorted #v[.v 7]]])]
noncomputable def d3:Ss:=
 #v[.set 1 (.lst .nil),.loop (.nm 2) (.rng #v[.v 0]) #v[.loop (.nm 3) (.rng2 #v[.v 2,.v 0]) #v[.set 1 (.op .add (.v 1) (.comp (.tup #v[.v 2,.v 3,.v 1]) (.nm 1) (.rng2 #v[.v 3,.v 0]) .nil [td,td,gV 2,gV 3]))]],.ret (.v 1)]
noncomputable def cW:Ss:=
 #v[.asg [1,2] (.own "_law_sizes" 1 #v[.v 0]),.set 3 (.own "_law_rule_of" 4 #v[.v 0,.v 1,.own "_law_backs" 2 #v[.v 0,.v 2],.tup .nil]),.set 5 (.comp (.v 1) (.nm 1) (.rng #v[.v 2]) #v[.cmp .eq (.ix (.ix (.ix (.v 2) (.c (.int 1))) (.v 1)) (.c (.int 1))) (.v 1)] [td,td,gV 3]),.ite (.or (.cmp .eq (.v 5) (.lst .nil)) (.cmp .eq (.v 2) (.c (.int 1)))) #v[.ret (.v 3)] .nil,.set 6 (.ix (.v 5) (.own "_law_pick" 2 #v[.v 0,.bi .len #v[.v 5]])),.set 7 .dnew,.loop (.nm 4) (.rng #v[.own "_law_pick" 2 #v[.v 0,.c (.int 9)]]) #v[.set 8 (.own "_law_free_three" 3 #v[.v 0,.v 1,.v 2]),.ite (.and (.cmp .ne (.ix (.ix (.ix (.v 8) (.c (.int 1))) (.c (.int 1))) (.c (.int 0))) (.v 6)) (.cmp .notin (.v 6) (.ix (.ix (.v 8) (.c (.int 2))) (.c (.int 1))))) #v[.put (.v 7) (.own "_law_figure" 2 #v[.v 3,.v 8]) (.c (.bl true))] .nil],.ret (.tup #v[.ix (.v 3) (.c (.int 0)),.ix (.v 3) (.c (.int 1)),.bi .tuple #v[.bi .sorted #v[.v 7]]])]
noncomputable def cu:Ss:=
 #v[.set 1 (.op .add (.c (.int 1)) (.own "_law_pick" 2 #v[.v 0,.c (.int 3)])),.set 2 (.comp (.tup #v[.tup #v[.v 1,.tup .nil],.tup #v[.v 1,.tup #v[.c (.int 0)]],.tup #v[.v 1,.tup #v[.c (.int 0),.c (.int 0)]]]) (.nm 1) (.rng #v[.v 1]) #v[.cmp .eq (.own "_law_pick" 2 #v[.v 2,.c (.int 2)]) (.c (.int 0))] [td,td,gV 0]),.ret (.own "_law_rule_of" 4 #v[.v 0,.v 1,.tup #v[.c (.int 0)],.v 2])]
noncomputable def bE:Ss:=
 #v[.set 1 (.own "_law_pick" 2 #v[.v 0,.c (.int 3)]),.ite (.cmp .eq (.v 1) (.c (.int 0))) #v[.ret (.own "_law_rule_of" 4 #v[.v 0,.c (.int 1),.tup #v[.c (.int 0),.c (.int 1)],.comp (.tup #v[.tup #v[.c (.int 0),.tup .nil],.tup #v[.c (.int 0),.tup #v[.v 1]],.tup #v[.c (.int 0),.tup #v[.v 1,.v 1]]]) (.nm 1) (.rng #v[.c (.int 2)]) .nil [td,td]])] .nil,.ite (.cmp .eq (.v 1) (.c (.int 1))) #v[.set 2 (.own "_law_rule_of" 4 #v[.v 0,.c (.int 2),.tup #v[.c (.int 0),.c (.int 1)],.tup .nil]),.set 3 .dnew,.loop (.nm 4) (.seq (.own "_law_rising" 1 #v[.c (.int 2)])) #v[.loop (.tp [5,6,7]) (.seq (.lst #v[.tup #v[.c (.int 1),.c (.int 1),.c (.int 0)],.tup #v[.c (.int 1),.c (.int 1),.c (.int 1)],.tup #v[.c (.int 1),.c (.int 0),.c (.int 1)],.tup #v[.c (.int 0),.c (.int 1),.c (.int 1)]])) #v[.set 8 (.tup #v[.tup #v[.ix (.v 4) (.c (.int 0)),.tup .nil],.tup #v[.ix (.v 4) (.c (.int 1)),.tup #v[.v 5]]]),.put (.v 3) (.own "_law_figure" 2 #v[.v 2,.op .add (.v 8) (.tup #v[.tup #v[.ix (.v 4) (.c (.int 2)),.tup #v[.v 6,.v 7]]])]) (.c (.bl true))]],.ret (.tup #v[.ix (.v 2) (.c (.int 0)),.ix (.v 2) (.c (.int 1)),.bi .tuple #v[.bi .sorted #v[.v 3]]])] .nil,.set 9 (.op .add (.c (.int 2)) (.own "_law_pick" 2 #v[.v 0,.c (.int 2)])),.set 3 (.comp (.tup #v[.tup #v[.c (.int 0),.tup .nil],.tup #v[.v 1,.tup #v[.c (.int 0)]],.tup #v[.op .sub (.v 2) (.c (.int 1)),.tup #v[.c (.int 0),.c (.int 0)]]]) (.nm 1) (.rng #v[.v 9]) .nil [td,td,gV 9]),.ret (.own "_law_rule_of" 4 #v[.v 0,.v 9,.tup #v[.c (.int 0)],.sl (.v 3) .no (.yes (.op .add (.c (.int 1)) (.own "_law_pick" 2 #v[.v 0,.v 9])))])]
noncomputable def Is (defs:Hm (HL×Df))(f:HL)(np nn:Hu)(b:Ss):Prop:=∃df:Df,defs.lookup f=gV df/\df.ps.length=np/\df.N.length=nn/\df.body=b
theorem az {defs:Hm (HL×Df)}{fuel d:Hu}{f:HL}{np nn:Hu}{b:Ss}{ws:Hm W}{S:aa}{Q:QW}(h:Is defs f np nn b)(hl:ws.length=np)(ok:ga b=true)
  (hb:∀Q':QO,(∀w S',Q (w,S')->Q' (.rt w,S'))->wZ (au defs fuel d) fuel b (ws.map gV++HY (nn - np) td) S Q'):wO (br (au defs fuel (d+1)) f np ws S) Q:=by
 obtain⟨df,h1,h2,h3,h4⟩:=h;subst h4;refine Dc h1 hl (hl.trans h2.symm) ok λQ' hR=>?_
 have:=hb Q' hR;unfold fB;rw[h3,hl];exact this
noncomputable def eO:Ss:=
 #v[.ret (.bi .tuple #v[.comp (.ix (.c (.str "abcdef")) (.v 1)) (.nm 1) (.rng #v[.v 1]) .nil [td,td]])]
structure Gen (defs:Hm (HL×Df)):Prop where
 pick:Is defs ("_law_pick" : HL) 2 4 c8
 names:Is defs ("_law_names" : HL) 2 2 eO
 between:Is defs ("_law_between" : HL) 4 4 dE
 part:Is defs ("_law_part" : HL) 3 6 dy
 turns:Is defs ("_law_turns" : HL) 0 0 gc
 figure:Is defs ("_law_figure" : HL) 2 2 dZ
 backs:Is defs ("_law_backs" : HL) 2 3 eM
 rule_of:Is defs ("_law_rule_of" : HL) 4 6 dF
 free_three:Is defs ("_law_free_three" : HL) 3 5 cL
 sizes:Is defs ("_law_sizes" : HL) 1 2 eN
 any_rule:Is defs ("_law_any_rule" : HL) 1 6 de
 laying_kind:Is defs ("_law_laying_kind" : HL) 1 2 cC
 breaks:Is defs ("_law_breaks" : HL) 5 10 d0
 numbered:Is defs ("_law_numbered" : HL) 3 12 bU
 laying_rule:Is defs ("_law_laying_rule" : HL) 1 15 cD
 rising:Is defs ("_law_rising" : HL) 1 4 d3
 free_rule:Is defs ("_law_free_rule" : HL) 1 9 cW
 one_way_rule:Is defs ("_law_one_way_rule" : HL) 1 3 cu
structure FlA (S:aa)(r q:Hu)(ns:Hm HF)(i c x n:HF):Prop where
 at_r:S[r]?=gV (.lst [.ref q,.int i,.int c,.int x,.int n])
 at_q:S[q]?=gV (.lst (ns.map W.int))
 lt:q < r
 i0:0<=i
 c0:0<=c
 x0:0<=x
 x1:x < 2147483647
theorem FlA.ne {S:aa}{r q:Hu}{ns:Hm HF}{i c x n:HF}(h:FlA S r q ns i c x n):q≠r:=Ic h.lt
noncomputable def Fl (S:aa)(r:Hu):Prop:=∃(q:Hu) (ns:Hm HF) (i c x n:HF),FlA S r q ns i c x n
theorem FlA.put {S:aa}{r q:Hu}{ns:Hm HF}{i c x n i' c' x' n':HF}(h:FlA S r q ns i c x n)(h1:0<=i')(h2:0<=c')(h3:0<=x')(h4:x' < 2147483647):FlA (S.set r (.lst [.ref q,.int i',.int c',.int x',.int n'])) r q ns i' c' x' n':=
 #[b7 h.at_r,by rw[bV (Ne.symm h.ne)]; exact h.at_q,h.lt,h1,h2,h3,h4]
theorem Fl.keep {S S':aa}{r:Hu}(h:Fl S r)(h1:S'[r]?=S[r]?)(k:Kp r S S'):Fl S' r:=
 let ⟨q,ns,i,c,x,n,f⟩:=h; #[q,ns,i,c,x,n,by rw[h1]; exact f.at_r,k.get _ _ f.ne f.at_q,f.lt,f.i0,f.c0,f.x0,f.x1]
theorem Fl.lt {S:aa}{r:Hu}(h:Fl S r):r < S.length:=let ⟨_,_,_,_,_,_,f⟩:=h; cF f.at_r
structure Ka (S S':aa):Prop where
 get:∀(j:Hu) (o:O),S[j]?=gV o->S'[j]?=gV o
 len:S.length<=S'.length
theorem Ka.refl {S:aa}:Ka S S:=#[λ_ _ h=>h,HG _]
theorem Ka.trans {S S' S'':aa}(a:Ka S S')(b:Ka S' S''):Ka S S'':=#[λj o h=>b.get j o (a.get j o h),IE a.len b.len]
theorem Ka.push {S:aa}{o:O}:Ka S (S++[o]):=#[λj u h=>aq h,by simp]
theorem Ka.late {t:Hu}{S0 S:aa}{o:O}(a:Ka S0 S)(h:S0.length<=t):Ka S0 (S.set t o):=
 #[λj u e=>by have:=cF e; rw[bV ∅]; exact a.get j u e,by simpa using a.len]
theorem Ka.kp {S S':aa}(a:Ka S S')(r:Hu):Kp r S S':=#[λj o _ h=>a.get j o h,a.len]
theorem Fl.ka {S S':aa}{r:Hu}(h:Fl S r)(k:Ka S S'):Fl S' r:=h.keep (by obtain⟨q,ns,i,c,x,n,f⟩:=h; rw[k.get _ _ f.at_r,f.at_r]) (k.kp r)
theorem Fl.own {S:aa}{r t:Hu}{o:O}(h:Fl S r)(ht:r < t):Fl (S.set t o) r:=by
 obtain⟨q,ns,i,c,x,n,f⟩:=h;have:=f.lt;exact#[q,ns,i,c,x,n,by rw[bV ∅]; exact f.at_r,by rw[bV ∅]; exact f.at_q,f.lt,f.i0,f.c0,f.x0,f.x1]
theorem dQ {S:aa}{r:Hu}{xs:Hm W}{i:Hu}{w:W}{Q:QW}(h:S[r]?=gV (.lst xs))(hw:xs[i]?=gV w)(q:Q (w,S)):wO (lK (.ref r) (.int (i:HF)) S) Q:=ac (xo h (HB i) (by rw[HE]; exact hw)) q
theorem mP {S:aa}{r:Hu}{xs:Hm W}{i:Hu}{w:W}{Q:aa->Prop}(h:S[r]?=gV (.lst xs))(hi:PN (i+1) xs.length=true)(q:Q (S.set r (.lst (xs.set i w)))):wO (iu (.ref r) (.int (i:HF)) w S) Q:=ac (Bu h (HB i) (by rw[HE]; exact Mq hi)) (by rw[HE]; exact q)
section
variable{defs:Hm (HL×Df)}{fuel d:Hu}{S:aa}{r:Hu}{Q:QW}
theorem bq (hd:Is defs ("_law_pick" : HL) 2 4 c8){m:HF}(hf:Fl S r)(h0:0 < m)(h1:m < 1073741824)(k:∀v S',0<=v->v < m->Fl S' r->Kp r S S'->Q (.int v,S')) :
  wO (br (au defs fuel (d+1)) "_law_pick" 2 [.ref r,.int m] S) Q:=by
 obtain⟨q,ns,i,c,x,n,f⟩:=hf;refine az hd rfl rfl λQ' hR=>?_
 replace k:∀v S',0<=v->v < m->Fl S' r->Kp r S S'->Q' (.rt (.int v),S'):=λv S' a b c e=>hR _ _ (k v S' a b c e)
 clear hR;show wZ _ _ c8 [gV (.ref r),gV (.int m),td,td] S Q';have dj:∀(S1:aa) (w2:Ht W) (i1 c1 x1 n1:HF),FlA S1 r q ns i1 c1 x1 n1->Kp r S S1->wZ (au defs fuel d) fuel (match c8 with|.cons _ ss=>ss|.nil=>.nil) [gV (.ref r),gV (.int m),w2,td] S1 Q':=by
  intro S1 w2 i1 c1 x1 n1 f1 k1;dsimp only[c8];refine st ?_;dsimp only[wS,wT,wE,wV,wG];refine dQ (i:=2) f1.at_r rfl ?_;dsimp only[Ao,wO,wB];refine ar (Q0:=Q') (λhg Q2 hn hr=>?_) (λhg Q2 hn hr=>?_)
  ·clear hn;refine st ?_;dsimp only[wS,wE,wV,wG];refine dQ (i:=2) f1.at_r rfl (ac (kR h0) ?_);refine st ?_;dsimp only[wS,wE,wV,wG,HD];refine dQ (i:=2) f1.at_r rfl (ac (oh h0 h1) (mP (i:=2) f1.at_r rfl ?_));refine st ?_;dsimp only[wS,wE,wV,wG,HD];exact hr _ _ (k _ _ (J1 _ ∅) (JE _ h0) #[q,ns,i1,c1 / m,x1,n1,f1.put f1.i0 (NX f1.c0 ∅) f1.x0 f1.x1] (k1.trans .set))
  ·refine bZ (hn _ _ ?_);clear hn hr;have f2:FlA (S1.set r (.lst [.ref q,.int i1,.int c1,.int x1,.int (n1+1)])) r q ns i1 c1 x1 (n1+1):=f1.put f1.i0 f1.c0 f1.x0 f1.x1;refine st ?_;dsimp only[wS,wE,wV,wG];refine dQ (i:=4) f1.at_r rfl ?_;dsimp only[dW,wO];refine mP (i:=4) f1.at_r rfl ?_;refine st ?_;dsimp only[wS,wE,wV,wG,HD];refine dQ (i:=3) f2.at_r rfl (ac (sW #v[] #v[]) ?_)
   dsimp only[dW,wO];refine dQ (i:=4) f2.at_r rfl ?_;dsimp only[dW,wO];refine(mP (i:=3) f2.at_r rfl ?_);have f3:FlA ((S1.set r (.lst [.ref q,.int i1,.int c1,.int x1,.int (n1+1)])).set r (.lst [.ref q,.int i1,.int c1,.int ((x1*48271+12820163+(n1+1)) % 2147483647),.int (n1+1)])) r q ns i1 c1 ((x1*48271+12820163+(n1+1)) % 2147483647) (n1+1):=f2.put f1.i0 f1.c0 (J1 _ #v[]) (JE _ #v[])
   dsimp only[HD];generalize(x1*48271+12820163+(n1+1)) % 2147483647=y at f3 ⊢;have b1:y / 65521+7919 < 2 ^ 64:=by
    have:=f3.x1;have:=Int.ediv_le_self 65521 f3.x0;omega
   have b2 : -(2 ^ 64) < y / 65521+7919:=by
    have:=NX f3.x0 (show(0:HF)<=65521 by decide)
    omega
   refine st ?_;dsimp only[wS,wE,wV,wG,HD];refine dQ (i:=3) f3.at_r rfl (ac (kR #v[]) ?_)
   dsimp only[dW,wO];refine dQ (i:=3) f3.at_r rfl ?_;dsimp only[dW,wO];refine ac (sW b2 b1) ?_;refine ac (kR h0) ?_;exact k _ _ (J1 _ ∅) (JE _ h0) #[q,ns,_,_,_,_,f3] (k1.trans (Kp.set.trans .set))
 dsimp only[c8]at dj ⊢;refine st ?_;dsimp only[wS,wT,wE,wV,wG,wA];refine dQ (i:=2) f.at_r rfl ?_;dsimp only[kS,wO,wB];have skip:∀Q2:QO,(∀ρ' S',wZ (au defs fuel d) fuel _ ρ' S' Q'->Q2 (.nx ρ',S'))->Q2 (.nx [gV (.ref r),gV (.int m),td,td],S):=λQ2 hn=>hn _ _ (dj S td i c x n f .refl)
 refine#[λ_=>?_,λ_ Q2 hn hr=>#[λz=>(by cases z),λ_=>(bZ (skip Q2 hn)).out]]
 refine dQ (i:=1) f.at_r rfl (dQ (i:=0) f.at_r rfl (ac (Bv f.at_q) ?_));dsimp only[xn,wO,wB];refine ar (Q0:=Q') (λhl Q2 hn _=>?_) (λhg Q2 hn hr=>bZ (skip Q2 hn))
 clear skip;have hl':i.toNat < ns.length:=by
  have:=IV hl;rw[Hq]at this;have:=f.i0;omega
 have hcell:(ns.map W.int)[i.toNat]?=gV (.int ns[i.toNat]):=by simp[hl']
 generalize ns[i.toNat]=cell at hcell;have f1:FlA (S.set r (.lst [.ref q,.int (i+1),.int c,.int x,.int n])) r q ns (i+1) c x n:=f.put (by have:=f.i0; omega) f.c0 f.x0 f.x1
 refine st ?_;dsimp only[wS,wE,wV,wG];refine dQ (i:=0) f.at_r rfl (dQ (i:=1) f.at_r rfl (ac (xo f.at_q f.i0 hcell) ?_));refine st ?_;dsimp only[wS,wE,wV,wG,HD];refine dQ (i:=1) f.at_r rfl ?_;dsimp only[dW,wO];refine mP (i:=1) f.at_r rfl ?_;refine st ?_;dsimp only[wS,wT,wE,wV,wG,Da,GH,wO,wB];refine ar (Q0:=Q') (λhg Q3 hn3 _=>?_) (λhg Q3 hn3 _=>?_)
 ·refine st ?_;dsimp only[wS,wE,wV,wG];refine mP (i:=2) f1.at_r rfl (bZ (hn3 _ _ (bZ (hn _ _ ?_))));exact dj _ _ (i+1) cell x n (f1.put f1.i0 (by have:=IV hg; omega) f.x0 f.x1) (Kp.set.trans .set)
 ·refine st ?_;dsimp only[wS,wE,wV,wG];refine dQ (i:=3) f1.at_r rfl (ac (sW #v[] #v[]) (ac (kR #v[]) ?_))
  dsimp only[dW,wO];refine mP (i:=3) f1.at_r rfl (bZ (hn3 _ _ (bZ (hn _ _ ?_))));exact dj _ _ (i+1) c _ n (f1.put f1.i0 f.c0 (J1 _ #v[]) (JE _ #v[])) (Kp.set.trans .set)
end
noncomputable def dr:Hu->Ss->Ss
 | 0,ss=>ss
 | n+1,.cons _ ss=>dr n ss
 | _,.nil=>.nil
theorem bm {α:Type}{a:α}{Q:α->Prop}:wO (gV a) Q=Q a:=rfl
theorem bf {Φ:HL->FF}{fuel:Hu}{ρ:Fm}{S:aa}{Q:QO}{s:Sm}{ss:Ss}(h:∀K:Fm->aa->Prop,(∀ρ' S',wZ Φ fuel ss ρ' S' Q->K ρ' S')->wS Φ fuel s ρ S K Q):wZ Φ fuel (.cons s ss) ρ S Q:=st (h _ λ_ _ h=>h)
theorem Fb {Φ:HL->FF}{fuel:Hu}{ρ:Fm}{S:aa}{i:Hu}{e:E}{K:Fm->aa->Prop}{Q:QO}(h:wE Φ e ρ S λp=>K (ρ.set i (gV p.1)) p.2):wS Φ fuel (.set i e) ρ S K Q:=by rw[wS]; exact h
theorem gd {n:Hu}(h:PN n 1000=true):n<=sizeLine:=IE (Mq h) (by rw[IH]; decide)
theorem mQ {n:Hu}(h:n<=1000):n<=sizeLine:=IE h (by rw[IH]; decide)
theorem kW {S:aa}{r:Hu}{xs:Hm W}{i:HF}{w:W}{Q:QW}(h:S[r]?=gV (.lst xs))(h0:0<=i)(hw:xs[i.toNat]?=gV w)(q:Q (w,S)):wO (lK (.ref r) (.int i) S) Q:=ac (xo h h0 hw) q
theorem aj {S:aa}{xs:Hm W}{i:HF}{w:W}{Q:QW}(h0:0<=i)(hw:xs[i.toNat]?=gV w)(q:Q (w,S)):wO (lK (.tup xs) (.int i) S) Q:=ac (E3 h0 hw) q
theorem kX {S:aa}{r:Hu}{xs:Hm W}{y:W}{Q:QW}(h:S[r]?=gV (.lst xs))(hl:xs.length < 1000)(q:Q (.non,S.set r (.lst (xs++[y])))):wO (Me.append.fn (.ref r) [y] S) Q:=ac (sX h (Ih hl (gd rfl))) q
theorem mR {S:aa}{r:Hu}{xs:Hm W}{Q:QW}(h:S[r]?=gV (.lst xs))(q:Q (.int xs.length,S)):wO (Bi.len.fn [.ref r] S) Q:=ac (Bv h) q
theorem bC {S:aa}{xs:Hm W}{Q:QW}(q:Q (.int xs.length,S)):wO (Bi.len.fn [.tup xs] S) Q:=q
theorem eD {S:aa}{r:Hu}{xs:Hm W}{Q:QW}(h:S[r]?=gV (.lst xs))(q:Q (.tup xs,S)):wO (Bi.tuple.fn [.ref r] S) Q:=ac (E5 h) q
section
variable{Φ:HL->FF}{fuel:Hu}{ρ:Fm}{S S1:aa}{K:Fm->aa->Prop}
theorem xr {t:E}{a:Ss}{Q:QO}(ht:∀Q:QB,Q (false,S1)->wT Φ t ρ S Q)(h:K ρ S1):wS Φ fuel (.ite t a .nil) ρ S K Q:=by
 rw[wS];exact ht _ λQ' h1 h2=>#[λz=>(by cases z),λ_=>(bZ (h1 _ _ h)).out]
theorem Fc {t:E}{a b:Ss}{Q:QO}(ht:∀Q:QB,Q (true,S1)->wT Φ t ρ S Q)(h:∀Q':QO,(∀ρ' S',K ρ' S'->Q' (.nx ρ',S'))->(∀w S',Q (.rt w,S')->Q' (.rt w,S'))->wZ Φ fuel a ρ S1 Q'):wS Φ fuel (.ite t a b) ρ S K Q:=by
 rw[wS];exact ht _ λQ' h1 h2=>#[λ_=>(h Q' h1 λw S' q=>h2 (.rt w) S' (λ_ z=>nomatch z) q).out,λz=>(by cases z)]
end
noncomputable def Fd (y:HL):Prop:=∀c∈y.cps.toList,97<=c/\c<=122
noncomputable def Name (y:HL):Prop:=1<=y.cps.toList.length/\y.cps.toList.length<=8/\Fd y
theorem on {α:Type}{f:α->W}{xs:Hm α}{i:Hu}(h:i < xs.length):∃x∈xs,(xs.map f)[i]?=gV (f x):=#[xs[i],IT _,by rw[Hy,HK h]; rfl]
theorem rK {α:Type}[Kn α]:∀(l m:Hm α),l.Nodup->(∀x∈l,x∈m)->l.length<=m.length
 | [],_,_,_=>J4 _
 | x::l,m,hn,hs=>by
  rw[KL]at hn;have hx:x∈m:=hs x (.head _);have h1:=rK l (m.erase x) hn.2 λy hy=>(List.mem_erase_of_ne (λ(e:y=x)=>hn.1 (by rw[<- e]; exact hy))).mpr (hs y (.tail _ hy))
  rw[List.length_erase_of_mem hx]at h1;have:=List.length_pos_of_mem hx;rw[IN]; omega
noncomputable def As (k:Hu):HL:=#[[97+k].toArray]
theorem uL {k:Hu}(h:k < 26):Name (As k):=#[HG 1,(by decide:1<=8),λc hc=>by
 cases HN.mp (show c∈[97+k]from hc)
 omega]
noncomputable def rL:Hm HL:=["marks","ways","bar","some","each","not","and","or","is"]
theorem eE {xs:Hm W}{k:Hu}:jR xs td (gV (k:HF))=xs.take k:=by
 unfold jR;rw[HT.kj,HT.sa,Om,OQ]
 by_cases h:k<=xs.length
 ·rw[NY h]
 ·rw[NL ∅,K5 (HG _),K5 ∅]
theorem xt {xs:Hm W}{k:Hu}:jR xs (gV (k:HF)) td=xs.drop k:=by
 unfold jR;rw[HT.kj,HT.sa]
 by_cases h:k<=xs.length
 ·rw[NY h,K5 (by rw[Kd]; exact HG _)]
 ·rw[NL ∅,L5 (HG _),L5 ∅]; exact List.take_nil
section
variable{defs:Hm (HL×Df)}{fuel d:Hu}{S:aa}{r:Hu}{Q:QW}
theorem xu:∀m,m<=6->(rL++(HJ m).map As).Nodup:=λm hm=>by
 rcases(show m=0\/m=1\/m=2\/m=3\/m=4\/m=5\/m=6 by omega)with rfl|rfl|rfl|rfl|rfl|rfl|rfl <;> decide
theorem At:∀k:Fin 6,("abcdef" : HL).cps.toList[k.val]?=gV (97+k.val):=by decide
theorem Au (hfu:20 < fuel)(G:Gen defs){m:Hu}(hf:Fl S r)(h1:m<=6)(k:∀(ys:Hm HL) S',ys.length=m->(∀y∈ys,Name y)->(rL++ys).Nodup->Fl S' r->Kp r S S'->Q (.tup (ys.map W.str),S')) :
  wO (br (au defs fuel (d+4)) "_law_names" 2 [.ref r,.int m] S) Q:=by
 refine az G.names rfl rfl λQ' hR=>?_
 show wZ _ _ eO [gV (.ref r),gV (.int m)] S Q';dsimp only[eO];refine st ?_;dsimp only[wS,wE,wA];refine eL (m:HF) (λi ys ρ2 S2=>(∃a1,ρ2=[td,a1])/\ys=((HJ i).map As).map W.str/\S2=S) rfl rfl rfl ∅ #[rfl,#[td,rfl],rfl,rfl] ?_ ?_
 ·rintro i ys ρ2 S2 hi ⟨⟨a1,rfl⟩,rfl,rfl⟩;dsimp only[iV,wC,wE,wV,wG,HD];refine#[λ_=>ac (E4 (c:=97+i) #v[] (HB i) ?_) #[#[_,rfl],?_,rfl],λz=>by cases z]
  ·rw[HE]; exact At #[i,∅]
  ·rw[Ki,Ip,Ip]; rfl
 ·rintro ys ρ2 S2 ⟨_,rfl,rfl⟩;rw[HE];refine#[mQ (by rw[Hq,Hq,Iv]; omega),eD ak (hR _ _ (k ((HJ m).map As) _ (by rw[Hq,Iv]) (λy hy=>?_) (xu m h1) (hf.ka .push) .push))]
  obtain⟨i,hi,rfl⟩:=Io.mp hy;exact uL (by have:=Iy.mp hi; omega)
end
noncomputable abbrev Pt:=HF×Hm HF
noncomputable abbrev Wd:=Hm Pt
noncomputable def bn (p:Pt):W:=.tup [.int p.1,.tup (p.2.map W.int)]
noncomputable def aD (u:Wd):W:=.tup (u.map bn)
noncomputable def qa (p:Pt):T:=.tup [.int p.1,.tup (p.2.map T.int)]
noncomputable def du (u:Wd):T:=.tup (u.map qa)
theorem tm:∀xs:Hm HF,T.ws (xs.map T.int)=xs.map W.int
 | []=>rfl
 | x::xs=>by simp[T.ws,T.w,tm xs]
theorem Fe (p:Pt):(qa p).w=bn p:=by simp[qa,bn,T.w,T.ws,tm]
theorem xv:∀u:Wd,T.ws (u.map qa)=u.map bn
 | []=>rfl
 | p::u=>by simp[T.ws,Fe,xv u]
theorem xw (u:Wd):(du u).w=aD u:=by simp[du,aD,T.w,xv]
theorem Ff (u:Wd):W.t (aD u)=gV (du u):=by rw[<- xw]; exact T.w_t _
theorem xx:∀us:Hm Wd,T.ws (us.map du)=us.map aD
 | []=>rfl
 | u::us=>by simp[T.ws,xw,xx us]
theorem BA (us:Hm Wd):W.ts (us.map aD)=gV (us.map du):=by rw[<- xx]; exact T.ws_ts _
theorem kY:∀xs:Hm HF,T.depths (xs.map T.int)=0
 | []=>rfl
 | x::xs=>by simp[T.depths,T.depth,kY xs]
theorem xy (p:Pt):(qa p).depth=2:=by simp[qa,T.depth,T.depths,kY]
theorem mS:∀u:Wd,T.depths (u.map qa)<=2
 | []=>by simp[T.depths]
 | p::u=>by
  have:=mS u;simp only[Jr,T.depths,xy]; omega
theorem qb (u:Wd):(du u).depth<=3:=by
 have:=mS u;simp only[du,T.depth]; omega
theorem jd:∀us:Hm Wd,T.depths (us.map du)<=3
 | []=>by simp[T.depths]
 | u::us=>by
  have:=jd us;have:=qb u;simp only[Jr,T.depths]; omega
theorem oo (u:Wd):gC (aD u)=gV (du u):=by
 unfold gC;rw[Ff];show(if (du u).isTup=true/\(du u).depth<=bS then _ else _)=_
 rw[HW #[rfl,by have:=qb u; unfold bS; omega]]
mutual
noncomputable def oq:T->T->HV
 | .int _,.int _=>true
 | .str _,.str _=>true
 | .tup xs,.tup ys=>fj xs ys
 | _,_=>false
noncomputable def fj:Hm T->Hm T->HV
 | [],_=>true
 | _,[]=>true
 | x::xs,y::ys=>oq x y&&fj xs ys
end
mutual
theorem xz:∀x y:T,oq x y=true->(zt x y).isSome=true
 | .int _,.int _,_=>rfl
 | .str _,.str _,_=>rfl
 | .tup xs,.tup ys,h=>by
  simp only[oq]at h;simp only[zt];exact tq xs ys h
 | .int _,.str _,h|.int _,.tup _,h|.str _,.int _,h|.str _,.tup _,h|.tup _,.int _,h|.tup _,.str _,h=>by simp[oq]at h
theorem tq:∀xs ys:Hm T,fj xs ys=true->(pJ xs ys).isSome=true
 | [],[],_=>rfl
 | [],_::_,_=>rfl
 | _::_,[],_=>rfl
 | x::xs,y::ys,h=>by
  simp only[fj,Hw]at h;simp only[pJ];split
  ·exact tq xs ys h.2
  ·exact xz x y h.1
end
theorem qc:∀xs ys:Hm HF,fj (xs.map T.int) (ys.map T.int)=true
 | [],_=>by simp[fj]
 | _::_,[]=>by simp[fj]
 | x::xs,y::ys=>by simp[fj,oq,qc xs ys]
theorem De (p q:Pt):oq (qa p) (qa q)=true:=by simp[qa,oq,fj,qc]
theorem tt:∀u v:Wd,fj (u.map qa) (v.map qa)=true
 | [],_=>by simp[fj]
 | _::_,[]=>by simp[fj]
 | p::u,q::v=>by simp[fj,De,tt u v]
theorem Dg (u v:Wd):oq (du u) (du v)=true:=by simp[du,oq,tt]
theorem mT (us:Hm Wd):kE (us.map du)=true:=by
 unfold kE;rw[HX];intro x hx;obtain⟨u,_,rfl⟩:=Io.mp hx;rw[HX];intro y hy;obtain⟨v,_,rfl⟩:=Io.mp hy;exact xz _ _ (Dg u v)
theorem Dh (us:Hm Wd)(h:∀u∈us,u≠[]):(zu (us.map du)).isSome=true:=by
 unfold zu;split
 ·rfl
 ·split
  ·rfl
  ·split
   ·rfl
   ·split
    ·rfl
    ·split
     ·rfl
     ·rename_i h5;exfalso;apply h5;rw[HX];intro x hx;obtain⟨u,hu,rfl⟩:=Io.mp hx;cases u with
      | nil=>exact absurd rfl (h [] hu)
      | cons p u=>rfl
noncomputable def d4 (bs:Hm HF)(u:Wd)(i j:Hu):HF:=if j < i then((u.getD i (0,[])).2).getD j 0 else bs.getD (((u.getD j (0,[])).2).getD i 0).toNat 0
noncomputable def ay (bs:Hm HF)(u:Wd)(ps:Hm Hu):Wd:=(HJ ps.length).map λk=>((u.getD (ps.getD k 0) (0,[])).1,(ps.take k).map λj=>d4 bs u (ps.getD k 0) j)
noncomputable def aC:Hm (Hm Hu):=[[0,1,2],[0,2,1],[1,0,2],[1,2,0],[2,0,1],[2,1,0]]
noncomputable def kZ (bs:Hm HF)(u:Wd):Wd:=(aC.map (ay bs u)).getD (nT ((aC.map (ay bs u)).map du)) []
noncomputable def bp (n:HL)(b:HF):W:=.tup [.str n,.int b]
structure GoodW (a n:Hu)(u:Wd):Prop where
 mark:∀(k:Hu) (p:Pt),u[k]?=gV p->0<=p.1/\p.1 < a
 len:∀(k:Hu) (p:Pt),u[k]?=gV p->p.2.length=k
 way:∀(k:Hu) (p:Pt),u[k]?=gV p->∀w∈p.2,0<=w/\w < n
noncomputable def GoodB (bs:Hm HF):Prop:=bs=[0]\/bs=[0,1]\/bs=[1,0]\/bs=[0,1,2]\/bs=[1,0,2]\/bs=[0,2,1]
theorem GoodB.rng {bs:Hm HF}(h:GoodB bs):∀k:Hu,k < bs.length->∃b:HF,bs[k]?=gV b/\0<=b/\b < bs.length:=by
 rcases h with rfl|rfl|rfl|rfl|rfl|rfl <;> intro k hk
 ·match k,hk with
  | 0,_=>exact#[0,rfl,#v[],#v[]]
 ·match k,hk with
  | 0,_=>exact#[0,rfl,#v[],#v[]]
  | 1,_=>exact#[1,rfl,#v[],#v[]]
 ·match k,hk with
  | 0,_=>exact#[1,rfl,#v[],#v[]]
  | 1,_=>exact#[0,rfl,#v[],#v[]]
 ·match k,hk with
  | 0,_=>exact#[0,rfl,#v[],#v[]]
  | 1,_=>exact#[1,rfl,#v[],#v[]]
  | 2,_=>exact#[2,rfl,#v[],#v[]]
 ·match k,hk with
  | 0,_=>exact#[1,rfl,#v[],#v[]]
  | 1,_=>exact#[0,rfl,#v[],#v[]]
  | 2,_=>exact#[2,rfl,#v[],#v[]]
 ·match k,hk with
  | 0,_=>exact#[0,rfl,#v[],#v[]]
  | 1,_=>exact#[2,rfl,#v[],#v[]]
  | 2,_=>exact#[1,rfl,#v[],#v[]]
theorem getD_some {α:Type}{xs:Hm α}{i:Hu}{x d:α}(h:xs[i]?=gV x):xs.getD i d=x:=by simp[h]
theorem aA {α:Type}{xs:Hm α}{i:Hu}{d:α}(h:i < xs.length):xs[i]?=gV (xs.getD i d):=by simp[h]
theorem la {ns:Hm HL}{bs:Hm HF}{k:Hu}{n:HL}{b:HF}(h1:ns[k]?=gV n)(h2:bs[k]?=gV b):(HM bp ns bs)[k]?=gV (bp n b):=by
 rw[List.getElem?_zipWith,h1,h2]
noncomputable def am (ps:Hm Hu):Hm W:=ps.map λ(p:Hu)=>W.int (p:HF)
theorem iE {ps:Hm Hu}{k p:Hu}(h:ps[k]?=gV p):(am ps)[k]?=gV (.int p):=by simp[am,h]
theorem dz (bs:Hm HF)(u:Wd)(ps:Hm Hu):(ay bs u ps).length=ps.length:=by unfold ay; rw[Hq,Iv]
theorem dg {u:Wd}{i:Hu}(hi:i < u.length):(u.map bn)[((i:Hu):HF).toNat]?=gV (bn (u.getD i (0,[]))):=by
 rw[HE,Hy,aA hi]; rfl
section
variable{defs:Hm (HL×Df)}{fuel d:Hu}{S:aa}{r:Hu}{Q:QW}
theorem xA {Φ:HL->FF}{m0 b0:W}{ns:Hm HL}{bs:Hm HF}{a:Hu}{u:Wd}{i j:Hu}{Q:QO}(hb:GoodB bs)(hl:ns.length=bs.length)(hu:GoodW a bs.length u)(hi:i < u.length)(hj:j < u.length)(hij:i≠j)(k:Q (.rt (.int (d4 bs u i j)),S)) :
  wZ Φ fuel dE [gV (.tup [m0,.tup (HM bp ns bs),b0]),gV (aD u),gV (.int i),gV (.int j)] S Q:=by
 have hpi:=aA (d:=(0,[])) hi;have hpj:=aA (d:=(0,[])) hj;unfold d4 at k;dsimp only[dE];refine bf λK hK=>?_
 dsimp only[wS,wT,wE,wV,wG,xn,wO,wB,aD];refine ar (Q0:=Q) (λh Q2 _ hr=>?_) (λh Q2 hn _=>?_)
 ·have hji:j < i:=by have:=IV h; omega
  rw[HW hji]at k;have hw:j < (u.getD i (0,[])).2.length:=by rw[hu.len i _ hpi]; exact hji
  refine st ?_;dsimp only[wS,wE,wV,wG];refine aj (HB i) (dg hi) (aj #v[] rfl (aj (HB j) ?_ (hr _ _ k)))
  rw[HE,Hy,aA (d:=0) hw]; rfl
 ·have hji:¬ j < i:=by have:=KO h; omega
  rw[Ix hji]at k;refine bZ (hn _ _ (hK _ _ ?_));clear hn hK;have hw:i < (u.getD j (0,[])).2.length:=by rw[hu.len j _ hpj]; omega
  have hg:=aA (d:=0) hw;obtain⟨g1,g2⟩:=hu.way j _ hpj _ (HR hg);obtain⟨b,hb1,hb2,hb3⟩:=hb.rng ((u.getD j (0,[])).2.getD i 0).toNat ∅
  have hn:((u.getD j (0,[])).2.getD i 0).toNat < ns.length:=∅
  rw[getD_some hb1]at k;refine st ?_;dsimp only[wS,wE,wV,wG];refine aj #v[] rfl (aj (HB j) (dg hj) (aj #v[] rfl (aj (HB i) ?_ (aj g1 (la (HK hn) hb1) (aj #v[] rfl k)))))
  rw[HE,Hy,hg]; rfl
theorem mU (G:Gen defs){m0 b0:W}{ns:Hm HL}{bs:Hm HF}{a:Hu}{u:Wd}{i j:Hu}(hb:GoodB bs)(hl:ns.length=bs.length)(hu:GoodW a bs.length u)(hi:i < u.length)(hj:j < u.length)(hij:i≠j)(k:Q (.int (d4 bs u i j),S)) :
  wO (br (au defs fuel (d+1)) "_law_between" 4 [.tup [m0,.tup (HM bp ns bs),b0],aD u,.int i,.int j] S) Q:=
 az G.between rfl rfl λQ' hR=>xA hb hl hu hi hj hij (hR _ _ k)
theorem xB (G:Gen defs){m0 b0:W}{ns:Hm HL}{bs:Hm HF}{a:Hu}{u:Wd}{ps:Hm Hu}(hb:GoodB bs)(hl:ns.length=bs.length)(hu:GoodW a bs.length u)(hps:∀p∈ps,p < u.length)(hnd:ps.Nodup)(hsz:ps.length < 1000)(k:∀S',Ka S S'->Q (aD (ay bs u ps),S')) :
  wO (br (au defs fuel (d+2)) "_law_part" 3 [.tup [m0,.tup (HM bp ns bs),b0],aD u,.tup (am ps)] S) Q:=by
 refine az G.part rfl rfl λQ' hR=>?_
 replace k:∀S',Ka S S'->Q' (.rt (aD (ay bs u ps)),S'):=λS' a=>hR _ _ (k S' a)
 clear hR;show wZ _ _ dy [gV (.tup [m0,.tup (HM bp ns bs),b0]),gV (aD u),gV (.tup (am ps)),td,td,td] S Q';generalize hR0:W.tup [m0,.tup (HM bp ns bs),b0]=R;dsimp only[dy];refine st ?_;dsimp only[wS,wE,wA,HD];refine bf λK hK=>?_
 have nl:(am ps).length=ps.length:=Hq ..;refine cV (ps.length:HF) (λk ρ S'=>∃a4 a5,ρ=[gV R,gV (aD u),gV (.tup (am ps)),gV (.ref S.length),a4,a5]/\S'[S.length]?=gV (.lst (((ay bs u ps).take k).map bn))/\Ka S S') rfl rfl ∅ ?_ ?_ ?_
 ·dsimp only[wE,wA,wV,wG];refine bC ?_;rw[nl];exact#[rfl,td,td,rfl,ak,.push]
 ·rintro i ρ S1 hi ⟨a4,a5,rfl,e1,k1⟩ Q2 hn _;clear hK;have hi':i < ps.length:=∅
  have hp:ps[i]?=gV ps[i]:=HK hi';have hpu:ps[i] < u.length:=hps _ (IT hi');refine st ?_;dsimp only[wS,wE,wV,wG,HD];refine aj (HB i) (by rw[HE]; exact iE hp) ?_
  refine st ?_;dsimp only[wS,wE,wA,wV,wG,HD];refine#[dP e1,aj (HB _) (dg hpu) (aj #v[] rfl ?_)]
  refine tf (am (ps.take i)) (λj ys ρ2 S2=>(∃a1,ρ2=[td,a1,gV (.int ps[i]),gV R,gV (aD u)])/\ys=((ps.take i).take j).map (λq=>W.int (d4 bs u ps[i] q))/\Ka S1 S2) rfl rfl rfl ?_ ?_ ?_
  ·dsimp only[wE,wP,wV,wG,wN];refine ac (a:=(.tup (am (ps.take i)),S1)) ?_ #[rfl,#[td,rfl],rfl,.refl];simp only[lF,eE];unfold am;rw[KI]
  ·rintro j w ys ρ2 S2 hw ⟨⟨a1,rfl⟩,rfl,k2⟩;have hjl:j < (ps.take i).length:=by
    have:=(HI.mp hw).1;unfold am at this
    rwa [Hq]at this
   have hq:(ps.take i)[j]?=gV (ps.take i)[j]:=HK hjl;cases(iE hq).symm.trans hw;have hj:j < i:=by rw[Il]at hjl; omega
   have eq:(ps.take i)[j]=ps[j]'∅:=K6
   generalize(ps.take i)[j]=q at hq eq ⊢;refine ac (show fX (.nm 1) (.int (q:HF)) [td,a1,gV (.int ps[i]),gV R,gV (aD u)] S2=gV ([td,gV (.int (q:HF)),gV (.int ps[i]),gV R,gV (aD u)],S2)from rfl) ?_
   dsimp only[iV,wC,wE,wA,wV,wG];subst hR0;refine#[λ_=>mU (d:=d) G hb hl hu hpu (by rw[eq]; exact hps _ (IT _)) ?_ #[#[_,rfl],?_,k2],λz=>by cases z]
   ·rw[eq];intro h;have:=(Kv hnd).mp h;omega
   ·rw[II,hq];simp
  ·rintro ys ρ2 S2 ⟨_,rfl,k2⟩;rw[show(am (ps.take i)).length=(ps.take i).length from Hq ..,IP]
   refine#[mQ (by rw[Hq,Il]; omega),eD ak ?_]
   have e2:=aq (u:=O.lst ((ps.take i).map λq=>W.int (d4 bs u ps[i] q))) (k2.get _ _ e1)
   refine kX e2 (by rw[Hq,Il]; omega) (bZ (hn _ _ #[_,_,rfl,?_,((k1.trans k2).trans .push).late (HG _)]))
   rw[b7 e2];have ep:(ay bs u ps)[i]?=gV ((u.getD ps[i] (0,[])).1,(ps.take i).map λq=>d4 bs u ps[i] q):=by
    unfold ay;rw[Hy,Jm hi',Ij,getD_some hp]
   rw[II,ep];simp[bn,LH]
 ·rintro ρ S1 ⟨a4,a5,rfl,e1,k1⟩;rw[HE,<- dz bs u ps,IP]at e1;refine hK _ _ (st ?_);dsimp only[wS,wE,wA,wV,wG];exact eD e1 (k _ k1)
theorem ke (G:Gen defs)(k:Q (.ref S.length,S++[.lst (aC.map λt=>W.tup (am t))])):wO (br (au defs fuel (d+1)) "_law_turns" 0 [] S) Q:=by
 refine az G.turns rfl rfl λQ' hR=>?_
 dsimp only[gc];refine st ?_;dsimp only[wS,wE,wA];exact hR _ _ k
theorem fD (bt:Hu->Hu->HV):∀n:Hu,argBest bt n<=n
 | 0=>HG _
 | n+1=>by have:=fD bt n; simp only[argBest]; split <;> omega
theorem iF (G:Gen defs){m0 b0:W}{ns:Hm HL}{bs:Hm HF}{a:Hu}{u:Wd}(hb:GoodB bs)(hl:ns.length=bs.length)(hu:GoodW a bs.length u)(h3:u.length=3)(k:∀S',Ka S S'->Q (aD (kZ bs u),S')) :
  wO (br (au defs fuel (d+3)) "_law_figure" 2 [.tup [m0,.tup (HM bp ns bs),b0],aD u] S) Q:=by
 refine az G.figure rfl rfl λQ' hR=>?_
 replace k:∀S',Ka S S'->Q' (.rt (aD (kZ bs u)),S'):=λS' a=>hR _ _ (k S' a)
 clear hR;show wZ _ _ dZ [gV (.tup [m0,.tup (HM bp ns bs),b0]),gV (aD u)] S Q';generalize hR0:W.tup [m0,.tup (HM bp ns bs),b0]=R;dsimp only[dZ];refine st ?_;dsimp only[wS,wE,wA];refine tj S.length (aC.map λt=>W.tup (am t)) (λi ys ρ2 S2=>(∃a1,ρ2=[td,a1,gV R,gV (aD u)])/\ys=((aC.take i).map λt=>aD (ay bs u t))/\Ka (S++[.lst (aC.map λt=>W.tup (am t))]) S2) rfl rfl rfl ?_ ?_ ?_ ?_
 ·dsimp only[wE,wA];exact ke (d:=d+1) G #[rfl,#[td,rfl],rfl,.refl]
 ·rintro i ys ρ2 S2 ⟨_,_,k2⟩;exact k2.get _ _ ak
 ·rintro i w ys ρ2 S2 hw ⟨⟨a1,rfl⟩,rfl,k2⟩;rw[Hy,Hs]at hw;obtain⟨t,ht,rfl⟩:=hw;have ht3:(∀p∈t,p < 3)/\t.Nodup/\t.length < 1000:=by
   have:∀t∈aC,(∀p∈t,p < 3)/\t.Nodup/\t.length < 1000:=by decide
   exact this t (HR ht)
  refine ac (show fX (.nm 1) (.tup (am t)) [td,a1,gV R,gV (aD u)] S2=gV ([td,gV (.tup (am t)),gV R,gV (aD u)],S2)from rfl) ?_
  dsimp only[iV,wC,wE,wA,wV,wG];subst hR0;refine#[λ_=>xB (d:=d) G hb hl hu (λp hp=>by rw[h3]; exact ht3.1 p hp) ht3.2.1 ht3.2.2 λS3 k3=>#[#[_,rfl],?_,k2.trans k3],λz=>by cases z]
  rw[II,ht];simp
 ·rintro ys ρ2 S2 ⟨_,rfl,k2⟩;have e:((aC.take (aC.map λt=>W.tup (am t)).length).map λt=>aD (ay bs u t))=(aC.map (ay bs u)).map aD:=by
   rw[Hq,IP,JQ]; rfl
  rw[e];refine#[gd rfl,ac (a:=(aD (kZ bs u),S2++[.lst ((aC.map (ay bs u)).map aD)])) ?_ (k _ ((Ka.push.trans k2).trans .push))];simp only[Bi.fn,zx,aL ak,BA];rw[HW #[by have:=jd (aC.map (ay bs u)); unfold eJ; omega,mT _]]
  unfold kZ;have hlt:nT ((aC.map (ay bs u)).map du) < (aC.map (ay bs u)).length:=M7 (fD _ _) (by decide:5 < 6)
  rw[Hy,aA (d:=[]) hlt];rfl
end
noncomputable def ab (xs:Hm HF):Hm W:=xs.map W.int
noncomputable def iG (us:Hm Wd):Hm Wd:=eY (Bj (us.map du)) [] us
theorem xC {α β:Type}{lt:Hu->Hu->HV}{d:α}{d':β}{f:α->β}{us:Hm α}:eY lt d' (us.map f)=(eY lt d us).map f:=by
 unfold eY;rw[Hq];split
 ·rfl
 ·rw[JQ];refine JM λi hi=>?_
  have hl:i < us.length:=nU ∅ i hi
  simp[hl]
theorem rM {S:aa}{x:W}{us:Hm Wd}(h:en S x=gV (us.map aD))(h64:us.length < 64)(hne:∀u∈us,u≠[]):iw [x] S=gV (.ref S.length,S++[.lst ((iG us).map aD)]):=by
 have ok:nS (us.map du)=true:=by
  unfold nS;simp only[Hw,JK,Ii,Hq];exact#[#[h64,by have:=jd us; unfold eJ; omega],.inr #[Dh us hne,mT us]]
 simp only[iw,h,BA];rw[HW ok,xC (d:=[])];rfl
noncomputable def cM (ms ns:Hm HL)(bs:Hm HF)(us:Hm Wd):W:=.tup [.tup (ms.map W.str),.tup (HM bp ns bs),.tup (us.map aD)]
structure GoodN (ms ns:Hm HL):Prop where
 name:∀y∈ms++ns,Name y
 nd:(rL++(ms++ns)).Nodup
theorem GoodW.nil {a n:Hu}:GoodW a n []:=#[λk p h=>(by simp at h),λk p h=>(by simp at h),λk p h=>(by simp at h)]
theorem GoodW.snoc {a n:Hu}{u:Wd}{m:HF}{ws:Hm HF}(h:GoodW a n u)(h1:0<=m/\m < a)(h2:ws.length=u.length)(h3:∀w∈ws,0<=w/\w < (n:HF)):GoodW a n (u++[(m,ws)]):=by
 have key:∀(k:Hu) (p:Pt),(u++[(m,ws)])[k]?=gV p->u[k]?=gV p\/(k=u.length/\p=(m,ws)):=λk p e=>by
  rcases OR k u.length with hk|hk
  ·rw[Im hk]at e; exact .inl e
  ·rw[Je hk]at e;have:k - u.length=0:=by
    have:=(HI.mp e).1;simp at this; omega
   rw[this]at e;cases e;exact .inr #[∅,rfl]
 refine#[λk p e=>?_,λk p e=>?_,λk p e=>?_] <;> rcases key k p e with e|⟨rfl,rfl⟩
 ·exact h.mark k p e
 ·exact h1
 ·exact h.len k p e
 ·exact h2
 ·exact h.way k p e
 ·exact h3
theorem GoodB.at {bs:Hm HF}(h:GoodB bs){x:HF}(h0:0<=x)(h1:x < bs.length):bs[x.toNat]?=gV (bs.getD x.toNat 0)/\0<=bs.getD x.toNat 0/\bs.getD x.toNat 0 < bs.length:=by
 obtain⟨b,h2,h3⟩:=h.rng x.toNat ∅
 rw[getD_some h2];exact#[h2,h3]
theorem xD {S:aa}{x:W}{us:Hm Wd}{Q:QW}(h:en S x=gV (us.map aD))(h64:us.length < 64)(hne:∀u∈us,u≠[])(q:Q (.ref S.length,S++[.lst ((iG us).map aD)])):wO (Bi.sorted.fn [x] S) Q:=by
 refine ac ?_ q;exact rM h h64 hne
noncomputable def xE:Hm (Hu×Hu):=[(1,1),(2,1),(3,1),(1,2),(1,2),(2,2),(2,2),(3,2),(1,3),(1,3),(2,3)]
theorem xF:∀p∈xE,1<=p.1/\p.1<=3/\1<=p.2/\p.2<=3/\p.1*p.2<=6:=by decide
noncomputable def lb:Hu->Hm (Hm HF)
 | 1=>[[0]]
 | 2=>[[0,1],[1,0]]
 | _=>[[0,1,2],[1,0,2],[0,2,1]]
theorem xG:∀n:Hu,1<=n->n<=3->(∀b∈lb n,GoodB b/\b.length=n)/\0 < (lb n).length/\(lb n).length<=3
 | 1,_,_=>#[λb h=>by cases HN.mp h; exact#[.inl rfl,rfl],#v[],#v[]]
 | 2,_,_=>#[λb h=>by
   rcases Iq.mp h with rfl|h
   ·exact#[.inr (.inl rfl),rfl]
   ·cases HN.mp h; exact#[.inr (.inr (.inl rfl)),rfl],#v[],#v[]]
 | 3,_,_=>#[λb h=>by
   rcases Iq.mp h with rfl|h
   ·exact#[.inr (.inr (.inr (.inl rfl))),rfl]
   ·rcases Iq.mp h with rfl|h
    ·exact#[.inr (.inr (.inr (.inr (.inl rfl)))),rfl]
    ·cases HN.mp h; exact#[.inr (.inr (.inr (.inr (.inr rfl)))),rfl],#v[],#v[]]
 | 0,h,_=>absurd h #v[]
 | n+4,_,h=>absurd h ∅
section
variable{defs:Hm (HL×Df)}{fuel d:Hu}{S:aa}{r:Hu}{Q:QW}
theorem tu (G:Gen defs)(hf:Fl S r)(k:∀(a n:Hu) S',1<=a->a<=3->1<=n->n<=3->a*n<=6->Fl S' r->Kp r S S'->Q (.tup [.int a,.int n],S')) :
  wO (br (au defs fuel (d+2)) "_law_sizes" 1 [.ref r] S) Q:=by
 refine az G.sizes rfl rfl λQ' hR=>?_
 show wZ _ _ eN [gV (.ref r),td] S Q';dsimp only[eN];refine st ?_;dsimp only[wS,wE,wA,HD];refine st ?_;dsimp only[wS,wE,wA,wV,wG];refine bq (d:=d) G.pick (hf.ka .push) #v[] #v[] λv S1 v0 v1 f1 k1=>?_
 have e:=k1.get _ _ (Ke hf.lt) ak;obtain⟨p,hp,ep⟩:=on (f:=λp:Hu×Hu=>W.tup [.int p.1,.int p.2]) (xs:=xE) (i:=v.toNat) (by show v.toNat < 11; omega)
 obtain⟨a1,a3,n1,n3,an⟩:=xF p hp;exact kW e v0 ep (hR _ _ (k _ _ _ a1 a3 n1 n3 an f1 (Kp.push.trans k1)))
theorem tw (G:Gen defs){n:Hu}(hf:Fl S r)(h1:1<=n)(h3:n<=3)(k:∀(bs:Hm HF) S',GoodB bs->bs.length=n->Fl S' r->Kp r S S'->Q (.tup (ab bs),S')) :
  wO (br (au defs fuel (d+2)) "_law_backs" 2 [.ref r,.int n] S) Q:=by
 refine az G.backs rfl rfl λQ' hR=>?_
 replace k:∀(bs:Hm HF) S',GoodB bs->bs.length=n->Fl S' r->Kp r S S'->Q' (.rt (.tup (ab bs)),S'):=λz S' a b c e=>hR _ _ (k z S' a b c e)
 clear hR;show wZ _ _ eM [gV (.ref r),gV (.int n),td] S Q';dsimp only[eM];refine bf λK hK=>?_
 dsimp only[wS,wE,wA,wV,wG,HD];dsimp only[mO,bm];obtain⟨hg,g0,g3⟩:=xG n h1 h3;have fin:∀(t:Hu) (S1:aa),S.length<=t->S1[t]?=gV (.lst ((lb n).map λb=>.tup (ab b)))->Ka S S1->K [gV (.ref r),gV (.int n),gV (.ref t)] S1:=by
  intro t S1 ht et ka;refine hK _ _ (st ?_);dsimp only[wS,wE,wA,wV,wG];refine mR et ?_;rw[Hq];refine bq (d:=d) G.pick (hf.ka ka) ∅ ∅ λv S2 v0 v1 f2 k2=>?_
  have e2:=k2.get _ _ (by have:=hf.lt; omega) et
  obtain⟨b,hb,eb⟩:=on (f:=λb:Hm HF=>W.tup (ab b)) (xs:=lb n) (i:=v.toNat) ∅
  exact kW e2 v0 eb (k b S2 (hg b hb).1 (hg b hb).2 f2 ((ka.kp r).trans k2))
 clear hK g0 g3 hg;rcases(show n=1\/n=2\/n=3 by omega)with rfl|rfl|rfl
 ·exact dQ (i:=0) ak rfl (fin _ _ (HG _) (aq (aq (aq ak))) (Ka.push.trans (Ka.push.trans (Ka.push.trans .push))))
 ·exact dQ (i:=1) ak rfl (fin _ _ (by simp) (aq (aq ak)) (Ka.push.trans (Ka.push.trans (Ka.push.trans .push))))
 ·exact dQ (i:=2) ak rfl (fin _ _ (by simp only[HA]; omega) (aq ak) (Ka.push.trans (Ka.push.trans (Ka.push.trans .push))))
theorem gx (hfu:20 < fuel)(G:Gen defs){a:Hu}{bs:Hm HF}{x:W}{us:Hm Wd}(hf:Fl S r)(ha:a<=3)(hb:bs.length<=3)(hx:∀S',Kp r S S'->en S' x=gV (us.map aD))(h64:us.length < 64)(hne:∀u∈us,u≠[])
  (k:∀(ms ns:Hm HL) S',ms.length=a->ns.length=bs.length->GoodN ms ns->Fl S' r->Kp r S S'->Q (cM ms ns bs (iG us),S')) :
  wO (br (au defs fuel (d+5)) "_law_rule_of" 4 [.ref r,.int a,.tup (ab bs),x] S) Q:=by
 refine az G.rule_of rfl rfl λQ' hR=>?_
 replace k:∀(ms ns:Hm HL) S',ms.length=a->ns.length=bs.length->GoodN ms ns->Fl S' r->Kp r S S'->Q' (.rt (cM ms ns bs (iG us)),S'):=λz y S' a b c e f=>hR _ _ (k z y S' a b c e f)
 clear hR;show wZ _ _ dF [gV (.ref r),gV (.int a),gV (.tup (ab bs)),gV x,td,td] S Q';have hbl:(ab bs).length=bs.length:=Hq ..;dsimp only[dF];refine bf λK hK=>?_
 dsimp only[wS,wE,wA,wV,wG,HD];refine bC ?_;rw[hbl];dsimp only[dW,bm];refine Au (d:=d) (m:=a+bs.length) hfu G hf ∅ λys S1 q2 q3 q4 f1 k1=>hK _ _ ?_
 clear hK K;have hzl:(HM bp (ys.drop a) bs).length=bs.length:=by
  rw[KC,Kd]; omega
 refine bf λK hK=>?_
 dsimp only[wS,wE,wA,HD];refine eL (bs.length:HF) (λk zs ρ2 S2=>(∃a1,ρ2=[td,a1,gV (.tup (ab bs)),gV (.int a),gV (.tup (ys.map W.str))])/\zs=((HM bp (ys.drop a) bs).take k)/\S2=S1) rfl rfl rfl ∅ ?_ ?_ ?_
 ·dsimp only[wE,wA,wV,wG];refine bC ?_;rw[hbl];exact#[rfl,#[td,rfl],rfl,rfl]
 ·rintro i zs ρ2 S2 hi ⟨⟨a1,rfl⟩,rfl,rfl⟩;clear hK;have hi':i < bs.length:=∅
  have h1:a+i < ys.length:=∅
  dsimp only[iV,wC,wE,wA,wV,wG,HD,dW,bm];refine#[λ_=>aj ∅ (w:=.str ys[a+i]) ?_ (aj ∅ (w:=.int bs[i]) ?_ #[#[_,rfl],?_,rfl]),λz=>by cases z]
  ·rw[show((a:HF)+(i:HF)).toNat=a+i by omega,Hy,HK h1]; rfl
  ·unfold ab;rw[HE,Hy,HK hi']; rfl
  ·have ez:(HM bp (ys.drop a) bs)[i]?=gV (bp ys[a+i] bs[i]):=la (by rw[List.getElem?_drop]; exact HK h1) (HK hi')
   rw[II,ez];rfl
 ·rintro zs ρ2 S2 ⟨_,rfl,rfl⟩;rw[HE,<- hzl,IP];refine#[mQ ∅,eD ak (hK _ _ ?_)]
  clear hK K;refine st ?_;dsimp only[wS,wE,wA,wP,wV,wG,wN];have hs:lF (.tup (ys.map W.str)) td (gV (a:HF)) (S2++[O.lst (HM bp (ys.drop a) bs)])=gV (.tup ((ys.take a).map W.str),S2++[O.lst (HM bp (ys.drop a) bs)]):=by
   simp only[lF,eE];rw[KI]
  refine ac hs (xD (hx _ (k1.trans .push)) h64 hne (eD ak ?_));refine k (ys.take a) (ys.drop a) _ ?_ ?_ #[?_,?_] ((f1.ka .push).ka .push) (k1.trans (Kp.push.trans .push))
  ·rw[Il]; omega
  ·rw[Kd]; omega
  ·rw[Mr]; exact q3
  ·rw[Mr]; exact q4
theorem fE (hfu:20 < fuel)(G:Gen defs){a:Hu}{bs:Hm HF}(hf:Fl S r)(ha:a<=3)(hb:bs.length<=3)
  (k:∀(ms ns:Hm HL) S',ms.length=a->ns.length=bs.length->GoodN ms ns->Fl S' r->Kp r S S'->Q (cM ms ns bs [],S')) :
  wO (br (au defs fuel (d+5)) "_law_rule_of" 4 [.ref r,.int a,.tup (ab bs),.tup []] S) Q:=
 gx hfu G hf ha hb (us:=[]) (λ_ _=>rfl) #v[] (λ_ h=>nomatch h) k
theorem draws {Φ:HL->FF}{ρ:Fm}{elt e:E}{cap:Hm (Ht Hu)}{n i:Hu}{R:Fm}(oe:eA elt=true)(oi:eA e=true)(h1:i<=1000)(hc:fN cap ρ=td::td::R)(hf:Fl S r)(he:∀Q:QW,Q (.int i,S)->wE Φ e ρ S Q)
  (hp:∀(a:Ht W) (S1:aa) (Q:QW),Fl S1 r->(∀v S',0<=v->v < (n:HF)->Fl S' r->Kp r S1 S'->Q (.int v,S'))->wE Φ elt (td::a::R) S1 Q)
  (k:∀(vs:Hm HF) S',vs.length=i->(∀w∈vs,0<=w/\w < (n:HF))->Fl S' r->Kp r S S'->Q (.ref S'.length,S'++[.lst (ab vs)])) :
  Wp (aK Φ (.comp elt (.nm 1) (.rng #v[e]) .nil cap) ρ S) Q:=by
 refine eL (i:HF) (λj ys ρ2 S3=>(∃a1,ρ2=td::a1::R)/\(∃vs:Hm HF,ys=ab vs/\vs.length=j/\∀w∈vs,0<=w/\w < (n:HF))/\Fl S3 r/\Kp r S S3) oi oe rfl ∅ (he _ #[rfl,#[td,hc],#[[],rfl,rfl,λ_ h=>nomatch h],hf,.refl]) ?_ ?_
 ·rintro j ys ρ2 S3 hj ⟨⟨a1,rfl⟩,⟨vs,rfl,hvl,hv⟩,f3,k3⟩;refine#[λ_=>hp _ _ _ f3 λv S4 v0 v1 f4 k4=>#[#[_,rfl],#[vs++[v],(Ip (l₁:=vs) (l₂:=[v])).symm,by rw[HA,hvl]; rfl,λw hw=>?_],f4,k3.trans k4],λz=>by cases z]
  rcases Iz.mp hw with h|h
  ·exact hv w h
  ·rw[HN.mp h]; exact#[v0,v1]
 ·rintro ys ρ2 S3 ⟨_,⟨vs,rfl,hvl,hv⟩,f3,k3⟩;rw[HE]at hvl;exact#[mQ (by rw[show(ab vs).length=vs.length from Hq ..]; omega),k vs S3 hvl hv f3 k3]
theorem iH (G:Gen defs){a n:Hu}(hf:Fl S r)(ha:0 < a)(ha3:a<=3)(hn:0 < n)(hn3:n<=3)(k:∀(u:Wd) S',u.length=3->GoodW a n u->Fl S' r->Kp r S S'->Q (aD u,S')) :
  wO (br (au defs fuel (d+2)) "_law_free_three" 3 [.ref r,.int a,.int n] S) Q:=by
 refine az G.free_three rfl rfl λQ' hR=>?_
 replace k:∀(u:Wd) S',u.length=3->GoodW a n u->Fl S' r->Kp r S S'->Q' (.rt (aD u),S'):=λz S' a b c e=>hR _ _ (k z S' a b c e)
 clear hR;show wZ _ _ cL [gV (.ref r),gV (.int a),gV (.int n),td,td] S Q';dsimp only[cL];have hrt:=hf.lt;refine st ?_;dsimp only[wS,wE,wA,HD];refine bf λK hK=>?_
 refine cV 3 (λk ρ S'=>∃a4 u,ρ=[gV (.ref r),gV (.int a),gV (.int n),gV (.ref S.length),a4]/\S'[S.length]?=gV (.lst (u.map bn))/\u.length=k/\GoodW a n u/\Fl S' r/\Kp r S S') rfl rfl #v[] #[rfl,td,[],rfl,ak,rfl,.nil,hf.ka .push,.push] ?_ ?_
 ·rintro i ρ S1 hi ⟨a4,u,rfl,e1,hul,hu,f1,k1⟩ Q2 hn' _;clear hK;refine st ?_;dsimp only[wS,wE,wA,wV,wG,HD];refine#[dP e1,bq (d:=d) G.pick f1 ∅ ∅ λv S2 v0 v1 f2 k2=>?_]
  have e2:=k2.get _ _ ∅ e1
  refine draws (n:=n) (i:=i) (R:=[gV (.ref r),gV (.int n)]) rfl rfl ∅ rfl f2 (λQ q=>q) (λa S1 Q f q=>bq (d:=d) G.pick f ∅ ∅ q) λvs S3 hvl hv f3 k3=>?_
  have e3:=aq (u:=O.lst (ab vs)) (k3.get _ _ ∅ e2)
  refine eD ak (kX e3 (by rw[Hq]; omega) (bZ (hn' _ _ #[_,u++[(v,vs)],rfl,?_,by rw[HA,hul]; rfl,hu.snoc #[v0,v1] (hvl.trans hul.symm) hv,(f3.ka .push).own hrt,(k1.trans (k2.trans (k3.trans .push))).late (HG _)])))
  rw[b7 e3,Ip]; rfl
 ·rintro ρ S1 ⟨a4,u,rfl,e1,hul,hu,f1,k1⟩;refine hK _ _ (st ?_);dsimp only[wS,wE,wA,wV,wG];exact eD e1 (k u _ hul hu f1 k1)
end
noncomputable def eH (n:Hu):Hm HF:=(HJ n).map λ(k:Hu)=>(k:HF)
noncomputable def qd (a n:Hu):Hm Wd:=(eH a).flatMap λm0=>(eH a).flatMap λm1=>(eH a).flatMap λm2=>(eH n).flatMap λw1=>(eH n).flatMap λw2=>(eH n).map λw3=>[(m0,[]),(m1,[w1]),(m2,[w2,w3])]
noncomputable def be (a:Hu)(bs:Hm HF):Hm Wd:=((qd a bs.length).map (kZ bs)).eraseDups
theorem dh {n:Hu}{x:HF}(h0:0<=x)(h1:x < n):x∈eH n:=Io.mpr #[x.toNat,Iy.mpr ∅,∅]
theorem uM {a n:Hu}{u:Wd}(h:GoodW a n u)(h3:u.length=3):u∈qd a n:=by
 match u,h3 with
 | [(m0,w0),(m1,w1),(m2,w2)],_=>
  have l0:=h.len 0 _ rfl;have l1:=h.len 1 _ rfl;have l2:=h.len 2 _ rfl;simp only at l0 l1 l2
  match w0,l0 with
  | [],_=>
   match w1,l1 with
   | [x],_=>
    match w2,l2 with
    | [y,z],_=>
     have a0:=h.mark 0 _ rfl;have a1:=h.mark 1 _ rfl;have a2:=h.mark 2 _ rfl;have b1:=h.way 1 _ rfl x (by simp)
     have b2:=h.way 2 _ rfl y (by simp)
     have b3:=h.way 2 _ rfl z (by simp)
     unfold qd;simp only[NM,Io];exact#[m0,dh a0.1 a0.2,m1,dh a1.1 a1.2,m2,dh a2.1 a2.2,x,dh b1.1 b1.2,y,dh b2.1 b2.2,z,dh b3.1 b3.2,rfl]
theorem Av {a:Hu}{bs:Hm HF}{u:Wd}(h:GoodW a bs.length u)(h3:u.length=3):kZ bs u∈be a bs:=by
 unfold be;rw[Lv];exact Io.mpr #[u,uM h h3,rfl]
structure SizeOk (a:Hu)(bs:Hm HF):Prop where
 pos:0 < a
 good:GoodB bs
 most:a*bs.length<=6
 a3:a<=3
theorem GK:(be 1 [0]).length < 64/\(be 2 [0]).length < 64/\(be 3 [0]).length < 64:=by decide +kernel
theorem FD:(be 1 [0,1]).length < 64/\(be 2 [0,1]).length < 64/\(be 1 [1,0]).length < 64/\(be 2 [1,0]).length < 64:=by decide +kernel
theorem GL:(be 1 [0,1,2]).length < 64/\(be 1 [1,0,2]).length < 64/\(be 1 [0,2,1]).length < 64:=by decide +kernel
theorem GM:(be 3 [0,1]).length < 64:=by decide +kernel
theorem GN:(be 3 [1,0]).length < 64:=by decide +kernel
theorem GP:(be 2 [0,1,2]).length < 64:=by decide +kernel
theorem GQ:(be 2 [1,0,2]).length < 64:=by decide +kernel
theorem GR:(be 2 [0,2,1]).length < 64:=by decide +kernel
theorem ou {a:Hu}{bs:Hm HF}(h:SizeOk a bs):(be a bs).length < 64:=by
 obtain⟨h0,hb,hm,h3⟩:=h;have ha:a=1\/a=2\/a=3:=∅
 rcases hb with rfl|rfl|rfl|rfl|rfl|rfl <;> rcases ha with rfl|rfl|rfl
 ·exact GK.1
 ·exact GK.2.1
 ·exact GK.2.2
 ·exact FD.1
 ·exact FD.2.1
 ·exact GM
 ·exact FD.2.2.1
 ·exact FD.2.2.2
 ·exact GN
 ·exact GL.1
 ·exact GP
 ·simp at hm
 ·exact GL.2.1
 ·exact GQ
 ·simp at hm
 ·exact GL.2.2
 ·exact GR
 ·simp at hm
theorem xH (bs:Hm HF)(u:Wd):∃t∈aC,kZ bs u=ay bs u t:=by
 have h7:(aC.map (ay bs u)).length=6:=by rw[Hq]; rfl
 have h8:((aC.map (ay bs u)).map du).length=6:=by rw[Hq,h7]
 have hlt:nT ((aC.map (ay bs u)).map du) < (aC.map (ay bs u)).length:=by
  unfold nT;have h6:=fD (Bj ((aC.map (ay bs u)).map du)) (((aC.map (ay bs u)).map du).length - 1);rw[h7]; omega
 unfold kZ;rw[getD_some (HK hlt)];obtain⟨t,ht,e⟩:=Io.mp (IT hlt);exact#[t,ht,e.symm]
theorem Aw (bs:Hm HF)(u:Wd):kZ bs u≠[]:=by
 obtain⟨t,ht,e⟩:=xH bs u;rw[e];have:∀t∈aC,t≠[]:=by decide
 have h:=this t ht;intro z;have hl:(ay bs u t).length=t.length:=by simp[ay]
 rw[z]at hl;exact h (KR.mp hl.symm)
theorem qe:∀ {xs ys:Hm HF},xs.map T.int=ys.map T.int->xs=ys
 | [],[],_=>rfl
 | [],_::_,h=>by cases h
 | _::_,[],h=>by cases h
 | x::xs,y::ys,h=>by
  rw[Jr,Jr]at h;injection h with h1 h2
  injection h1 with h1
  rw[h1,qe h2]
theorem Ax {p q:Pt}(h:qa p=qa q):p=q:=by
 unfold qa at h;injection h with h
 injection h with h1 h2
 injection h1 with h1
 injection h2 with h2 _
 injection h2 with h2
 exact PC h1 (qe h2)
theorem Ay {u v:Wd}(h:du u=du v):u=v:=by
 unfold du at h;injection h with h
 have inj:∀ {u v:Wd},u.map qa=v.map qa->u=v:=by
  intro u
  induction u with
  | nil=>intro v h; cases v with
   | nil=>rfl
   | cons _ _=>cases h
  | cons p u ih=>intro v h; cases v with
   | nil=>cases h
   | cons q v=>
    rw[Jr,Jr]at h;injection h with h1 h2
    rw[Ax h1,ih h2]
 exact inj h
theorem je {kvs:Hm (T×W)}{k:T}{v:W}:(eG kvs k v).map (·.1)=if k∈kvs.map (·.1)then kvs.map (·.1)else kvs.map (·.1)++[k]:=by
 have hany:(kvs.any λp=>decide (p.1=k))=decide (k∈kvs.map (·.1)):=by
  induction kvs with
  | nil=>rfl
  | cons p kvs ih=>
   rw[JR,ih,Jr]
   by_cases e:p.1=k
   ·subst e; simp
   ·rw[Ig e,MS];have:(k∈p.1::kvs.map (·.1))=(k∈kvs.map (·.1)):=by simp[Ne.symm e]
    simp only[this]
 unfold eG;rw[hany]
 by_cases h:k∈kvs.map (·.1)
 ·rw[HW h,HW (Jg h),JQ];refine JM λp _=>?_
  show(if p.1=k then(p.1,v)else p).1=p.1
  split <;> rfl
 ·rw[Ix h,Ix (by simpa using h),Ip]
  rfl
structure FigD (L:Hm Wd)(kvs:Hm (T×W))(fs:Hm Wd):Prop where
 keys:kvs.map (·.1)=fs.map du
 nd:fs.Nodup
 mem:∀f∈fs,f∈L
theorem FigD.nil {L:Hm Wd}:FigD L [] []:=#[rfl,Mz,λ_ h=>nomatch h]
theorem FigD.len {L:Hm Wd}{kvs:Hm (T×W)}{fs:Hm Wd}(h:FigD L kvs fs):kvs.length=fs.length/\fs.length<=L.length:=by
 have:=congrArg OZ h.keys;rw[Hq,Hq]at this;exact#[this,rK fs L h.nd h.mem]
theorem FigD.put {L:Hm Wd}{kvs:Hm (T×W)}{fs:Hm Wd}{f:Wd}{v:W}(h:FigD L kvs fs)(hf:f∈L):∃fs',FigD L (eG kvs (du f) v) fs':=by
 by_cases hm:f∈fs
 ·refine#[fs,?_,h.nd,h.mem];rw[je,HW (by rw[h.keys]; exact Io.mpr #[f,hm,rfl]),h.keys]
 ·refine#[fs++[f],?_,?_,λg hg=>?_]
  ·rw[je,Ix,h.keys,Ip]
   ·rfl
   ·rw[h.keys];intro z;obtain⟨g,hg,e⟩:=Io.mp z;exact hm (Ay e ▸ hg)
  ·rw[List.nodup_append];refine#[h.nd,by simp,λa ha b hb e=>?_]
   rw[HN.mp hb]at e;exact hm (e ▸ ha)
  ·rcases Iz.mp hg with h'|h'
   ·exact h.mem g h'
   ·rw[HN.mp h']; exact hf
theorem FigD.items {S:aa}{t:Hu}{L:Hm Wd}{kvs:Hm (T×W)}{fs:Hm Wd}(h:FigD L kvs fs)(e:S[t]?=gV (.dic kvs)):en S (.ref t)=gV (fs.map aD):=by
 simp only[en,ol e,cK e,Ij];congr 1;have:(kvs.map (·.1)).map T.w=(fs.map du).map T.w:=by rw[h.keys]
 rw[JQ,JQ]at this
 calc kvs.map (λp=>p.1.w)=kvs.map (T.w∘λx=>x.1):=rfl
  _=fs.map (T.w∘du):=this
  _=fs.map aD:=by
   refine JM λf _=>?_
   exact xw f
theorem qf {a:Hu}{bs:Hm HF}{f:Wd}(h:f∈be a bs):f≠[]:=by
 unfold be at h;rw[Lv]at h;obtain⟨u,_,rfl⟩:=Io.mp h;exact Aw bs u
theorem xI {S:aa}{t:Hu}{kvs:Hm (T×W)}{u:Wd}{v:W}(h:S[t]?=gV (.dic kvs))(hl:kvs.length < sizeLine):iu (.ref t) (aD u) v S=gV (S.set t (.dic (eG kvs (du u) v))):=by
 have hk:=oo u;unfold aD at hk ⊢;simp only[iu,nM,h,hk];rw[HW hl]
structure RuleAt (a:Hu)(bs:Hm HF)(ms ns:Hm HL)(gs:Hm Wd):Prop where
 size:SizeOk a bs
 ml:ms.length=a
 nl:ns.length=bs.length
 nm:GoodN ms ns
 nd:gs.Nodup
 mem:∀g∈gs,g∈be a bs
noncomputable def dA (w:W):Prop:=∃a bs ms ns gs,w=cM ms ns bs (iG gs)/\RuleAt a bs ms ns gs
section
variable{Φ:HL->FF}{fuel:Hu}{ρ:Fm}{S:aa}{K:Fm->aa->Prop}{Q:QO}
theorem lc {i0:Hu}{e:E}{b:Ss}(oe:eA e=true)(ok:ga b=true)(he:wE Φ e ρ S λp=>∃(j:HF) (I:Hu->Fm->aa->Prop),p.1=.int j/\(-(2 ^ 62)<=j/\j < 2 ^ 62)/\I 0 ρ p.2/\
  (∀(i:Hu) (ρ:Fm) (S:aa),(i:HF) < j->I i ρ S->uK Φ fuel b (ρ.set i0 (gV (.int i))) S (I (i+1)) Q)/\∀ρ S,I j.toNat ρ S->K ρ S):Wp (fR Φ fuel (.loop (.nm i0) (.rng #v[e]) b) ρ S) (p8 K Q):=by
 obtain⟨w,S1,e1,j,I,rfl,hj,h0,hs,hend⟩:=cG oe he;have hl:(dk 0 j.toNat).length=j.toNat:=by simp[dk]
 refine gb (mi:=.its (dk 0 j.toNat)) (S1:=S1) (xs:=dk 0 j.toNat) I ok ?_ (λ_ _ _ _=>rfl) rfl h0 (λi w ρ S hw hI=>?_) λρ S hI=>hend ρ S (hl ▸ hI)
 ·simp only[j8,dq,dU,iz,rA,e1];rw[HW hj]
 ·rw[eu]at hw;split at hw
  ·rename_i hk;cases hw;rw[K4];exact hs i ρ S ∅ hI
  ·cases hw
theorem fm {tg:Tg}{e:E}{b:Ss}(oe:eA e=true)(ok:ga b=true)(he:wE Φ e ρ S λp=>∃(t:Hu) (xs:Hm W) (I:Hu->Fm->aa->Prop),p.1=.ref t/\I 0 ρ p.2/\(∀i ρ S,I i ρ S->S[t]?=gV (.lst xs))/\
  (∀(i:Hu) (w:W) (ρ:Fm) (S:aa),xs[i]?=gV w->I i ρ S->wO (fX tg w ρ S) λq=>uK Φ fuel b q.1 q.2 (I (i+1)) Q)/\∀ρ S,I xs.length ρ S->K ρ S):Wp (fR Φ fuel (.loop tg (.seq e) b) ρ S) (p8 K Q):=by
 obtain⟨w,S1,e1,t,xs,I,rfl,h0,hat,hs,hend⟩:=cG oe he;exact gb (mi:=.live t) (S1:=S1) I ok (by simp only[j8,fM,e1,aL (hat _ _ _ h0)]) (λi ρ S h=>by simp only[MI.at,aL (hat _ _ _ h)]) (by simp only[MI.len,aL (hat _ _ _ h0),Ij]) h0 hs hend
end
section
variable{defs:Hm (HL×Df)}{fuel d:Hu}{S:aa}{r:Hu}{Q:QW}
theorem tz {q:Hu}{a:Hu}{bs:Hm HF}{ms ns:Hm HL}{fs0:Hm Wd}{kvs:Hm (T×W)}{fs:Hm Wd}(h3:S[q]?=gV (.dic kvs))(h4:FigD (be a bs) kvs fs)(hs:SizeOk a bs)(hml:ms.length=a)(hnl:ns.length=bs.length)(hnm:GoodN ms ns)(k:∀w S',dA w->Ka S S'->Q (w,S')) :
  wO (lK (cM ms ns bs fs0) (.int 0) S) λp=>wO (lK (cM ms ns bs fs0) (.int 1) p.2) λq'=>wO (Bi.sorted.fn [.ref q] q'.2) λs=>wO (Bi.tuple.fn [s.1] s.2) λz=>Q (.tup [p.1,q'.1,z.1],z.2):=by
 refine aj #v[] rfl (aj #v[] rfl ?_)
 have hl:=h4.len;exact xD (h4.items h3) (by have:=ou hs; omega) (λf hf=>qf (h4.mem f hf)) (eD ak (k _ _ #[a,bs,ms,ns,fs,rfl,hs,hml,hnl,hnm,h4.nd,h4.mem] .push))
theorem tB {q:Hu}{a:Hu}{bs:Hm HF}{u:Wd}{kvs:Hm (T×W)}{fs:Hm Wd}{Q:aa->Prop}(h3:S[q]?=gV (.dic kvs))(h4:FigD (be a bs) kvs fs)(hs:SizeOk a bs)(hu:GoodW a bs.length u)(hu3:u.length=3)
  (k:∀o,(∃kvs fs,(S.set q o)[q]?=gV (.dic kvs)/\FigD (be a bs) kvs fs)->Q (S.set q o)):wO (iu (.ref q) (aD (kZ bs u)) (.bl true) S) Q:=by
 have hl:=h4.len;have:=ou hs;obtain⟨fs',h5⟩:=h4.put (v:=.bl true) (Av hu hu3);exact ac (xI h3 (by rw[IH]; omega)) (k _ #[_,fs',b7 h3,h5])
theorem rN (hfu:20 < fuel)(G:Gen defs)(hf:Fl S r)(k:∀w S',dA w->Fl S' r->Kp r S S'->Q (w,S')):wO (br (au defs fuel (d+6)) "_law_any_rule" 1 [.ref r] S) Q:=by
 refine az G.any_rule rfl rfl λQ' hR=>?_
 replace k:∀w S',dA w->Fl S' r->Kp r S S'->Q' (.rt w,S'):=λz S' a b c=>hR _ _ (k z S' a b c)
 clear hR;show wZ _ _ de [gV (.ref r),td,td,td,td,td] S Q';dsimp only[de];refine bf λK hK=>?_
 dsimp only[wS,wE,wA,wV,wG];refine tu (d:=d+3) G hf λa n S1 a1 a3 n1 n3 an f1 k1=>?_
 dsimp only[wU];refine ac (show dv [1,2] [.int a,.int n] [gV (.ref r),td,td,td,td,td]=gV [gV (.ref r),gV (.int a),gV (.int n),td,td,td]from rfl) (hK _ _ ?_)
 clear hK K;refine bf λK hK=>?_
 dsimp only[wS,wE,wA,wV,wG,HD];refine tw (d:=d+3) G f1 n1 n3 λbs S2 hb hbl f2 k2=>?_
 have hsz:SizeOk a bs:=#[∅,hb,by rw[hbl]; exact an,a3]
 refine fE (d:=d) hfu G f2 a3 ∅ λms ns S3 hml hnl hnm f3 k3=>hK _ _ ?_
 clear hK K;have hrt:=f3.lt;replace k3:Kp r S S3:=k1.trans (k2.trans k3);clear k1 k2 f1 f2;refine st ?_;dsimp only[wS,wE,HD];refine bf λK hK=>?_
 refine lc rfl rfl ?_;dsimp only[wE,wA,wV,wG];refine bq (d:=d+4) G.pick (f3.ka .push) #v[] #v[] λv S4 v0 v9 f4 k4=>?_
 refine#[v,λk ρ S'=>(∃a5,ρ=[gV (.ref r),gV (.int a),gV (.int n),gV (cM ms ns bs []),gV (.ref S3.length),a5])/\(∃kvs fs,S'[S3.length]?=gV (.dic kvs)/\FigD (be a bs) kvs fs)/\Fl S' r/\Kp r S S',rfl,∅,#[#[td,rfl],#[[],[],k4.get _ _ ∅ ak,.nil],f4,(k3.trans .push).trans k4],?_,?_]
 ·rintro i ρ S5 hi ⟨⟨a5,rfl⟩,⟨kvs,fs,e5,hd⟩,f5,k5⟩ Q2 hn _;clear hK;refine st ?_;dsimp only[wS,wE,wA,wV,wG,HD];refine iH (d:=d+3) G f5 ∅ a3 ∅ n3 λu S6 hu3 hu f6 k6=>?_
  have hu:GoodW a bs.length u:=hbl.symm ▸ hu;refine iF (d:=d+2) G hb hnl hu hu3 λS7 k7=>?_
  have e7:=k7.get _ _ (k6.get _ _ ∅ e5)
  exact tB e7 hd hsz hu hu3 λo ho=>bZ (hn _ _ #[#[_,rfl],ho,(f6.ka k7).own hrt,((k5.trans k6).trans (k7.kp r)).late k3.len])
 ·rintro ρ S5 ⟨⟨a5,rfl⟩,⟨kvs,fs,e5,hd⟩,f5,k5⟩;refine hK _ _ (st ?_);dsimp only[wS,wE,wA,wV,wG];exact tz (Q:=λp=>Q' (.rt p.1,p.2)) e5 hd hsz hml hnl hnm λw S6 hw k6=>k w S6 hw (f5.ka k6) (k5.trans (k6.kp r))
end
noncomputable def fq (t:HF×HF×HF):W:=.tup [.int t.1,.int t.2.1,.int t.2.2]
noncomputable def qg (a:Hu)(t:HF×HF×HF):Prop:=(0<=t.1/\t.1 < a)/\(0<=t.2.1/\t.2.1 < a)/\(0<=t.2.2/\t.2.2 < a)
noncomputable def xJ (k:HF):Wd:=[(k,[]),(k,[0]),(k,[0,0])]
theorem GU:∀k∈eH 1,xJ k∈be 1 [0]:=by decide +kernel
theorem GV:∀k∈eH 2,xJ k∈be 2 [0]:=by decide +kernel
theorem GX:∀k∈eH 3,xJ k∈be 3 [0]:=by decide +kernel
theorem Az {a:Hu}{k:HF}(h0:1<=a)(h3:a<=3)(hk:0<=k)(hk2:k < a):xJ k∈be a [0]:=by
 have ha:a=1\/a=2\/a=3:=∅
 rcases ha with rfl|rfl|rfl
 ·exact GU k (dh hk hk2)
 ·exact GV k (dh hk hk2)
 ·exact GX k (dh hk hk2)
theorem AA {a b:HF}(h:xJ a=xJ b):a=b:=by
 unfold xJ at h;injection h with h1 h2
 injection h1
theorem iI:GoodB [0]:=.inl rfl
theorem BB {S:aa}{i j:Hu}{xs:Hm W}(h1:S[i]?=gV (.lst xs))(h2:S[j]?=gV (.lst [])):b6 .eq (.ref i) (.ref j) S=gV (.bl xs.isEmpty,S):=by
 show(lE S (19+1) (.ref i) (.ref j)).map _=_;simp only[lE,cU h1,cU h2];cases xs with
 | nil=>rfl
 | cons x xs=>rfl
theorem AB {S:aa}{f:HF}{ws:Hm HF}:∃b,b6 .notin (.int f) (.tup (ab ws)) S=gV (.bl b,S):=by
 have hf:(ci (.int f)&&(ab ws).all ci)=true:=by
  simp only[ci,Kk,HX];intro x hx;obtain⟨z,_,rfl⟩:=Io.mp hx;rfl
 refine#[!(ab ws).any λz=>vc z (.int f),?_]
 show gA .notin (.int f) (.tup (ab ws)) S=_;simp only[gA,Bh,zh,eI,hf,Kf,Ij]
section
variable{Φ:HL->FF}{fuel:Hu}{ρ:Fm}{S:aa}{K:Fm->aa->Prop}{Q:QO}
theorem iJ {i0:Hu}{a b:E}{bd:Ss}(i j:HF)(I:Hu->Fm->aa->Prop)(oa:eA a=true)(ob:eA b=true)(ok:ga bd=true)(hj : -(2 ^ 62)<=i/\i < 2 ^ 62/\-(2 ^ 62)<=j/\j < 2 ^ 62)(he:wE Φ a ρ S λp=>p.1=.int i/\wE Φ b ρ p.2 λq=>q.1=.int j/\I 0 ρ q.2)
  (hstep:∀(k:Hu) (ρ:Fm) (S:aa),(k:HF) < j - i->I k ρ S->uK Φ fuel bd (ρ.set i0 (gV (.int (i+k)))) S (I (k+1)) Q) (hend:∀ρ S,I (j - i).toNat ρ S->K ρ S):Wp (fR Φ fuel (.loop (.nm i0) (.rng2 #v[a,b]) bd) ρ S) (p8 K Q):=by
 obtain⟨w,S1,e1,rfl,h1⟩:=cG oa he;obtain⟨w,S2,e2,rfl,h0⟩:=cG ob h1;have hl:(dk i (j - i).toNat).length=(j - i).toNat:=by simp[dk]
 refine gb (mi:=.its (dk i (j - i).toNat)) (S1:=S2) (xs:=dk i (j - i).toNat) I ok ?_ (λ_ _ _ _=>rfl) rfl h0 (λk w ρ S hw hI=>?_) λρ S hI=>hend ρ S (hl ▸ hI)
 ·simp only[j8,dq,dU,iz,iRng2,e1,e2];rw[HW hj]
 ·rw[eu]at hw;split at hw
  ·rename_i hk;cases hw;exact hstep k ρ S ∅ hI
  ·cases hw
theorem xK {elt a b:E}{i0:Hu}{cs:Es}{cap:Hm (Ht Hu)}{Q:QW}(i j:HF)(I:Hu->Hm W->Fm->aa->Prop)(oa:eA a=true)(ob:eA b=true)(oe:eA elt=true)(oc:p9 cs=true)(hj : -(2 ^ 62)<=i/\i < 2 ^ 62/\-(2 ^ 62)<=j/\j < 2 ^ 62)(he:wE Φ a ρ S λp=>p.1=.int i/\wE Φ b ρ p.2 λq=>q.1=.int j/\I 0 [] (fN cap ρ) q.2)
  (hstep:∀(k:Hu) (ys:Hm W) (ρ:Fm) (S:aa),(k:HF) < j - i->I k ys ρ S->iV Φ elt cs (ρ.set i0 (gV (.int (i+k)))) S (λy=>I (k+1) (ys++[y])) (I (k+1) ys))
  (hend:∀ys ρ S,I (j - i).toNat ys ρ S->ys.length<=sizeLine/\Q (.ref S.length,S++[.lst ys])):Wp (aK Φ (.comp elt (.nm i0) (.rng2 #v[a,b]) cs cap) ρ S) Q:=by
 obtain⟨w,S1,e1,rfl,h1⟩:=cG oa he;obtain⟨w,S2,e2,rfl,h0⟩:=cG ob h1;have hl:(dk i (j - i).toNat).length=(j - i).toNat:=by simp[dk]
 refine kU (mi:=.its (dk i (j - i).toNat)) (S1:=S2) (xs:=dk i (j - i).toNat) I oe oc ?_ (λ_ _ _ _ _=>rfl) rfl h0 (λk w ys ρ S hw hI=>?_) λys ρ S hI=>hend ys ρ S (hl ▸ hI)
 ·simp only[j8,dq,dU,iz,iRng2,e1,e2];rw[HW hj]
 ·rw[eu]at hw;split at hw
  ·rename_i hk;cases hw;exact hstep k ys ρ S ∅ hI
  ·cases hw
end
section
variable{defs:Hm (HL×Df)}{fuel d:Hu}{S:aa}{r:Hu}{Q:QW}
theorem qh (G:Gen defs){a:Hu}(ha:a<=3)(k:∀(q:Hu) (ts:Hm (HF×HF×HF)) (S':aa),S'[q]?=gV (.lst (ts.map fq))->(∀t∈ts,qg a t)->S.length<=q->Ka S S'->Q (.ref q,S')) :
  wO (br (au defs fuel (d+1)) "_law_rising" 1 [.int a] S) Q:=by
 refine az G.rising rfl rfl λQ' hR=>?_
 replace k:∀(q:Hu) (ts:Hm (HF×HF×HF)) (S':aa),S'[q]?=gV (.lst (ts.map fq))->(∀t∈ts,qg a t)->S.length<=q->Ka S S'->Q' (.rt (.ref q),S'):=λq ts S' a b c e=>hR _ _ (k q ts S' a b c e)
 clear hR;show wZ _ _ d3 [gV (.int a),td,td,td] S Q';dsimp only[d3];refine st ?_;dsimp only[wS,wE,wA,HD];refine bf λK hK=>?_
 refine cV (a:HF) (λi ρ S'=>∃(q:Hu) (ts:Hm (HF×HF×HF)) (a2 a3:Ht W),ρ=[gV (.int a),gV (.ref q),a2,a3]/\S'[q]?=gV (.lst (ts.map fq))/\(∀t∈ts,qg a t)/\S.length<=q/\ts.length<=9*i/\Ka S S') rfl rfl ∅ #[rfl,_,[],_,_,rfl,ak,λ_ h=>(nomatch h),HG _,J4 _,.push] ?_ ?_
 ·rintro i ρ S1 hi ⟨q,ts,a2,a3,rfl,e1,ht,hq,hl,k1⟩ Q2 hn _;clear hK k;refine bf λK hK=>?_
  refine iJ (i:HF) (a:HF) (λj ρ S'=>∃(q:Hu) (ts:Hm (HF×HF×HF)) (a3:Ht W),ρ=[gV (.int a),gV (.ref q),gV (.int i),a3]/\S'[q]?=gV (.lst (ts.map fq))/\(∀t∈ts,qg a t)/\S.length<=q/\ts.length<=9*i+3*j/\Ka S S') rfl rfl rfl ∅ #[rfl,rfl,q,ts,a3,rfl,e1,ht,hq,∅,k1] ?_ ?_
  ·rintro j ρ S2 hj ⟨q,ts,a3,rfl,e2,ht,hq,hl,k2⟩ Q3 hn3 _;clear hK hn;refine st ?_;dsimp only[wS,wE,wV,wG,HD];refine xK ((i:HF)+j) (a:HF) (λm ys ρ2 S3=>(∃a1,ρ2=[td,a1,gV (.int i),gV (.int ((i:HF)+j))])/\(∃us:Hm (HF×HF×HF),ys=us.map fq/\us.length=m/\∀t∈us,qg a t)/\S3=S2) rfl rfl rfl rfl ∅ #[rfl,rfl,#[td,rfl],#[[],rfl,rfl,λ_ h=>nomatch h],rfl] ?_ ?_
   ·rintro m ys ρ2 S3 hm ⟨⟨a1,rfl⟩,⟨us,rfl,hul,hu⟩,rfl⟩;refine#[λ_=>#[#[_,rfl],#[us++[((i:HF),(i:HF)+j,(i:HF)+j+m)],by rw[Ip]; rfl,by rw[HA,hul]; rfl,λt h=>?_],rfl],λz=>by cases z]
    rcases Iz.mp h with h|h
    ·exact hu t h
    ·rw[HN.mp h];exact#[#[∅,∅],#[by dsimp only; omega,by dsimp only; omega],#[by dsimp only; omega,by dsimp only; omega]]
   ·rintro ys ρ2 S3 ⟨_,⟨us,rfl,hul,hu⟩,rfl⟩;refine#[mQ (by rw[Hq]; omega),ac (rJ (aq e2) ak ?_) (bZ (hn3 _ _ #[_,ts++us,_,rfl,?_,λt h=>(Iz.mp h).elim (ht t) (hu t),?_,?_,k2.trans (Ka.push.trans .push)]))]
    ·refine mQ ?_;rw[HA,Hq,Hq];omega
    ·rw[Ip]; exact ak
    ·have:=k2.len;simp only[HA]; omega
    ·rw[HA]; omega
  ·rintro ρ S2 ⟨q,ts,a3,rfl,e2,ht,hq,hl,k2⟩;exact hK _ _ (bZ (hn _ _ #[q,ts,_,_,rfl,e2,ht,hq,∅,k2]))
 ·rintro ρ S1 ⟨q,ts,a2,a3,rfl,e1,ht,hq,hl,k1⟩;refine hK _ _ (st ?_);exact k q ts S1 e1 ht hq k1
theorem uN (hfu:20 < fuel)(G:Gen defs)(hf:Fl S r)(k:∀w S',dA w->Fl S' r->Kp r S S'->Q (w,S')):wO (br (au defs fuel (d+6)) "_law_one_way_rule" 1 [.ref r] S) Q:=by
 refine az G.one_way_rule rfl rfl λQ' hR=>?_
 replace k:∀w S',dA w->Fl S' r->Kp r S S'->Q' (.rt w,S'):=λz S' a b c=>hR _ _ (k z S' a b c)
 clear hR;show wZ _ _ cu [gV (.ref r),td,td] S Q';dsimp only[cu];refine bf λK hK=>?_
 dsimp only[wS,wE,wA,wV,wG,HD];refine bq (d:=d+4) G.pick hf #v[] #v[] λv S1 v0 v3 f1 k1=>?_
 dsimp only[dW,bm];obtain⟨a,ea⟩ : ∃a:Hu,1+v=a:=#[(1+v).toNat,∅]
 rw[ea];refine hK _ _ ?_;clear hK K;refine bf λK hK=>?_
 dsimp only[wS,wE,HD];refine eL (a:HF) (λk zs ρ2 S2=>(∃a1,ρ2=[td,a1,gV (.ref r)])/\(∃ks:Hm HF,zs=(ks.map xJ).map aD/\ks.Pairwise (·≠·)/\ks.length<=k/\∀x∈ks,0<=x/\x < k)/\Fl S2 r/\Kp r S1 S2) rfl rfl rfl ∅ #[rfl,#[td,rfl],#[[],rfl,.nil,HG _,λ_ h=>(nomatch h)],f1,.refl] ?_ ?_
 ·rintro i zs ρ2 S2 hi ⟨⟨a1,rfl⟩,⟨ks,rfl,hkp,hkl,hks⟩,f2,k2⟩;clear hK k;dsimp only[iV,wC,wT,wE,wA,wV,wG,HD];refine bq (d:=d+4) G.pick f2 #v[] #v[] λv S3 _ _ f3 k3=>?_
  dsimp only[kS,bm,wB];refine#[λ_=>#[#[_,rfl],#[ks++[(i:HF)],by simp[xJ,aD,bn],?_,by rw[HA]; exact K9 hkl,λx hx=>?_],f3,k2.trans k3],λ_=>#[#[_,rfl],#[ks,rfl,hkp,∅,λx hx=>#[(hks x hx).1,by have:=(hks x hx).2; omega]],f3,k2.trans k3]]
  ·rw[List.pairwise_append];refine#[hkp,by simp,λx hx y hy e=>?_]
   have:=(hks x hx).2;rw[HN.mp hy]at e;omega
  ·rcases Iz.mp hx with h|h
   ·exact#[(hks x h).1,by have:=(hks x h).2; omega]
   ·rw[HN.mp h]; omega
 ·rintro zs ρ2 S2 ⟨_,⟨ks,rfl,hkp,hkl,hks⟩,f2,k2⟩;rw[HE]at hkl hks;refine#[mQ (by rw[Hq,Hq]; omega),hK _ _ (st ?_)]
  clear hK K;dsimp only[wS,wE,wA,wV,wG,HD];have hlt:=f2.lt;refine gx (d:=d) (a:=a) (bs:=[0]) (us:=ks.map xJ) hfu G (f2.ka .push) ∅ #v[] (λS' kk=>?_) (by rw[Hq]; omega) (λu hu=>by obtain⟨x,_,rfl⟩:=Io.mp hu; exact List.cons_ne_nil _ _) λms ns S3 hml hnl hnm f3 k3=>?_
  ·simp only[en,aL (kk.get _ _ ∅ ak)]
  refine k _ _ #[a,[0],ms,ns,ks.map xJ,rfl,#[#[∅,iI,by simp; omega,∅],hml,hnl,hnm,?_,λg hg=>?_]] f3 (k1.trans (k2.trans (Kp.push.trans k3)))
  ·unfold Pk;rw[LI];exact hkp.imp λh e=>h (AA e)
  ·obtain⟨x,hx,rfl⟩:=Io.mp hg;exact Az ∅ ∅ (hks x hx).1 (hks x hx).2
theorem qi (hfu:20 < fuel)(G:Gen defs)(hf:Fl S r)(k:∀w S',dA w->Fl S' r->Kp r S S'->Q (w,S')):wO (br (au defs fuel (d+6)) "_law_free_rule" 1 [.ref r] S) Q:=by
 refine az G.free_rule rfl rfl λQ' hR=>?_
 replace k:∀w S',dA w->Fl S' r->Kp r S S'->Q' (.rt w,S'):=λz S' a b c=>hR _ _ (k z S' a b c)
 clear hR;show wZ _ _ cW [gV (.ref r),td,td,td,td,td,td,td,td] S Q';dsimp only[cW];refine bf λK hK=>?_
 dsimp only[wS,wE,wA,wV,wG];refine tu (d:=d+3) G hf λa n S1 a1 a3 n1 n3 an f1 k1=>?_
 dsimp only[wU];refine ac (show dv [1,2] [.int a,.int n] [gV (.ref r),td,td,td,td,td,td,td,td]=gV [gV (.ref r),gV (.int a),gV (.int n),td,td,td,td,td,td]from rfl) (hK _ _ ?_)
 clear hK K;refine bf λK hK=>?_
 dsimp only[wS,wE,wA,wV,wG,HD];refine tw (d:=d+3) G f1 n1 n3 λbs S2 hb hbl f2 k2=>?_
 have hsz:SizeOk a bs:=#[∅,hb,by rw[hbl]; exact an,a3]
 refine fE (d:=d) hfu G f2 a3 ∅ λms ns S3 hml hnl hnm f3 k3=>hK _ _ ?_
 clear hK K;have hrt:=f3.lt;replace k3:Kp r S S3:=k1.trans (k2.trans k3);clear k1 k2 f1 f2;refine bf λK hK=>?_
 dsimp only[wS,wE,HD];refine eL (n:HF) (λi zs ρ2 S2=>(∃a1,ρ2=[td,a1,gV (cM ms ns bs [])])/\(∃ks:Hm HF,zs=ab ks/\ks.length<=i)/\S2=S3) rfl rfl rfl ∅ #[rfl,#[td,rfl],#[[],rfl,HG _],rfl] ?_ ?_
 ·rintro i zs ρ2 S2 hi ⟨⟨a1,rfl⟩,⟨ks,rfl,hkl⟩,rfl⟩;clear hK k;have hi':i < bs.length:=∅
  dsimp only[iV,wC,wT,wE,wA,wV,wG,HD];refine aj #v[] rfl (aj (HB i) (by rw[HE]; exact la (HK ∅) (HK hi')) (aj #v[] rfl ?_))
  dsimp only[kS,bm,wB];exact#[λ_=>#[#[_,rfl],#[ks++[(i:HF)],by unfold ab; rw[Ip]; rfl,by rw[HA]; exact K9 hkl],rfl],λ_=>#[#[_,rfl],#[ks,rfl,∅],rfl]]
 ·rintro zs ρ2 S2 ⟨_,⟨ks,rfl,hkl⟩,rfl⟩;rw[HE]at hkl;have il:(ab ks).length=ks.length:=Hq ..;refine#[mQ ∅,hK _ _ ?_]
  clear hK K;refine bf λK hK=>?_
  dsimp only[wS,wT,wE,wA,wV,wG,HD];refine ac (BB (aq ak) ak) ?_;dsimp only[wB];have f4:=(f3.ka (Ka.push (o:=O.lst (ab ks)))).ka (Ka.push (o:=O.lst []));have k4:=k3.trans ((Kp.push (o:=O.lst (ab ks))).trans (Kp.push (o:=O.lst [])));have e4:=aq (u:=O.lst []) (ak (S:=S2) (o:=O.lst (ab ks)));have hl4:S2.length < (S2++[O.lst (ab ks)]++[O.lst []]).length:=by simp
  generalize hS4:S2++[O.lst (ab ks)]++[O.lst []]=S4 at f4 k4 e4 hl4;clear hS4;have ret:∀Q2:QO,(∀w S',Q' (.rt w,S')->Q2 (.rt w,S'))->wZ (au defs fuel (d+5)) fuel #v[.ret (.v 3)] [gV (.ref r),gV (.int a),gV (.int n),gV (cM ms ns bs []),td,gV (.ref S2.length),td,td,td] S4 Q2:=λQ2 hr=>st (hr _ _ (k _ _ #[a,bs,ms,ns,[],rfl,hsz,hml,hnl,hnm,.nil,λ_ h=>(nomatch h)] f4 k4))
  refine#[λ_=>ar (Q0:=Q') (λ_ Q2 _ hr=>ret Q2 hr) (λz=>by cases z),λhne=>?_]
  dsimp only[kS,bm,wB];refine ar (Q0:=Q') (λ_ Q2 _ hr=>ret Q2 hr) (λ_ Q2 hn _=>bZ (hn _ _ (hK _ _ ?_)))
  clear hK ret hn;have hk0:0 < ks.length:=by
   cases ks with
   | nil=>cases hne
   | cons x ks=>exact Nat.succ_pos _
  refine bf λK hK=>?_
  dsimp only[wS,wE,wA,wV,wG,HD];refine mR e4 ?_;rw[il];refine bq (d:=d+4) G.pick f4 ∅ ∅ λv S5 v0 v1 f5 k5=>?_
  have e5:=k5.get _ _ ∅ e4
  obtain⟨x,_,ex⟩:=on (f:=W.int) (xs:=ks) (i:=v.toNat) ∅
  refine kW e5 v0 ex (hK _ _ ?_);clear hK K;replace k5:Kp r S S5:=k4.trans k5;have hrt5:=f5.lt;refine st ?_;dsimp only[wS,wE,HD];refine bf λK hK=>?_
  refine lc rfl rfl ?_;dsimp only[wE,wA,wV,wG];refine bq (d:=d+4) G.pick (f5.ka .push) #v[] #v[] λv S6 v0 v9 f6 k6=>?_
  refine#[v,λ_ ρ S'=>(∃a4 a8,ρ=[gV (.ref r),gV (.int a),gV (.int n),gV (cM ms ns bs []),a4,gV (.ref S2.length),gV (.int x),gV (.ref S5.length),a8])/\(∃kvs fs,S'[S5.length]?=gV (.dic kvs)/\FigD (be a bs) kvs fs)/\Fl S' r/\Kp r S S',rfl,∅,#[#[td,td,rfl],#[[],[],k6.get _ _ ∅ ak,.nil],f6,(k5.trans .push).trans k6],?_,?_]
  ·rintro i ρ S7 hi ⟨⟨a4,a8,rfl⟩,⟨kvs,fs,e7,hd⟩,f7,k7⟩ Q2 hn _;clear hK k;refine st ?_;dsimp only[wS,wE,wA,wV,wG,HD];refine iH (d:=d+3) G f7 ∅ a3 ∅ n3 λu S8 hu3 hu f8 k8=>?_
   have hu:GoodW a bs.length u:=hbl.symm ▸ hu;have e8:=k8.get _ _ ∅ e7
   obtain⟨p0,p1,p2,rfl⟩ : ∃p0 p1 p2,u=[p0,p1,p2]:=by
    match u,hu3 with
    | [p0,p1,p2],_=>exact#[p0,p1,p2,rfl]
   have l1:=hu.len 1 p1 rfl;obtain⟨m1,ws1⟩:=p1;obtain⟨w1,rfl⟩ : ∃w1,ws1=[w1]:=by
    match ws1,l1 with
    | [w1],_=>exact#[w1,rfl]
   obtain⟨b,hb2⟩:=AB (S:=S8) (f:=x) (ws:=p2.2);have kk:=k7.trans k8;refine bf λK hK=>?_
   dsimp only[wS,wT,wE,wA,wV,wG];refine aj #v[] rfl (aj #v[] rfl (aj #v[] rfl ?_))
   dsimp only[Db,bm,wB];have skip:K [gV (.ref r),gV (.int a),gV (.int n),gV (cM ms ns bs []),gV (.int i),gV (.ref S2.length),gV (.int x),gV (.ref S5.length),gV (aD [p0,(m1,[w1]),p2])] S8:=hK _ _ (bZ (hn _ _ #[#[_,_,rfl],#[kvs,fs,e8,hd],f8,kk]));refine#[λ_=>?_,λ_=>ar (Q0:=Q2) (λz=>by cases z) λ_ Q3 hn3 _=>bZ (hn3 _ _ skip)]
   refine aj #v[] rfl (aj #v[] rfl (ac hb2 ?_))
   dsimp only[wB];refine ar (Q0:=Q2) (λ_ Q3 hn3 _=>?_) λ_ Q3 hn3 _=>bZ (hn3 _ _ skip)
   clear skip;refine st ?_;dsimp only[wS,wE,wA,wV,wG];refine iF (d:=d+2) G hb hnl hu hu3 λS9 k9=>?_
   exact tB (k9.get _ _ e8) hd hsz hu hu3 λo ho=>bZ (hn3 _ _ (hK _ _ (bZ (hn _ _ #[#[_,_,rfl],ho,(f8.ka k9).own hrt5,(kk.trans (k9.kp r)).late k5.len]))))
  ·rintro ρ S7 ⟨⟨a4,a8,rfl⟩,⟨kvs,fs,e7,hd⟩,f7,k7⟩;refine hK _ _ (st ?_);dsimp only[wS,wE,wA,wV,wG];exact tz (Q:=λp=>Q' (.rt p.1,p.2)) e7 hd hsz hml hnl hnm λw S8 hw k8=>k w S8 hw (f7.ka k8) (k7.trans (k8.kp r))
end
noncomputable def cq (u v:HF):T:=.tup [.int u,.int v]
noncomputable def dH (u v:HF):W:=.tup [.int u,.int v]
theorem iK {u v:HF}:gC (dH u v)=gV (cq u v):=rfl
theorem xL {kvs:Hm (T×W)}{k:T}{v:W}{p:T×W}(h:p∈eG kvs k v):p∈kvs\/p=(k,v):=by
 unfold eG at h;split at h
 ·obtain⟨q,hq,rfl⟩:=Io.mp h;split
  ·rename_i e; exact .inr (by rw[e])
  ·exact .inl hq
 ·rcases Iz.mp h with h|h
  ·exact .inl h
  ·exact .inr (HN.mp h)
theorem lg {kvs:Hm (T×W)}{k:T}{v:W}(h:cx kvs k=gV v):(k,v)∈kvs:=by
 unfold cx at h;rw[Hs]at h;obtain⟨p,h1,rfl⟩:=h;have:=Mh h1;rw[<- IV this];exact List.mem_of_find?_eq_some h1
theorem tD {kvs:Hm (T×W)}{p:T×W}(h:p∈kvs):∃v,cx kvs p.1=gV v:=by
 unfold cx;cases e:kvs.find? λq=>decide (q.1=p.1)with
 | some q=>exact#[q.2,rfl]
 | none=>exact absurd (Kh.mp e p h) (by simp)
noncomputable def MustE (S:aa)(n b:Hu)(kvs:Hm (T×W)):Prop:=∀p∈kvs,∃(u v:HF) (l:Hu) (ws:Hm HF),p=(cq u v,W.ref l)/\(0<=u/\u < n)/\(0<=v/\v < n)/\b<=l/\S[l]?=gV (.lst (ab ws))/\ws.length<=3/\∀w∈ws,0<=w/\w < (n:HF)
theorem MustE.mono {S S':aa}{n b:Hu}{kvs:Hm (T×W)}(h:MustE S n b kvs)(k:∀(l:Hu) (ws:Hm HF),b<=l->S[l]?=gV (.lst (ab ws))->S'[l]?=gV (.lst (ab ws))):MustE S' n b kvs:=λp hp=>
 let ⟨u,v,l,ws,h1,h2,h3,h4,h5,h6⟩:=h p hp
 #[u,v,l,ws,h1,h2,h3,h4,k l ws h4 h5,h6]
theorem MustE.ka {S S':aa}{n b:Hu}{kvs:Hm (T×W)}(h:MustE S n b kvs)(k:Ka S S'):MustE S' n b kvs:=h.mono λl ws _ e=>k.get _ _ e
theorem MustE.kp {S S':aa}{n b r:Hu}{kvs:Hm (T×W)}(h:MustE S n b kvs)(hr:r < b)(k:Kp r S S'):MustE S' n b kvs:=h.mono λl ws hl e=>k.get _ _ ∅ e
theorem MustE.set {S:aa}{n b t:Hu}{kvs k:Hm (T×W)}{o:O}(h:MustE S n b kvs)(ht:S[t]?=gV (.dic k)):MustE (S.set t o) n b kvs:=h.mono λl ws hl e=>by
 rw[bV (by rintro rfl; rw[ht]at e; cases e)]; exact e
theorem MustE.put {S:aa}{n b:Hu}{kvs:Hm (T×W)}{u v:HF}{l:Hu}{ws:Hm HF}(h:MustE S n b kvs)(h2:0<=u/\u < n)(h3:0<=v/\v < n)(h4:b<=l)(h5:S[l]?=gV (.lst (ab ws)))(h6:ws.length<=3)(h7:∀w∈ws,0<=w/\w < (n:HF)):MustE S n b (eG kvs (cq u v) (.ref l)):=λp hp=>by
 rcases xL hp with hp|rfl
 ·exact h p hp
 ·exact#[u,v,l,ws,rfl,h2,h3,h4,h5,h6,h7]
noncomputable abbrev AC:=HF×HF×Hm HF
noncomputable def qj (ws:Hm HF):Es:=ws.foldr (λw es=>.cons (.c (.int w)) es) .nil
noncomputable def tF:Hm AC->Es
 | []=>.nil
 | e::L=>.cons (.tup #v[.c (.int e.1),.c (.int e.2.1)]) (.cons (.lst (qj e.2.2)) (tF L))
noncomputable def uO:Hm AC->Hu->Hm W
 | [],_=>[]
 | e::L,s=>dH e.1 e.2.1::.ref s::uO L (s+1)
noncomputable def uP (L:Hm AC):aa:=L.map λe=>O.lst (ab e.2.2)
noncomputable def tH (n:Hu)(e:AC):HV:=decide ((0<=e.1/\e.1 < n)/\(0<=e.2.1/\e.2.1 < n)/\e.2.2.length<=3)&&e.2.2.all λw=>decide (0<=w/\w < (n:HF))
section
variable{Φ:HL->FF}{ρ:Fm}
theorem rO {S:aa}:∀ {ws:Hm HF} {Q:Hm W×aa->Prop},Q (ab ws,S)->wA Φ (qj ws) ρ S Q
 | [],Q,q=>by show wA Φ .nil ρ S Q; rw[wA]; exact q
 | w::ws,Q,q=>by show wA Φ (.cons (.c (.int w)) (qj ws)) ρ S Q; rw[wA,wE]; exact rO q
theorem xM:∀ {L:Hm AC} {S:aa} {Q:Hm W×aa->Prop},Q (uO L S.length,S++uP L)->wA Φ (tF L) ρ S Q
 | [],S,Q,q=>by
  show wA Φ .nil ρ S Q;rw[wA]
  rwa [show S++uP []=S from IZ S]at q
 | e::L,S,Q,q=>by
  show wA Φ (.cons (.tup #v[.c (.int e.1),.c (.int e.2.1)]) (.cons (.lst (qj e.2.2)) (tF L))) ρ S Q;dsimp only[wA,wE];refine rO (xM ?_);rw[HA,Km];exact q
end
theorem mV {S:aa}{n b:Hu}:∀(L:Hm AC) (s:Hu) (kvs:Hm (T×W)),MustE S n b kvs->b<=s->(∀e∈L,tH n e=true)->(∀i e,L[i]?=gV e->S[s+i]?=gV (.lst (ab e.2.2)))->∃kvs',dN kvs (uO L s)=gV kvs'/\MustE S n b kvs'/\kvs'.length<=kvs.length+L.length
 | [],s,kvs,hm,hb,hL,hS=>#[kvs,by simp[uO,dN],hm,by simp]
 | e::L,s,kvs,hm,hb,hL,hS=>by
  have h1:=hL e (by simp)
  unfold tH at h1;rw[Hw,HX]at h1;obtain⟨h2,h3,h4⟩:=IV h1.1;obtain⟨kvs',k1,k2,k3⟩:=mV L (s+1) (eG kvs (cq e.1 e.2.1) (.ref s)) (hm.put h2 h3 hb (by have:=hS 0 e rfl; simpa using this) h4 (λw hw=>IV (h1.2 w hw))) ∅ (λx hx=>hL x (by simp[hx])) (λi x hx=>by have:=hS (i+1) x (by simpa using hx); rw[show s+1+i=s+(i+1) by omega]; exact this)
  refine#[kvs',?_,k2,?_]
  ·simp only[uO,dN,iK]; exact k1
  ·have:=c9 kvs (cq e.1 e.2.1) (.ref s);rw[IN]; omega
noncomputable def KB:Hm (Hm HF):=[[1,0],[0,2,1],[0,1],[0,1,2]]
noncomputable def KindOk (S:aa)(b:Hu)(w:W):Prop:=∃(bs:Hm HF) (q:Hu) (kvs:Hm (T×W)) (most:HF),w=.tup [.tup (ab bs),.ref q,.int most]/\bs∈KB/\1<=most/\most<=3/\most*bs.length<=6/\S[q]?=gV (.dic kvs)/\b<=q/\kvs.length<=4/\MustE S bs.length b kvs
theorem KindOk.mono {S S':aa}{b:Hu}{w:W}(h:KindOk S b w)(k1:∀(l:Hu) (ws:Hm HF),b<=l->S[l]?=gV (.lst (ab ws))->S'[l]?=gV (.lst (ab ws)))(k2:∀(l:Hu) (kvs:Hm (T×W)),b<=l->S[l]?=gV (.dic kvs)->S'[l]?=gV (.dic kvs)):KindOk S' b w:=
 let ⟨bs,q,kvs,most,h1,h2,h3,h4,h5,h6,h7,h8,h9⟩:=h
 #[bs,q,kvs,most,h1,h2,h3,h4,h5,k2 _ _ h7 h6,h7,h8,h9.mono k1]
theorem KindOk.ka {S S':aa}{b:Hu}{w:W}(h:KindOk S b w)(k:Ka S S'):KindOk S' b w:=h.mono (λl ws _ e=>k.get _ _ e) (λl ws _ e=>k.get _ _ e)
noncomputable def xN (bs:Hm HF)(L:Hm AC)(most:HF):E:=.tup #v[.tup (qj bs),.disp (tF L),.c (.int most)]
section
variable{Φ:HL->FF}{ρ:Fm}{S:aa}
theorem ow (bs:Hm HF)(L:Hm AC)(most:HF){b:Hu}{Q:QW}(hb:b<=S.length)(h1:bs∈KB)(h2:1<=most/\most<=3/\most*bs.length<=6)(hL:∀e∈L,tH bs.length e=true)(h4:L.length<=4)(k:∀w S',KindOk S' b w->Ka S S'->Q (w,S')) :
  wE Φ (xN bs L most) ρ S Q:=by
 unfold xN;dsimp only[wE,wA];refine rO (xM ?_);obtain⟨kvs,k1,k2,k3⟩:=mV (S:=S++[O.dic []]++uP L) (n:=bs.length) (b:=b) L (S.length+1) [] (λ_ h=>nomatch h) ∅ hL (λi e he=>by
  rw[Je (by simp),show S.length+1+i - (S++[O.dic []]).length=i by simp]
  simp[uP,he])
 have hat:(S++[O.dic []]++uP L)[S.length]?=gV (.dic []):=by
  rw[Im (by simp)]; exact ak
 refine#[hat,ac (show dN [] (uO L (S++[O.dic []]).length)=gV kvs by rw[HA]; exact k1) (k _ _ #[bs,S.length,kvs,most,rfl,h1,h2.1,h2.2.1,h2.2.2,b7 hat,hb,?_,k2.set hat] #[λj o h=>?_,by simp])]
 ·simp only[Js]at k3; omega
 ·have:j < S.length:=cF h;show((S++[O.dic []]++uP L).set S.length (O.dic kvs))[j]?=gV o;rw[bV ∅,Im (by simp; omega)]
  exact aq h
structure Menu (S0 S:aa)(r t m:Hu):Prop where
 at_t:∃xs:Hm W,S[t]?=gV (.lst xs)/\xs.length=m/\∀x∈xs,KindOk S S0.length x
 pos:0 < m
 mQ:m<=9
 fl:Fl S r
 kp:Kp r S0 S
 lt:S0.length<=t
 rlt:r < S0.length
theorem qk {S0 S S':aa}{r t m:Hu}{w:W}(h:Menu S0 S r t m)(hw:KindOk S' S0.length w)(k:Ka S S')(hm:m < 9):∃xs,S'[t]?=gV (.lst xs)/\xs.length < sizeLine/\Menu S0 (S'.set t (.lst (xs++[w]))) r t (m+1):=by
 obtain⟨⟨xs,h1,h2,h3⟩,hp,hf,fl,kp,lt,rlt⟩:=h;have e:S'[t]?=gV (.lst xs):=k.get _ _ h1;have stay:∀x,KindOk S' S0.length x->KindOk (S'.set t (.lst (xs++[w]))) S0.length x:=λx hx=>hx.mono (λl ws hl el=>by
  by_cases hlt:t=l
  ·exfalso;subst hlt;rw[e]at el;injection el with el
   injection el with el
   match xs,h2,h3 with
   | [],h2,_=>simp at h2; omega
   | x::xs,_,h3=>
    obtain⟨bs,q,kvs,most,hx,_⟩:=h3 x (by simp)
    subst hx
    match ws with
    | []=>simp[ab]at el
    | w::ws=>simp[ab]at el
  ·rw[bV hlt]; exact el) (λl kvs hl el=>by
  rw[bV (by rintro rfl; rw[e]at el; cases el)]; exact el)
 refine#[xs,e,(by rw[IH]; omega),#[xs++[w],b7 e,by simp; omega,λx hx=>?_],∅,∅,(fl.ka k).own ∅,(kp.trans (k.kp r)).late lt,lt,rlt]
 rcases Iz.mp hx with hx|hx
 ·exact stay x ((h3 x hx).ka k)
 ·rw[HN.mp hx]; exact stay w hw
theorem ql (bs:Hm HF)(L:Hm AC)(most:HF){fuel:Hu}{S0:aa}{r t m:Hu}{x0:Ht W}{K:Fm->aa->Prop}{Q:QO}(h:Menu S0 S r t m)(hm:m < 9)(h1:bs∈KB)(h2:1<=most/\most<=3/\most*bs.length<=6)(hL:∀e∈L,tH bs.length e=true)(h4:L.length<=4)(k:∀S',Menu S0 S' r t (m+1)->K [x0,gV (.ref t)] S') :
  wS Φ fuel (.ex (.me .append (.v 1) #v[xN bs L most])) [x0,gV (.ref t)] S K Q:=by
 dsimp only[wS,wE,wA,wV,wG];obtain⟨xs,e1,e2,e3⟩:=h.at_t;refine#[dP e1,ow bs L most (IE h.lt (KT (cF e1))) h1 h2 hL h4 λw S' k1 k2=>?_]
 obtain⟨xs',f1,f2,f3⟩:=qk h k1 k2 hm;exact ac (sX f1 f2) (k _ f3)
theorem lN {defs:Hm (HL×Df)}{fuel d:Hu}{r:Hu}{Q:QW}(G:Gen defs)(hf:Fl S r)(k:∀w S',KindOk S' S.length w->Fl S' r->Kp r S S'->Q (w,S')):wO (br (au defs fuel (d+2)) "_law_laying_kind" 1 [.ref r] S) Q:=by
 refine az G.laying_kind rfl rfl λQ' hR=>?_
 replace k:∀w S',KindOk S' S.length w->Fl S' r->Kp r S S'->Q' (.rt w,S'):=λz S' a b c=>hR _ _ (k z S' a b c)
 clear hR;show wZ _ _ cC [gV (.ref r),td] S Q';have hrt:=hf.lt;unfold cC;refine bf λK hK=>?_
 refine Fb ?_;rw[wE,wA];refine ow [1,0] [(0,0,[0])] 3 (b:=S.length) (HG _) #v[] #v[] #v[] #v[] λw1 S1 k1 a1=>?_
 rw[wA];refine ow [0,2,1] [(1,1,[1])] 2 (b:=S.length) a1.len #v[] #v[] #v[] #v[] λw2 S2 k2 a2=>?_
 have a12:=a1.trans a2;rw[wA];refine ow [0,1] [(1,1,[1])] 3 (b:=S.length) a12.len #v[] #v[] #v[] #v[] λw3 S3 k3 a3=>?_
 have a13:=a12.trans a3;rw[wA];refine hK _ _ ?_;clear hK K;have m3:Menu S (S3++[O.lst [w1,w2,w3]]) r S3.length 3:=by
  refine#[#[[w1,w2,w3],ak,rfl,λx hx=>?_],#v[],#v[],(hf.ka a13).ka .push,(a13.trans .push).kp r,a13.len,hrt]
  rcases Iq.mp hx with rfl|hx
  ·exact(k1.ka (a2.trans a3)).ka .push
  ·rcases Iq.mp hx with rfl|hx
   ·exact(k2.ka a3).ka .push
   ·rw[HN.mp hx];exact k3.ka .push
 dsimp only[HD];clear k1 k2 k3 a1 a2 a3 a12 a13;generalize S3.length=t at m3;generalize S3++[O.lst [w1,w2,w3]]=S3' at m3;refine bf λK hK=>ql [0,1] [(1,1,[1]),(0,0,[1])] 3 m3 #v[] #v[] #v[] #v[] #v[] λS4 m4=>hK _ _ ?_
 refine bf λK hK=>ql [0,1] [(1,1,[])] 1 m4 #v[] #v[] #v[] #v[] #v[] λS5 m5=>hK _ _ ?_
 refine bf λK hK=>ql [0,2,1] [(0,0,[0]),(0,1,[1]),(1,0,[1]),(1,1,[1])] 2 m5 #v[] #v[] #v[] #v[] #v[] λS6 m6=>hK _ _ ?_
 refine bf λK hK=>?_
 dsimp only[wS,wE,wA,wV,wG];obtain⟨xs,e1,e2,e3⟩:=m6.at_t;obtain⟨xs',f1,f2,m7⟩:=qk (S':=S6++[O.dic []]) (w:=.tup [.tup (ab [1,0]),.ref S6.length,.int 3]) m6 #[[1,0],S6.length,[],3,rfl,#v[],#v[],#v[],#v[],ak,m6.kp.len,#v[],λ_ h=>(nomatch h)] .push #v[]
 refine#[dP e1,ac (sX f1 f2) (hK _ _ ?_)];refine bf λK hK=>ql [0,1,2] [(2,2,[2]),(1,2,[1]),(2,1,[1]),(1,1,[1,2])] 2 m7 #v[] #v[] #v[] #v[] #v[] λS8 m8=>hK _ _ ?_
 refine bf λK hK=>ql [0,1,2] [(0,0,[0,1])] 2 m8 #v[] #v[] #v[] #v[] #v[] λS9 m9=>hK _ _ ?_
 refine st ?_;dsimp only[wS,wE,wA,wV,wG];refine bq (d:=d) G.pick m9.fl #v[] #v[] λv S10 v0 v9 f10 k10=>?_
 obtain⟨xs,g1,g2,g3⟩:=m9.at_t;have hlt:=m9.lt;have hv:v.toNat < xs.length:=∅
 exact kW (k10.get _ _ ∅ g1) v0 (HK hv) (k _ _ ((g3 _ (IT hv)).mono (λl ws hl e=>k10.get _ _ ∅ e) (λl ws hl e=>k10.get _ _ ∅ e)) f10 (m9.kp.trans k10))
end
noncomputable def qm (bs:Hm HF):Hm (Hm HF):=if bs=[0,1,2]then[[0,1,2],[0,2,1],[1,0,2],[1,2,0],[2,0,1],[2,1,0]]else if bs.length=2 then[[0,1],[1,0]]else[[0,1,2],[0,2,1],[2,0,1],[2,1,0]]
noncomputable def gR (bs nm:Hm HF):Hu->Hm HF
 | 0=>HY bs.length 0
 | k+1=>(gR bs nm k).set (nm.getD k 0).toNat (nm.getD (bs.getD k 0).toNat 0)
theorem jf (bs nm:Hm HF):∀k,(gR bs nm k).length=bs.length
 | 0=>by simp[gR]
 | k+1=>by simp[gR,jf bs nm k]
theorem AD:∀bs∈KB,∀nm∈qm bs,nm.length=bs.length/\(∀x∈nm,0<=x/\x < (bs.length:HF))/\(∀x∈bs,0<=x/\x < (bs.length:HF))/\GoodB (gR bs nm bs.length):=by
 unfold GoodB;decide +kernel
theorem xO:∀bs∈KB,(bs.length=2\/bs.length=3)/\0 < (qm bs).length/\(qm bs).length < 10:=by decide
section
variable{Φ:HL->FF}{fuel:Hu}{ρ:Fm}{S:aa}{K:Fm->aa->Prop}{Q:QO}
theorem AE {tg:Tg}{e:E}{b:Ss}(r:Hu)(kvs:Hm (T×W))(I:Hu->Fm->aa->Prop)(oe:eA e=true)(ok:ga b=true)(he:wE Φ e ρ S λp=>p.1=.ref r/\p.2[r]?=gV (.dic kvs)/\I 0 ρ (p.2.set r (.frd kvs)))
  (hstep:∀(i:Hu) (p:T×W) (ρ:Fm) (S:aa),kvs[i]?=gV p->I i ρ S->wO (fX tg p.1.w ρ S) λq=>uK Φ fuel b q.1 q.2 (I (i+1)) Q) (hend:∀ρ S,I kvs.length ρ S->K ρ S):Wp (fR Φ fuel (.loop tg (.seq e) b) ρ S) (p8 K Q):=by
 obtain⟨w,S1,e1,rfl,e2,h0⟩:=cG oe he;refine gb (mi:=.its (kvs.map λp=>p.1.w)) (S1:=S1.set r (.frd kvs)) (xs:=kvs.map λp=>p.1.w) I ok (by simp only[j8,fM,e1,ol e2,cK e2]) (λ_ _ _ _=>rfl) rfl h0 (λi w ρ S hw hI=>?_) λρ S hI=>hend ρ S (by rwa [Hq]at hI)
 rw[Hy,Hs]at hw;obtain⟨p,hp,rfl⟩:=hw;exact hstep i p ρ S hp hI
end
section
variable{defs:Hm (HL×Df)}{fuel d:Hu}{S:aa}{r:Hu}{Q:QW}
theorem BC {i n:Hu}{x:W}(h:S[i]?=gV (.lst [x]))(hn:n<=1000)(q:Q (.ref S.length,S++[.lst (HY n x)])):wO (im .mul (.ref i) (.int (n:HF)) S) Q:=by
 refine ac ?_ q;have:n<=sizeLine:=mQ hn;simp only[im,yX,cU h];rw[HW #[∅,∅,by simpa using this]]
 unfold lI;simp[this]
theorem mW {q:Hu}{kvs:Hm (T×W)}{u v:HF}{w:W}(h:jS S q=gV kvs)(hg:cx kvs (cq u v)=gV w):lK (.ref q) (.tup [.int u,.int v]) S=gV (w,S):=by
 have hk:gC (.tup [.int u,.int v])=gV (cq u v):=iK;simp only[lK,h,hk,hg,Ij]
theorem xP {q:Hu}{kvs:Hm (T×W)}{u v:HF}{w:W}(h:S[q]?=gV (.dic kvs))(hl:kvs.length < sizeLine):iu (.ref q) (.tup [.int u,.int v]) w S=gV (S.set q (.dic (eG kvs (cq u v) w))):=by
 have hk:gC (.tup [.int u,.int v])=gV (cq u v):=iK;simp only[iu,nM,h,hk];rw[HW hl]
theorem jg {xs:Hm HF}{x:HF}(h0:0<=x)(h1:x.toNat < xs.length):(ab xs)[x.toNat]?=gV (.int (xs.getD x.toNat 0)):=by
 unfold ab;rw[Hy,aA (d:=0) h1]; rfl
theorem gf {xs:Hm HF}{i:Hu}(h:i < xs.length):xs.getD i 0∈xs:=HR (aA (d:=0) h)
theorem lO (G:Gen defs){Q:QO}{bs:Hm HF}{x0 x2:Ht W}(hb:bs∈KB)
  (hk:∀(m s:Hu) (S':aa),Ka S S'->S'[s]?=gV (.lst ((qm bs).map λnm=>W.tup (ab nm)))->S.length<=s->wZ (au defs fuel (d+1)) fuel (dr 5 bU) [x0,gV (.tup (ab bs)),x2,gV (.int bs.length),gV (.ref m),gV (.ref s),td,td,td,td,td,td] S' Q) :
  wZ (au defs fuel (d+1)) fuel bU [x0,gV (.tup (ab bs)),x2,td,td,td,td,td,td,td,td,td] S Q:=by
 generalize hd5:dr 5 bU=dj at hk;unfold bU at hd5 ⊢;dsimp only[dr]at hd5;rw[hd5];clear hd5;refine bf λK hK=>?_
 dsimp only[wS,wE,wA,wV,wG,HD];refine bC ?_;rw[show(ab bs).length=bs.length from Hq ..]
 refine hK _ _ ?_;clear hK K;refine bf λK hK=>?_
 dsimp only[wS,wE,wA,wV,wG,HD];have hm:(((S++[O.lst [.tup [.int 0]]])++[O.lst [.tup [.int 0,.int 1],.tup [.int 1,.int 0]]])++[O.lst [.ref S.length,.ref (S++[O.lst [.tup [.int 0]]]).length]])[((S++[O.lst [.tup [.int 0]]])++[O.lst [.tup [.int 0,.int 1],.tup [.int 1,.int 0]]]).length]?=gV (.lst [.ref S.length,.ref (S++[O.lst [.tup [.int 0]]]).length]):=ak;refine hK _ _ ?_;clear hK K;generalize hS1:S++[O.lst [.tup [.int 0]]]=S1 at hm ⊢;generalize hS2:S1++[O.lst [.tup [.int 0,.int 1],.tup [.int 1,.int 0]]]=S2 at hm ⊢;generalize hS3:S2++[O.lst [.ref S.length,.ref S1.length]]=S3 at hm ⊢;have l1:S1.length=S.length+1:=by rw[<- hS1]; simp
 have l2:S2.length=S1.length+1:=by rw[<- hS2]; simp
 have l3:S3.length=S2.length+1:=by rw[<- hS3]; simp
 have kS2:Ka S S2:=by rw[<- hS2,<- hS1]; exact Ka.push.trans .push
 refine bf λK hK=>?_
 dsimp only[wS,wE,wA,wV,wG,HD];refine#[dP hm,kX (aq hm) (by decide:2 < 1000) (hK _ _ ?_)]
 clear hK K;generalize hS5:(S3++[O.lst [.tup [.int 0,.int 1,.int 2],.tup [.int 0,.int 2,.int 1],.tup [.int 2,.int 0,.int 1],.tup [.int 2,.int 1,.int 0]]]).set S2.length (.lst ([.ref S.length,.ref S1.length]++[.ref S3.length]))=S5;have k5:Ka S S5:=by
  rw[<- hS5,<- hS3];exact Ka.late (kS2.trans (Ka.push.trans .push)) ∅
 have m5:S5[S2.length]?=gV (.lst [.ref S.length,.ref S1.length,.ref S3.length]):=by
  rw[<- hS5]; exact b7 (aq hm)
 have p5:S5[S1.length]?=gV (.lst [.tup [.int 0,.int 1],.tup [.int 1,.int 0]]):=by
  rw[<- hS5,bV ∅,<- hS3,<- hS2]
  exact aq (aq ak)
 have t5:S5[S3.length]?=gV (.lst [.tup [.int 0,.int 1,.int 2],.tup [.int 0,.int 2,.int 1],.tup [.int 2,.int 0,.int 1],.tup [.int 2,.int 1,.int 0]]):=by
  rw[<- hS5,bV ∅]
  exact ak
 have h1:S.length<=S1.length:=∅
 have h3:S.length<=S3.length:=∅
 clear hS1 hS2 hS3 hS5 hm l1 l2 l3 kS2;refine bf λK hK=>?_
 dsimp only[wS,wE,wA,wV,wG,HD,mO,bm];have hb':bs=[1,0]\/bs=[0,2,1]\/bs=[0,1]\/bs=[0,1,2]:=by simpa [KB]using hb
 rcases hb' with rfl|rfl|rfl|rfl
 ·refine dQ (i:=1) m5 rfl (hK _ _ (bf λK hK=>xr (λQ q=>q) (hK _ _ (hk _ _ _ k5 p5 h1))))
 ·refine dQ (i:=2) m5 rfl (hK _ _ (bf λK hK=>xr (λQ q=>q) (hK _ _ (hk _ _ _ k5 t5 h3))))
 ·refine dQ (i:=1) m5 rfl (hK _ _ (bf λK hK=>xr (λQ q=>q) (hK _ _ (hk _ _ _ k5 p5 h1))))
 ·refine dQ (i:=2) m5 rfl (hK _ _ (bf λK hK=>Fc (λQ q=>q) λQ2 hn _=>?_))
  refine st ?_;dsimp only[wS,wE,wA,wV,wG,HD];exact ke (d:=d) G (bZ (hn _ _ (hK _ _ (hk _ _ _ (k5.trans .push) ak k5.len))))
theorem rP (G:Gen defs){S0:aa}{bs:Hm HF}{q:Hu}{kvs:Hm (T×W)}(hb:bs∈KB)(hf:Fl S r)(hr:r < S0.length)(kp:Kp r S0 S)(hq:S[q]?=gV (.dic kvs))(hq0:S0.length<=q)(h4:kvs.length<=4)(hm:MustE S bs.length S0.length kvs)
  (k:∀(bs':Hm HF) (q':Hu) (kvs':Hm (T×W)) S',GoodB bs'->bs'.length=bs.length->S'[q']?=gV (.dic kvs')->S0.length<=q'->MustE S' bs.length S0.length kvs'->Fl S' r->Kp r S0 S'->Q (.tup [.tup (ab bs'),.ref q'],S')) :
  wO (br (au defs fuel (d+2)) "_law_numbered" 3 [.ref r,.tup (ab bs),.ref q] S) Q:=by
 refine az G.numbered rfl rfl λQ' hR=>?_
 replace k:∀(bs':Hm HF) (q':Hu) (kvs':Hm (T×W)) S',GoodB bs'->bs'.length=bs.length->S'[q']?=gV (.dic kvs')->S0.length<=q'->MustE S' bs.length S0.length kvs'->Fl S' r->Kp r S0 S'->Q' (.rt (.tup [.tup (ab bs'),.ref q']),S'):=λa b c e f g h i j l m=>hR _ _ (k a b c e f g h i j l m)
 clear hR;refine lO (d:=d) G hb ?_;intro m s S1 k1 e1 hs;dsimp only[dr,bU];have hrt:=hf.lt;obtain⟨hb1,hb2,hb3⟩:=xO bs hb;refine bf λK hK=>?_
 dsimp only[wS,wE,wA,wV,wG,HD];refine mR e1 ?_;rw[Hq];refine bq (d:=d) G.pick (hf.ka k1) ∅ ∅ λv S2 v0 v1 f2 k2=>?_
 obtain⟨nm,hnmm,enm⟩:=on (f:=λnm=>W.tup (ab nm)) (xs:=qm bs) (i:=v.toNat) ∅
 obtain⟨n1,n2,n3,n4⟩:=AD bs hb nm hnmm;refine kW (k2.get _ _ ∅ e1) v0 enm (hK _ _ ?_)
 clear hK K;refine bf λK hK=>?_
 dsimp only[wS,wE,wA,wV,wG,HD];refine BC ak ∅ (hK _ _ ?_)
 clear hK K;generalize hS4:S2++[O.lst [.int 0]]=S4;have k24:Ka S2 S4:=hS4 ▸ .push;have f4:Fl S4 r:=f2.ka k24;have kp4:Kp r S0 S4:=(kp.trans (k1.kp r)).trans (k2.trans (k24.kp r));have q4:S4[q]?=gV (.dic kvs):=k24.get _ _ (k2.get _ _ ∅ (k1.get _ _ hq))
 have m4:MustE S4 bs.length S0.length kvs:=((hm.ka k1).kp hr k2).ka k24;clear hS4 k24 hm hq f2 k2 k1 e1 enm hf;refine bf λK hK=>?_
 refine cV (bs.length:HF) (λk ρ S'=>(∃x8,ρ=[gV (.ref r),gV (.tup (ab bs)),gV (.ref q),gV (.int bs.length),gV (.ref m),gV (.ref s),gV (.tup (ab nm)),gV (.ref S4.length),x8,td,td,td])/\S'[S4.length]?=gV (.lst (ab (gR bs nm k)))/\Ka S4 S') rfl rfl ∅ #[rfl,#[_,rfl],?_,.push] ?_ ?_
 ·rw[ak]; simp[gR,ab]
 ·rintro i ρ S5 hi ⟨⟨x8,rfl⟩,e5,k5⟩ Q2 hn _;clear hK k;have hi':i < bs.length:=∅
  have hi1:i < nm.length:=∅
  have c:=n3 _ (gf hi');have c2:=n2 _ (gf hi1);refine st ?_;dsimp only[wS,wE,wA,wV,wG,HD];refine aj (HB i) (jg (HB i) hi') (aj c.1 (jg c.1 (by rw[HE]; omega)) (aj (HB i) (jg (HB i) hi1) ?_))
  rw[HE];refine ac (Bu e5 c2.1 (by rw[show(ab (gR bs nm i)).length=_ from Hq ..,jf]; omega)) (bZ (hn _ _ #[#[_,rfl],?_,k5.late (HG _)]))
  rw[b7 e5];unfold ab;rw[gR,OS]
 ·rintro ρ S5 ⟨⟨x8,rfl⟩,e5,k5⟩;rw[HE]at e5;refine hK _ _ (st ?_);clear hK K;dsimp only[wS,wE,HD];have f5:Fl S5 r:=f4.ka k5;have q5:S5[q]?=gV (.dic kvs):=k5.get _ _ q4;have m5:MustE S5 bs.length S0.length kvs:=m4.ka k5;have kp5:Kp r S0 S5:=kp4.trans (k5.kp r);have hq5:=cF q5;have ht5:=cF e5;have hqt:q≠S4.length:=by rintro rfl; rw[e5]at q5; cases q5
  have hn9:(bs.length:HF)<=3:=∅
  have hr5:=f5.lt;clear k5 m4 q4 f4;refine bf λK hK=>?_
  refine AE q kvs (λk ρ S'=>(∃x10 x11,ρ=[gV (.ref r),gV (.tup (ab bs)),gV (.ref q),gV (.int bs.length),gV (.ref m),gV (.ref s),gV (.tup (ab nm)),gV (.ref S4.length),x8,gV (.ref S5.length),x10,x11])/\S'[q]?=gV (.frd kvs)/\MustE S' bs.length S0.length kvs/\S'[S4.length]?=gV (.lst (ab (gR bs nm bs.length)))/\(∃kvs',S'[S5.length]?=gV (.dic kvs')/\kvs'.length<=k/\MustE S' bs.length S0.length kvs')/\Fl S' r/\Kp r S0 S') rfl rfl #[rfl,aq q5,#[td,td,rfl],b7 (aq q5),(m5.ka .push).set (aq q5),?_,#[[],?_,HG _,λ_ h=>(nomatch h)],(f5.ka .push).own ∅,(kp5.trans .push).late hq0] ?_ ?_
  ·rw[bV hqt]; exact aq e5
  ·rw[bV ∅]; exact ak
  ·rintro i p ρ S6 hp ⟨⟨x10,x11,rfl⟩,q6,m6,t6,⟨kvs',o6,l6,mm6⟩,f6,kp6⟩;clear hK k;have hpm:=HR hp;have hil:=(HI.mp hp).1;obtain⟨u,v',l,ws,rfl,hu,hv',hl,hws,hl3,hw3⟩:=m6 p hpm;obtain⟨g,hg⟩:=tD hpm;obtain⟨u2,v2,l2,ws2,he2,_,_,hl2,hws2,hl32,hw32⟩:=m6 _ (lg hg);injection he2 with _ he2
   subst he2;have hul:u.toNat < nm.length:=∅
   have hvl:v'.toNat < nm.length:=∅
   refine ac (show fX (.tp [10,11]) (cq u v',W.ref l).1.w [gV (.ref r),gV (.tup (ab bs)),gV (.ref q),gV (.int bs.length),gV (.ref m),gV (.ref s),gV (.tup (ab nm)),gV (.ref S4.length),x8,gV (.ref S5.length),x10,x11] S6=gV ([gV (.ref r),gV (.tup (ab bs)),gV (.ref q),gV (.int bs.length),gV (.ref m),gV (.ref s),gV (.tup (ab nm)),gV (.ref S4.length),x8,gV (.ref S5.length),gV (.int u),gV (.int v')],S6)from rfl) λQ2 hn _=>?_
   refine st ?_;dsimp only[wS,wE,wA,wV,wG,HD];refine tj l2 (ab ws2) (λi zs ρ2 S7=>(∃a1,ρ2=[td,a1,gV (.tup (ab nm))])/\zs=ab ((ws2.take i).map λw=>nm.getD w.toNat 0)/\S7=S6) rfl rfl rfl ?_ ?_ ?_ ?_
   ·dsimp only[wE,wA,wV,wG];exact ac (mW (Aq q6) hg) #[rfl,#[_,rfl],rfl,rfl]
   ·rintro i zs ρ2 S7 ⟨_,_,rfl⟩;exact hws2
   ·rintro i w zs ρ2 S7 hw ⟨⟨a1,rfl⟩,rfl,rfl⟩;unfold ab at hw;rw[Hy,Hs]at hw;obtain⟨x,hx,rfl⟩:=hw;obtain⟨x0,x1⟩:=hw32 x (HR hx);have hxl:x.toNat < nm.length:=∅
    refine ac (show fX (.nm 1) (.int x) [td,a1,gV (.tup (ab nm))] S7=gV ([td,gV (.int x),gV (.tup (ab nm))],S7)from rfl) ?_
    dsimp only[iV,wC,wE,wA,wV,wG];refine#[λ_=>aj x0 (jg x0 hxl) #[#[_,rfl],?_,rfl],λz=>by cases z]
    rw[II,hx];simp[ab]
   ·rintro zs ρ2 S7 ⟨_,rfl,rfl⟩;rw[show(ab ws2).length=ws2.length from Hq ..,IP]
    refine#[mQ (by simp[ab]; omega),aj hu.1 (jg hu.1 hul) (aj hv'.1 (jg hv'.1 hvl) ?_)]
    refine ac (xP (aq o6) (by rw[IH]; omega)) (bZ (hn _ _ #[#[_,_,rfl],?_,(m6.ka .push).set (aq o6),?_,#[_,b7 (aq o6),?_,?_],(f6.ka .push).own ∅,(kp6.trans .push).late kp5.len]))
    ·rw[bV ∅]; exact aq q6
    ·rw[bV ∅]; exact aq t6
    ·exact IE (c9 ..) (K9 l6)
    ·refine((mm6.ka .push).put (n2 _ (gf hul)) (n2 _ (gf hvl)) kp6.len ak (by simp; omega) ?_).set (aq o6)
     intro w hw;obtain⟨x,hx,rfl⟩:=Io.mp hw;obtain⟨x0,x1⟩:=hw32 x hx;exact n2 _ (gf ∅)
  ·rintro ρ S6 ⟨⟨x10,x11,rfl⟩,q6,m6,t6,⟨kvs',o6,l6,mm6⟩,f6,kp6⟩;refine hK _ _ (st ?_);dsimp only[wS,wE,wA,wV,wG];exact eD t6 (k _ _ kvs' _ n4 (jf _ _ _) o6 kp5.len mm6 f6 kp6)
end
noncomputable def uQ (x y z:HF):Hm (T×W):=[(cq 1 0,.int x),(cq 2 0,.int y),(cq 2 1,.int z)]
noncomputable def AF (x y z a b c:HF):Hu->Hm (T×W)
 | 0=>uQ x y z
 | 1=>uQ x y z++[(cq 0 1,.int a)]
 | 2=>uQ x y z++[(cq 0 1,.int a),(cq 0 2,.int b)]
 | _=>uQ x y z++[(cq 0 1,.int a),(cq 0 2,.int b),(cq 1 2,.int c)]
theorem Di {n x y z a b c:HF}(hx:0<=x/\x < n)(hy:0<=y/\y < n)(hz:0<=z/\z < n)(ha:0<=a/\a < n)(hb:0<=b/\b < n)(hc:0<=c/\c < n):∀i j:Hu,i < 3->j < 3->i≠j->∃p:HF,cx (AF x y z a b c 3) (cq i j)=gV (.int p)/\0<=p/\p < n:=by
 intro i j hi hj hij
 match i,j,hi,hj,hij with
 | 0,0,_,_,h=>exact absurd rfl h
 | 0,1,_,_,_=>exact#[a,by rfl,ha]
 | 0,2,_,_,_=>exact#[b,by rfl,hb]
 | 1,0,_,_,_=>exact#[x,by rfl,hx]
 | 1,1,_,_,h=>exact absurd rfl h
 | 1,2,_,_,_=>exact#[c,by rfl,hc]
 | 2,0,_,_,_=>exact#[y,by rfl,hy]
 | 2,1,_,_,_=>exact#[z,by rfl,hz]
 | 2,2,_,_,h=>exact absurd rfl h
theorem qo:∀t∈aC,t.length=3/\t.getD 0 0 < 3/\t.getD 1 0 < 3/\t.getD 2 0 < 3/\t.getD 0 0≠t.getD 1 0/\t.getD 1 0≠t.getD 2 0/\t.getD 0 0≠t.getD 2 0:=by decide
theorem xQ {t:Hm Hu}(h:t∈aC):∃i j k:Hu,t=[i,j,k]/\i < 3/\j < 3/\k < 3/\i≠j/\j≠k/\i≠k:=by
 obtain⟨h1,h2⟩:=qo t h
 match t,h1,h2 with
 | [i,j,k],_,h2=>exact#[i,j,k,rfl,h2]
section
variable{defs:Hm (HL×Df)}{fuel d:Hu}{S:aa}{r:Hu}{Q:QW}
theorem xR {l:Hu}{f:HF}{ws:Hm HF}(h:S[l]?=gV (.lst (ab ws))):∃b,b6 .notin (.int f) (.ref l) S=gV (.bl b,S):=by
 have hf:(ci (.int f)&&(ab ws).all ci)=true:=by
  simp only[ci,Kk,HX];intro x hx;obtain⟨z,_,rfl⟩:=Io.mp hx;rfl
 refine#[!(ab ws).any λz=>vc z (.int f),?_]
 simp only[b6,iB h,gA,Bh,zh,eI,aL h,hf,Kf,Ij]
theorem Dj {q:Hu}{kvs:Hm (T×W)}(h:S[q]?=gV (.dic kvs)):tyOk "dict" S (.ref q)=true:=by simp[tyOk,cK h]
theorem AG {q:Hu}{kvs:Hm (T×W)}(h:S[q]?=gV (.dic kvs))(k:Q (.ref S.length,S++[.lst (kvs.map λp=>p.1.w)])):wO (Bi.list.fn [.ref q] S) Q:=by
 refine ac ?_ k;have h1:uh S q=td:=by simp[uh,h]
 have h2:ip [.ref q] S=td:=by simp[ip,h1,gN,eI,ol h]
 simp only[Bi.fn,CU,h2,kF,cK h]
theorem xS (G:Gen defs){bs:Hm HF}{q b0:Hu}{kvs:Hm (T×W)}{x y z:HF}(hb:GoodB bs)(hx:0<=x/\x < bs.length)(hy:0<=y/\y < bs.length)(hz:0<=z/\z < bs.length)(hq:S[q]?=gV (.dic kvs))(hm:MustE S bs.length b0 kvs)
  (k:∀b S',Ka S S'->Q (.bl b,S')):wO (br (au defs fuel (d+2)) "_law_breaks" 5 [.tup (ab bs),.ref q,.int x,.int y,.int z] S) Q:=by
 refine az G.breaks rfl rfl λQ' hR=>?_
 replace k:∀b S',Ka S S'->Q' (.rt (.bl b),S'):=λa b c=>hR _ _ (k a b c)
 clear hR;show wZ _ _ d0 [gV (.tup (ab bs)),gV (.ref q),gV (.int x),gV (.int y),gV (.int z),td,td,td,td,td] S Q';obtain⟨a,ha1,ha⟩:=hb.rng x.toNat ∅
 obtain⟨b,hb1,hb2⟩:=hb.rng y.toNat ∅
 obtain⟨c,hc1,hc⟩:=hb.rng z.toNat ∅
 have hqt:=cF hq;unfold d0;refine bf λK hK=>?_
 dsimp only[wS,wE,wA,wV,wG,HD];refine#[ak,ac (show dN [] [.tup [.int 1,.int 0],.int x,.tup [.int 2,.int 0],.int y,.tup [.int 2,.int 1],.int z]=gV (uQ x y z)from rfl) (hK _ _ ?_)]
 clear hK K;have e1:((S++[O.dic []]).set S.length (.dic (uQ x y z)))[S.length]?=gV (.dic (uQ x y z)):=b7 ak;have k1:Ka S ((S++[O.dic []]).set S.length (.dic (uQ x y z))):=Ka.push.late (HG _);have l1:((S++[O.dic []]).set S.length (.dic (uQ x y z))).length=S.length+1:=by simp
 generalize(S++[O.dic []]).set S.length (.dic (uQ x y z))=S1 at e1 k1 l1 ⊢;refine bf λK hK=>?_
 refine fm rfl rfl ?_;dsimp only[wE,wA,wV,wG];refine AG e1 #[S1.length,[dH 1 0,dH 2 0,dH 2 1],(λk ρ S'=>(∃x6,ρ=[gV (.tup (ab bs)),gV (.ref q),gV (.int x),gV (.int y),gV (.int z),gV (.ref S.length),x6,td,td,td])/\S'[S.length]?=gV (.dic (AF x y z a b c k))/\S'[S1.length]?=gV (.lst [dH 1 0,dH 2 0,dH 2 1])/\Ka S S'),rfl,#[#[_,rfl],aq e1,ak,k1.trans .push],λi ρ S' h=>h.2.2.1,?_,?_]
 ·have step:∀(u v f g:HF) (kv kv':Hm (T×W)) (S':aa) (i:Hu),cx kv (cq u v)=gV (.int f)->0<=f->bs[f.toNat]?=gV g->kv.length < 10->eG kv (cq v u) (.int g)=kv'->AF x y z a b c (i+1)=kv'->∀x6:Ht W,S'[S.length]?=gV (.dic kv)->S'[S1.length]?=gV (.lst [dH 1 0,dH 2 0,dH 2 1])->Ka S S'->
    wO (fX (.nm 6) (dH u v) [gV (.tup (ab bs)),gV (.ref q),gV (.int x),gV (.int y),gV (.int z),gV (.ref S.length),x6,td,td,td] S') λp=>uK (au defs fuel (d+1)) fuel #v[.put (.v 5) (.tup #v[.ix (.v 6) (.c (.int 1)),.ix (.v 6) (.c (.int 0))]) (.ix (.v 0) (.ix (.v 5) (.v 6)))] p.1 p.2 (λρ S'=>(∃x6,ρ=[gV (.tup (ab bs)),gV (.ref q),gV (.int x),gV (.int y),gV (.int z),gV (.ref S.length),x6,td,td,td])/\S'[S.length]?=gV (.dic (AF x y z a b c (i+1)))/\S'[S1.length]?=gV (.lst [dH 1 0,dH 2 0,dH 2 1])/\Ka S S') Q':=by
   clear hK k;intro u v f g kv kv' S' i h1 h2 h3 h4 h5 h6 x6 e e' k;refine ac (show fX (.nm 6) (dH u v) [gV (.tup (ab bs)),gV (.ref q),gV (.int x),gV (.int y),gV (.int z),gV (.ref S.length),x6,td,td,td] S'=gV ([gV (.tup (ab bs)),gV (.ref q),gV (.int x),gV (.int y),gV (.int z),gV (.ref S.length),gV (dH u v),td,td,td],S')from rfl) λQ2 hn _=>?_
   refine st ?_;dsimp only[wS,wE,wA,wV,wG];refine ac (mW (cK e) h1) (aj h2 (w:=.int g) (by unfold ab; rw[Hy,h3]; rfl) (aj #v[] rfl (aj #v[] rfl ?_)))
   refine ac (xP e (by rw[IH]; omega)) (bZ (hn _ _ #[#[_,rfl],?_,?_,k.late (HG _)]))
   ·rw[b7 e,h5,h6]
   ·rw[bV ∅]; exact e'
  rintro i w ρ S2 hw ⟨⟨x6,rfl⟩,e2,l2,k2⟩
  match i,hw,e2 with
  | 0,hw,e2=>cases hw; exact step 1 0 x a _ _ S2 0 (by rfl) hx.1 ha1 (by simp[AF,uQ]) (by rfl) (by rfl) x6 e2 l2 k2
  | 1,hw,e2=>cases hw; exact step 2 0 y b _ _ S2 1 (by rfl) hy.1 hb1 (by simp[AF,uQ]) (by rfl) (by rfl) x6 e2 l2 k2
  | 2,hw,e2=>cases hw; exact step 2 1 z c _ _ S2 2 (by rfl) hz.1 hc1 (by simp[AF,uQ]) (by rfl) (by rfl) x6 e2 l2 k2
  | n+3,hw,_=>simp at hw
 ·rintro ρ S2 ⟨⟨x6,rfl⟩,e2,l2,k2⟩;have hv:=Di hx hy hz ha hb2 hc;have e2:S2[S.length]?=gV (.dic (AF x y z a b c 3)):=e2;refine hK _ _ ?_;clear hK K;have hlt2:=cF e2;refine bf λK hK=>?_
  refine fm rfl rfl ?_;dsimp only[wE,wA,wV,wG];refine ke (d:=d) G #[S2.length,aC.map (λt=>W.tup (am t)),(λk ρ S'=>(∃x7 x8 x9,ρ=[gV (.tup (ab bs)),gV (.ref q),gV (.int x),gV (.int y),gV (.int z),gV (.ref S.length),x6,x7,x8,x9])/\S'[S.length]?=gV (.dic (AF x y z a b c 3))/\S'[S2.length]?=gV (.lst (aC.map (λt=>W.tup (am t))))/\Ka S S'),rfl,#[#[_,_,_,rfl],aq e2,ak,k2.trans .push],λi ρ S' h=>h.2.2.1,?_,?_]
  ·rintro i w ρ S3 hw ⟨⟨x7,x8,x9,rfl⟩,e3,l3,k3⟩;clear hK;rw[Hy,Hs]at hw;obtain⟨t,ht,rfl⟩:=hw;obtain⟨i1,j1,h1,rfl,hi1,hj1,hh1,n1,n2,n3⟩:=xQ (HR ht);obtain⟨p1,g1,r1⟩:=hv i1 j1 hi1 hj1 n1;obtain⟨p2,g2,r2⟩:=hv j1 h1 hj1 hh1 n2;obtain⟨p3,g3,r3⟩:=hv i1 h1 hi1 hh1 n3;have q3:=k3.get _ _ hq;refine ac (show fX (.tp [7,8,9]) (W.tup (am [i1,j1,h1])) [gV (.tup (ab bs)),gV (.ref q),gV (.int x),gV (.int y),gV (.int z),gV (.ref S.length),x6,x7,x8,x9] S3=gV ([gV (.tup (ab bs)),gV (.ref q),gV (.int x),gV (.int y),gV (.int z),gV (.ref S.length),x6,gV (.int i1),gV (.int j1),gV (.int h1)],S3)from rfl) λQ2 hn hr=>?_
   refine bf λK hK=>?_
   dsimp only[wS,wT,wE,wA,wV,wG];refine ac (mW (cK e3) g3) #[Dj q3,ac (mW (cK e3) g1) (ac (mW (cK e3) g2) (ac (mW (cK e3) g3) ?_))];have hget:Me.get.fn (.ref q) [.tup [.int p1,.int p2],.ref S3.length] (S3++[O.lst [.int p3]])=gV ((cx kvs (cq p1 p2)).getD (.ref S3.length),S3++[O.lst [.int p3]]):=by
    have hk:gC (.tup [.int p1,.int p2])=gV (cq p1 p2):=iK;simp only[Me.fn,sy,cK (aq q3),hk]
   refine ac hget ?_;have hres:∃(l:Hu) (ws:Hm HF),(cx kvs (cq p1 p2)).getD (.ref S3.length)=.ref l/\(S3++[O.lst [.int p3]])[l]?=gV (.lst (ab ws)):=by
    cases hg:cx kvs (cq p1 p2)with
    | none=>exact#[S3.length,[p3],rfl,ak]
    | some g=>
     obtain⟨u,v,l,ws,he,_,_,_,hl,_⟩:=(hm.ka k3) _ (lg hg);injection he with _ he
     subst he;exact#[l,ws,rfl,aq hl]
   obtain⟨l,ws,hl1,hl2⟩:=hres;dsimp only;rw[hl1];obtain⟨kb,hkb⟩:=xR (f:=p3) hl2;refine ac hkb ?_;dsimp only[wB];refine ar (Q0:=Q2) (λ_ Q3 _ hr3=>st (hr3 _ _ (hr _ _ (k _ _ (k3.trans .push))))) λ_ Q3 hn3 _=>bZ (hn3 _ _ (hK _ _ (bZ (hn _ _ #[#[_,_,_,rfl],aq e3,aq l3,k3.trans .push]))))
  ·rintro ρ S3 ⟨⟨x7,x8,x9,rfl⟩,e3,l3,k3⟩;exact hK _ _ (st (k _ _ k3))
end
noncomputable def DF (k:HF):Wd:=[(0,[]),(0,[k]),(0,[k,k])]
theorem AH:∀g∈[DF 0,DF 1],g∈be 1 [0,1]:=by decide +kernel
noncomputable def xT (a k:HF):Wd:=[(0,[]),(k,[0]),(a - 1,[0,0])]
theorem xU:∀k∈eH 2,xT 2 k∈be 2 [0]:=by decide +kernel
theorem xV:∀k∈eH 3,xT 3 k∈be 3 [0]:=by decide +kernel
theorem AI {a x y:HF}(h:xT a x=xT a y):x=y:=by
 unfold xT at h;injection h with _ h
 injection h with h _
 injection h
theorem BE {a n:Hu}{m0 m1 m2 x y z:HF}(h0:0<=m0/\m0 < a)(h1:0<=m1/\m1 < a)(h2:0<=m2/\m2 < a)(hx:0<=x/\x < n)(hy:0<=y/\y < n)(hz:0<=z/\z < n):GoodW a n [(m0,[]),(m1,[x]),(m2,[y,z])]:=by
 refine#[λk p h=>?_,λk p h=>?_,λk p h=>?_] <;> match k,h with
 | 0,h=>cases h; first|exact h0|rfl|(intro w hw; cases hw)
 | 1,h=>cases h; first|exact h1|rfl|(intro w hw; rw[HN.mp hw]; exact hx)
 | 2,h=>cases h; first|exact h2|rfl|(intro w hw; rcases Iq.mp hw with e|hw <;> first|exact e ▸ hy|(rw[HN.mp hw]; exact hz))
 | n+3,h=>simp at h
theorem Dk {Φ:HL->FF}{ρ:Fm}{S:aa}{i n:Hu}{Q:QW}(hv:∀Q:W->Prop,Q (.int n)->wV ρ i Q)(hn:n<=3)(k:∀j:HF,0<=j->j<=27->j=(n:HF)*n*n->Q (.int j,S)):wE Φ (.op .mul (.op .mul (.v i) (.v i)) (.v i)) ρ S Q:=by
 have b1 : -(2 ^ 64) < (n:HF):=∅
 have b2:(n:HF) < 2 ^ 64:=∅
 have hc:(n:HF)*n*n<=27/\0<=(n:HF)*n*n:=by rcases(show n=0\/n=1\/n=2\/n=3 by omega)with h|h|h|h <;> rw[h] <;> decide
 dsimp only[wE];have em:∀m:HF,im .mul (.int m) (.int n) S=gV (.int (m*n),S):=λm=>sW b1 b2
 generalize im .mul=B at em ⊢;refine hv _ ?_;refine hv _ ?_;refine ac (em _) ?_;refine hv _ ?_;refine ac (em _) ?_;have:=k _ hc.2 hc.1 rfl;exact this
theorem xW {Φ:HL->FF}{fuel:Hu}{ρ:Fm}{S:aa}{K:Fm->aa->Prop}{Q:QO}{i0 i n:Hu}{b:Ss}(hv:∀Q:W->Prop,Q (.int n)->wV ρ i Q)(hn:n<=3)(ok:ga b=true)
  (h:∀j:HF,0<=j->j<=27->j=(n:HF)*n*n->∃I:Hu->Fm->aa->Prop,I 0 ρ S/\(∀(i:Hu) (ρ:Fm) (S:aa),(i:HF) < j->I i ρ S->uK Φ fuel b (ρ.set i0 (gV (.int i))) S (I (i+1)) Q)/\∀ρ S,I j.toNat ρ S->K ρ S) :
  Wp (fR Φ fuel (.loop (.nm i0) (.rng #v[.op .mul (.op .mul (.v i) (.v i)) (.v i)]) b) ρ S) (p8 K Q):=
 have hw:=Dk (Φ:=Φ) (S:=S) (Q:=λp=>∃(j:HF) (I:Hu->Fm->aa->Prop),p.1=.int j/\(-(2 ^ 62)<=j/\j < 2 ^ 62)/\I 0 ρ p.2/\(∀(i:Hu) (ρ:Fm) (S:aa),(i:HF) < j->I i ρ S->uK Φ fuel b (ρ.set i0 (gV (.int i))) S (I (i+1)) Q)/\∀ρ S,I j.toNat ρ S->K ρ S) hv hn λj j0 j27 e=>let ⟨I,h0,h1,h2⟩:=h j j0 j27 e; #[j,I,rfl,∅,h0,h1,h2]
 lc rfl ok hw
section
variable{defs:Hm (HL×Df)}{fuel d:Hu}{S:aa}{r:Hu}{Q:QW}
theorem xX (hfu:20 < fuel)(G:Gen defs)(hf:Fl S r)(k:∀w S',dA w->Fl S' r->Kp r S S'->Q (w,S')):wO (br (au defs fuel (d+7)) "_law_laying_rule" 1 [.ref r] S) Q:=by
 refine az G.laying_rule rfl rfl λQ' hR=>?_
 replace k:∀w S',dA w->Fl S' r->Kp r S S'->Q' (.rt w,S'):=λz S' a b c=>hR _ _ (k z S' a b c)
 clear hR;show wZ _ _ cD [gV (.ref r),td,td,td,td,td,td,td,td,td,td,td,td,td,td] S Q';unfold cD;refine bf λK hK=>?_
 dsimp only[wS,wE,wA,wV,wG,HD];refine bq (d:=d+5) G.pick hf #v[] #v[] λv S1 v0 v7 f1 k1=>hK _ _ ?_
 clear hK K;refine bf λK hK=>?_
 dsimp only[wS,wT,wE,wV,wG,kS,bm,wB];refine ar (Q0:=Q') (λ_ Q2 _ hr=>?_) (λ_ Q2 hn _=>bZ (hn _ _ (hK _ _ ?_)))
 ·refine st ?_;dsimp only[wS,wE,wA,wV,wG];exact qi (d:=d) hfu G f1 λw S2 a b c=>hr _ _ (k w S2 a b (k1.trans c))
 clear hK K hn;refine bf λK hK=>?_
 dsimp only[wS,wT,wE,wV,wG,kS,bm,wB];refine ar (Q0:=Q') (λ_ Q2 _ hr=>?_) (λ_ Q2 hn _=>bZ (hn _ _ (hK _ _ ?_)))
 ·refine st ?_;dsimp only[wS,wE,wA,wV,wG];exact uN (d:=d) hfu G f1 λw S2 a b c=>hr _ _ (k w S2 a b (k1.trans c))
 clear hK K hn;have hr1:=f1.lt;refine bf λK hK=>?_
 dsimp only[wS,wE,wA,wV,wG];refine lN (d:=d+4) G f1 λw2 S2 hw2 f2 k2=>?_
 obtain⟨bs0,q0,kvs0,most,rfl,hbs0,m1,m3,m6,hq0,hq0l,h40,hm0⟩:=hw2;dsimp only[wU];refine ac (show dv [2,3,4] [.tup (ab bs0),.ref q0,.int most] [gV (.ref r),gV (.int v),td,td,td,td,td,td,td,td,td,td,td,td,td]=gV [gV (.ref r),gV (.int v),gV (.tup (ab bs0)),gV (.ref q0),gV (.int most),td,td,td,td,td,td,td,td,td,td]from rfl) (hK _ _ ?_)
 clear hK K;refine bf λK hK=>?_
 dsimp only[wS,wE,wA,wV,wG,HD];refine bq (d:=d+5) G.pick f2 ∅ ∅ λv3 S3 v30 v3m f3 k3=>?_
 dsimp only[dW,bm];obtain⟨a,ea⟩ : ∃a:Hu,1+v3=a:=#[(1+v3).toNat,∅]
 rw[ea];refine hK _ _ ?_;clear hK K;refine bf λK hK=>?_
 dsimp only[wS,wE,wA,wV,wG];refine rP (d:=d+4) G (S0:=S1) hbs0 f3 hr1 (k2.trans k3) (k3.get _ _ ∅ hq0) hq0l h40 (hm0.kp hr1 k3) λbs q kvs S4 hb hbl hq hql hm f4 k4=>?_
 dsimp only[wU];refine ac (show dv [2,3] [.tup (ab bs),.ref q] [gV (.ref r),gV (.int v),gV (.tup (ab bs0)),gV (.ref q0),gV (.int most),gV (.int a),td,td,td,td,td,td,td,td,td]=gV [gV (.ref r),gV (.int v),gV (.tup (ab bs)),gV (.ref q),gV (.int most),gV (.int a),td,td,td,td,td,td,td,td,td]from rfl) (hK _ _ ?_)
 clear hK K;rw[<- hbl]at hm m6;have hn:bs.length=2\/bs.length=3:=by rw[hbl]; exact(xO bs0 hbs0).1
 have hsz:SizeOk a bs:=#[∅,hb,by
  have h1:(a:HF)*bs.length<=most*bs.length:=Int.mul_le_mul_of_nonneg_right ∅ ∅
  exact_mod_cast Int.le_trans h1 m6,∅]
 clear m6 hm0 hq0 hq0l h40 hbl hbs0 k2 k3 f2 f3;refine bf λK hK=>?_
 dsimp only[wS,wE,wA,wV,wG,HD];refine fE (d:=d+1) hfu G f4 ∅ ∅ λms ns S5 hml hnl hnm f5 k5=>hK _ _ ?_
 clear hK K;have kk:Kp r S S5:=k1.trans (k4.trans k5);have hrt:=f5.lt;have hq5:S5[q]?=gV (.dic kvs):=k5.get _ _ ∅ hq
 have hm5:MustE S5 bs.length S1.length kvs:=hm.kp hr1 k5;have hqn:q < S5.length:=cF hq5;clear k1 k4 k5 f4 hm hq hql f1;refine st ?_;dsimp only[wS,wE,HD];refine bf λK hK=>?_
 dsimp only[wS,wE,wA,wV,wG,HD];refine bC ?_;rw[show(ab bs).length=bs.length from Hq ..]
 refine hK _ _ ?_;clear hK K;refine bf λK hK=>?_
 refine xW (n:=bs.length) (λQ q=>q) ∅ rfl λj j0 j27 hj=>?_
 refine#[(λ_ ρ S'=>(∃x9 x10 x11 x12 x13 x14,ρ=[gV (.ref r),gV (.int v),gV (.tup (ab bs)),gV (.ref q),gV (.int most),gV (.int a),gV (cM ms ns bs []),gV (.ref S5.length),gV (.int bs.length),x9,x10,x11,x12,x13,x14])/\(∃kvs fs,S'[S5.length]?=gV (.dic kvs)/\FigD (be a bs) kvs fs)/\S'[q]?=gV (.dic kvs)/\MustE S' bs.length S1.length kvs/\Fl S' r/\Kp r S S'),#[#[_,_,_,_,_,_,rfl],#[[],[],ak,.nil],aq hq5,hm5.ka .push,f5.ka .push,kk.trans .push],?_,?_]
 ·rintro i ρ S6 hi ⟨⟨x9,x10,x11,x12,x13,x14,rfl⟩,⟨kvd,fs,e6,hd⟩,hq6,hm6,f6,k6⟩ Q2 hn2 _;clear hK k;have hnp:(0:HF) < bs.length:=∅
  have hnb:(bs.length:HF) < 1073741824:=∅
  have y1:0<=(i:HF) % bs.length/\(i:HF) % bs.length < bs.length:=#[J1 _ ∅,JE _ hnp]
  have y2:0<=(i:HF) / bs.length % bs.length/\(i:HF) / bs.length % bs.length < bs.length:=#[J1 _ ∅,JE _ hnp]
  have y3:0<=(i:HF) / bs.length / bs.length/\(i:HF) / bs.length / bs.length < bs.length:=by
   rcases hn with h|h <;> rw[h]at hj ⊢ <;> omega
  refine bf λK hK=>?_
  dsimp only[wS,wE,wA,wV,wG,HD];refine ac (kR hnp) (ac (oh hnp hnb) (ac (kR hnp) ?_));dsimp only[w2];refine hK _ _ ?_;clear hK K;refine bf λK hK=>?_
  dsimp only[wS,wE,wA,wV,wG,HD];refine ac (oh hnp hnb) (ac (oh hnp hnb) (hK _ _ ?_));clear hK K;dsimp only;generalize(i:HF) % bs.length=z1 at y1 ⊢;generalize(i:HF) / bs.length % bs.length=z2 at y2 ⊢;generalize(i:HF) / bs.length / bs.length=z3 at y3 ⊢;refine bf λK hK=>?_
  dsimp only[wS,wT,wA,wE,wV,wG];refine xS (d:=d+4) G hb y1 y2 y3 hq6 hm6 λb S7 k7=>?_
  dsimp only[eX,bm];refine ar (Q0:=Q2) (λ_ Q3 hn3 _=>?_) (λ_ Q3 hn3 _=>bZ (hn3 _ _ (hK _ _ (bZ (hn2 _ _ #[#[_,_,_,_,_,_,rfl],#[kvd,fs,k7.get _ _ e6,hd],k7.get _ _ hq6,hm6.ka k7,f6.ka k7,k6.trans (k7.kp r)])))))
  refine bf λK3 hK3=>?_
  refine fm rfl rfl ?_;dsimp only[wE,wA,wV,wG];have h56:S5.length < S6.length:=cF e6;have h67:=k7.len;refine qh (d:=d+5) G (a:=a) ∅ λt ts S8 e8 ht ht7 k8=>?_
  refine#[t,ts.map fq,(λ_ ρ S'=>(∃x9 x13 x14,ρ=[gV (.ref r),gV (.int v),gV (.tup (ab bs)),gV (.ref q),gV (.int most),gV (.int a),gV (cM ms ns bs []),gV (.ref S5.length),gV (.int bs.length),x9,gV (.int z1),gV (.int z2),gV (.int z3),x13,x14])/\(∃kvs fs,S'[S5.length]?=gV (.dic kvs)/\FigD (be a bs) kvs fs)/\S'[q]?=gV (.dic kvs)/\MustE S' bs.length S1.length kvs/\S'[t]?=gV (.lst (ts.map fq))/\Fl S' r/\Kp r S S'),rfl,#[#[_,_,_,rfl],#[kvd,fs,k8.get _ _ (k7.get _ _ e6),hd],k8.get _ _ (k7.get _ _ hq6),(hm6.ka k7).ka k8,e8,(f6.ka k7).ka k8,k6.trans ((k7.trans k8).kp r)],λi ρ S' h=>h.2.2.2.2.1,?_,?_]
  ·rintro j w ρ S9 hw ⟨⟨x9,x13,x14,rfl⟩,⟨kvd,fs,e9,hd⟩,hq9,hm9,ht9,f9,k9⟩;clear hK3 hn3 hK hn2;rw[Hy,Hs]at hw;obtain⟨⟨tr1,tr2,tr3⟩,htr,rfl⟩:=hw;obtain⟨t1,t2,t3⟩:=ht _ (HR htr);refine ac (show fX (.nm 13) (fq (tr1,tr2,tr3)) [gV (.ref r),gV (.int v),gV (.tup (ab bs)),gV (.ref q),gV (.int most),gV (.int a),gV (cM ms ns bs []),gV (.ref S5.length),gV (.int bs.length),x9,gV (.int z1),gV (.int z2),gV (.int z3),x13,x14] S9=gV ([gV (.ref r),gV (.int v),gV (.tup (ab bs)),gV (.ref q),gV (.int most),gV (.int a),gV (cM ms ns bs []),gV (.ref S5.length),gV (.int bs.length),x9,gV (.int z1),gV (.int z2),gV (.int z3),gV (fq (tr1,tr2,tr3)),x14],S9)from rfl) λQ4 hn4 _=>?_
   have hu:GoodW a bs.length [(tr1,[]),(tr2,[z1]),(tr3,[z2,z3])]:=BE t1 t2 t3 y1 y2 y3;refine bf λK hK=>?_
   dsimp only[wS,wE,wA,wV,wG,HD];refine aj #v[] rfl (aj #v[] rfl (hK _ _ ?_))
   clear hK K;refine st ?_;dsimp only[wS,wE,wA,wV,wG];refine aj #v[] rfl (ac (eT (gd rfl)) ?_)
   refine iF (d:=d+3) (m0:=.tup (ms.map W.str)) (b0:=.tup []) (u:=[(tr1,[]),(tr2,[z1]),(tr3,[z2,z3])]) G hb hnl hu rfl λS10 k10=>?_
   have e10:=k10.get _ _ e9;exact tB e10 hd hsz hu rfl λo ho=>bZ (hn4 _ _ #[#[_,_,_,rfl],ho,by rw[bV ∅]; exact k10.get _ _ hq9,(hm9.ka k10).set e10,by rw[bV ∅]; exact k10.get _ _ ht9,(f9.ka k10).own hrt,(k9.trans (k10.kp r)).late kk.len])
  ·rintro ρ S9 ⟨⟨x9,x13,x14,rfl⟩,hdd,hq9,hm9,ht9,f9,k9⟩;exact hK3 _ _ (bZ (hn3 _ _ (hK _ _ (bZ (hn2 _ _ #[#[_,_,_,_,_,_,rfl],hdd,hq9,hm9,f9,k9])))))
 ·rintro ρ S6 ⟨⟨x9,x10,x11,x12,x13,x14,rfl⟩,⟨kvd,fs,e6,hd⟩,hq6,hm6,f6,k6⟩;refine hK _ _ (st ?_);dsimp only[wS,wE,wA,wV,wG];exact tz (Q:=λp=>Q' (.rt p.1,p.2)) e6 hd hsz hml hnl hnm λw S8 hw k8=>k w S8 hw (f6.ka k8) (k6.trans (k8.kp r))
end
section
variable{defs:Hm (HL×Df)}{fuel d:Hu}{S:aa}{r:Hu}{Q:QW}
theorem rQ (hfu:20 < fuel)(G:Gen defs)(hun:Is defs ("_law_unlaying_rule" : HL) 1 10 bE)(hf:Fl S r)(k:∀w S',dA w->Fl S' r->Kp r S S'->Q (w,S')):wO (br (au defs fuel (d+6)) "_law_unlaying_rule" 1 [.ref r] S) Q:=by
 refine az hun rfl rfl λQ' hR=>?_
 replace k:∀w S',dA w->Fl S' r->Kp r S S'->Q' (.rt w,S'):=λz S' a b c=>hR _ _ (k z S' a b c)
 clear hR;show wZ _ _ bE [gV (.ref r),td,td,td,td,td,td,td,td,td] S Q';unfold bE;refine bf λK hK=>?_
 dsimp only[wS,wE,wA,wV,wG,HD];refine bq (d:=d+4) G.pick hf #v[] #v[] λv S1 v0 v7 f1 k1=>hK _ _ ?_
 clear hK K;have hlt:=f1.lt;refine bf λK hK=>?_
 dsimp only[wS,wT,wE,wV,wG,kS,bm,wB];refine ar (Q0:=Q') (λ_ Q2 _ hr=>?_) (λ_ Q2 hn _=>bZ (hn _ _ (hK _ _ ?_)))
 ·
  refine st ?_;dsimp only[wS,wE,wA,wV,wG];refine eL 2 (λi zs ρ2 S2=>(∃a1,ρ2=[td,a1])/\zs=([DF 0,DF 1].take i).map aD/\S2=S1) rfl rfl rfl #v[] #[rfl,#[td,rfl],rfl,rfl] ?_ ?_
  ·rintro i zs ρ2 S2 hi ⟨⟨a1,rfl⟩,rfl,rfl⟩;clear k hr hK;dsimp only[iV,wC,wE,wA,wV,wG,HD];refine#[λ_=>#[#[_,rfl],?_,rfl],λz=>by cases z]
   rcases(show i=0\/i=1 by omega)with h|h
   ·subst h; rfl
   ·subst h; rfl
  ·rintro zs ρ2 S2 ⟨_,rfl,rfl⟩;refine#[gd rfl,?_];refine gx (d:=d) (a:=1) (bs:=[0,1]) (us:=[DF 0,DF 1]) hfu G (f1.ka .push) #v[] #v[] (λS' kk=>?_) #v[] #v[] λms ns S3 hml hnl hnm f3 k3=>?_
   ·simp only[en,aL (kk.get _ _ ∅ ak)]; rfl
   exact hr _ _ (k _ _ #[1,[0,1],ms,ns,_,rfl,#[#[#v[],.inr (.inl rfl),#v[],#v[]],hml,hnl,hnm,#v[],AH]] f3 (k1.trans (Kp.push.trans k3)))
 clear hK K hn;refine bf λK hK=>?_
 dsimp only[wS,wT,wE,wV,wG,kS,bm,wB];refine ar (Q0:=Q') (λ_ Q2 _ hr=>?_) (λ_ Q2 hn _=>bZ (hn _ _ (hK _ _ ?_)))
 ·
  clear hK;refine bf λK hK=>?_
  dsimp only[wS,wE,wA,wV,wG,HD];refine fE (d:=d) (a:=2) (bs:=[0,1]) hfu G f1 #v[] #v[] λms ns S3 hml hnl hnm f3 k3=>hK _ _ ?_
  clear hK K;have hsz:SizeOk 2 [0,1]:=#[#v[],.inr (.inl rfl),#v[],#v[]]
  have hrt:=f3.lt;have kk:Kp r S S3:=k1.trans k3;refine st ?_;dsimp only[wS,wE,HD];refine bf λK hK=>?_
  refine fm rfl rfl ?_;dsimp only[wE,wA,wV,wG];refine qh (d:=d+4) G (a:=2) #v[] λq ts S4 e4 ht hq k4=>?_
  have hq':S3.length < q:=by simp only[HA,IN,Js]at hq; omega
  refine#[q,ts.map fq,(λ_ ρ S'=>(∃x4 x5 x6 x7 x8 x9,ρ=[gV (.ref r),gV (.int v),gV (cM ms ns [0,1] []),gV (.ref S3.length),x4,x5,x6,x7,x8,x9])/\(∃kvs fs,S'[S3.length]?=gV (.dic kvs)/\FigD (be 2 [0,1]) kvs fs)/\S'[q]?=gV (.lst (ts.map fq))/\Fl S' r/\Kp r S S'),rfl,#[#[_,_,_,_,_,_,rfl],#[[],[],k4.get _ _ ak,.nil],e4,(f3.ka .push).ka k4,(kk.trans .push).trans (k4.kp r)],λi ρ S' h=>h.2.2.1,?_,?_]
  ·rintro i w ρ S5 hw ⟨⟨x4,x5,x6,x7,x8,x9,rfl⟩,⟨kvs,fs,e5,hd⟩,hq5,f5,k5⟩;clear hK;rw[Hy,Hs]at hw;obtain⟨⟨tr1,tr2,tr3⟩,htt,rfl⟩:=hw;obtain⟨t1,t2,t3⟩:=ht _ (HR htt);have h53:S3.length < S5.length:=cF e5;have hq5l:q < S5.length:=cF hq5;refine ac (show fX (.nm 4) (fq (tr1,tr2,tr3)) [gV (.ref r),gV (.int v),gV (cM ms ns [0,1] []),gV (.ref S3.length),x4,x5,x6,x7,x8,x9] S5=gV ([gV (.ref r),gV (.int v),gV (cM ms ns [0,1] []),gV (.ref S3.length),gV (fq (tr1,tr2,tr3)),x5,x6,x7,x8,x9],S5)from rfl) λQ3 hn3 _=>?_
   refine bf λK hK=>?_
   refine fm rfl rfl ?_;dsimp only[wE,wA,wV,wG];refine#[S5.length,[(1,1,0),(1,1,1),(1,0,1),(0,1,1)].map fq,(λ_ ρ S'=>(∃x5 x6 x7 x8 x9,ρ=[gV (.ref r),gV (.int v),gV (cM ms ns [0,1] []),gV (.ref S3.length),gV (fq (tr1,tr2,tr3)),x5,x6,x7,x8,x9])/\(∃kvs fs,S'[S3.length]?=gV (.dic kvs)/\FigD (be 2 [0,1]) kvs fs)/\S'[q]?=gV (.lst (ts.map fq))/\S'[S5.length]?=gV (.lst ([(1,1,0),(1,1,1),(1,0,1),(0,1,1)].map fq))/\Fl S' r/\Kp r S S'),rfl,#[#[_,_,_,_,_,rfl],#[kvs,fs,aq e5,hd],aq hq5,ak,f5.ka .push,k5.trans .push],λi ρ S' h=>h.2.2.2.1,?_,?_]
   ·rintro i w ρ S6 hw ⟨⟨x5,x6,x7,x8,x9,rfl⟩,⟨kvs,fs,e6,hd⟩,hq6,hl6,f6,k6⟩;clear hK hn3;rw[Hy,Hs]at hw;obtain⟨⟨y1,y2,y3⟩,hy,rfl⟩:=hw;have hy':(0<=y1/\y1 < 2)/\(0<=y2/\y2 < 2)/\(0<=y3/\y3 < 2):=by
     have:∀p∈([(1,1,0),(1,1,1),(1,0,1),(0,1,1)]:Hm (HF×HF×HF)),(0<=p.1/\p.1 < 2)/\(0<=p.2.1/\p.2.1 < 2)/\(0<=p.2.2/\p.2.2 < 2):=by decide
     exact this _ (HR hy)
    refine ac (show fX (.tp [5,6,7]) (fq (y1,y2,y3)) [gV (.ref r),gV (.int v),gV (cM ms ns [0,1] []),gV (.ref S3.length),gV (fq (tr1,tr2,tr3)),x5,x6,x7,x8,x9] S6=gV ([gV (.ref r),gV (.int v),gV (cM ms ns [0,1] []),gV (.ref S3.length),gV (fq (tr1,tr2,tr3)),gV (.int y1),gV (.int y2),gV (.int y3),x8,x9],S6)from rfl) λQ4 hn4 _=>?_
    refine bf λK hK=>?_
    dsimp only[wS,wE,wA,wV,wG,HD];refine aj #v[] rfl (aj #v[] rfl (hK _ _ ?_))
    clear hK K;have hu:GoodW 2 2 [(tr1,[]),(tr2,[y1]),(tr3,[y2,y3])]:=BE t1 t2 t3 hy'.1 hy'.2.1 hy'.2.2;refine st ?_;dsimp only[wS,wE,wA,wV,wG];refine aj #v[] rfl (ac (eT (gd rfl)) ?_)
    refine iF (d:=d+2) (m0:=.tup (ms.map W.str)) (b0:=.tup []) (bs:=[0,1]) (u:=[(tr1,[]),(tr2,[y1]),(tr3,[y2,y3])]) G (.inr (.inl rfl)) hnl hu rfl λS7 k7=>?_
    have e7:=k7.get _ _ e6;exact tB e7 hd hsz hu rfl λo ho=>bZ (hn4 _ _ #[#[_,_,_,_,_,rfl],ho,by rw[bV ∅]; exact k7.get _ _ hq6,by rw[bV ∅]; exact k7.get _ _ hl6,(f6.ka k7).own hrt,(k6.trans (k7.kp r)).late kk.len])
   ·rintro ρ S6 ⟨⟨x5,x6,x7,x8,x9,rfl⟩,hdd,hq6,hl6,f6,k6⟩;exact hK _ _ (bZ (hn3 _ _ #[#[_,_,_,_,_,_,rfl],hdd,hq6,f6,k6]))
  ·rintro ρ S5 ⟨⟨x4,x5,x6,x7,x8,x9,rfl⟩,⟨kvs,fs,e5,hd⟩,hq5,f5,k5⟩;refine hK _ _ (st ?_);dsimp only[wS,wE,wA,wV,wG];exact tz (Q:=λp=>Q2 (.rt p.1,p.2)) e5 hd hsz hml hnl hnm λw S8 hw k8=>hr _ _ (k w S8 hw (f5.ka k8) (k5.trans (k8.kp r)))
 clear hK K hn;refine bf λK hK=>?_
 dsimp only[wS,wE,wA,wV,wG,HD];refine bq (d:=d+4) G.pick f1 #v[] #v[] λv2 S2 v20 v22 f2 k2=>?_
 dsimp only[dW,bm];obtain⟨a,ea⟩ : ∃a:Hu,2+v2=a:=#[(2+v2).toNat,∅]
 rw[ea];have ha:a=2\/a=3:=∅
 refine hK _ _ ?_;clear hK K;refine bf λK hK=>?_
 dsimp only[wS,wE,HD];refine eL (a:HF) (λi zs ρ2 S3=>(∃a1,ρ2=[td,a1,gV (.int a)])/\zs=((eH i).map (xT a)).map aD/\S3=S2) rfl rfl rfl ∅ #[rfl,#[td,rfl],rfl,rfl] ?_ ?_
 ·rintro i zs ρ2 S3 hi ⟨⟨a1,rfl⟩,rfl,rfl⟩;dsimp only[iV,wC,wE,wA,wV,wG,HD,mO,bm];refine#[λ_=>#[#[_,rfl],?_,rfl],λz=>by cases z]
  simp[eH,Ki,xT,aD,bn]
 ·rintro zs ρ2 S3 ⟨_,rfl,rfl⟩;rw[HE];have hul:(eH a).length=a:=by simp[eH]
  refine#[mQ (by rw[Hq,Hq,hul]; omega),hK _ _ (st ?_)]
  clear hK K;dsimp only[wS,wE,wA,wP,wV,wG];refine bq (d:=d+4) G.pick (f2.ka .push) ∅ ∅ λv4 S4 v40 v4a f4 k4=>?_
  dsimp only[dW,bm,wN];obtain⟨mm,em⟩ : ∃mm:Hu,1+v4=mm:=#[(1+v4).toNat,∅]
  rw[em];have hlt2:=f2.lt;have e4:S4[S3.length]?=gV (.lst (((eH a).map (xT a)).map aD)):=k4.get _ _ ∅ ak
  have hsl:lF (.ref S3.length) td (gV (mm:HF)) S4=gV (.ref S4.length,S4++[.lst ((((eH a).map (xT a)).take mm).map aD)]):=by
   simp only[lF,aL e4,eE,KI]
  refine ac hsl ?_;have hlt4:=f4.lt;have hmem:∀g∈((eH a).map (xT a)).take mm,g∈be a [0]:=λg hg=>by
   obtain⟨x,hx,rfl⟩:=Io.mp (J7 hg);rcases ha with rfl|rfl
   ·exact xU x hx
   ·exact xV x hx
  refine gx (d:=d) (a:=a) (bs:=[0]) (us:=((eH a).map (xT a)).take mm) hfu G (f4.ka .push) ∅ #v[] (λS' kk=>?_) (by rw[Il,Hq,hul]; omega) (λu hu=>qf (hmem u hu)) λms ns S5 hml hnl hnm f5 k5=>?_
  ·simp only[en,aL (kk.get _ _ ∅ ak)]
  refine k _ _ #[a,[0],ms,ns,_,rfl,#[#[∅,iI,by simp; omega,∅],hml,hnl,hnm,?_,hmem]] f5 (k1.trans (k2.trans (Kp.push.trans (k4.trans (Kp.push.trans k5)))))
  refine Pl (LF _ _) ?_;unfold Pk eH;rw[LI,LI];exact(NN (n:=a)).imp λh e=>h (by have:=AI e; omega)
end
theorem mX:∀n:Hu,g5 (HY n (.bl true))=gV (HY n true)
 | 0=>rfl
 | n+1=>by rw[Jl,g5,mX n]; rfl
theorem AJ (n:Hu):(HY n true).all id=true:=by
 rw[HX];intro x hx;rw[(List.mem_replicate.mp hx).2]; rfl
noncomputable def tJ:Ss:=
 #v[.ite (.cmp .gt (.v 2) (.v 3)) #v[.ret (.ix (.ix (.ix (.v 1) (.v 2)) (.c (.int 1))) (.v 3))] .nil,.ret (.ix (.ix (.ix (.v 0) (.c (.int 1))) (.ix (.ix (.ix (.v 1) (.v 3)) (.c (.int 1))) (.v 2))) (.c (.int 1)))]
noncomputable def jh:Ss:=
 #v[.ret (.bi .tuple #v[.comp (.own "point_over" 4 #v[.v 4,.v 5,.sl (.v 3) .no (.yes (.v 1)),.v 2]) (.tp [1,2]) (.enu #v[.v 2]) .nil [td,td,td,gV 2,gV 0,gV 1]])]
noncomputable def d6:Ss:=
 #v[.ret (.tup #v[.ix (.ix (.v 1) (.v 3)) (.c (.int 0)),.bi .tuple #v[.comp (.own "way" 4 #v[.v 3,.v 4,.v 2,.v 1]) (.nm 1) (.seq (.v 2)) .nil [td,td,gV 3,gV 0,gV 1]]])]
section
variable{defs:Hm (HL×Df)}{fuel d:Hu}{S:aa}{r:Hu}{Q:QW}
theorem xY {Φ:HL->FF}{m0 b0:W}{ns:Hm HL}{bs:Hm HF}{a:Hu}{u:Wd}{i j:Hu}{Q:QO}(hb:GoodB bs)(hl:ns.length=bs.length)(hu:GoodW a bs.length u)(hi:i < u.length)(hj:j < u.length)(hij:i≠j)(k:Q (.rt (.int (d4 bs u i j)),S)) :
  wZ Φ fuel tJ [gV (.tup [m0,.tup (HM bp ns bs),b0]),gV (aD u),gV (.int i),gV (.int j)] S Q:=by
 have hpi:=aA (d:=(0,[])) hi;have hpj:=aA (d:=(0,[])) hj;unfold d4 at k;dsimp only[tJ];refine bf λK hK=>?_
 dsimp only[wS,wT,wE,wV,wG,Ao,wO,wB,aD];refine ar (Q0:=Q) (λh Q2 _ hr=>?_) (λh Q2 hn _=>?_)
 ·have hji:j < i:=by have:=IV h; omega
  rw[HW hji]at k;have hw:j < (u.getD i (0,[])).2.length:=by rw[hu.len i _ hpi]; exact hji
  refine st ?_;dsimp only[wS,wE,wV,wG];refine aj (HB i) (dg hi) (aj #v[] rfl (aj (HB j) ?_ (hr _ _ k)))
  rw[HE,Hy,aA (d:=0) hw]; rfl
 ·have hji:¬ j < i:=by have:=KO h; omega
  rw[Ix hji]at k;refine bZ (hn _ _ (hK _ _ ?_));clear hn hK;have hw:i < (u.getD j (0,[])).2.length:=by rw[hu.len j _ hpj]; omega
  have hg:=aA (d:=0) hw;obtain⟨g1,g2⟩:=hu.way j _ hpj _ (HR hg);obtain⟨b,hb1,hb2,hb3⟩:=hb.rng ((u.getD j (0,[])).2.getD i 0).toNat ∅
  have hn:((u.getD j (0,[])).2.getD i 0).toNat < ns.length:=∅
  rw[getD_some hb1]at k;refine st ?_;dsimp only[wS,wE,wV,wG];refine aj #v[] rfl (aj (HB j) (dg hj) (aj #v[] rfl (aj (HB i) ?_ (aj g1 (la (HK hn) hb1) (aj #v[] rfl k)))))
  rw[HE,Hy,hg]; rfl
structure Parts (defs:Hm (HL×Df)):Prop where
 way:Is defs ("way" : HL) 4 4 tJ
 over:Is defs ("point_over" : HL) 4 4 d6
theorem Fg (P:Parts defs){m0 b0:W}{ns:Hm HL}{bs:Hm HF}{a:Hu}{u:Wd}{i j:Hu}(hb:GoodB bs)(hl:ns.length=bs.length)(hu:GoodW a bs.length u)(hi:i < u.length)(hj:j < u.length)(hij:i≠j)(k:Q (.int (d4 bs u i j),S)) :
  wO (br (au defs fuel (d+1)) "way" 4 [.tup [m0,.tup (HM bp ns bs),b0],aD u,.int i,.int j] S) Q:=
 az P.way rfl rfl λQ' hR=>xY hb hl hu hi hj hij (hR _ _ k)
theorem Dl (P:Parts defs){m0 b0:W}{ns:Hm HL}{bs:Hm HF}{a:Hu}{u:Wd}{ps:Hm Hu}{i:Hu}(hb:GoodB bs)(hl:ns.length=bs.length)(hu:GoodW a bs.length u)(hps:∀p∈ps,p < u.length/\i≠p)(hi:i < u.length)(hsz:ps.length<=1000)(k:∀S',Ka S S'->Q (bn ((u.getD i (0,[])).1,ps.map λq=>d4 bs u i q),S')) :
  wO (br (au defs fuel (d+2)) "point_over" 4 [.tup [m0,.tup (HM bp ns bs),b0],aD u,.tup (am ps),.int i] S) Q:=by
 refine az P.over rfl rfl λQ' hR=>?_
 replace k:∀S',Ka S S'->Q' (.rt (bn ((u.getD i (0,[])).1,ps.map λq=>d4 bs u i q)),S'):=λS' a=>hR _ _ (k S' a)
 clear hR;show wZ _ _ d6 [gV (.tup [m0,.tup (HM bp ns bs),b0]),gV (aD u),gV (.tup (am ps)),gV (.int i)] S Q';generalize hR0:W.tup [m0,.tup (HM bp ns bs),b0]=R;dsimp only[d6];refine st ?_;dsimp only[wS,wE,wA,wV,wG];refine aj (HB i) (dg hi) (aj #v[] rfl ?_)
 refine tf (am ps) (λj ys ρ2 S2=>(∃a1,ρ2=[td,a1,gV (.int i),gV R,gV (aD u)])/\ys=(ps.take j).map (λq=>W.int (d4 bs u i q))/\Ka S S2) rfl rfl rfl #[rfl,#[td,rfl],rfl,.refl] ?_ ?_
 ·rintro j w ys ρ2 S2 hw ⟨⟨a1,rfl⟩,rfl,k2⟩;unfold am at hw;rw[Hy,Hs]at hw;obtain⟨q,hq,rfl⟩:=hw;obtain⟨hqu,hqi⟩:=hps q (HR hq);refine ac (show fX (.nm 1) (.int (q:HF)) [td,a1,gV (.int i),gV R,gV (aD u)] S2=gV ([td,gV (.int (q:HF)),gV (.int i),gV R,gV (aD u)],S2)from rfl) ?_
  dsimp only[iV,wC,wE,wA,wV,wG];subst hR0;refine#[λ_=>Fg (d:=d) P hb hl hu hi hqu hqi #[#[_,rfl],?_,k2],λz=>by cases z]
  rw[II,hq];simp
 ·rintro ys ρ2 S2 ⟨_,rfl,k2⟩;rw[show(am ps).length=ps.length from Hq ..,IP]
  refine#[mQ (by rw[Hq]; exact hsz),eD ak ?_]
  have:=k _ (k2.trans (Ka.push (o:=O.lst (ps.map λq=>W.int (d4 bs u i q)))))
  unfold bn at this;rw[JQ]at this;exact this
theorem Fh (P:Parts defs)(hp:Is defs ("part" : HL) 3 3 jh){m0 b0:W}{ns:Hm HL}{bs:Hm HF}{a:Hu}{u:Wd}{ps:Hm Hu}(hb:GoodB bs)(hl:ns.length=bs.length)(hu:GoodW a bs.length u)(hps:∀p∈ps,p < u.length)(hnd:ps.Nodup)(hsz:ps.length<=1000)(k:∀S',Ka S S'->Q (aD (ay bs u ps),S')) :
  wO (br (au defs fuel (d+3)) "part" 3 [.tup [m0,.tup (HM bp ns bs),b0],aD u,.tup (am ps)] S) Q:=by
 refine az hp rfl rfl λQ' hR=>?_
 replace k:∀S',Ka S S'->Q' (.rt (aD (ay bs u ps)),S'):=λS' a=>hR _ _ (k S' a)
 clear hR;show wZ _ _ jh [gV (.tup [m0,.tup (HM bp ns bs),b0]),gV (aD u),gV (.tup (am ps))] S Q';generalize hR0:W.tup [m0,.tup (HM bp ns bs),b0]=R;dsimp only[jh];refine st ?_;dsimp only[wS,wE,wA];refine Ar (am ps) (λj ys ρ2 S2=>(∃a1 a2,ρ2=[td,a1,a2,gV (.tup (am ps)),gV R,gV (aD u)])/\ys=((ay bs u ps).take j).map bn/\Ka S S2) rfl rfl rfl #[rfl,#[td,td,rfl],rfl,.refl] ?_ ?_
 ·rintro j w ys ρ2 S2 hw ⟨⟨a1,a2,rfl⟩,rfl,k2⟩;unfold am at hw;rw[Hy,Hs]at hw;obtain⟨q,hq,rfl⟩:=hw;have hj:j < ps.length:=(HI.mp hq).1;have eq:q=ps[j]:=(HI.mp hq).2.symm;refine ac (show fX (.tp [1,2]) (.tup [.int (j:HF),.int (q:HF)]) [td,a1,a2,gV (.tup (am ps)),gV R,gV (aD u)] S2=gV ([td,gV (.int (j:HF)),gV (.int (q:HF)),gV (.tup (am ps)),gV R,gV (aD u)],S2)from rfl) ?_
  dsimp only[iV,wC,wE,wA,wP,wV,wG,wN];refine#[λ_=>ac (a:=(.tup (am (ps.take j)),S2)) ?_ ?_,λz=>by cases z]
  ·simp only[lF,eE];unfold am;rw[KI]
  ·subst hR0;refine Dl (d:=d) P hb hl hu (λp hp=>#[hps p (J7 hp),?_]) (hps q (HR hq)) (by rw[Il]; omega) λS3 k3=>#[#[_,_,rfl],?_,k2.trans k3]
   ·obtain⟨m,hm,e⟩:=Ld.mp hp;rw[Il]at hm;rw[K6]at e;rw[eq,<- e];intro z;have:=(Kv hnd).mp z;omega
   ·have ep:(ay bs u ps)[j]?=gV ((u.getD q (0,[])).1,(ps.take j).map λq'=>d4 bs u q q'):=by
     unfold ay;rw[Hy,Jm hj,Ij,getD_some hq]
    rw[II,ep];simp
 ·rintro ys ρ2 S2 ⟨_,rfl,k2⟩;rw[show(am ps).length=ps.length from Hq ..,<- dz bs u ps,IP]
  exact#[mQ (by rw[Hq,dz]; exact hsz),eD ak (k _ (k2.trans .push))]
end
section
variable{S:aa}{Q:QW}
theorem qp:∀(xs:Hm Hu) (i:Hu),(am xs).eraseIdx i=am (xs.eraseIdx i)
 | [],i=>by cases i <;> rfl
 | x::xs,0=>rfl
 | x::xs,i+1=>by
  show W.int (x:Hu)::(am xs).eraseIdx i=W.int (x:Hu)::am (xs.eraseIdx i);rw[qp xs i]
theorem uR (n:Hu):zq 0 ((n:HF) - 0).toNat=am (HJ n):=by
 unfold zq am;rw[show((n:HF) - 0).toNat=n by omega]
 exact JM λk _=>by rw[K4]
theorem AK {i n:Hu}(h:S[i]?=gV (.rng 0 n))(hn:n<=1000)(q:Q (.ref S.length,S++[.lst (am (HJ n))])):wO (Bi.list.fn [.ref i] S) Q:=by
 refine ac ?_ q;have h1:uh S i=gV (0,(n:HF)):=by simp[uh,h]
 have h2:ip [.ref i] S=gV (.ref S.length,S++[.lst (am (HJ n))]):=by
  simp only[ip,h1];rw[HW #[∅,∅,∅,∅,by rw[IH]; omega],uR]
 simp only[Bi.fn,CU,h2]
theorem Fi {t:Hu}{xs:Hm W}{v:HF}{w:W}(h:S[t]?=gV (.lst xs))(h0:0<=v)(hw:xs[v.toNat]?=gV w)(hl:xs.length<=1000)(q:Q (w,S.set t (.lst (xs.eraseIdx v.toNat)))):wO (Me.pop.fn (.ref t) [.int v] S) Q:=by
 refine ac ?_ q;have hv:=(HI.mp hw).1;have hs:seqIndex? v xs.length=gV v.toNat:=by
  unfold seqIndex?;rw[Ix (show ¬ v < 0 by omega)]
  exact HW (by rw[Hw]; exact#[Jg h0,Jg ∅])
 simp only[Me.fn,zp,cU h];rw[HW #[∅,∅]]
 simp only[hs,hw]
end
noncomputable def gh (n:Hu)(os:Hm (Hm Hu)):Hm (Hm Hu):=os.flatMap λo=>((HJ n).filter λp=>decide (p∉o)).map λp=>o++[p]
theorem qr {n:Hu}:∀os:Hm (Hm Hu),(gh n os).length<=os.length*n
 | []=>by simp[gh]
 | o::os=>by
  have ih:=qr (n:=n) os;unfold gh at ih ⊢;rw[Nt,HA,Hq,IN,ON];have:=JD (λp=>decide (p∉o)) (HJ n)
  rw[Iv]at this;omega
theorem uS {n:Hu}{os:Hm (Hm Hu)}{i:Hu}:(gh n (os.take i)).length<=os.length*n:=by
 refine IE (qr _) (Nat.mul_le_mul_right _ ?_);rw[Il]; omega
theorem mY {S:aa}{d:Hu}:∀xs ys:Hm HF,lJ (lE S d) (xs.map W.int) (ys.map W.int)=gV (decide (xs=ys))
 | [],[]=>rfl
 | [],_::_=>rfl
 | _::_,[]=>rfl
 | x::xs,y::ys=>by
  have e:lE S d (.int x) (.int y)=gV (x==y):=by cases d <;> rfl
  simp only[Jr,lJ,e,mY xs ys]
  by_cases h:x=y
  ·subst h; by_cases h2:xs=ys <;> simp[h2]
  ·have h':(x==y)=false:=by simpa using h
   simp[h,h']
theorem qt {p:Hu}:∀ps:Hm Hu,((am ps).any λz=>vc z (.int p))=decide (p∈ps)
 | []=>rfl
 | q::ps=>by
  show((q:HF)==(p:HF)||(am ps).any _)=_
  rw[qt ps]
  by_cases h:q=p
  ·subst h; simp
  ·have h1:((q:HF)==(p:HF))=false:=by simp; omega
   have h2:¬ p=q:=λe=>h e.symm
   rw[h1]; simp[h2]
theorem uT (ps:Hm Hu):(am ps).all ci=true:=by
 rw[HX];intro x hx;obtain⟨p,_,rfl⟩:=Io.mp hx;rfl
theorem xZ {S:aa}{p:Hu}{ps:Hm Hu}:b6 .notin (.int p) (.tup (am ps)) S=gV (.bl (decide (p∉ps)),S):=by
 show gA .notin (.int p) (.tup (am ps)) S=_;have hf:(ci (.int p)&&(am ps).all ci)=true:=by rw[uT]; rfl
 simp only[gA,Bh,zh,eI,hf,Kf,Ij,qt];congr 3
 by_cases h:p∈ps <;> simp[h]
theorem qu {xs:Hm W}:jR xs td (gV (-1))=xs.dropLast:=by
 unfold jR;rw[HT.kj,Om,OQ,List.dropLast_eq_take];congr 1;show(if (-1:HF) < 0 then((-1:HF)+(xs.length:HF)).toNat else min (-1:HF).toNat xs.length)=_
 rw[HW #v[]]; omega
noncomputable def bX:Ss:=
 #v[.set 2 (.lst .nil),.loop (.nm 3) (.seq (.v 0)) #v[.ex (.me .extend (.v 2) #v[.comp (.op .add (.v 2) (.tup #v[.v 1])) (.nm 1) (.rng #v[.v 1]) #v[.cmp .notin (.v 1) (.v 2)] [td,td,gV 3]])],.ret (.v 2)]
noncomputable def cN (os:Hm (Hm Hu)):Hm W:=os.map λo=>.tup (am o)
section
variable{defs:Hm (HL×Df)}{fuel d:Hu}{S:aa}{Q:QW}
theorem Dm {t l:Hu}{xs ys:Hm W}(h:S[t]?=gV (.lst xs))(h2:S[l]?=gV (.lst ys))(hl:xs.length+ys.length<=1000000)(q:Q (.non,S.set t (.lst (xs++ys)))):wO (Me.extend.fn (.ref t) [.ref l] S) Q:=by
 refine ac ?_ q;simp only[Me.fn,j5,cU h,cU h2];rw[HW (by rw[IH]; omega)]
theorem jU {n:Hu}(h:n<=1000000):n<=sizeLine:=by rw[IH]; omega
theorem ya (hg:Is defs ("longer_orders" : HL) 2 4 bX){n l:Hu}{os:Hm (Hm Hu)}(e:S[l]?=gV (.lst (cN os)))(hn:n<=100)(hol:∀o∈os,o.length<=100)(hos:os.length*n<=100000)
  (k:∀(q:Hu) (S':aa),S'[q]?=gV (.lst (cN (gh n os)))->S.length<=q->Ka S S'->Q (.ref q,S')) :
  wO (br (au defs fuel (d+1)) "longer_orders" 2 [.ref l,.int n] S) Q:=by
 refine az hg rfl rfl λQ' hR=>?_
 replace k:∀(q:Hu) (S':aa),S'[q]?=gV (.lst (cN (gh n os)))->S.length<=q->Ka S S'->Q' (.rt (.ref q),S'):=λa b c e f=>hR _ _ (k a b c e f)
 clear hR;show wZ _ _ bX [gV (.ref l),gV (.int n),td,td] S Q';have hlS:=cF e;dsimp only[bX];refine st ?_;dsimp only[wS,wE,wA,HD];refine bf λK hK=>?_
 refine sZ l (cN os) (λi ρ S'=>(∃a3,ρ=[gV (.ref l),gV (.int n),gV (.ref S.length),a3])/\S'[l]?=gV (.lst (cN os))/\S'[S.length]?=gV (.lst (cN (gh n (os.take i))))/\Ka S S') rfl rfl #[rfl,#[td,rfl],aq e,ak,.push] (λi ρ S' h=>h.2.1) ?_ ?_
 ·rintro i w ρ S1 hw ⟨⟨a3,rfl⟩,e0,e1,k1⟩;clear hK k;unfold cN at hw;rw[Hy,Hs]at hw;obtain⟨o,ho,rfl⟩:=hw;have hol:=hol o (HR ho);refine ac (show fX (.nm 3) (.tup (am o)) [gV (.ref l),gV (.int n),gV (.ref S.length),a3] S1=gV ([gV (.ref l),gV (.int n),gV (.ref S.length),gV (.tup (am o))],S1)from rfl) ?_
  intro Q2 hn _;refine st ?_;dsimp only[wS,wE,wA,wV,wG];refine#[dP e1,?_];refine eL (n:HF) (λj ys ρ2 S2=>(∃a1,ρ2=[td,a1,gV (.tup (am o))])/\ys=cN (((HJ j).filter λp=>decide (p∉o)).map λp=>o++[p])/\S2=S1) rfl rfl rfl ∅ #[rfl,#[td,rfl],rfl,rfl] ?_ ?_
  ·rintro j ys ρ2 S2 hj ⟨⟨a1,rfl⟩,rfl,rfl⟩;dsimp only[iV,wC,wE,wA,wV,wG,HD];refine ac xZ ?_;dsimp only[wB];have er:(HJ (j+1)).filter (λp=>decide (p∉o))=(HJ j).filter (λp=>decide (p∉o))++(if j∉o then[j]else[]):=by
    rw[Ki,KP];congr 1
    by_cases h:j∈o <;> simp[h]
   refine#[λh=>?_,λh=>#[#[_,rfl],?_,rfl]]
   ·have h:j∉o:=IV h;refine ac (eT (jU (by rw[HA,show(am o).length=o.length from Hq ..]; show _+1<=_; omega))) #[#[_,rfl],?_,rfl]
    rw[er,HW h,Ip];unfold cN;rw[Ip];simp[am]
   ·have h:¬ j∉o:=KO h;rw[er,Ix h,IZ]
  ·rintro ys ρ2 S2 ⟨_,rfl,rfl⟩;rw[HE];have hlen:(cN (((HJ n).filter λp=>decide (p∉o)).map λp=>o++[p])).length<=n:=by
    unfold cN;rw[Hq,Hq];exact IE (JD _ _) (by rw[Iv]; exact HG _)
   have e1':=aq (u:=O.lst (cN (((HJ n).filter λp=>decide (p∉o)).map λp=>o++[p]))) e1
   have hlt:=uS (n:=n) (os:=os) (i:=i);have hlw:(cN (gh n (os.take i))).length=(gh n (os.take i)).length:=Hq ..;refine#[jU ∅,Dm e1' ak ∅ (bZ (hn _ _ #[#[_,rfl],?_,?_,(k1.trans .push).late (HG _)]))]
   ·rw[bV ∅]; exact aq e0
   ·rw[b7 e1'];unfold gh cN;rw[II,ho];simp
 ·rintro ρ S1 ⟨⟨a3,rfl⟩,e0,e1,k1⟩;rw[show(cN os).length=os.length from Hq ..,IP]at e1
  exact hK _ _ (st (k _ _ e1 (HG _) k1))
end
section
variable{defs:Hm (HL×Df)}{fuel d:Hu}{S:aa}{Q:QW}
theorem Dn {t:Hu}{xs:Hm W}{y:W}(h:S[t]?=gV (.lst xs))(hl:xs.length < 1000000)(q:Q (.non,S.set t (.lst (xs++[y])))):wO (Me.append.fn (.ref t) [y] S) Q:=ac (sX h (by rw[IH]; omega)) q
end
section
variable{Φ:HL->FF}{ρ:Fm}{S:aa}
theorem yb {α:Type}{elt:E}{it:Ie}{cs:Es}{cap:Hm (Ht Hu)}{mi:MI}{S1:aa}{Q:QW}(L:Hm α)(f:α->W)(p:α->HV)(g:α->W)(R:Fm)(oe:eA elt=true)(oc:p9 cs=true)(hc:fN cap ρ=td::td::R)(hl:L.length<=1000000)(hi:j8 Φ it ρ S=gV (mi,S1))(k1:Ka S S1)(hat:∀i S',Ka S1 S'->mi.at S' i=gV (L.map f)[i]?)(hn:mi.len S1=gV (L.map f).length)
  (hstep:∀x∈L,∀S',Ka S S'->iV Φ elt cs (td::gV (f x)::R) S' (λy _ S2=>p x=true/\y=g x/\Ka S' S2) (λ_ S2=>p x=false/\Ka S' S2))
  (k:∀S',Ka S S'->Q (.ref S'.length,S'++[.lst ((L.filter p).map g)])):Wp (aK Φ (.comp elt (.nm 1) it cs cap) ρ S) Q:=by
 rw[xm];refine#[_,hi,_,hn,?_];refine(dY (xs:=L.map f) (Q:=λq=>q.1.length<=sizeLine/\Q (.ref q.2.length,q.2++[.lst q.1])) (λi ys ρ' S'=>(∃a1,ρ'=td::a1::R)/\ys=((L.take i).filter p).map g/\Ka S1 S') (λi ys ρ' S' h=>hat i S' h.2.2) (λi w ys ρ' S' hw h=>?_) (λys ρ' S' h=>?_) (L.map f).length 0 [] _ S1 ∅ #[#[td,hc],rfl,.refl]).mono λq hq=>by simpa using hq
 ·obtain⟨⟨a1,rfl⟩,rfl,k2⟩:=h;rw[Hy,Hs]at hw;obtain⟨x,hx,rfl⟩:=hw;refine GF.mpr ?_;refine(Bz oc (hstep x (HR hx) S' (k1.trans k2))).mono λc hc=>#[λz=>(bG elt oe (hc.1 z)).mono λy hy=>#[#[_,rfl],?_,k2.trans hy.2.2],λz=>#[#[_,rfl],?_,k2.trans (hc.2 z).2]]
  ·rw[II,hx,KP,show(OE (gV x)).filter p=[x]from List.filter_cons_of_pos hy.1,Ip,hy.2.1]; rfl
  ·rw[II,hx,KP,show(OE (gV x)).filter p=[]from List.filter_cons_of_neg (by rw[(hc.2 z).1]; exact HU),IZ]
 ·obtain⟨_,rfl,k2⟩:=h;dsimp only;rw[show(L.map f).length=L.length from Hq ..,IP]
  refine#[jU ?_,k S' (k1.trans k2)];rw[Hq];exact IE (JD _ _) hl
theorem ox {α:Type}{elt e:E}{cs:Es}{cap:Hm (Ht Hu)}{Q:QW}(L:Hm α)(f:α->W)(p:α->HV)(g:α->W)(R:Fm)(oi:eA e=true)(oe:eA elt=true)(oc:p9 cs=true)(hc:fN cap ρ=td::td::R)(hl:L.length<=1000000)
  (he:wE Φ e ρ S λq=>∃t,q.1=.ref t/\q.2[t]?=gV (.lst (L.map f))/\Ka S q.2)
  (hstep:∀x∈L,∀S',Ka S S'->iV Φ elt cs (td::gV (f x)::R) S' (λy _ S2=>p x=true/\y=g x/\Ka S' S2) (λ_ S2=>p x=false/\Ka S' S2))
  (k:∀S',Ka S S'->Q (.ref S'.length,S'++[.lst ((L.filter p).map g)])):Wp (aK Φ (.comp elt (.nm 1) (.seq e) cs cap) ρ S) Q:=by
 obtain⟨w,S1,e1,t,rfl,ht,k1⟩:=cG oi he;exact yb (mi:=.live t) L f p g R oe oc hc hl (by simp only[j8,fM,e1,aL ht]) k1 (λi S' h=>by simp only[MI.at,aL (h.get _ _ ht)]) (by simp only[MI.len,aL ht,Ij]) hstep k
theorem qv (n:Hu):dk 0 n=(HJ n).map λi=>W.int (i:Hu):=by
 unfold dk;refine JM λi _=>?_
 rw[K4]
theorem rR {elt e:E}{cs:Es}{cap:Hm (Ht Hu)}{Q:QW}(n:Hu)(p:Hu->HV)(g:Hu->W)(R:Fm)(oi:eA e=true)(oe:eA elt=true)(oc:p9 cs=true)(hc:fN cap ρ=td::td::R)(hl:n<=1000000)
  (he:wE Φ e ρ S λq=>q.1=.int n/\Ka S q.2)
  (hstep:∀x < n,∀S',Ka S S'->iV Φ elt cs (td::gV (.int (x:Hu))::R) S' (λy _ S2=>p x=true/\y=g x/\Ka S' S2) (λ_ S2=>p x=false/\Ka S' S2))
  (k:∀S',Ka S S'->Q (.ref S'.length,S'++[.lst (((HJ n).filter p).map g)])):Wp (aK Φ (.comp elt (.nm 1) (.rng #v[e]) cs cap) ρ S) Q:=by
 obtain⟨w,S1,e1,rfl,k1⟩:=cG oi he;refine yb (mi:=.its (dk 0 n)) (HJ n) (λi=>W.int (i:Hu)) p g R oe oc hc (by rw[Iv]; exact hl) ?_ k1 (λi S' _=>by rw[<- qv]; rfl) (by rw[<- qv]; rfl) (λx hx=>hstep x (Iy.mp hx)) k
 simp only[j8,dq,dU,iz,rA,e1];rw[HW #[∅,∅]]; rfl
theorem iL {α:Type}(L:Hm α):L.filter (λ_=>true)=L:=MN.mpr λ_ _=>rfl
end
theorem Do {bs:Hm HF}{a:Hu}{v:Wd}{i j:Hu}(hb:GoodB bs)(hv:GoodW a bs.length v)(hi:i < v.length)(hj:j < v.length)(hij:i≠j):0<=d4 bs v i j/\d4 bs v i j < (bs.length:HF):=by
 unfold d4
 by_cases h:j < i
 ·rw[HW h];have hp:=aA (d:=(0,[])) hi;have hw:j < (v.getD i (0,[])).2.length:=by rw[hv.len i _ hp]; exact h
  exact hv.way i _ hp _ (HR (aA (d:=0) hw))
 ·rw[Ix h];have hp:=aA (d:=(0,[])) hj;have hw:i < (v.getD j (0,[])).2.length:=by rw[hv.len j _ hp]; omega
  obtain⟨g1,g2⟩:=hv.way j _ hp _ (HR (aA (d:=0) hw));exact(hb.at g1 g2).2
theorem mZ {bs:Hm HF}{a:Hu}{v:Wd}{ps:Hm Hu}(hb:GoodB bs)(hv:GoodW a bs.length v)(hps:∀p∈ps,p < v.length)(hnd:ps.Nodup):GoodW a bs.length (ay bs v ps):=by
 have at':∀(k:Hu) (q:Pt),(ay bs v ps)[k]?=gV q->∃hk:k < ps.length,q=((v.getD ps[k] (0,[])).1,(ps.take k).map λj=>d4 bs v ps[k] j):=λk q e=>by
  have hk:k < ps.length:=by
   have:=(HI.mp e).1;rw[dz]at this; exact this
  refine#[hk,?_];unfold ay at e;rw[Hy,Jm hk,Ij,show ps.getD k 0=ps[k] by simp[hk]]at e
  exact(IS e).symm
 refine#[λk q e=>?_,λk q e=>?_,λk q e=>?_]
 ·obtain⟨hk,rfl⟩:=at' k q e;have:=hv.mark _ _ (aA (d:=(0,[])) (hps _ (IT hk)));exact this
 ·obtain⟨hk,rfl⟩:=at' k q e;dsimp only;rw[Hq,Il]; omega
 ·obtain⟨hk,rfl⟩:=at' k q e;intro w hw;obtain⟨j,hj,rfl⟩:=Io.mp hw;have hjm:=J7 hj;refine Do hb hv (hps _ (IT hk)) (hps _ hjm) λe=>?_
  obtain⟨m,hm,e2⟩:=Ld.mp hj;rw[Il]at hm;rw[K6]at e2;have:=(Kv hnd).mp (e.trans e2.symm);omega
section
variable{defs:Hm (HL×Df)}{fuel d:Hu}{S:aa}{Q:QW}
theorem Dp (hd:Is defs ("_law_flow" : HL) 1 1 eC){ns:Hm HF}{u:Hu}(hu:S[u]?=gV (.fro (ns.map W.int)))(k:∀r S',Ka S S'->Fl S' r->Q (.ref r,S')) :
  wO (br (au defs fuel (d+1)) "_law_flow" 1 [.ref u] S) Q:=by
 refine az hd rfl rfl λQ' hR=>?_
 show wZ _ _ eC [gV (.ref u)] S Q';dsimp only[eC];refine st ?_;dsimp only[wS,wE,wA,wV,wG];have e:Bi.list.fn [.ref u] S=gV (.ref S.length,S++[.lst (ns.map W.int)]):=by
  have h1:uh S u=td:=by simp[uh,hu]
  simp only[Bi.fn,CU,ip,h1,gN,eI,Ap hu]
 refine ac e (hR _ _ (k _ _ (Ka.push.trans .push) #[S.length,ns,0,0,1,0,?_,?_,?_,#v[],#v[],#v[],#v[]]))
 ·exact ak
 ·exact aq ak
 ·simp
end
noncomputable def dB:Ss:=
 #v[.set 4 (.tup #v[.ix (.ix (.v 0) (.v 1)) (.c (.int 0)),.tup .nil]),.set 5 (.tup #v[.ix (.ix (.v 0) (.v 2)) (.c (.int 0)),.tup #v[.ix (.ix (.ix (.v 0) (.v 2)) (.c (.int 1))) (.v 1)]]),.ret (.tup #v[.v 4,.v 5,.tup #v[.ix (.ix (.v 0) (.v 3)) (.c (.int 0)),.tup #v[.ix (.ix (.ix (.v 0) (.v 3)) (.c (.int 1))) (.v 1),.ix (.ix (.ix (.v 0) (.v 3)) (.c (.int 1))) (.v 2)]]])]
noncomputable def gj (u:Wd)(i j k:Hu):Wd:=[((u.getD i (0,[])).1,[]),((u.getD j (0,[])).1,[(u.getD j (0,[])).2.getD i 0]),((u.getD k (0,[])).1,[(u.getD k (0,[])).2.getD i 0,(u.getD k (0,[])).2.getD j 0])]
section
variable{defs:Hm (HL×Df)}{fuel d:Hu}{S:aa}{Q:QW}
theorem AL (hg:Is defs ("three_at" : HL) 4 6 dB){a n:Hu}{u:Wd}{i j k:Hu}(hu:GoodW a n u)(h1:i < j)(h2:j < k)(h3:k < u.length)(q:Q (aD (gj u i j k),S)) :
  wO (br (au defs fuel (d+1)) "three_at" 4 [aD u,.int i,.int j,.int k] S) Q:=by
 refine az hg rfl rfl λQ' hR=>?_
 replace q:=hR _ _ q;clear hR;show wZ _ _ dB [gV (aD u),gV (.int i),gV (.int j),gV (.int k),td,td] S Q';have hi:i < u.length:=∅
 have hj:j < u.length:=∅
 have lj:i < (u.getD j (0,[])).2.length:=by rw[hu.len j _ (aA (d:=(0,[])) hj)]; exact h1
 have lk:j < (u.getD k (0,[])).2.length:=by rw[hu.len k _ (aA (d:=(0,[])) h3)]; exact h2
 have lki:i < (u.getD k (0,[])).2.length:=∅
 have w:∀ {p m:Hu},m < (u.getD p (0,[])).2.length->((u.getD p (0,[])).2.map W.int)[((m:Hu):HF).toNat]?=gV (.int ((u.getD p (0,[])).2.getD m 0)):=λ{p m} h=>by
  rw[HE,Hy,aA (d:=0) h]; rfl
 dsimp only[dB];refine st ?_;dsimp only[wS,wE,wA,wV,wG,HD];refine aj (HB i) (dg hi) (aj #v[] rfl ?_)
 refine st ?_;dsimp only[wS,wE,wA,wV,wG,HD];refine aj (HB j) (dg hj) (aj #v[] rfl (aj (HB j) (dg hj) (aj #v[] rfl (aj (HB i) (w lj) ?_))))
 refine st ?_;dsimp only[wS,wE,wA,wV,wG,HD];exact aj (HB k) (dg h3) (aj #v[] rfl (aj (HB k) (dg h3) (aj #v[] rfl (aj (HB i) (w lki) (aj (HB k) (dg h3) (aj #v[] rfl (aj (HB j) (w lk) q)))))))
end
noncomputable def oy (kvs:Hm (T×W))(u:Wd)(i j k:Hu):HV:=(cx kvs (du (gj u i j k))).isSome
structure HasD (kvs:Hm (T×W))(L:Hm Wd):Prop where
 iff:∀t,t∈kvs.map (·.1)↔t∈L.map du
 len:kvs.length<=L.length
theorem yc {kvs:Hm (T×W)}{t:T}:(cx kvs t).isSome=true↔t∈kvs.map (·.1):=by
 constructor
 ·intro h;obtain⟨v,hv⟩:=IM.mp h;exact Io.mpr #[_,lg hv,rfl]
 ·intro h;obtain⟨p,hp,rfl⟩:=Io.mp h;obtain⟨v,hv⟩:=tD hp;rw[hv]; rfl
theorem HasD.get {kvs:Hm (T×W)}{L:Hm Wd}(h:HasD kvs L)(t:T):(cx kvs t).isSome=decide (t∈L.map du):=by
 rw[Lh,yc,h.iff,Ii]
theorem HasD.nil:HasD [] []:=#[λt=>by simp,HG _]
theorem HasD.put {kvs:Hm (T×W)}{L:Hm Wd}{f:Wd}{v:W}(h:HasD kvs L):HasD (eG kvs (du f) v) (L++[f]):=by
 refine#[λt=>?_,?_]
 ·rw[je,Ip,Iz,<- h.iff t]
  by_cases hk:du f∈kvs.map (·.1)
  ·rw[HW hk];constructor
   ·exact .inl
   ·rintro(z|z)
    ·exact z
    ·rw[HN.mp z]; exact hk
  ·rw[Ix hk,Iz]; rfl
 ·have:=c9 kvs (du f) v;have:=h.len;rw[HA,Jo]; omega
noncomputable def ft:Ss:=
 #v[.set 1 .dnew,.loop (.nm 2) (.seq (.ix (.v 0) (.c (.int 2)))) #v[.loop (.nm 3) (.seq (.own "_law_turns" 0 .nil)) #v[.put (.v 1) (.own "_law_part" 3 #v[.v 0,.v 2,.v 3]) (.c (.bl true))]],.ret (.v 1)]
noncomputable def cH (bs:Hm HF)(gs:Hm Wd):Hm Wd:=gs.flatMap λg=>aC.map (ay bs g)
theorem lh (bs:Hm HF):∀gs:Hm Wd,(cH bs gs).length=6*gs.length
 | []=>rfl
 | g::gs=>by
  have:=lh bs gs;unfold cH at this ⊢;rw[Nt,HA,this,IN,Hq,show aC.length=6 from rfl]; omega
section
variable{defs:Hm (HL×Df)}{fuel d:Hu}{S:aa}{Q:QW}
theorem Fj (G:Gen defs)(hg:Is defs ("_law_bad" : HL) 1 4 ft){m0:W}{ns:Hm HL}{bs:Hm HF}{a:Hu}{gs:Hm Wd}(hb:GoodB bs)(hnl:ns.length=bs.length)(hgs:∀g∈gs,GoodW a bs.length g/\g.length=3)(h64:gs.length<=100)
  (k:∀(q:Hu) (kvs:Hm (T×W)) (S':aa),S'[q]?=gV (.dic kvs)->HasD kvs (cH bs gs)->S.length<=q->Ka S S'->Q (.ref q,S')) :
  wO (br (au defs fuel (d+3)) "_law_bad" 1 [.tup [m0,.tup (HM bp ns bs),.tup (gs.map aD)]] S) Q:=by
 refine az hg rfl rfl λQ' hR=>?_
 replace k:∀(q:Hu) (kvs:Hm (T×W)) (S':aa),S'[q]?=gV (.dic kvs)->HasD kvs (cH bs gs)->S.length<=q->Ka S S'->Q' (.rt (.ref q),S'):=λa b c e f g h=>hR _ _ (k a b c e f g h)
 clear hR;show wZ _ _ ft [gV (.tup [m0,.tup (HM bp ns bs),.tup (gs.map aD)]),td,td,td] S Q';generalize hR0:W.tup [m0,.tup (HM bp ns bs),.tup (gs.map aD)]=R;dsimp only[ft];refine st ?_;dsimp only[wS,wE,HD];refine bf λK hK=>?_
 refine for_tup (gs.map aD) (λi ρ S'=>(∃a2 a3,ρ=[gV R,gV (.ref S.length),a2,a3])/\(∃kvs,S'[S.length]?=gV (.dic kvs)/\HasD kvs (cH bs (gs.take i)))/\Ka S S') rfl rfl ?_ ?_ ?_
 ·dsimp only[wE,wV,wG];subst hR0;exact aj #v[] rfl #[rfl,#[_,_,rfl],#[[],ak,.nil],.push]
 ·rintro i w ρ S1 hw ⟨⟨a2,a3,rfl⟩,⟨kvs,e1,h1⟩,k1⟩;clear hK k;rw[Hy,Hs]at hw;obtain⟨g,hg1,rfl⟩:=hw;obtain⟨gg,g3⟩:=hgs g (HR hg1);have hi:i < gs.length:=(HI.mp hg1).1;refine ac (show fX (.nm 2) (aD g) [gV R,gV (.ref S.length),a2,a3] S1=gV ([gV R,gV (.ref S.length),gV (aD g),a3],S1)from rfl) ?_
  intro Q2 hn _;refine bf λK hK=>?_
  refine fm rfl rfl ?_;dsimp only[wE,wA];refine ke (d:=d+1) G ?_;refine#[S1.length,aC.map (λt=>W.tup (am t)),(λj ρ S'=>(∃a3,ρ=[gV R,gV (.ref S.length),gV (aD g),a3])/\(∃kvs,S'[S.length]?=gV (.dic kvs)/\HasD kvs (cH bs (gs.take i)++(aC.take j).map (ay bs g)))/\S'[S1.length]?=gV (.lst (aC.map λt=>W.tup (am t)))/\Ka S S'),rfl,#[#[_,rfl],#[kvs,aq e1,by rw[On,Nl,IZ]; exact h1],ak,k1.trans .push],λj ρ S' h=>h.2.2.1,?_,?_]
  ·rintro j w ρ S2 hw ⟨⟨a3,rfl⟩,⟨kvs2,e2,h2⟩,el,k2⟩;clear hK hn;rw[Hy,Hs]at hw;obtain⟨t,ht,rfl⟩:=hw;have htm:=HR ht;have tk:t.length<=3/\t.Nodup/\∀p∈t,p < 3:=by
    have:∀t∈aC,t.length<=3/\t.Nodup/\∀p∈t,p < 3:=by decide
    exact this t htm
   refine ac (show fX (.nm 3) (.tup (am t)) [gV R,gV (.ref S.length),gV (aD g),a3] S2=gV ([gV R,gV (.ref S.length),gV (aD g),gV (.tup (am t))],S2)from rfl) ?_
   intro Q3 hn3 _;refine st ?_;dsimp only[wS,wE,wA,wV,wG];subst hR0;refine xB (d:=d) G hb hnl gg (λp hp=>by have:=tk.2.2 p hp; omega) tk.2.1 ∅ λS3 k3=>?_
   have e3:=k3.get _ _ e2;have hlt:kvs2.length < sizeLine:=by
    have b1:=h2.len;have b2:=lh bs (gs.take i);rw[HA,b2,Hq,Il,Il,show aC.length=6 from rfl]at b1
    rw[IH]; omega
   refine ac (xI e3 hlt) (bZ (hn3 _ _ #[#[_,rfl],#[_,b7 e3,?_],?_,(k2.trans k3).late (HG _)]))
   ·rw[II,ht,Ip,<- Km];exact h2.put
   ·rw[bV (by have:=k1.len; have:=cF e1; omega)]; exact k3.get _ _ el
  ·rintro ρ S2 ⟨⟨a3,rfl⟩,⟨kvs2,e2,h2⟩,el,k2⟩;rw[Hq,IP]at h2;refine hK _ _ (bZ (hn _ _ #[#[_,_,rfl],#[kvs2,e2,?_],k2]));unfold cH at h2 ⊢;rw[II,hg1,MO]
   simpa using h2
 ·rintro ρ S1 ⟨⟨a2,a3,rfl⟩,⟨kvs,e1,h1⟩,k1⟩;rw[Hq,IP]at h1;exact hK _ _ (st (k _ kvs S1 e1 h1 (HG _) k1))
end
noncomputable def cw:Ss:=
 #v[.set 1 (.lst #v[.tup .nil]),.whl (.cmp .lt (.bi .len #v[.ix (.v 1) (.c (.int 0))]) (.c (.int 3))) #v[.set 1 (.own "longer_orders" 2 #v[.v 1,.c (.int 3)])],.set 2 .dnew,.loop (.nm 3) (.seq (.ix (.v 0) (.c (.int 2)))) #v[.loop (.nm 4) (.seq (.v 1)) #v[.put (.v 2) (.own "part" 3 #v[.v 0,.v 3,.v 4]) (.c (.bl true))]],.ret (.v 2)]
noncomputable def uU:Hu->Hm (Hm Hu)
 | 0=>[[]]
 | i+1=>gh 3 (uU i)
theorem uV:uU 3=aC:=by decide
theorem Dq:∀i,i<=3->(∃o,(uU i)[0]?=gV o/\o.length=i)/\(uU i).length<=6/\∀o∈uU i,o.length<=3:=λi hi=>by
 rcases(show i=0\/i=1\/i=2\/i=3 by omega)with rfl|rfl|rfl|rfl
 ·exact#[#[[],rfl,rfl],#v[],#v[]]
 ·exact#[#[[0],rfl,rfl],#v[],#v[]]
 ·exact#[#[[0,1],rfl,rfl],#v[],#v[]]
 ·exact#[#[[0,1,2],rfl,rfl],#v[],#v[]]
section
variable{defs:Hm (HL×Df)}{fuel d:Hu}{S:aa}{Q:QW}
theorem yd (hfu:20 < fuel)(P:Parts defs)(hp:Is defs ("part" : HL) 3 3 jh)(hl:Is defs ("longer_orders" : HL) 2 4 bX)(hg:Is defs ("barred_threes" : HL) 1 5 cw){m0:W}{ns:Hm HL}{bs:Hm HF}{a:Hu}{gs:Hm Wd}(hb:GoodB bs)(hnl:ns.length=bs.length)(hgs:∀g∈gs,GoodW a bs.length g/\g.length=3)(h64:gs.length<=100)
  (k:∀(q:Hu) (kvs:Hm (T×W)) (S':aa),S'[q]?=gV (.dic kvs)->HasD kvs (cH bs gs)->S.length<=q->Ka S S'->Q (.ref q,S')) :
  wO (br (au defs fuel (d+4)) "barred_threes" 1 [.tup [m0,.tup (HM bp ns bs),.tup (gs.map aD)]] S) Q:=by
 refine az hg rfl rfl λQ' hR=>?_
 replace k:∀(q:Hu) (kvs:Hm (T×W)) (S':aa),S'[q]?=gV (.dic kvs)->HasD kvs (cH bs gs)->S.length<=q->Ka S S'->Q' (.rt (.ref q),S'):=λa b c e f g h=>hR _ _ (k a b c e f g h)
 clear hR;show wZ _ _ cw [gV (.tup [m0,.tup (HM bp ns bs),.tup (gs.map aD)]),td,td,td,td] S Q';generalize hR0:W.tup [m0,.tup (HM bp ns bs),.tup (gs.map aD)]=R;dsimp only[cw];refine st ?_;dsimp only[wS,wE,wA,HD];refine bf λK hK=>?_
 refine By (λm ρ S'=>∃(i q:Hu),i+m=3/\ρ=[gV R,gV (.ref q),td,td,td]/\S'[q]?=gV (.lst (cN (uU i)))/\S.length<=q/\Ka S S') 3 rfl rfl ∅ #[0,S.length,rfl,rfl,ak,HG _,.push] ?_
 rintro m ρ S1 ⟨i,q,him,rfl,e1,hq,k1⟩;obtain⟨⟨o,ho,hol⟩,l6,l3⟩:=Dq i ∅
 dsimp only[wT,wE,wA,wV,wG];refine kW (w:=.tup (am o)) e1 #v[] (by unfold cN; rw[Hy,show((0:HF).toNat)=0 from rfl,ho]; rfl) (bC ?_)
 rw[show(am o).length=o.length from Hq ..,hol]
 dsimp only[xn,bm,wB];refine#[λh=>?_,λh=>?_]
 ·have h:(i:HF) < 3:=IV h;refine#[m - 1,∅,λQ2 hn _=>?_]
  clear hK k;refine st ?_;dsimp only[wS,wE,wA,wV,wG,HD];refine ya (n:=3) (d:=d+2) hl e1 #v[] (λo ho=>by have:=l3 o ho; omega) ∅ λq2 S2 e2 hq2 k2=>bZ (hn _ _ #[i+1,q2,∅,rfl,e2,?_,k1.trans k2])
  exact IE k1.len hq2
 ·have h:¬ (i:HF) < 3:=KO h;obtain rfl:i=3:=∅
  rw[uV]at e1;refine hK _ _ ?_;clear hK K l6 l3 ho hol h him;refine st ?_;dsimp only[wS,wE,HD];refine bf λK hK=>?_
  have hq1:=cF e1;refine for_tup (gs.map aD) (λi ρ S'=>(∃a3 a4,ρ=[gV R,gV (.ref q),gV (.ref S1.length),a3,a4])/\(∃kvs,S'[S1.length]?=gV (.dic kvs)/\HasD kvs (cH bs (gs.take i)))/\S'[q]?=gV (.lst (cN aC))/\Ka S S') rfl rfl ?_ ?_ ?_
  ·dsimp only[wE,wV,wG];subst hR0;exact aj #v[] rfl #[rfl,#[_,_,rfl],#[[],ak,.nil],aq e1,k1.trans .push]
  ·rintro i w ρ S2 hw ⟨⟨a3,a4,rfl⟩,⟨kvs,e2,h2⟩,el2,k2⟩;clear hK k;rw[Hy,Hs]at hw;obtain⟨g,hg1,rfl⟩:=hw;obtain⟨gg,g3⟩:=hgs g (HR hg1);have hi:i < gs.length:=(HI.mp hg1).1;refine ac (show fX (.nm 3) (aD g) [gV R,gV (.ref q),gV (.ref S1.length),a3,a4] S2=gV ([gV R,gV (.ref q),gV (.ref S1.length),gV (aD g),a4],S2)from rfl) ?_
   intro Q2 hn _;refine bf λK hK=>?_
   refine sZ q (cN aC) (λj ρ S'=>(∃a4,ρ=[gV R,gV (.ref q),gV (.ref S1.length),gV (aD g),a4])/\(∃kvs,S'[S1.length]?=gV (.dic kvs)/\HasD kvs (cH bs (gs.take i)++(aC.take j).map (ay bs g)))/\S'[q]?=gV (.lst (cN aC))/\Ka S S') rfl rfl #[rfl,#[_,rfl],#[kvs,e2,by rw[On,Nl,IZ]; exact h2],el2,k2] (λj ρ S' h=>h.2.2.1) ?_ ?_
   ·rintro j w ρ S3 hw ⟨⟨a4,rfl⟩,⟨kvs3,e3,h3⟩,el3,k3⟩;clear hK hn;unfold cN at hw;rw[Hy,Hs]at hw;obtain⟨t,ht,rfl⟩:=hw;have tk:t.length<=3/\t.Nodup/\∀p∈t,p < 3:=by
     have:∀t∈aC,t.length<=3/\t.Nodup/\∀p∈t,p < 3:=by decide
     exact this t (HR ht)
    refine ac (show fX (.nm 4) (.tup (am t)) [gV R,gV (.ref q),gV (.ref S1.length),gV (aD g),a4] S3=gV ([gV R,gV (.ref q),gV (.ref S1.length),gV (aD g),gV (.tup (am t))],S3)from rfl) ?_
    intro Q3 hn3 _;refine st ?_;dsimp only[wS,wE,wA,wV,wG];subst hR0;refine Fh (d:=d) P hp hb hnl gg (λp hp=>by have:=tk.2.2 p hp; omega) tk.2.1 ∅ λS4 k4=>?_
    have e4:=k4.get _ _ e3;have hlt:kvs3.length < sizeLine:=by
     have b1:=h3.len;have b2:=lh bs (gs.take i);rw[HA,b2,Hq,Il,Il,show aC.length=6 from rfl]at b1
     rw[IH]; omega
    refine ac (xI e4 hlt) (bZ (hn3 _ _ #[#[_,rfl],#[_,b7 e4,?_],?_,(k3.trans k4).late k1.len]))
    ·rw[II,ht,Ip,<- Km];exact h3.put
    ·rw[bV ∅]; exact k4.get _ _ el3
   ·rintro ρ S3 ⟨⟨a4,rfl⟩,⟨kvs3,e3,h3⟩,el3,k3⟩;rw[show(cN aC).length=aC.length from Hq ..,IP]at h3
    refine hK _ _ (bZ (hn _ _ #[#[_,_,rfl],#[kvs3,e3,?_],el3,k3]));unfold cH at h3 ⊢;rw[II,hg1,MO]
    simpa using h3
  ·rintro ρ S2 ⟨⟨a3,a4,rfl⟩,⟨kvs,e2,h2⟩,el2,k2⟩;rw[Hq,IP]at h2;exact hK _ _ (st (k _ kvs S2 e2 h2 k1.len k2))
end
noncomputable def bo:Ss:=
 #v[.loop (.nm 6) (.rng2 #v[.bi .len #v[.v 5],.bi .len #v[.v 3]]) #v[.set 7 (.lst .nil),.loop (.nm 8) (.rng #v[.bi .len #v[.ix (.v 1) (.c (.int 1))]]) #v[.set 9 (.lst .nil),.loop (.nm 10) (.rng #v[.v 6]) #v[.ex (.me .append (.v 9) #v[.cmp .isin (.tup #v[.tup #v[.ix (.ix (.v 3) (.v 10)) (.c (.int 0)),.tup .nil],.tup #v[.ix (.ix (.v 3) (.v 6)) (.c (.int 0)),.tup #v[.ix (.ix (.ix (.v 3) (.v 6)) (.c (.int 1))) (.v 10)]],.tup #v[.v 4,.tup #v[.ix (.v 5) (.v 10),.v 8]]]) (.v 2)])],.ite (.cmp .notin (.c (.bl true)) (.v 9)) #v[.ex (.me .append (.v 7) #v[.v 8])] .nil],.ite (.cmp .eq (.v 7) (.lst .nil)) #v[.ret (.c .non)] .nil,.set 5 (.op .add (.v 5) (.tup #v[.ix (.v 7) (.own "_law_pick" 2 #v[.v 0,.bi .len #v[.v 7]])]))],.ret (.v 5)]
theorem ye {S:aa}{l:Hu}{bl:Hm HV}(h:S[l]?=gV (.lst (bl.map W.bl))):∃b,b6 .notin (.bl true) (.ref l) S=gV (.bl b,S):=by
 have hf:(ci (.bl true)&&(bl.map W.bl).all ci)=true:=by
  simp only[ci,Kk,HX];intro x hx;obtain⟨z,_,rfl⟩:=Io.mp hx;rfl
 refine#[!(bl.map W.bl).any λz=>vc z (.bl true),?_]
 simp only[b6,iB h,gA,Bh,zh,eI,aL h,hf,Kf,Ij]
section
variable{defs:Hm (HL×Df)}{fuel d:Hu}{S:aa}{r:Hu}{Q:QW}
theorem li (G:Gen defs)(hg:Is defs ("_law_new_ways" : HL) 6 11 bo){m0 b0:W}{N:Hm W}{a n q:Hu}{u:Wd}{mk:HF}{kvs:Hm (T×W)}(hN:N.length=n)(hn3:n<=3)(hu:GoodW a n u)(hl:u.length<=900)(e:S[q]?=gV (.dic kvs))(hqr:q≠r)(hf:Fl S r)
  (k:∀w S',(w=.non\/∃to:Hm HF,w=.tup (ab to)/\to.length=u.length/\∀x∈to,0<=x/\x < (n:HF))->Fl S' r->Kp r S S'->Q (w,S')) :
  wO (br (au defs fuel (d+2)) "_law_new_ways" 6 [.ref r,.tup [m0,.tup N,b0],.ref q,aD u,.int mk,.tup []] S) Q:=by
 refine az hg rfl rfl λQ' hR=>?_
 replace k:∀w S',(w=.non\/∃to:Hm HF,w=.tup (ab to)/\to.length=u.length/\∀x∈to,0<=x/\x < (n:HF))->Fl S' r->Kp r S S'->Q' (.rt w,S'):=λw S' h1 h2 h3=>hR _ _ (k w S' h1 h2 h3)
 clear hR;show wZ _ _ bo [gV (.ref r),gV (.tup [m0,.tup N,b0]),gV (.ref q),gV (aD u),gV (.int mk),gV (.tup (ab [])),td,td,td,td,td] S Q';generalize hR0:W.tup [m0,.tup N,b0]=R;have ul:(u.map bn).length=u.length:=Hq ..;have hqS:=cF e;have hrS:=hf.lt;dsimp only[bo];refine bf λK hK=>?_
 refine iJ 0 (u.length:HF) (λm ρ S'=>∃(to:Hm HF) (a6 a7 a8 a9 a10:Ht W),ρ=[gV (.ref r),gV R,gV (.ref q),gV (aD u),gV (.int mk),gV (.tup (ab to)),a6,a7,a8,a9,a10]/\to.length=m/\(∀x∈to,0<=x/\x < (n:HF))/\Fl S' r/\Kp r S S') rfl rfl rfl ∅ ?_ ?_ ?_
 ·dsimp only[wE,wA,wV,wG];refine bC #[rfl,bC ?_];rw[ul];exact#[rfl,[],_,_,_,_,_,rfl,rfl,(λx hx=>nomatch hx),hf,.refl]
 ·rintro m ρ S1 hm ⟨to,a6,a7,a8,a9,a10,rfl,htl,hto,f1,k1⟩ Q2 hn2 hr2;clear hK;rw[K4];have hmu:m < u.length:=∅
  have e1:S1[q]?=gV (.dic kvs):=k1.get _ _ hqr e;have s1:S.length<=S1.length:=k1.len;have lm:=hu.len m _ (aA (d:=(0,[])) hmu);dsimp only[HD];refine st ?_;dsimp only[wS,wE,wA,HD];refine bf λK hK=>?_
  refine cV (n:HF) (λx ρ S'=>(∃a8 a9 a10,ρ=[gV (.ref r),gV R,gV (.ref q),gV (aD u),gV (.int mk),gV (.tup (ab to)),gV (.int m),gV (.ref S1.length),a8,a9,a10])/\(∃ls:Hm HF,S'[S1.length]?=gV (.lst (ab ls))/\ls.length<=x/\∀y∈ls,0<=y/\y < (n:HF))/\S'[q]?=gV (.dic kvs)/\Fl S' r/\Kp r S S') rfl rfl ∅ ?_ ?_ ?_
  ·dsimp only[wE,wA,wV,wG];subst hR0;refine aj #v[] rfl (bC ?_)
   rw[hN];exact#[rfl,#[_,_,_,rfl],#[[],ak,HG _,(λy hy=>nomatch hy)],aq e1,f1.ka .push,k1.trans .push]
  ·rintro x ρ S2 hx ⟨⟨a8,a9,a10,rfl⟩,⟨ls,e2,hll,hls⟩,q2,f2,k2⟩ Q3 hn3' hr3;clear hK;have l2:=cF e2;dsimp only[HD];refine st ?_;dsimp only[wS,wE,wA,HD];refine bf λK hK=>?_
   refine cV (m:HF) (λi ρ S'=>(∃a10,ρ=[gV (.ref r),gV R,gV (.ref q),gV (aD u),gV (.int mk),gV (.tup (ab to)),gV (.int m),gV (.ref S1.length),gV (.int x),gV (.ref S2.length),a10])/\(∃bl:Hm HV,S'[S2.length]?=gV (.lst (bl.map W.bl))/\bl.length=i)/\S'[S1.length]?=gV (.lst (ab ls))/\S'[q]?=gV (.dic kvs)/\Fl S' r/\Kp r S S') rfl rfl ∅ #[rfl,#[_,rfl],#[[],ak,rfl],aq e2,aq q2,f2.ka .push,k2.trans .push] ?_ ?_
   ·rintro i ρ S3 hi ⟨⟨a10,rfl⟩,⟨bl,e3,hbl⟩,el3,q3,f3,k3⟩ Q4 hn4 _;clear hK;have hiu:i < u.length:=∅
    have him:i < (u.getD m (0,[])).2.length:=∅
    have hit:i < to.length:=∅
    dsimp only[HD];refine st ?_;dsimp only[wS,wE,wA,wV,wG];refine#[dP e3,?_];refine aj (HB i) (dg hiu) (aj #v[] rfl (aj (HB m) (dg hmu) (aj #v[] rfl (aj (HB m) (dg hmu) (aj #v[] rfl (aj (w:=.int ((u.getD m (0,[])).2.getD i 0)) (HB i) (by rw[HE,Hy,aA (d:=0) him]; rfl) (aj (w:=.int (to.getD i 0)) (HB i) (by rw[HE]; unfold ab; rw[Hy,aA (d:=0) hit]; rfl) ?_)))))))
    refine ac (a:=(.bl (cx kvs (du [((u.getD i (0,[])).1,[]),((u.getD m (0,[])).1,[(u.getD m (0,[])).2.getD i 0]),(mk,[to.getD i 0,(x:HF)])])).isSome,S3)) ?_ ?_
    ·show b6 .isin (aD [((u.getD i (0,[])).1,[]),((u.getD m (0,[])).1,[(u.getD m (0,[])).2.getD i 0]),(mk,[to.getD i 0,(x:HF)])]) (.ref q) S3=_;simp only[b6,cK q3,oo]; rfl
    refine kX e3 (by rw[Hq]; omega) (bZ (hn4 _ _ #[#[_,rfl],#[bl++[(cx kvs (du [((u.getD i (0,[])).1,[]),((u.getD m (0,[])).1,[(u.getD m (0,[])).2.getD i 0]),(mk,[to.getD i 0,(x:HF)])])).isSome],?_,by rw[HA,hbl]; rfl],?_,?_,f3.own ∅,k3.late ∅]))
    ·rw[b7 e3,Ip]; rfl
    ·rw[bV ∅]; exact el3
    ·rw[bV ∅]; exact q3
   ·rintro ρ S3 ⟨⟨a10,rfl⟩,⟨bl,e3,hbl⟩,el3,q3,f3,k3⟩;refine hK _ _ ?_;clear hK K;refine bf λK hK=>?_
    dsimp only[wS,wT,wE,wA,wV,wG];obtain⟨b,eb⟩:=ye e3;refine ac eb ?_;dsimp only[wB];refine ar (Q0:=Q3) (λ_ Q5 hn5 _=>?_) (λ_ Q5 hn5 _=>bZ (hn5 _ _ (hK _ _ (bZ (hn3' _ _ #[#[_,_,_,rfl],#[ls,el3,∅,hls],q3,f3,k3])))))
    refine st ?_;dsimp only[wS,wE,wA,wV,wG];refine#[dP el3,kX el3 (by unfold ab; rw[Hq]; omega) (bZ (hn5 _ _ (hK _ _ (bZ (hn3' _ _ #[#[_,_,_,rfl],#[ls++[(x:HF)],?_,by rw[HA,Jo]; omega,λy hy=>?_],?_,f3.own ∅,k3.late ∅])))))]
    ·rw[b7 el3]; unfold ab; rw[Ip]; rfl
    ·rcases Iz.mp hy with h|h
     ·exact hls y h
     ·rw[HN.mp h]; omega
    ·rw[bV ∅]; exact q3
  ·rintro ρ S2 ⟨⟨a8,a9,a10,rfl⟩,⟨ls,e2,hll,hls⟩,q2,f2,k2⟩;refine hK _ _ ?_;clear hK K;rw[HE]at hll;refine bf λK hK=>?_
   dsimp only[wS,wT,wE,wA,wV,wG];refine ac (BB (aq e2) ak) ?_;dsimp only[wB];refine ar (Q0:=Q2) (λ_ Q5 _ hr5=>?_) (λhne Q5 hn5 _=>bZ (hn5 _ _ (hK _ _ ?_)))
   ·refine st ?_;dsimp only[wS,wE];exact hr5 _ _ (hr2 _ _ (k _ _ (.inl rfl) (f2.ka .push) (k2.trans .push)))
   clear hn5 hK;have hpos:0 < ls.length:=by
    cases ls with
    | nil=>cases hne
    | cons _ _=>simp
   refine st ?_;dsimp only[wS,wE,wA,wV,wG,HD];have e2':=aq (u:=O.lst []) e2;refine mR e2' ?_;rw[show(ab ls).length=ls.length from Hq ..]
   refine bq (d:=d) G.pick (f2.ka .push) ∅ ∅ λv S4 v0 v1 f4 k4=>?_
   have hv:v.toNat < ls.length:=∅
   have e4:=k4.get _ _ (by have:=cF e2; omega) e2'
   refine kW (w:=.int ls[v.toNat]) e4 v0 (by unfold ab; rw[Hy,HK hv]; rfl) ?_
   refine ac (eT (jU (by rw[HA,show(ab to).length=to.length from Hq ..]; show _+1<=_; omega))) (bZ (hn2 _ _ #[to++[ls[v.toNat]],gV (.int m),gV (.ref S1.length),a8,a9,a10,?_,by rw[HA,htl]; rfl,λy hy=>?_,f4,(k2.trans .push).trans k4]))
   ·rw[show ab to++[W.int ls[v.toNat]]=ab (to++[ls[v.toNat]]) by unfold ab; rw[Ip]; rfl]
   ·rcases Iz.mp hy with h|h
    ·exact hto y h
    ·rw[HN.mp h]; exact hls _ (IT hv)
 ·rintro ρ S1 ⟨to,a6,a7,a8,a9,a10,rfl,htl,hto,f1,k1⟩;refine hK _ _ (st ?_);dsimp only[wS,wE,wV,wG];exact k _ _ (.inr #[to,rfl,∅,hto]) f1 k1
end
noncomputable def dI:Ss:=
 #v[.set 4 (.tup .nil),.loop (.nm 5) (.rng #v[.v 3]) #v[.set 6 (.own "_law_pick" 2 #v[.v 0,.bi .len #v[.ix (.v 1) (.c (.int 0))]]),.set 7 (.own "_law_new_ways" 6 #v[.v 0,.v 1,.v 2,.v 4,.v 6,.tup .nil]),.ite (.cmp .isnot (.v 7) (.c .non)) #v[.set 4 (.op .add (.v 4) (.tup #v[.tup #v[.v 6,.v 7]]))] .nil],.ret (.v 4)]
section
variable{defs:Hm (HL×Df)}{fuel d:Hu}{S:aa}{r:Hu}{Q:QW}
theorem AM (G:Gen defs)(hw:Is defs ("_law_new_ways" : HL) 6 11 bo)(hg:Is defs ("_law_world" : HL) 4 8 dI){M N:Hm W}{b0:W}{a n q many:Hu}{kvs:Hm (T×W)}(hM:M.length=a)(ha1:0 < a)(ha3:a<=3)(hN:N.length=n)(hn3:n<=3)(hm:many<=900)(e:S[q]?=gV (.dic kvs))(hqr:q≠r)(hf:Fl S r)
  (k:∀(u:Wd) S',u.length<=many->GoodW a n u->Fl S' r->Kp r S S'->Q (aD u,S')) :
  wO (br (au defs fuel (d+3)) "_law_world" 4 [.ref r,.tup [.tup M,.tup N,b0],.ref q,.int many] S) Q:=by
 refine az hg rfl rfl λQ' hR=>?_
 replace k:∀(u:Wd) S',u.length<=many->GoodW a n u->Fl S' r->Kp r S S'->Q' (.rt (aD u),S'):=λu S' h1 h2 h3 h4=>hR _ _ (k u S' h1 h2 h3 h4)
 clear hR;show wZ _ _ dI [gV (.ref r),gV (.tup [.tup M,.tup N,b0]),gV (.ref q),gV (.int many),td,td,td,td] S Q';generalize hR0:W.tup [.tup M,.tup N,b0]=R;dsimp only[dI];refine st ?_;dsimp only[wS,wE,wA,HD];refine bf λK hK=>?_
 refine cV (many:HF) (λi ρ S'=>∃(u:Wd) (a5 a6 a7:Ht W),ρ=[gV (.ref r),gV R,gV (.ref q),gV (.int many),gV (aD u),a5,a6,a7]/\u.length<=i/\GoodW a n u/\Fl S' r/\Kp r S S') rfl rfl ∅ #[rfl,[],_,_,_,rfl,HG _,.nil,hf,.refl] ?_ ?_
 ·rintro i ρ S1 hi ⟨u,a5,a6,a7,rfl,hul,hu,f1,k1⟩ Q2 hn _;clear hK;have e1:=k1.get _ _ hqr e;dsimp only[HD];refine st ?_;dsimp only[wS,wE,wA,wV,wG,HD];subst hR0;refine aj #v[] rfl (bC ?_)
  rw[hM];refine bq (d:=d+1) G.pick f1 ∅ ∅ λv S2 v0 v1 f2 k2=>?_
  have e2:=k2.get _ _ hqr e1;refine st ?_;dsimp only[wS,wE,wA,wV,wG,HD];refine li (d:=d) G hw hN hn3 hu ∅ e2 hqr f2 λw S3 hw3 f3 k3=>?_
  refine bf λK hK=>?_
  dsimp only[wS,wT,wE,wA,wV,wG];rcases hw3 with rfl|⟨to,rfl,htl,hto⟩
  ·refine ac (show b6 .isnot .non .non S3=gV (.bl false,S3)from rfl) ?_
   dsimp only[wB];exact ar (Q0:=Q2) (λz=>by cases z) (λ_ Q5 hn5 _=>bZ (hn5 _ _ (hK _ _ (bZ (hn _ _ #[u,_,_,_,rfl,∅,hu,f3,(k1.trans k2).trans k3])))))
  ·refine ac (show b6 .isnot (.tup (ab to)) .non S3=gV (.bl true,S3)from rfl) ?_
   dsimp only[wB];refine ar (Q0:=Q2) (λ_ Q5 hn5 _=>?_) (λz=>by cases z)
   refine st ?_;dsimp only[wS,wE,wA,wV,wG,HD,aD];refine ac (eT (jU (by rw[HA,Hq]; show _+1<=_; omega))) (bZ (hn5 _ _ (hK _ _ (bZ (hn _ _ #[u++[(v,to)],gV (.int i),gV (.int v),gV (.tup (ab to)),?_,?_,hu.snoc #[v0,v1] htl hto,f3,(k1.trans k2).trans k3])))))
   ·unfold aD;rw[Ip]; rfl
   ·rw[HA,Jo]; omega
 ·rintro ρ S1 ⟨u,a5,a6,a7,rfl,hul,hu,f1,k1⟩;rw[HE]at hul;refine hK _ _ (st ?_);dsimp only[wS,wE,wV,wG];exact k u S1 hul hu f1 k1
end
theorem fu {n:Hu}{x:HF}(h:x∈eH n):0<=x/\x < n:=by
 obtain⟨k,hk,rfl⟩:=Io.mp h;have:=Iy.mp hk;omega
theorem rS {a n:Hu}{u:Wd}(h:u∈qd a n):GoodW a n u/\u.length=3:=by
 unfold qd at h;simp only[NM,Io]at h;obtain⟨m0,h0,m1,h1,m2,h2,w1,g1,w2,g2,w3,g3,rfl⟩:=h;refine#[?_,rfl];have s1:GoodW a n ([]++[(m0,[])]):=GoodW.nil.snoc (fu h0) rfl (λw hw=>nomatch hw)
 have s2:GoodW a n ([(m0,[])]++[(m1,[w1])]):=s1.snoc (fu h1) rfl (λw hw=>by rw[HN.mp hw]; exact fu g1)
 exact s2.snoc (fu h2) rfl (λw hw=>by
  simp only[Iq,Jk,KZ]at hw;rcases hw with rfl|rfl
  ·exact fu g2
  ·exact fu g3)
theorem uW {a:Hu}{bs:Hm HF}{g:Wd}(hb:GoodB bs)(h:g∈be a bs):GoodW a bs.length g/\g.length=3:=by
 unfold be at h;rw[Lv]at h;obtain⟨u,hu,rfl⟩:=Io.mp h;obtain⟨gu,u3⟩:=rS hu;unfold kZ;have hm:nT ((aC.map (ay bs u)).map du) < (aC.map (ay bs u)).length:=by
  unfold nT;refine M7 (fD _ _) ?_;rw[Hq,Hq]; decide
 have:=HR (aA (d:=[]) hm);obtain⟨t,ht,e⟩:=Io.mp this;rw[<- e];have tk:∀t∈aC,t.length=3/\t.Nodup/\∀p∈t,p < 3:=by decide
 obtain⟨t1,t2,t3⟩:=tk t ht;exact#[mZ hb gu (λp hp=>by have:=t3 p hp; omega) t2,by rw[dz]; exact t1]
theorem uX {a n:Hu}{u:Wd}(hu:GoodW a n u):GoodW a n u.dropLast:=by
 have key:∀(k:Hu) (x:Pt),(u.dropLast)[k]?=gV x->u[k]?=gV x:=λk x e=>by
  rw[L6]at e;split at e
  ·exact e
  ·cases e
 exact#[λk x e=>hu.mark k x (key k x e),λk x e=>hu.len k x (key k x e),λk x e=>hu.way k x (key k x e)]
noncomputable def qw (kvs:Hm (T×W))(u:Wd)(h:Pt)(p q:Hu):HV:=(cx kvs (du [((u.getD p (0,[])).1,[]),((u.getD q (0,[])).1,[(u.getD q (0,[])).2.getD p 0]),(h.1,[h.2.getD p 0,h.2.getD q 0])])).isSome
theorem fF {u:Wd}{h:Pt}{p:Hu}(hp:p < u.length):(u++[h]).getD p (0,[])=u.getD p (0,[]):=by
 rw[IJ,IJ,Im hp]
theorem g9 {u:Wd}{h:Pt}:(u++[h]).getD u.length (0,[])=h:=by
 rw[IJ,Je (HG _),OT]; rfl
theorem rT {ws:Hm HF}{x:HF}{p:Hu}(hp:p < ws.length):(ws++[x]).getD p 0=ws.getD p 0:=by
 rw[IJ,IJ,Im hp]
noncomputable def dJ:Ss:=
 #v[.set 2 (.op .sub (.bi .len #v[.v 1]) (.c (.int 1))),.loop (.nm 3) (.rng #v[.op .sub (.v 2) (.c (.int 1))]) #v[.ite (.cmp .isin (.own "three_at" 4 #v[.v 1,.v 3,.op .sub (.v 2) (.c (.int 1)),.v 2]) (.v 0)) #v[.ret (.v 3)] .nil],.ret (.c .non)]
noncomputable def cJ:Ss:=
 #v[.asg [4,5] (.ix (.v 2) (.v 3)),.loop (.nm 6) (.rng2 #v[.c (.int 1),.v 3]) #v[.loop (.nm 7) (.rng #v[.v 6]) #v[.ite (.cmp .isin (.tup #v[.tup #v[.ix (.ix (.v 2) (.v 7)) (.c (.int 0)),.tup .nil],.tup #v[.ix (.ix (.v 2) (.v 6)) (.c (.int 0)),.tup #v[.ix (.ix (.ix (.v 2) (.v 6)) (.c (.int 1))) (.v 7)]],.tup #v[.v 4,.tup #v[.ix (.v 5) (.v 7),.ix (.v 5) (.v 6)]]]) (.v 1)) #v[.ret (.c (.bl false))] .nil]],.ret (.c (.bl true))]
noncomputable def uY (kvs:Hm (T×W))(u:Wd)(s:Hu)(h:Pt):HV:=(HJ s).all λq=>(HJ q).all λp=>!qw kvs u h p q
theorem tK {kvs:Hm (T×W)}{u:Wd}{s:Hu}{h:Pt}:uY kvs u s h=true↔∀q < s,∀p < q,qw kvs u h p q=false:=by
 unfold uY;simp only[HX,Iy,K1]
section
variable{defs:Hm (HL×Df)}{fuel d:Hu}{S:aa}{Q:QW}
theorem rV (hg:Is defs ("_law_last_may" : HL) 4 8 cJ){R:W}{a n q:Hu}{u:Wd}{h:Pt}{kvs:Hm (T×W)}(hu:GoodW a n u)(hh:h.2.length=u.length)(hl:u.length<=1000)(e:S[q]?=gV (.dic kvs))(k:Q (.bl (uY kvs u u.length h),S)) :
  wO (br (au defs fuel (d+1)) "_law_last_may" 4 [R,.ref q,aD (u++[h]),.int (u.length:HF)] S) Q:=by
 refine az hg rfl rfl λQ' hR=>?_
 replace k:=hR _ _ k;clear hR;show wZ _ _ cJ [gV R,gV (.ref q),gV (aD (u++[h])),gV (.int (u.length:HF)),td,td,td,td] S Q';have hvl:u.length < (u++[h]).length:=by rw[HA,Jo]; omega
 have at':∀p < u.length,(((u++[h]).map bn)[((p:Hu):HF).toNat]?=gV (bn (u.getD p (0,[])))):=λp hp=>by
  rw[dg ∅,fF hp]
 have hw:∀p < u.length,(ab h.2)[((p:Hu):HF).toNat]?=gV (.int (h.2.getD p 0)):=λp hp=>by
  rw[HE]; unfold ab; rw[Hy,aA (d:=0) ∅]; rfl
 dsimp only[cJ];refine st ?_;dsimp only[wS,wE,wV,wG];refine aj (HB _) (dg hvl) ?_;rw[g9];dsimp only[wU,bn];refine ac (show dv [4,5] [.int h.1,.tup (h.2.map W.int)] [gV R,gV (.ref q),gV (aD (u++[h])),gV (.int (u.length:HF)),td,td,td,td]=gV [gV R,gV (.ref q),gV (aD (u++[h])),gV (.int (u.length:HF)),gV (.int h.1),gV (.tup (ab h.2)),td,td]from rfl) ?_
 refine bf λK hK=>?_
 refine iJ 1 (u.length:HF) (λm ρ S'=>(∃a6 a7,ρ=[gV R,gV (.ref q),gV (aD (u++[h])),gV (.int (u.length:HF)),gV (.int h.1),gV (.tup (ab h.2)),a6,a7])/\S'=S/\∀j < m+1,∀p < j,qw kvs u h p j=false) rfl rfl rfl ∅ #[rfl,rfl,#[_,_,rfl],rfl,λj hj p hp=>∅] ?_ ?_
 ·rintro m ρ S1 hm ⟨⟨a6,a7,rfl⟩,rfl,no⟩ Q2 hn2 hr2;clear hK;rw[show(1:HF)+m=((m+1:Hu):HF) by omega]
  have hmu:m+1 < u.length:=∅
  generalize hj:m+1=j at hmu hn2 no;dsimp only[HD];refine bf λK hK=>?_
  refine cV (j:HF) (λi ρ S'=>(∃a7,ρ=[gV R,gV (.ref q),gV (aD (u++[h])),gV (.int (u.length:HF)),gV (.int h.1),gV (.tup (ab h.2)),gV (.int (j:HF)),a7])/\S'=S1/\∀p < i,qw kvs u h p j=false) rfl rfl ∅ #[rfl,#[_,rfl],rfl,λp hp=>∅] ?_ ?_
  ·rintro i ρ S2 hi ⟨⟨a7,rfl⟩,rfl,no2⟩ Q3 hn3 hr3;clear hK;have hij:i < j:=∅
   have hiu:i < u.length:=∅
   have lj:i < (u.getD j (0,[])).2.length:=by rw[hu.len j _ (aA (d:=(0,[])) hmu)]; exact hij
   dsimp only[HD];refine bf λK hK=>?_
   dsimp only[wS,wT,wE,wA,wV,wG];refine aj (HB i) (at' i hiu) (aj #v[] rfl (aj (HB j) (at' j hmu) (aj #v[] rfl (aj (HB j) (at' j hmu) (aj #v[] rfl (aj (w:=.int ((u.getD j (0,[])).2.getD i 0)) (HB i) (by rw[HE,Hy,aA (d:=0) lj]; rfl) (aj (HB i) (hw i hiu) (aj (HB j) (hw j hmu) ?_))))))))
   refine ac (show b6 .isin (aD [((u.getD i (0,[])).1,[]),((u.getD j (0,[])).1,[(u.getD j (0,[])).2.getD i 0]),(h.1,[h.2.getD i 0,h.2.getD j 0])]) (.ref q) S2=gV (.bl (qw kvs u h i j),S2) by simp only[b6,cK e,oo]; rfl) ?_
   dsimp only[wB];refine ar (Q0:=Q3) (λhb Q5 _ hr5=>?_) (λhb Q5 hn5 _=>bZ (hn5 _ _ (hK _ _ (bZ (hn3 _ _ #[#[_,rfl],rfl,λp hp=>?_])))))
   ·refine st ?_;dsimp only[wS,wE];have:uY kvs u u.length h=false:=by
     rw[Bool.eq_false_iff];intro z;rw[tK.mp z j hmu i hij]at hb;cases hb
    rw[this]at k;exact hr5 _ _ (hr3 _ _ (hr2 _ _ k))
   ·by_cases ep:p=i
    ·rw[ep]; exact hb
    ·exact no2 p ∅
  ·rintro ρ S2 ⟨⟨a7,rfl⟩,rfl,no2⟩;rw[HE]at no2;refine hK _ _ (bZ (hn2 _ _ #[#[_,_,rfl],rfl,λj' hj' p hp=>?_]))
   by_cases ej:j'=j
   ·subst ej; exact no2 p hp
   ·exact no j' ∅ p hp
 ·rintro ρ S1 ⟨⟨a6,a7,rfl⟩,rfl,no⟩;refine hK _ _ (st ?_);dsimp only[wS,wE];rw[tK.mpr λq hq p hp=>no q ∅ p hp]at k
  exact k
end
theorem uZ {bs:Hm HF}{u:Wd}{o:Hm Hu}{i:Hu}(hi:i < o.length):(ay bs u o).getD i (0,[])=((u.getD (o.getD i 0) (0,[])).1,(o.take i).map λj=>d4 bs u (o.getD i 0) j):=by
 unfold ay;rw[IJ,Hy,Jm hi]; rfl
noncomputable def ji:Ss:=
 #v[.ret (.ix (.ix (.ix (.v 0) (.c (.int 1))) (.v 1)) (.c (.int 1)))]
noncomputable def fG:Ss:=
 #v[.set 4 (.own "barred_by" 4 #v[.v 0,.v 1,.v 2,.v 3]),.set 5 (.comp (.v 1) (.nm 1) (.rng #v[.bi .len #v[.ix (.v 0) (.c (.int 1))]]) #v[.cmp .is (.ix (.v 2) (.v 1)) (.c .non)] [td,td,gV 4]),.ite (.cmp .is (.ix (.v 4) (.neg (.c (.int 1)))) (.c .non)) #v[.ex (.me .append (.v 5) #v[.neg (.c (.int 1))])] .nil,.ret (.v 5)]
noncomputable def eP:Ss:=
 #v[.ret (.own "all_bars" 5 #v[.v 0,.own "barred_threes" 1 #v[.v 0],.v 1,.v 2,.v 3])]
noncomputable def fH:Ss:=
 #v[.set 5 (.comp (.own "first_bar" 2 #v[.v 2,.own "with_both" 5 #v[.v 6,.v 3,.v 4,.v 5,.v 1]]) (.nm 1) (.rng #v[.bi .len #v[.ix (.v 0) (.c (.int 1))]]) .nil [td,td,gV 1,gV 2,gV 3,gV 4,gV 0]),.ret (.bi .tuple #v[.op .add (.v 5) (.lst #v[.own "same_bar" 2 #v[.v 3,.v 4]])])]
noncomputable def dL:Ss:=
 #v[.ret (.op .add (.v 1) (.tup #v[.v 2,.tup #v[.ix (.v 3) (.c (.int 0)),.op .add (.ix (.v 3) (.c (.int 1))) (.tup #v[.own "back" 2 #v[.v 0,.v 4]])]]))]
noncomputable def eF:Ss:=
 #v[.ite (.cmp .ne (.ix (.v 0) (.c (.int 0))) (.ix (.v 1) (.c (.int 0)))) #v[.ret (.neg (.c (.int 1)))] .nil,.set 2 (.comp (.v 1) (.nm 1) (.rng #v[.bi .len #v[.ix (.v 0) (.c (.int 1))]]) #v[.cmp .ne (.ix (.ix (.v 2) (.c (.int 1))) (.v 1)) (.ix (.ix (.v 3) (.c (.int 1))) (.v 1))] [td,td,gV 0,gV 1]),.ret (.ite (.v 2) (.ix (.v 2) (.c (.int 0))) (.c .non))]
noncomputable def bB (P:Hu->HV)(s:Hu):W:=match (HJ s).find? P with
 | some i=>.int (i:HF)
 | none=>.non
theorem ll {P:Hu->HV}{s:Hu}(h:∀i < s,P i=false):bB P s=.non:=by
 unfold bB;have:(HJ s).find? P=td:=Kh.mpr λi hi=>by rw[h i (Iy.mp hi)]; exact HU
 rw[this]
theorem ln {P:Hu->HV}:∀ {s i:Hu},i < s->P i=true->(∀j < i,P j=false)->(HJ s).find? P=gV i
 | s+1,i,hi,hp,hn=>by
  rw[Ki,List.find?_append]
  by_cases e:i=s
  ·subst e;have:(HJ i).find? P=td:=Kh.mpr λj hj=>by rw[hn j (Iy.mp hj)]; exact HU
   rw[this];simp[hp]
  ·rw[ln ∅ hp hn]; rfl
theorem hG {P:Hu->HV}{s i:Hu}(hi:i < s)(hp:P i=true)(hn:∀j < i,P j=false):bB P s=.int (i:HF):=by
 unfold bB;rw[ln hi hp hn]
theorem rW {P:Hu->HV}{s:Hu}:(((HJ s).filter P).map (λ(i:Hu)=>W.int (i:HF))++[.non])[0]?=gV (bB P s):=by
 unfold bB;rw[<- List.head?_filter];cases(HJ s).filter P <;> rfl
theorem jM (P:Hu->HV)(s:Hu):bB P s=.non\/∃i:HF,bB P s=.int i:=by
 unfold bB;cases(HJ s).find? P with
 | none=>exact .inl rfl
 | some i=>exact .inr #[_,rfl]
theorem jN {P P':Hu->HV}{s:Hu}(h:∀i < s,P i=P' i):bB P s=bB P' s:=by
 unfold bB;have:(HJ s).find? P=(HJ s).find? P':=by
  have:∀L:Hm Hu,(∀i∈L,P i=P' i)->L.find? P=L.find? P':=λL=>by
   induction L with
   | nil=>intro _; rfl
   | cons x L ih=>
    intro hx;rw[JL,JL,hx x (Jv ..),ih λi hi=>hx i (IU _ hi)]
  exact this _ λi hi=>h i (Iy.mp hi)
 rw[this]
noncomputable def dM (bs:Hm HF)(u:Wd)(one other:Pt)(n:Hu):Wd:=u++[one]++[(other.1,other.2++[bs.getD n 0])]
noncomputable def gS (one other:Pt):W:=if one.1=other.1 then bB (λp=>!(one.2.getD p 0==other.2.getD p 0)) one.2.length else .int (-1)
noncomputable def cr (P:Wd->Hu->HV)(bs:Hm HF)(u:Wd)(one other:Pt):Hm W:=(HJ bs.length).map (λn=>bB (P (dM bs u one other n)) u.length)++[gS one other]
theorem rX (one other:Pt):gS one other=.non\/∃i:HF,gS one other=.int i:=by
 unfold gS;split
 ·exact jM _ _
 ·exact .inr #[_,rfl]
structure GoodP (a n k:Hu)(p:Pt):Prop where
 mark:0<=p.1/\p.1 < a
 len:p.2.length=k
 way:∀w∈p.2,0<=w/\w < (n:HF)
theorem u4 {bs:Hm HF}{a:Hu}{u:Wd}{one other:Pt}{n:Hu}(hb:GoodB bs)(hu:GoodW a bs.length u)(h1:GoodP a bs.length u.length one)(h2:GoodP a bs.length u.length other)(hn:n < bs.length):GoodW a bs.length (dM bs u one other n)/\(dM bs u one other n).length=u.length+2:=by
 refine#[(hu.snoc (m:=one.1) (ws:=one.2) h1.mark h1.len h1.way).snoc h2.mark ?_ λw hw=>?_,?_]
 ·rw[HA,HA,h2.len]; rfl
 ·rcases Iz.mp hw with z|z
  ·exact h2.way w z
  ·rw[HN.mp z];obtain⟨b,hb1,hb2,hb3⟩:=hb.rng n hn;rw[getD_some hb1]; exact#[hb2,hb3]
 ·unfold dM;rw[HA,HA]; rfl
section
variable{defs:Hm (HL×Df)}{fuel d:Hu}{S:aa}{Q:QW}
theorem qx (h3:Is defs ("three_at" : HL) 4 6 dB)(hg:Is defs ("first_bar" : HL) 2 4 dJ){a n q s:Hu}{v:Wd}{kvs:Hm (T×W)}(hv:GoodW a n v)(hs:v.length=s+2)(hl:v.length<=1000)(e:S[q]?=gV (.dic kvs))(k:Q (bB (λp=>oy kvs v p s (s+1)) s,S)) :
  wO (br (au defs fuel (d+2)) "first_bar" 2 [.ref q,aD v] S) Q:=by
 refine az hg rfl rfl λQ' hR=>?_
 replace k:=hR _ _ k;clear hR;show wZ _ _ dJ [gV (.ref q),gV (aD v),td,td] S Q';have ul:(v.map bn).length=v.length:=Hq ..;dsimp only[dJ];refine st ?_;dsimp only[wS,wE,wA,wV,wG,HD];refine bC (ac mO ?_);rw[ul,show((v.length:Hu):HF) - 1=((s+1:Hu):HF) by omega]
 refine bf λK hK=>?_
 refine cV (s:HF) (λi ρ S'=>(∃a3,ρ=[gV (.ref q),gV (aD v),gV (.int ((s+1:Hu):HF)),a3])/\S'=S/\∀i' < i,oy kvs v i' s (s+1)=false) rfl rfl ∅ ?_ ?_ ?_
 ·dsimp only[wE,wV,wG];refine ac mO #[?_,#[_,rfl],rfl,λi' z=>∅]
  dsimp only;rw[show((s+1:Hu):HF) - 1=(s:HF) by omega]
 ·rintro i ρ S1 hi ⟨⟨a3,rfl⟩,rfl,no⟩ Q2 hn hr;clear hK;dsimp only[HD];refine bf λK hK=>?_
  dsimp only[wS,wT,wE,wA,wV,wG];refine ac mO ?_;dsimp only;rw[show((s+1:Hu):HF) - 1=(s:HF) by omega]
  refine AL (d:=d) h3 hv ∅ (JS s) ∅ ?_
  refine ac (show b6 .isin (aD (gj v i s (s+1))) (.ref q) S1=gV (.bl (oy kvs v i s (s+1)),S1) by simp only[b6,cK e,oo]; rfl) ?_
  dsimp only[wB];refine ar (Q0:=Q2) (λh Q5 _ hr5=>?_) (λh Q5 hn5 _=>bZ (hn5 _ _ (hK _ _ (bZ (hn _ _ #[#[_,rfl],rfl,λi' z=>?_])))))
  ·refine st ?_;dsimp only[wS,wE,wV,wG];rw[hG (P:=λp=>oy kvs v p s (s+1)) ∅ h no]at k
   exact hr5 _ _ (hr _ _ k)
  ·by_cases ei:i'=i
   ·rw[ei]; exact h
   ·exact no i' ∅
 ·rintro ρ S1 ⟨⟨a3,rfl⟩,rfl,no⟩;refine hK _ _ (st ?_);dsimp only[wS,wE];rw[ll (P:=λp=>oy kvs v p s (s+1)) λi hi=>no i ∅]at k
  exact k
theorem Dr (hg:Is defs ("back" : HL) 2 2 ji){m0 b0:W}{ns:Hm HL}{bs:Hm HF}{n:Hu}(hnl:ns.length=bs.length)(hn:n < bs.length)(k:Q (.int (bs.getD n 0),S)) :
  wO (br (au defs fuel (d+1)) "back" 2 [.tup [m0,.tup (HM bp ns bs),b0],.int n] S) Q:=by
 refine az hg rfl rfl λQ' hR=>?_
 replace k:=hR _ _ k;show wZ _ _ ji [gV (.tup [m0,.tup (HM bp ns bs),b0]),gV (.int n)] S Q';have hb:=aA (d:=0) hn;dsimp only[ji];refine st ?_;dsimp only[wS,wE,wV,wG];exact aj #v[] rfl (aj (HB n) (by rw[HE]; exact la (HK ∅) hb) (aj #v[] rfl k))
theorem qy (hbk:Is defs ("back" : HL) 2 2 ji)(hg:Is defs ("with_both" : HL) 5 5 dL){m0 b0:W}{ns:Hm HL}{bs:Hm HF}{u:Wd}{one other:Pt}{n:Hu}(hnl:ns.length=bs.length)(hn:n < bs.length)(hu:u.length<=900)(ho:other.2.length<=900)(k:Q (aD (dM bs u one other n),S)) :
  wO (br (au defs fuel (d+2)) "with_both" 5 [.tup [m0,.tup (HM bp ns bs),b0],aD u,bn one,bn other,.int n] S) Q:=by
 refine az hg rfl rfl λQ' hR=>?_
 replace k:=hR _ _ k;show wZ _ _ dL [gV (.tup [m0,.tup (HM bp ns bs),b0]),gV (aD u),gV (bn one),gV (bn other),gV (.int n)] S Q';dsimp only[dL];refine st ?_;dsimp only[wS,wE,wA,wV,wG];refine aj #v[] rfl (aj #v[] rfl ?_)
 refine Dr (d:=d) hbk hnl hn ?_;refine ac (eT (jU ?_)) ?_
 ·rw[HA,Hq]; show _+1<=_; omega
 dsimp only;have ev:u.map bn++[bn one,.tup [.int other.1,.tup (other.2.map W.int++[.int (bs.getD n 0)])]]=(dM bs u one other n).map bn:=by
  unfold dM;simp[bn]
 unfold aD at k ⊢;refine ac (eT (jU ?_)) ?_
 ·rw[HA,Hq]; show _+2<=_; omega
 dsimp only;rw[ev];exact k
theorem rY (hg:Is defs ("same_bar" : HL) 2 3 eF){one other:Pt}(h:other.2.length=one.2.length)(hl:one.2.length<=900)(k:∀S',Ka S S'->Q (gS one other,S')) :
  wO (br (au defs fuel (d+1)) "same_bar" 2 [bn one,bn other] S) Q:=by
 refine az hg rfl rfl λQ' hR=>?_
 replace k:∀S',Ka S S'->Q' (.rt (gS one other),S'):=λS' a=>hR _ _ (k S' a)
 clear hR;show wZ _ _ eF [gV (bn one),gV (bn other),td] S Q';have wl:∀(p:Pt) (i:Hu),i < p.2.length->(p.2.map W.int)[((i:Hu):HF).toNat]?=gV (.int (p.2.getD i 0)):=λp i hi=>by
  rw[HE,Hy,aA (d:=0) hi]; rfl
 dsimp only[eF];refine bf λK hK=>?_
 dsimp only[wS,wT,wE,wV,wG];refine aj #v[] rfl (aj #v[] rfl (ac Db ?_))
 dsimp only[wB];unfold gS at k;refine ar (Q0:=Q') (λhm Q2 _ hr=>?_) (λhm Q2 hn _=>bZ (hn _ _ (hK _ _ ?_)))
 ·have hm:one.1≠other.1:=λz=>by rw[z]at hm; simp at hm
  refine st ?_;dsimp only[wS,wE,wN];rw[Ix hm]at k;exact hr _ _ (k S .refl)
 clear hK K hn;have hm:one.1=other.1:=by
  by_cases z:one.1=other.1
  ·exact z
  ·have:(!(one.1==other.1))=true:=by simp[z]
   rw[this]at hm; cases hm
 rw[HW hm]at k;refine st ?_;dsimp only[wS,wE,HD];refine rR one.2.length (λp=>!(one.2.getD p 0==other.2.getD p 0)) (λ(i:Hu)=>W.int (i:HF)) [gV (bn one),gV (bn other)] rfl rfl rfl rfl ∅ ?_ (λi hi S2 k2=>?_) λS2 k2=>?_
 ·dsimp only[wE,wA,wV,wG];refine aj #v[] rfl (bC ?_)
  rw[Hq];exact#[rfl,.refl]
 ·dsimp only[iV,wC,wT,wE,wV,wG];refine aj #v[] rfl (aj (HB i) (wl one i hi) (aj #v[] rfl (aj (HB i) (wl other i ∅) (ac Db ?_))))
  dsimp only[wB];exact#[λz=>#[z,rfl,.refl],λz=>#[z,.refl]]
 ·have hh:=rW (P:=λp=>!(one.2.getD p 0==other.2.getD p 0)) (s:=one.2.length)
  refine st ?_;dsimp only[wS,wE,wT,wV,wG];cases hL:((HJ one.2.length).filter λp=>!(one.2.getD p 0==other.2.getD p 0))with
  | nil=>
   rw[hL]at hh;refine ac (show eX (S2++[O.lst []]) (.ref S2.length)=gV false by simp only[eX,aL ak]; rfl) #[λz=>(by cases z),λ_=>?_]
   have e:bB (λp=>!(one.2.getD p 0==other.2.getD p 0)) one.2.length=.non:=(IS hh).symm
   rw[e]at k;exact k _ (k2.trans .push)
  | cons x L=>
   rw[hL]at hh;refine ac (show eX (S2++[O.lst ((x::L).map λ(i:Hu)=>W.int (i:HF))]) (.ref S2.length)=gV true by simp only[eX,aL ak]; rfl) #[λ_=>?_,λz=>by cases z]
   have e:bB (λp=>!(one.2.getD p 0==other.2.getD p 0)) one.2.length=.int (x:HF):=(IS hh).symm
   rw[e]at k;exact dQ (i:=0) ak rfl (k _ (k2.trans .push))
end
noncomputable def AN:W->HV
 | .non=>true
 | _=>false
noncomputable def NI (w:W):Prop:=w=.non\/∃i:HF,w=.int i
noncomputable def qz (xs:Hm W)(n:Hu):Hm HF:=((HJ n).filter λi=>AN (xs.getD i (.int 0))).map (λ(i:Hu)=>(i:HF))++(if AN (xs.getLastD (.int 0))then[-1]else[])
noncomputable def PB (X:Hm T)(s:Hu)(v:Wd)(p:Hu):HV:=decide (du (gj v p s (s+1))∈X)
theorem BF {S:aa}{w:W}(h:NI w):b6 .is w .non S=gV (.bl (AN w),S):=by
 rcases h with rfl|⟨i,rfl⟩ <;> rfl
theorem AO {P:Wd->Hu->HV}{bs:Hm HF}{u:Wd}{one other:Pt}:∀w∈cr P bs u one other,NI w:=λw hw=>by
 unfold cr at hw;rcases Iz.mp hw with z|z
 ·obtain⟨n,_,rfl⟩:=Io.mp z;exact jM _ _
 ·rw[HN.mp z]; exact rX _ _
theorem jj {P:Wd->Hu->HV}{bs:Hm HF}{u:Wd}{one other:Pt}:(cr P bs u one other).length=bs.length+1:=by
 unfold cr;rw[HA,Hq,Iv]; rfl
theorem qA {S:aa}{xs:Hm W}(h:xs≠[]):lK (.tup xs) (.int (-1)) S=gV (xs.getLastD (.int 0),S):=by
 have hp:0 < xs.length:=KD.mpr h;have hs:se xs.length (-1)=gV (xs.length - 1):=by
  unfold se;rw[Ix #v[]]
  exact(HW ∅).trans (by congr 1; omega)
 have hg:xs[xs.length - 1]?=gV (xs.getLastD (.int 0)):=by
  rw[Kx,LB];have:xs.length - 1 < xs.length:=∅
  simp[this]
 simp only[lK,uc,pf,hs,hg,Option.bind_some,Ij]
theorem AQ {xs:Hm W}(h:xs≠[])(hx:∀w∈xs,NI w):NI (xs.getLastD (.int 0)):=by
 rw[Kx,List.getLast?_eq_some_getLast h];exact hx _ (List.getLast_mem h)
theorem AR {xs:Hm W}{i:Hu}(h:i < xs.length)(hx:∀w∈xs,NI w):xs[i]?=gV (xs.getD i (.int 0))/\NI (xs.getD i (.int 0)):=by
 have:=aA (d:=W.int 0) h;exact#[this,hx _ (HR this)]
section
variable{defs:Hm (HL×Df)}{fuel d:Hu}{S:aa}{Q:QW}
structure Fil (defs:Hm (HL×Df)):Prop where
 parts:Parts defs
 part:Is defs ("part" : HL) 3 3 jh
 longer:Is defs ("longer_orders" : HL) 2 4 bX
 barred:Is defs ("barred_threes" : HL) 1 5 cw
 three:Is defs ("three_at" : HL) 4 6 dB
 fbar:Is defs ("first_bar" : HL) 2 4 dJ
 back:Is defs ("back" : HL) 2 2 ji
 both:Is defs ("with_both" : HL) 5 5 dL
 same:Is defs ("same_bar" : HL) 2 3 eF
 all:Is defs ("all_bars" : HL) 5 6 fH
 by':Is defs ("barred_by" : HL) 4 4 eP
 fill:Is defs ("fillings" : HL) 4 6 fG
theorem rZ (F:Fil defs){m0 b0:W}{ns:Hm HL}{bs:Hm HF}{a q:Hu}{u:Wd}{one other:Pt}{kvs:Hm (T×W)}(hb:GoodB bs)(hnl:ns.length=bs.length)(hu:GoodW a bs.length u)(h1:GoodP a bs.length u.length one)(h2:GoodP a bs.length u.length other)(hul:u.length<=800)(e:S[q]?=gV (.dic kvs))
  (k:∀S',Ka S S'->Q (.tup (cr (λv p=>oy kvs v p u.length (u.length+1)) bs u one other),S')) :
  wO (br (au defs fuel (d+3)) "all_bars" 5 [.tup [m0,.tup (HM bp ns bs),b0],.ref q,aD u,bn one,bn other] S) Q:=by
 refine az F.all rfl rfl λQ' hR=>?_
 replace k:∀S',Ka S S'->Q' (.rt (.tup (cr (λv p=>oy kvs v p u.length (u.length+1)) bs u one other)),S'):=λS' a=>hR _ _ (k S' a)
 clear hR;show wZ _ _ fH [gV (.tup [m0,.tup (HM bp ns bs),b0]),gV (.ref q),gV (aD u),gV (bn one),gV (bn other),td] S Q';generalize hR0:W.tup [m0,.tup (HM bp ns bs),b0]=R;have hb3:bs.length<=3:=by rcases hb with rfl|rfl|rfl|rfl|rfl|rfl <;> decide
 dsimp only[fH];refine st ?_;dsimp only[wS,wE,HD];refine rR bs.length (λ_=>true) (λn=>bB (λp=>oy kvs (dM bs u one other n) p u.length (u.length+1)) u.length) [gV (.ref q),gV (aD u),gV (bn one),gV (bn other),gV R] rfl rfl rfl rfl ∅ ?_ (λn hn S2 k2=>?_) λS2 k2=>?_
 ·dsimp only[wE,wA,wV,wG];subst hR0;refine aj #v[] rfl (bC ?_)
  rw[KC,hnl,L1];exact#[rfl,.refl]
 ·obtain⟨g1,g2⟩:=u4 hb hu h1 h2 hn;dsimp only[iV,wC,wE,wA,wV,wG];subst hR0;refine#[λ_=>?_,λz=>by cases z]
  refine qy (d:=d) F.back F.both hnl hn ∅ (by rw[h2.len]; omega) ?_
  exact qx (d:=d) F.three F.fbar g1 g2 ∅ (k2.get _ _ e) #[rfl,rfl,.refl]
 ·rw[iL];refine st ?_;dsimp only[wS,wE,wA,wV,wG];refine rY (d:=d+1) F.same (by rw[h1.len,h2.len]) (by rw[h1.len]; omega) λS3 k3=>?_
  dsimp only;refine ac (rJ (aq (k3.get _ _ ak)) ak (jU ?_)) (eD ak (k _ (((k2.trans .push).trans k3).trans (Ka.push.trans .push))));rw[HA,Hq,Iv]; show _+1<=_; omega
theorem gk (hfu:20 < fuel)(F:Fil defs){m0:W}{ns:Hm HL}{bs:Hm HF}{a:Hu}{gs:Hm Wd}{u:Wd}{one other:Pt}(hb:GoodB bs)(hnl:ns.length=bs.length)(hgs:∀g∈gs,GoodW a bs.length g/\g.length=3)(h64:gs.length<=100)(hu:GoodW a bs.length u)(h1:GoodP a bs.length u.length one)(h2:GoodP a bs.length u.length other)(hul:u.length<=800)
  (k:∀S',Ka S S'->Q (.tup (cr (PB ((cH bs gs).map du) u.length) bs u one other),S')) :
  wO (br (au defs fuel (d+5)) "barred_by" 4 [.tup [m0,.tup (HM bp ns bs),.tup (gs.map aD)],aD u,bn one,bn other] S) Q:=by
 refine az F.by' rfl rfl λQ' hR=>?_
 show wZ _ _ eP [gV (.tup [m0,.tup (HM bp ns bs),.tup (gs.map aD)]),gV (aD u),gV (bn one),gV (bn other)] S Q';dsimp only[eP];refine st ?_;dsimp only[wS,wE,wA,wV,wG];refine yd (d:=d) hfu F.parts F.part F.longer F.barred hb hnl hgs h64 λq kvs S1 e1 hk _ k1=>?_
 have ep:(λ(v:Wd) p=>oy kvs v p u.length (u.length+1))=PB ((cH bs gs).map du) u.length:=funext λv=>funext λp=>hk.get _
 refine rZ (d:=d+1) F hb hnl hu h1 h2 hul e1 λS2 k2=>hR _ _ ?_
 rw[ep];exact k S2 (k1.trans k2)
theorem lq (hfu:20 < fuel)(F:Fil defs){m0:W}{ns:Hm HL}{bs:Hm HF}{a:Hu}{gs:Hm Wd}{u:Wd}{one other:Pt}(hb:GoodB bs)(hnl:ns.length=bs.length)(hgs:∀g∈gs,GoodW a bs.length g/\g.length=3)(h64:gs.length<=100)(hu:GoodW a bs.length u)(h1:GoodP a bs.length u.length one)(h2:GoodP a bs.length u.length other)(hul:u.length<=800)
  (k:∀(l:Hu) S',S'[l]?=gV (.lst (ab (qz (cr (PB ((cH bs gs).map du) u.length) bs u one other) bs.length)))->S.length<=l->Ka S S'->Q (.ref l,S')) :
  wO (br (au defs fuel (d+6)) "fillings" 4 [.tup [m0,.tup (HM bp ns bs),.tup (gs.map aD)],aD u,bn one,bn other] S) Q:=by
 refine az F.fill rfl rfl λQ' hR=>?_
 replace k:∀(l:Hu) S',S'[l]?=gV (.lst (ab (qz (cr (PB ((cH bs gs).map du) u.length) bs u one other) bs.length)))->S.length<=l->Ka S S'->Q' (.rt (.ref l),S'):=λl S' a b c=>hR _ _ (k l S' a b c)
 clear hR;show wZ _ _ fG [gV (.tup [m0,.tup (HM bp ns bs),.tup (gs.map aD)]),gV (aD u),gV (bn one),gV (bn other),td,td] S Q';have hb3:bs.length<=3:=by rcases hb with rfl|rfl|rfl|rfl|rfl|rfl <;> decide
 dsimp only[fG];refine st ?_;dsimp only[wS,wE,wA,wV,wG,HD];refine gk (d:=d) hfu F hb hnl hgs h64 hu h1 h2 hul λS1 k1=>?_
 have ni:=AO (P:=PB ((cH bs gs).map du) u.length) (bs:=bs) (u:=u) (one:=one) (other:=other);have bl:=jj (P:=PB ((cH bs gs).map du) u.length) (bs:=bs) (u:=u) (one:=one) (other:=other);generalize cr (PB ((cH bs gs).map du) u.length) bs u one other=X at ni bl k;have xne:X≠[]:=λz=>by rw[z]at bl; cases bl
 refine st ?_;dsimp only[wS,wE,HD];refine rR bs.length (λi=>AN (X.getD i (.int 0))) (λ(i:Hu)=>W.int (i:HF)) [gV (.tup X)] rfl rfl rfl rfl ∅ ?_ (λi hi S2 k2=>?_) λS2 k2=>?_
 ·dsimp only[wE,wA,wV,wG];refine aj #v[] rfl (bC ?_)
  rw[KC,hnl,L1];exact#[rfl,.refl]
 ·obtain⟨g1,g2⟩:=AR (i:=i) ∅ ni
  dsimp only[iV,wC,wT,wE,wV,wG];refine aj (HB i) (by rw[HE]; exact g1) (ac (BF g2) ?_)
  dsimp only[wB];exact#[λz=>#[z,rfl,.refl],λz=>#[z,.refl]]
 ·have em:((HJ bs.length).filter λi=>AN (X.getD i (.int 0))).map (λ(i:Hu)=>W.int (i:HF))=ab (((HJ bs.length).filter λi=>AN (X.getD i (.int 0))).map λ(i:Hu)=>(i:HF)):=by unfold ab; rw[JQ]; rfl
  rw[em];have hl:(ab (((HJ bs.length).filter λi=>AN (X.getD i (.int 0))).map λ(i:Hu)=>(i:HF))).length<=3:=by
   unfold ab;rw[Hq,Hq];exact IE (JD _ _) (by rw[Iv]; exact hb3)
  have kl:S.length<=S2.length:=(k1.trans k2).len;unfold qz at k;refine bf λK hK=>?_
  dsimp only[wS,wT,wE,wV,wG,wN];refine ac (qA xne) (ac (BF (AQ xne ni)) ?_);dsimp only[wB];refine ar (Q0:=Q') (λz Q2 hn _=>?_) (λz Q2 hn _=>bZ (hn _ _ (hK _ _ (st ?_))))
  ·rw[HW z]at k;refine st ?_;dsimp only[wS,wE,wA,wV,wG,wN];refine#[dP ak,Dn ak ∅ (bZ (hn _ _ (hK _ _ (st ?_))))]
   dsimp only[wS,wE,wV,wG];refine k _ _ ?_ kl (((k1.trans k2).trans .push).late kl);rw[b7 ak];unfold ab;rw[Ip]; rfl
  ·rw[Ix (by rw[z]; exact HU),IZ]at k
   dsimp only[wS,wE,wV,wG];exact k _ _ ak kl ((k1.trans k2).trans .push)
end
noncomputable def cX:Ss:=
 #v[.set 1 (.own "_law_pick" 2 #v[.v 0,.c (.int 8)]),.ite (.cmp .lt (.v 1) (.c (.int 4))) #v[.ret (.own "_law_any_rule" 1 #v[.v 0])] .nil,.ite (.cmp .lt (.v 1) (.c (.int 7))) #v[.ret (.own "_law_laying_rule" 1 #v[.v 0])] .nil,.ret (.own "_law_unlaying_rule" 1 #v[.v 0])]
noncomputable def cY:Ss:=
 #v[.set 4 (.own "_law_pick" 2 #v[.v 0,.bi .len #v[.ix (.v 1) (.c (.int 0))]]),.loop (.nm 5) (.rng #v[.bi .len #v[.ix (.v 1) (.c (.int 0))]]) #v[.set 6 (.op .mod (.op .add (.v 4) (.v 5)) (.bi .len #v[.ix (.v 1) (.c (.int 0))])),.set 7 (.own "_law_new_ways" 6 #v[.v 0,.v 1,.v 2,.v 3,.v 6,.tup .nil]),.ite (.cmp .isnot (.v 7) (.c .non)) #v[.ret (.tup #v[.v 6,.v 7])] .nil],.ret (.c .non)]
noncomputable def fI:Ss:=
 #v[.asg [5,6] (.v 4),.set 7 (.own "_law_pick" 2 #v[.v 0,.c (.int 4)]),.ite (.cmp .eq (.v 7) (.c (.int 1))) #v[.set 5 (.own "_law_pick" 2 #v[.v 0,.bi .len #v[.ix (.v 1) (.c (.int 0))]])] #v[.ite (.and (.cmp .gt (.v 7) (.c (.int 1))) (.cmp .ne (.v 6) (.tup .nil))) #v[.set 8 (.own "_law_pick" 2 #v[.v 0,.bi .len #v[.v 6]]),.set 6 (.op .add (.op .add (.sl (.v 6) .no (.yes (.v 8))) (.tup #v[.own "_law_pick" 2 #v[.v 0,.bi .len #v[.ix (.v 1) (.c (.int 1))]]])) (.sl (.v 6) (.yes (.op .add (.v 8) (.c (.int 1)))) .no))] .nil],.ite (.own "_law_last_may" 4 #v[.v 1,.v 2,.op .add (.v 3) (.tup #v[.tup #v[.v 5,.v 6]]),.bi .len #v[.v 3]]) #v[.ret (.tup #v[.v 5,.v 6])] .nil,.ret (.v 4)]
noncomputable def fJ:Ss:=
 #v[.set 4 (.own "_law_world" 4 #v[.v 0,.v 1,.v 2,.v 3]),.set 5 (.own "_law_new_point" 4 #v[.v 0,.v 1,.v 2,.v 4]),.ite (.cmp .is (.v 5) (.c .non)) #v[.set 5 (.ix (.v 4) (.neg (.c (.int 1)))),.set 4 (.sl (.v 4) .no (.yes (.neg (.c (.int 1)))))] .nil,.set 6 (.c .non),.ite (.cmp .eq (.own "_law_pick" 2 #v[.v 0,.c (.int 2)]) (.c (.int 0))) #v[.set 6 (.own "_law_new_point" 4 #v[.v 0,.v 1,.v 2,.v 4])] .nil,.ite (.cmp .is (.v 6) (.c .non)) #v[.set 6 (.own "_law_near" 5 #v[.v 0,.v 1,.v 2,.v 4,.v 5])] .nil,.ret (.tup #v[.v 4,.v 5,.v 6])]
theorem Fk {S:aa}{xs:Hm HF}:b6 .ne (.tup (ab xs)) (.tup []) S=gV (.bl (!decide (xs=[])),S):=by
 cases xs <;> rfl
section
variable{defs:Hm (HL×Df)}{fuel d:Hu}{S:aa}{r:Hu}{Q:QW}
structure Pai (defs:Hm (HL×Df)):Prop where
 un:Is defs ("_law_unlaying_rule" : HL) 1 10 bE
 some':Is defs ("_law_some_rule" : HL) 1 2 cX
 ways:Is defs ("_law_new_ways" : HL) 6 11 bo
 world:Is defs ("_law_world" : HL) 4 8 dI
 lmay:Is defs ("_law_last_may" : HL) 4 8 cJ
 point:Is defs ("_law_new_point" : HL) 4 8 cY
 near:Is defs ("_law_near" : HL) 5 9 fI
 pair:Is defs ("_law_pair" : HL) 4 7 fJ
theorem qB (hfu:20 < fuel)(G:Gen defs)(P:Pai defs)(hf:Fl S r)(k:∀w S',dA w->Fl S' r->Kp r S S'->Q (w,S')):wO (br (au defs fuel (d+8)) "_law_some_rule" 1 [.ref r] S) Q:=by
 refine az P.some' rfl rfl λQ' hR=>?_
 replace k:∀w S',dA w->Fl S' r->Kp r S S'->Q' (.rt w,S'):=λz S' a b c=>hR _ _ (k z S' a b c)
 clear hR;show wZ _ _ cX [gV (.ref r),td] S Q';dsimp only[cX];refine bf λK hK=>?_
 dsimp only[wS,wE,wA,wV,wG,HD];refine bq (d:=d+6) G.pick hf #v[] #v[] λv S1 v0 v7 f1 k1=>hK _ _ ?_
 clear hK K;refine bf λK hK=>?_
 dsimp only[wS,wT,wE,wV,wG,xn,bm,wB];refine ar (Q0:=Q') (λ_ Q2 _ hr=>?_) (λ_ Q2 hn _=>bZ (hn _ _ (hK _ _ ?_)))
 ·refine st ?_;dsimp only[wS,wE,wA,wV,wG];exact rN (d:=d+1) hfu G f1 λw S2 a b c=>hr _ _ (k w S2 a b (k1.trans c))
 clear hK K hn;refine bf λK hK=>?_
 dsimp only[wS,wT,wE,wV,wG,xn,bm,wB];refine ar (Q0:=Q') (λ_ Q2 _ hr=>?_) (λ_ Q2 hn _=>bZ (hn _ _ (hK _ _ ?_)))
 ·refine st ?_;dsimp only[wS,wE,wA,wV,wG];exact xX (d:=d) hfu G f1 λw S2 a b c=>hr _ _ (k w S2 a b (k1.trans c))
 refine st ?_;dsimp only[wS,wE,wA,wV,wG];exact rQ (d:=d+1) hfu G P.un f1 λw S2 a b c=>k w S2 a b (k1.trans c)
theorem r0 (G:Gen defs)(hg:Is defs ("_law_new_ways" : HL) 6 11 bo){m0 b0:W}{N:Hm W}{a n q:Hu}{u:Wd}{mk:HF}{kvs:Hm (T×W)}(hN:N.length=n)(hn3:n<=3)(hu:GoodW a n u)(hl:u.length<=900)(e:S[q]?=gV (.dic kvs))(hqr:q≠r)(hf:Fl S r)
  (k:∀w S',((w=.non/\u≠[])\/∃to:Hm HF,w=.tup (ab to)/\to.length=u.length/\∀x∈to,0<=x/\x < (n:HF))->Fl S' r->Kp r S S'->Q (w,S')) :
  wO (br (au defs fuel (d+2)) "_law_new_ways" 6 [.ref r,.tup [m0,.tup N,b0],.ref q,aD u,.int mk,.tup []] S) Q:=by
 by_cases z:u=[]
 ·subst z;refine az hg rfl rfl λQ' hR=>?_
  show wZ _ _ bo [gV (.ref r),gV (.tup [m0,.tup N,b0]),gV (.ref q),gV (aD []),gV (.int mk),gV (.tup (ab [])),td,td,td,td,td] S Q';dsimp only[bo];refine bf λK hK=>?_
  refine iJ 0 0 (λm ρ S'=>ρ=[gV (.ref r),gV (.tup [m0,.tup N,b0]),gV (.ref q),gV (aD []),gV (.int mk),gV (.tup (ab [])),td,td,td,td,td]/\S'=S) rfl rfl rfl #v[] ?_ (λm ρ S1 hm=>∅) ?_
  ·dsimp only[wE,wA,wV,wG];exact bC #[rfl,bC #[rfl,rfl,rfl]]
  ·rintro ρ S1 ⟨rfl,rfl⟩;refine hK _ _ (st ?_);dsimp only[wS,wE,wV,wG];exact hR _ _ (k _ _ (.inr #[[],rfl,rfl,λx hx=>nomatch hx]) hf .refl)
 ·refine li G hg hN hn3 hu hl e hqr hf λw S' hw f' k'=>k w S' ?_ f' k'
  rcases hw with h|h
  ·exact .inl #[h,z]
  ·exact .inr h
theorem jO (G:Gen defs)(P:Pai defs){M N:Hm W}{b0:W}{a n q:Hu}{u:Wd}{kvs:Hm (T×W)}(hM:M.length=a)(ha1:0 < a)(ha3:a<=3)(hN:N.length=n)(hn3:n<=3)(hu:GoodW a n u)(hl:u.length<=900)(e:S[q]?=gV (.dic kvs))(hqr:q≠r)(hf:Fl S r)
  (k:∀w S',((w=.non/\u≠[])\/∃p,w=bn p/\GoodP a n u.length p)->Fl S' r->Kp r S S'->Q (w,S')) :
  wO (br (au defs fuel (d+3)) "_law_new_point" 4 [.ref r,.tup [.tup M,.tup N,b0],.ref q,aD u] S) Q:=by
 refine az P.point rfl rfl λQ' hR=>?_
 replace k:∀w S',((w=.non/\u≠[])\/∃p,w=bn p/\GoodP a n u.length p)->Fl S' r->Kp r S S'->Q' (.rt w,S'):=λw S' h1 h2 h3=>hR _ _ (k w S' h1 h2 h3)
 clear hR;show wZ _ _ cY [gV (.ref r),gV (.tup [.tup M,.tup N,b0]),gV (.ref q),gV (aD u),td,td,td,td] S Q';generalize hR0:W.tup [.tup M,.tup N,b0]=R;dsimp only[cY];refine bf λK hK=>?_
 dsimp only[wS,wE,wA,wV,wG,HD];have lm:∀(S:aa) (Q:QW),Q (.int (a:HF),S)->wO (lK R (.int 0) S) λp=>wO (Bi.len.fn [p.1] p.2) Q:=λS Q q=>by
  subst hR0;refine aj #v[] rfl (bC ?_)
  rw[hM]; exact q
 refine lm _ _ ?_;refine bq (d:=d+1) G.pick hf ∅ ∅ λv S1 v0 v1 f1 k1=>hK _ _ ?_
 clear hK K;refine bf λK hK=>?_
 refine cV (a:HF) (λi ρ S'=>(∃a5 a6 a7,ρ=[gV (.ref r),gV R,gV (.ref q),gV (aD u),gV (.int v),a5,a6,a7])/\(u=[]->i=0)/\Fl S' r/\Kp r S S') rfl rfl ∅ ?_ ?_ ?_
 ·dsimp only[wE,wA,wV,wG];exact lm _ _ #[rfl,#[_,_,_,rfl],λ_=>rfl,f1,k1]
 ·rintro i ρ S2 hi ⟨⟨a5,a6,a7,rfl⟩,_,f2,k2⟩ Q2 hn2 hr2;clear hK;dsimp only[HD];refine st ?_;dsimp only[wS,wE,wA,wV,wG,HD];refine ac dW (lm _ _ (ac (kR ∅) ?_))
  have m0:0<=(v+(i:HF)) % (a:HF):=J1 _ ∅
  have m1:(v+(i:HF)) % (a:HF) < a:=JE _ ∅
  generalize(v+(i:HF)) % (a:HF)=m at m0 m1;refine st ?_;dsimp only[wS,wE,wA,wV,wG,HD];subst hR0;refine r0 (d:=d) G P.ways hN hn3 hu hl (k2.get _ _ hqr e) hqr f2 λw S3 hw f3 k3=>?_
  refine bf λK hK=>?_
  dsimp only[wS,wT,wE,wA,wV,wG];rcases hw with⟨rfl,hne⟩|⟨to,rfl,htl,hto⟩
  ·refine ac (show b6 .isnot .non .non S3=gV (.bl false,S3)from rfl) ?_
   dsimp only[wB];exact ar (Q0:=Q2) (λz=>by cases z) (λ_ Q5 hn5 _=>bZ (hn5 _ _ (hK _ _ (bZ (hn2 _ _ #[#[_,_,_,rfl],λz=>absurd z hne,f3,k2.trans k3])))))
  ·refine ac (show b6 .isnot (.tup (ab to)) .non S3=gV (.bl true,S3)from rfl) ?_
   dsimp only[wB];refine ar (Q0:=Q2) (λ_ Q5 _ hr5=>?_) (λz=>by cases z)
   refine st ?_;dsimp only[wS,wE,wA,wV,wG];exact hr5 _ _ (hr2 _ _ (k _ _ (.inr #[(m,to),rfl,#[#[m0,m1],htl,hto]]) f3 (k2.trans k3)))
 ·rintro ρ S2 ⟨⟨a5,a6,a7,rfl⟩,hz,f2,k2⟩;rw[HE]at hz;refine hK _ _ (st ?_);dsimp only[wS,wE];exact k _ _ (.inl #[rfl,λz=>by have:=hz z; omega]) f2 k2
theorem Ds (G:Gen defs)(P:Pai defs){M N:Hm W}{b0:W}{a n q:Hu}{u:Wd}{p:Pt}{kvs:Hm (T×W)}(hM:M.length=a)(ha1:0 < a)(ha3:a<=3)(hN:N.length=n)(hn1:0 < n)(hn3:n<=3)(hu:GoodW a n u)(hp:GoodP a n u.length p)(hl:u.length<=900)(e:S[q]?=gV (.dic kvs))(hqr:q≠r)(hf:Fl S r)
  (k:∀p' S',GoodP a n u.length p'->Fl S' r->Kp r S S'->Q (bn p',S')) :
  wO (br (au defs fuel (d+2)) "_law_near" 5 [.ref r,.tup [.tup M,.tup N,b0],.ref q,aD u,bn p] S) Q:=by
 refine az P.near rfl rfl λQ' hR=>?_
 replace k:∀p' S',GoodP a n u.length p'->Fl S' r->Kp r S S'->Q' (.rt (bn p'),S'):=λw S' h1 h2 h3=>hR _ _ (k w S' h1 h2 h3)
 clear hR;show wZ _ _ fI [gV (.ref r),gV (.tup [.tup M,.tup N,b0]),gV (.ref q),gV (aD u),gV (bn p),td,td,td,td] S Q';generalize hR0:W.tup [.tup M,.tup N,b0]=R;have lm:∀(S:aa) (Q:QW),Q (.int (a:HF),S)->wO (lK R (.int 0) S) λp=>wO (Bi.len.fn [p.1] p.2) Q:=λS Q q=>by
  subst hR0;refine aj #v[] rfl (bC ?_)
  rw[hM]; exact q
 have lw:∀(S:aa) (Q:QW),Q (.int (n:HF),S)->wO (lK R (.int 1) S) λp=>wO (Bi.len.fn [p.1] p.2) Q:=λS Q q=>by
  subst hR0;refine aj #v[] rfl (bC ?_)
  rw[hN]; exact q
 have ul:(u.map bn).length=u.length:=Hq ..;dsimp only[fI];refine st ?_;dsimp only[wS,wE,wV,wG,wU,bn];refine ac (show dv [5,6] [.int p.1,.tup (p.2.map W.int)] [gV (.ref r),gV R,gV (.ref q),gV (aD u),gV (.tup [.int p.1,.tup (p.2.map W.int)]),td,td,td,td]=gV [gV (.ref r),gV R,gV (.ref q),gV (aD u),gV (bn p),gV (.int p.1),gV (.tup (ab p.2)),td,td]from rfl) ?_
 refine bf λK hK=>?_
 dsimp only[wS,wE,wA,wV,wG,HD];refine bq (d:=d) G.pick hf #v[] #v[] λv S1 _ _ f1 k1=>hK _ _ ?_
 clear hK K;refine bf λK hK=>?_
 have tl:∀(m:HF) (to:Hm HF) (a8:Ht W) (S2:aa),GoodP a n u.length (m,to)->Fl S2 r->Kp r S S2->K [gV (.ref r),gV R,gV (.ref q),gV (aD u),gV (bn p),gV (.int m),gV (.tup (ab to)),gV (.int v),a8] S2:=by
  intro m to a8 S2 hg f2 k2;refine hK _ _ ?_;clear hK K;refine bf λK hK=>?_
  dsimp only[wS,wT,wE,wA,wV,wG,aD];have ev:u.map bn++[.tup [.int m,.tup (ab to)]]=(u++[(m,to)]).map bn:=by rw[Ip]; rfl
  refine ac (eT (jU (by rw[ev,Hq,HA,Jo]; omega))) (bC ?_)
  dsimp only;rw[ev,ul];have lmay:=λ(Q:QW)=>rV (fuel:=fuel) (d:=d) (Q:=Q) (R:=R) (h:=(m,to)) P.lmay hu hg.len ∅ (k2.get _ _ hqr e)
  unfold aD at lmay;refine lmay _ ?_;refine ac (show eX S2 (.bl (uY kvs u u.length (m,to)))=gV (uY kvs u u.length (m,to))from rfl) ?_
  refine ar (Q0:=Q') (λ_ Q2 _ hr=>?_) (λ_ Q2 hn _=>bZ (hn _ _ (hK _ _ (st ?_))))
  ·refine st ?_;dsimp only[wS,wE,wA,wV,wG];exact hr _ _ (k (m,to) S2 hg f2 k2)
  ·dsimp only[wS,wE,wV,wG];exact k p S2 hp f2 k2
 dsimp only[wS,wT,wE,wV,wG,kS,bm,wB];refine ar (Q0:=Q') (λ_ Q2 hn _=>?_) (λ_ Q2 hn _=>?_)
 ·refine st ?_;dsimp only[wS,wE,wA,wV,wG,HD];refine lm _ _ (bq (d:=d) G.pick f1 ∅ ∅ λm S2 m0 m1 f2 k2=>bZ (hn _ _ (tl m p.2 td S2 #[#[m0,m1],hp.len,hp.way] f2 (k1.trans k2))))
 ·refine bf λK2 hK2=>?_
  dsimp only[wS,wT,wE,wA,wV,wG];have stay:K2 [gV (.ref r),gV R,gV (.ref q),gV (aD u),gV (bn p),gV (.int p.1),gV (.tup (ab p.2)),gV (.int v),td] S1:=hK2 _ _ (bZ (hn _ _ (tl p.1 p.2 td S1 hp f1 k1)));refine ac Ao ?_;dsimp only[wB];refine#[λ_=>ac Fk ?_,λ_=>ar (Q0:=Q2) (λz=>by cases z) λ_ Q3 hn3 _=>bZ (hn3 _ _ stay)]
  dsimp only[wB];refine ar (Q0:=Q2) (λhne Q3 hn3 _=>?_) (λ_ Q3 hn3 _=>bZ (hn3 _ _ stay))
  have hne:p.2≠[]:=by simpa using hne
  have hpl:0 < p.2.length:=KD.mpr hne;have il:(ab p.2).length=p.2.length:=Hq ..;have hpe:=hp.len;refine st ?_;dsimp only[wS,wE,wA,wV,wG,HD];refine bC ?_;rw[il];refine bq (d:=d) G.pick f1 ∅ ∅ λv2 S2 v0 v1 f2 k2=>?_
  obtain⟨at',rfl⟩ : ∃k:Hu,v2=k:=#[v2.toNat,∅]
  refine st ?_;dsimp only[wS,wE,wA,wP,wV,wG,wN,HD];refine ac (show lF (.tup (ab p.2)) td (gV ((at':Hu):HF)) S2=gV (.tup ((ab p.2).take at'),S2) by simp only[lF,eE]) ?_
  dsimp only;refine lw _ _ (bq (d:=d) G.pick f2 ∅ ∅ λw S3 w0 w1 f3 k3=>?_)
  refine ac (eT (jU (by rw[HA,Il,il]; show _+1<=_; omega))) ?_
  dsimp only;refine ac dW ?_;dsimp only;refine ac (show lF (.tup (ab p.2)) (gV ((at':HF)+1)) td S3=gV (.tup ((ab p.2).drop (at'+1)),S3) by rw[show(at':HF)+1=((at'+1:Hu):HF) by omega]; simp only[lF,xt]) ?_
  dsimp only;refine ac (eT (jU (by rw[HA,HA,Il,Kd,il]; show _+1+_<=_; omega))) ?_
  have es:(ab p.2).take at'++[.int w]++(ab p.2).drop (at'+1)=ab (p.2.set at' w):=by
   unfold ab;rw[OS,List.set_eq_take_append_cons_drop,HW (by rw[Hq]; omega)]
   simp
  dsimp only;rw[es];refine bZ (hn3 _ _ (hK2 _ _ (bZ (hn _ _ (tl p.1 (p.2.set at' w) _ S3 #[hp.mark,?_,λx hx=>?_] f3 ((k1.trans k2).trans k3))))))
  ·show(p.2.set at' w).length=_;rw[NT]; exact hpe
  ·rcases List.mem_or_eq_of_mem_set hx with z|z
   ·exact hp.way x z
   ·rw[z]; exact#[w0,w1]
theorem Dt (G:Gen defs)(P:Pai defs){M N:Hm W}{b0:W}{a n q many:Hu}{kvs:Hm (T×W)}(hM:M.length=a)(ha1:0 < a)(ha3:a<=3)(hN:N.length=n)(hn1:0 < n)(hn3:n<=3)(hm:many<=800)(e:S[q]?=gV (.dic kvs))(hqr:q≠r)(hf:Fl S r)
  (k:∀(u:Wd) (one other:Pt) S',u.length<=many->GoodW a n u->GoodP a n u.length one->GoodP a n u.length other->Fl S' r->Kp r S S'->Q (.tup [aD u,bn one,bn other],S')) :
  wO (br (au defs fuel (d+4)) "_law_pair" 4 [.ref r,.tup [.tup M,.tup N,b0],.ref q,.int many] S) Q:=by
 refine az P.pair rfl rfl λQ' hR=>?_
 replace k:∀(u:Wd) (one other:Pt) S',u.length<=many->GoodW a n u->GoodP a n u.length one->GoodP a n u.length other->Fl S' r->Kp r S S'->Q' (.rt (.tup [aD u,bn one,bn other]),S'):=λu x y S' h1 h2 h3 h4 h5 h6=>hR _ _ (k u x y S' h1 h2 h3 h4 h5 h6)
 clear hR;show wZ _ _ fJ [gV (.ref r),gV (.tup [.tup M,.tup N,b0]),gV (.ref q),gV (.int many),td,td,td] S Q';generalize hR0:W.tup [.tup M,.tup N,b0]=R;dsimp only[fJ];refine bf λK hK=>?_
 dsimp only[wS,wE,wA,wV,wG,HD];subst hR0;refine AM (d:=d) G P.ways P.world hM ha1 ha3 hN hn3 ∅ e hqr hf λu S1 hul hu f1 k1=>hK _ _ ?_
 clear hK K;refine bf λK hK=>?_
 dsimp only[wS,wE,wA,wV,wG,HD];refine jO (d:=d) G P hM ha1 ha3 hN hn3 hu ∅ (k1.get _ _ hqr e) hqr f1 λw S2 hw f2 k2=>hK _ _ ?_
 clear hK K;have k12:=k1.trans k2;clear f1 k1 k2;refine bf λK hK=>?_
 have tl:∀(u:Wd) (one:Pt),u.length<=many->GoodW a n u->GoodP a n u.length one->K [gV (.ref r),gV (.tup [.tup M,.tup N,b0]),gV (.ref q),gV (.int many),gV (aD u),gV (bn one),td] S2:=by
  intro u one hul hu h1;refine hK _ _ ?_;clear hK K;refine st ?_;dsimp only[wS,wE,HD];refine bf λK hK=>?_
  have tl2:∀(w:W) (S3:aa),(w=.non\/∃p,w=bn p/\GoodP a n u.length p)->Fl S3 r->Kp r S S3->K [gV (.ref r),gV (.tup [.tup M,.tup N,b0]),gV (.ref q),gV (.int many),gV (aD u),gV (bn one),gV w] S3:=by
   intro w S3 hw f3 k3;refine hK _ _ ?_;clear hK K;refine bf λK hK=>?_
   dsimp only[wS,wT,wE,wV,wG];have ret:∀(p:Pt) (S4:aa),GoodP a n u.length p->Fl S4 r->Kp r S S4->K [gV (.ref r),gV (.tup [.tup M,.tup N,b0]),gV (.ref q),gV (.int many),gV (aD u),gV (bn one),gV (bn p)] S4:=λp S4 hp f4 k4=>hK _ _ (st (by
    dsimp only[wS,wE,wA,wV,wG];exact k u one p S4 hul hu h1 hp f4 k4))
   rcases hw with rfl|⟨p,rfl,hp⟩
   ·refine ac (show b6 .is .non .non S3=gV (.bl true,S3)from rfl) ?_
    dsimp only[wB];refine ar (Q0:=Q') (λ_ Q2 hn _=>?_) (λz=>by cases z)
    refine st ?_;dsimp only[wS,wE,wA,wV,wG,HD];exact Ds (d:=d+1) G P hM ha1 ha3 hN hn1 hn3 hu h1 ∅ (k3.get _ _ hqr e) hqr f3 λp S4 hp f4 k4=>bZ (hn _ _ (ret p S4 hp f4 (k3.trans k4)))
   ·refine ac (show b6 .is (bn p) .non S3=gV (.bl false,S3)from rfl) ?_
    dsimp only[wB];exact ar (Q0:=Q') (λz=>by cases z) (λ_ Q2 hn _=>bZ (hn _ _ (ret p S3 hp f3 k3)))
  dsimp only[wS,wT,wE,wA,wV,wG];refine bq (d:=d+2) G.pick f2 #v[] #v[] λv S3 _ _ f3 k3=>?_
  dsimp only[kS,bm,wB];refine ar (Q0:=Q') (λ_ Q2 hn _=>?_) (λ_ Q2 hn _=>bZ (hn _ _ (tl2 .non S3 (.inl rfl) f3 (k12.trans k3))))
  refine st ?_;dsimp only[wS,wE,wA,wV,wG,HD];refine jO (d:=d) G P hM ha1 ha3 hN hn3 hu ∅ (k3.get _ _ hqr (k12.get _ _ hqr e)) hqr f3 λw S4 hw f4 k4=>bZ (hn _ _ (tl2 w S4 ?_ f4 ((k12.trans k3).trans k4)))
  rcases hw with⟨h,_⟩|h
  ·exact .inl h
  ·exact .inr h
 dsimp only[wS,wT,wE,wV,wG];rcases hw with⟨rfl,hne⟩|⟨p,rfl,hp⟩
 ·refine ac (show b6 .is .non .non S2=gV (.bl true,S2)from rfl) ?_
  dsimp only[wB];refine ar (Q0:=Q') (λ_ Q2 hn _=>?_) (λz=>by cases z)
  have hup:0 < u.length:=KD.mpr hne;have hlt:u.length - 1 < u.length:=∅
  have gl:=aA (d:=(0,[])) hlt;refine st ?_;dsimp only[wS,wE,wV,wG,wN,HD];have el:(u.map bn).getLastD (.int 0)=bn (u.getD (u.length - 1) (0,[])):=by
   rw[Kx,LB,Hq,Hy,gl]; rfl
  refine ac (qA (xs:=u.map bn) (by simpa using hne)) ?_
  rw[el];refine st ?_;dsimp only[wS,wE,wP,wV,wG,wN,HD];refine ac (show lF (aD u) td (gV (-1)) S2=gV (aD u.dropLast,S2) by simp only[aD,lF,qu,List.map_dropLast]) ?_
  refine bZ (hn _ _ (tl u.dropLast (u.getD (u.length - 1) (0,[])) (by rw[Le]; omega) (uX hu) #[hu.mark _ _ gl,?_,hu.way _ _ gl]))
  rw[hu.len _ _ gl,Le]
 ·refine ac (show b6 .is (bn p) .non S2=gV (.bl false,S2)from rfl) ?_
  dsimp only[wB];exact ar (Q0:=Q') (λz=>by cases z) (λ_ Q2 hn _=>bZ (hn _ _ (tl u p hul hu hp)))
end
section
variable{defs:Hm (HL×Df)}{fuel d:Hu}{S:aa}{Q:QW}
theorem AS (G:Gen defs){m0 b0:W}{ns:Hm HL}{bs:Hm HF}{a l:Hu}{u:Wd}{ps:Hm Hu}(hb:GoodB bs)(hl:ns.length=bs.length)(hu:GoodW a bs.length u)(hps:∀p∈ps,p < u.length)(hnd:ps.Nodup)(hsz:ps.length < 1000)(el:S[l]?=gV (.lst (am ps)))(k:∀S',Ka S S'->Q (aD (ay bs u ps),S')) :
  wO (br (au defs fuel (d+2)) "_law_part" 3 [.tup [m0,.tup (HM bp ns bs),b0],aD u,.ref l] S) Q:=by
 refine az G.part rfl rfl λQ' hR=>?_
 replace k:∀S',Ka S S'->Q' (.rt (aD (ay bs u ps)),S'):=λS' a=>hR _ _ (k S' a)
 clear hR;show wZ _ _ dy [gV (.tup [m0,.tup (HM bp ns bs),b0]),gV (aD u),gV (.ref l),td,td,td] S Q';generalize hR0:W.tup [m0,.tup (HM bp ns bs),b0]=R;have hlS:=cF el;dsimp only[dy];refine st ?_;dsimp only[wS,wE,wA,HD];refine bf λK hK=>?_
 have nl:(am ps).length=ps.length:=Hq ..;refine cV (ps.length:HF) (λk ρ S'=>(∃a4 a5,ρ=[gV R,gV (aD u),gV (.ref l),gV (.ref S.length),a4,a5])/\S'[S.length]?=gV (.lst (((ay bs u ps).take k).map bn))/\S'[l]?=gV (.lst (am ps))/\Ka S S') rfl rfl ∅ ?_ ?_ ?_
 ·dsimp only[wE,wA,wV,wG];refine mR (aq el) ?_;rw[nl];exact#[rfl,#[td,td,rfl],ak,aq el,.push]
 ·rintro i ρ S1 hi ⟨⟨a4,a5,rfl⟩,e1,l1,k1⟩ Q2 hn _;clear hK;have hi':i < ps.length:=∅
  have hp:ps[i]?=gV ps[i]:=HK hi';have hpu:ps[i] < u.length:=hps _ (IT hi');dsimp only[HD];refine st ?_;dsimp only[wS,wE,wV,wG,HD];refine dQ l1 (iE hp) ?_;refine st ?_;dsimp only[wS,wE,wA,wV,wG,HD];refine#[dP e1,aj (HB _) (dg hpu) (aj #v[] rfl ?_)]
  refine ox (ps.take i) (λ(q:Hu)=>W.int (q:HF)) (λ_=>true) (λq=>W.int (d4 bs u ps[i] q)) [gV (.int ps[i]),gV R,gV (aD u)] rfl rfl rfl rfl (by rw[Il]; omega) ?_ (λq hq S2 k2=>?_) λS2 k2=>?_
  ·dsimp only[wE,wP,wV,wG,wN];refine ac (a:=(.ref S1.length,S1++[.lst (am (ps.take i))])) ?_ #[_,rfl,ak,.push];simp only[lF,aL l1,eE];unfold am;rw[KI]
  ·dsimp only[iV,wC,wE,wA,wV,wG];subst hR0;have hqm:=J7 hq;refine#[λ_=>mU (d:=d) G hb hl hu hpu (hps _ hqm) (λe=>?_) #[rfl,rfl,.refl],λz=>by cases z]
   obtain⟨j,hj,ej⟩:=Ld.mp hq;rw[Il]at hj;rw[K6]at ej;have:=(Kv hnd).mp (ej.trans e.symm);omega
  ·rw[iL];refine eD ak ?_;have e2:=aq (u:=O.lst ((ps.take i).map λq=>W.int (d4 bs u ps[i] q))) (k2.get _ _ e1)
   have l2:=aq (u:=O.lst ((ps.take i).map λq=>W.int (d4 bs u ps[i] q))) (k2.get _ _ l1)
   refine kX e2 (by rw[Hq,Il]; omega) (bZ (hn _ _ #[#[_,_,rfl],?_,?_,((k1.trans k2).trans .push).late (HG _)]))
   ·rw[b7 e2];have ep:(ay bs u ps)[i]?=gV ((u.getD ps[i] (0,[])).1,(ps.take i).map λq=>d4 bs u ps[i] q):=by
     unfold ay;rw[Hy,Jm hi',Ij,getD_some hp]
    rw[II,ep];simp[bn,LH]
   ·rw[bV ∅]; exact l2
 ·rintro ρ S1 ⟨⟨a4,a5,rfl⟩,e1,_,k1⟩;rw[HE,<- dz bs u ps,IP]at e1;refine hK _ _ (st ?_);dsimp only[wS,wE,wA,wV,wG];exact eD e1 (k _ k1)
end
noncomputable def u5 (u:Wd)(one other:Pt)(b:HF)(p:Hu):Wd:=[((u.getD p (0,[])).1,[]),(one.1,[one.2.getD p 0]),(other.1,[other.2.getD p 0,b])]
theorem lr {bs:Hm HF}{a k:Hu}{u:Wd}{one other:Pt}{n p:Hu}(h1:GoodP a k u.length one)(h2:GoodP a k u.length other)(hp:p < u.length):gj (dM bs u one other n) p u.length (u.length+1)=u5 u one other (bs.getD n 0) p:=by
 have l1:(u++[one]).length=u.length+1:=by rw[HA]; rfl
 have g0:(dM bs u one other n).getD p (0,[])=u.getD p (0,[]):=by
  unfold dM;rw[fF ∅,fF hp]
 have g1:(dM bs u one other n).getD u.length (0,[])=one:=by
  unfold dM;rw[fF ∅,g9]
 have g2:(dM bs u one other n).getD (u.length+1) (0,[])=(other.1,other.2++[bs.getD n 0]):=by
  unfold dM;rw[<- l1,g9]
 unfold gj u5;rw[g0,g1,g2];dsimp only;rw[rT (by rw[h2.len]; exact hp)]
 have:(other.2++[bs.getD n 0]).getD u.length 0=bs.getD n 0:=by
  rw[<- h2.len,IJ,Je (HG _),OT]; rfl
 rw[this]
noncomputable def di (X:Hm T)(bs:Hm HF)(u:Wd)(one other:Pt)(i p:Hu):HV:=decide (du (u5 u one other (bs.getD i 0) p)∈X)
noncomputable def gT (one other:Pt)(s:Hu):HV:=(one.1==other.1)&&(HJ s).all λp=>one.2.getD p 0==other.2.getD p 0
noncomputable def bF (B:Hu->Hu->HV)(sm:HV)(n s:Hu):Hm HF:=((HJ n).filter λi=>(HJ s).all λp=>!B i p).map (λ(i:Hu)=>(i:HF))++(if sm then[-1]else[])
theorem nb {P:Hu->HV}{s:Hu}:AN (bB P s)=(HJ s).all λp=>!P p:=by
 rw[Lh,HX];unfold bB;constructor
 ·intro h p hp;cases hf:(HJ s).find? P with
  | none=>
   have:=Kh.mp hf p hp
   simpa using this
  | some i=>rw[hf]at h; cases h
 ·intro h;have:(HJ s).find? P=td:=Kh.mpr λp hp=>by simpa using h p hp
  rw[this]; rfl
theorem tL {X:Hm T}{bs:Hm HF}{a:Hu}{u:Wd}{one other:Pt}(h1:GoodP a bs.length u.length one)(h2:GoodP a bs.length u.length other):qz (cr (PB X u.length) bs u one other) bs.length=bF (di X bs u one other) (gT one other u.length) bs.length u.length:=by
 have hg:∀i,i < bs.length->(cr (PB X u.length) bs u one other).getD i (.int 0)=bB (di X bs u one other i) u.length:=λi hi=>by
  unfold cr;rw[IJ,Im (by rw[Hq,Iv]; exact hi),Hy,Jm hi]
  refine jN λp hp=>?_
  show decide (du (gj (dM bs u one other i) p u.length (u.length+1))∈X)=_;rw[lr h1 h2 hp]; rfl
 have hl:(cr (PB X u.length) bs u one other).getLastD (.int 0)=gS one other:=by
  unfold cr;rw[List.getLastD_concat]
 unfold qz bF;rw[hl];congr 1
 ·congr 1;refine Nu λi hi=>?_
  rw[hg i (Iy.mp hi),nb]
 ·have:AN (gS one other)=gT one other u.length:=by
   unfold gS gT
   by_cases e:one.1=other.1
   ·rw[HW e,nb,h1.len,e,Jb,Kk];congr 1
    funext p
    rw[Bool.not_not]
   ·rw[Ix e,show(one.1==other.1)=false by simpa using e]; rfl
  rw[this]
theorem jk {B:Hu->Hu->HV}{sm:HV}{n s:Hu}{z:HF}:z∈bF B sm n s↔(∃i:Hu,z=i/\i < n/\∀p < s,B i p=false)\/(z = -1/\sm=true):=by
 unfold bF;rw[Iz,Io];constructor
 ·rintro(⟨i,hi,rfl⟩|h)
  ·obtain⟨h1,h2⟩:=KJ.mp hi;exact .inl #[i,rfl,Iy.mp h1,λp hp=>by simpa using HX.mp h2 p (Iy.mpr hp)]
  ·cases sm with
   | true=>exact .inr #[HN.mp h,rfl]
   | false=>cases h
 ·rintro(⟨i,rfl,h1,h2⟩|⟨rfl,rfl⟩)
  ·exact .inl #[i,KJ.mpr #[Iy.mpr h1,HX.mpr λp hp=>by simpa using h2 p (Iy.mp hp)],rfl]
  ·exact .inr (HN.mpr rfl)
theorem u6 {B B':Hu->Hu->HV}{sm sm':HV}{n k:Hu}(hB:∀i,B' i 0=B i k):(bF B sm n k).filter (λz=>decide (z∈bF B' sm' n 1))=bF B (sm&&sm') n (k+1):=by
 have h1:bF B sm n k=((HJ n).filter λi=>(HJ k).all λp=>!B i p).map (λ(i:Hu)=>(i:HF))++(if sm then[-1]else[]):=rfl
 rw[h1,KP,List.filter_map,List.filter_filter];have h2:bF B (sm&&sm') n (k+1)=((HJ n).filter λi=>(HJ (k+1)).all λp=>!B i p).map (λ(i:Hu)=>(i:HF))++(if (sm&&sm')then[-1]else[]):=rfl
 rw[h2];congr 1
 ·congr 1;refine Nu λi hi=>?_
  rw[Ki,NZ,Bool.and_comm];congr 1;simp only[PK,ID,OP,LK];rw[Lh,Ii,jk,K1,<- hB i];constructor
  ·rintro(⟨j,e,h3,h4⟩|⟨e,_⟩)
   ·obtain rfl:i=j:=∅
    exact h4 0 #v[]
   ·omega
  ·intro h;refine .inl #[i,rfl,Iy.mp hi,λp hp=>?_]
   obtain rfl:p=0:=∅
   exact h
 ·cases sm with
  | false=>rfl
  | true=>
   have:decide ((-1:HF)∈bF B' sm' n 1)=sm':=by
    rw[Lh,Ii,jk];constructor
    ·rintro(⟨j,e,_⟩|⟨_,h⟩)
     ·omega
     ·exact h
    ·intro h;exact .inr #[rfl,h]
   cases sm' with
   | true=>
    show[(-1:HF)].filter (λz=>decide (z∈bF B' true n 1))=[-1]
    rw[NO,this]; rfl
   | false=>
    show[(-1:HF)].filter (λz=>decide (z∈bF B' false n 1))=[]
    rw[NO,this]; rfl
noncomputable def aP (p:Pt)(ps:Hm Hu):Pt:=(p.1,ps.map λk=>p.2.getD k 0)
theorem gy {a n s:Hu}{p:Pt}{ps:Hm Hu}(h:GoodP a n s p)(hps:∀k∈ps,k < s):GoodP a n ps.length (aP p ps):=by
 refine#[h.mark,by unfold aP; rw[Hq],λw hw=>?_]
 unfold aP at hw;obtain⟨k,hk,rfl⟩:=Io.mp hw;exact h.way _ (HR (aA (d:=0) (by rw[h.len]; exact hps k hk)))
theorem gz {p:Pt}{ps:Hm Hu}{i:Hu}(h:i < ps.length):(aP p ps).2.getD i 0=p.2.getD (ps.getD i 0) 0:=by
 unfold aP;rw[IJ,Hy,aA (d:=0) h]; rfl
theorem yf {bs:Hm HF}{u:Wd}{one other:Pt}{b:HF}{ps:Hm Hu}{i:Hu}(h:i < ps.length):u5 (ay bs u ps) (aP one ps) (aP other ps) b i=u5 u one other b (ps.getD i 0):=by
 unfold u5;rw[uZ h,gz h,gz h]; rfl
theorem nh {X:Hm T}{bs:Hm HF}{u:Wd}{one other:Pt}{ps:Hm Hu}{n i:Hu}(h:i < ps.length):di X bs (ay bs u ps) (aP one ps) (aP other ps) n i=di X bs u one other n (ps.getD i 0):=by
 unfold di;rw[yf h]
noncomputable def cm:Ss:=
 #v[.set 2 (.bi .list #v[.v 1]),.set 3 (.lst .nil),.whl (.cmp .ne (.v 2) (.lst .nil)) #v[.ex (.me .append (.v 3) #v[.me .pop (.v 2) #v[.own "_law_pick" 2 #v[.v 0,.bi .len #v[.v 2]]]])],.ret (.v 3)]
noncomputable def dC:Ss:=
 #v[.ret (.tup #v[.ix (.v 0) (.c (.int 0)),.bi .tuple #v[.comp (.ix (.ix (.v 2) (.c (.int 1))) (.v 1)) (.nm 1) (.seq (.v 1)) .nil [td,td,gV 0]]])]
noncomputable def cp:Ss:=
 #v[.set 6 (.own "_law_part" 3 #v[.v 0,.v 1,.v 4]),.par 7 8 #v[.own "_law_over" 2 #v[.v 2,.v 4],.own "_law_over" 2 #v[.v 3,.v 4]],.set 9 (.own "fillings" 4 #v[.v 0,.v 6,.v 7,.v 8]),.ite (.not (.bi .all #v[.comp (.cmp .isin (.v 1) (.v 2)) (.nm 1) (.seq (.v 5)) .nil [td,td,gV 9]])) #v[.ret (.c (.bl false))] .nil,.set 11 (.own "barred_by" 4 #v[.v 0,.v 1,.v 2,.v 3]),.loop (.tp [10,12]) (.enu #v[.sl (.own "barred_by" 4 #v[.v 0,.v 6,.v 7,.v 8]) .no (.yes (.neg (.c (.int 1))))]) #v[.ite (.and (.cmp .isnot (.v 12) (.c .non)) (.or (.cmp .is (.ix (.v 11) (.v 10)) (.c .non)) (.cmp .gt (.ix (.v 11) (.v 10)) (.ix (.v 4) (.v 12))))) #v[.ret (.c (.bl false))] .nil],.ret (.c (.bl true))]
theorem AT {Φ:HL->FF}{fuel:Hu}{ρ:Fm}{S:aa}{K:Fm->aa->Prop}{Q:QO}{tg:Tg}{a:E}{b:Ss}(xs:Hm W)(I:Hu->Fm->aa->Prop)(oa:eA a=true)(ok:ga b=true)(he:wE Φ a ρ S λp=>FB p.1=gV xs/\I 0 ρ p.2)
  (hstep:∀(i:Hu) (x:W) (ρ:Fm) (S:aa),xs[i]?=gV x->I i ρ S->wO (fX tg (.tup [.int i,x]) ρ S) λq=>uK Φ fuel b q.1 q.2 (I (i+1)) Q) (hend:∀ρ S,I xs.length ρ S->K ρ S):Wp (fR Φ fuel (.loop tg (.enu #v[a]) b) ρ S) (p8 K Q):=by
 obtain⟨x,S1,e1,h1,h0⟩:=cG oa he;have hl:(i7 xs).length=xs.length:=by simp[i7]
 refine gb (mi:=.its (i7 xs)) (S1:=S1) (xs:=i7 xs) I ok (by simp only[j8,dq,dU,iz,wM,e1,h1]) (λ_ _ _ _=>rfl) rfl h0 (λi w ρ S hw hI=>?_) λρ S hI=>hend ρ S (hl ▸ hI)
 obtain⟨y,hy,rfl⟩:=kK hw;exact hstep i y ρ S hy hI
theorem yg {S:aa}{i j:Hu}{c:HV}(h:lE S 20 (.ref i) (.ref j)=gV c):b6 .ne (.ref i) (.ref j) S=gV (.bl (!c),S):=by
 simp only[b6,gA,Bh,h,Ij]
theorem Fn {S:aa}{i j:Hu}{xs:Hm W}(h1:S[i]?=gV (.lst xs))(h2:S[j]?=gV (.lst [])):b6 .ne (.ref i) (.ref j) S=gV (.bl (!xs.isEmpty),S):=by
 refine yg ?_;simp only[lE,cU h1,cU h2];cases xs with
 | nil=>rfl
 | cons x xs=>rfl
theorem yh {S:aa}{i j:Hu}{xs ys:Hm HF}(h1:S[i]?=gV (.lst (xs.map W.int)))(h2:S[j]?=gV (.lst (ys.map W.int)))(e:xs=ys):b6 .ne (.ref i) (.ref j) S=gV (.bl false,S):=by
 subst e;refine yg (c:=true) ?_;simp only[lE,cU h1,cU h2,mY];simp
theorem qC {z:HF}:∀xs:Hm HF,((ab xs).any λw=>vc w (.int z))=decide (z∈xs)
 | []=>by simp[ab]
 | x::xs=>by
  have:=qC (z:=z) xs;unfold ab at this ⊢;rw[Jr,JR,this];have:vc (.int x) (.int z)=(x==z):=rfl;rw[this]
  by_cases e:x=z
  ·simp[e]
  ·have:¬ z=x:=λh=>e h.symm
   simp[e,this]
theorem BG {S:aa}{l:Hu}{xs:Hm HF}{z:HF}(h:S[l]?=gV (.lst (ab xs))):b6 .isin (.int z) (.ref l) S=gV (.bl (decide (z∈xs)),S):=by
 have hf:(ci (.int z)&&(ab xs).all ci)=true:=by
  simp only[ci,Kk,HX];intro x hx;unfold ab at hx;obtain⟨y,_,rfl⟩:=Io.mp hx;rfl
 simp only[b6,iB h,gA,Bh,zh,eI,aL h,hf,Kf,Ij,qC]
section
variable{defs:Hm (HL×Df)}{fuel d:Hu}{S:aa}{r:Hu}{Q:QW}
theorem AU {i:Hu}{xs:Hm W}(h:S[i]?=gV (.lst xs))(q:Q (.ref S.length,S++[.lst xs])):wO (Bi.list.fn [.ref i] S) Q:=by
 refine ac ?_ q;have h1:uh S i=td:=by simp[uh,h]
 simp only[Bi.fn,CU,ip,h1,kF,iB h,gN,eI,aL h]
theorem r4 (G:Gen defs)(hg:Is defs ("_law_shuffled" : HL) 2 4 cm){l:Hu}{ls:Hm Hu}(hf:Fl S r)(e:S[l]?=gV (.lst (am ls)))(hnd:ls.Nodup)(hl:ls.length<=900)(hfu:ls.length < fuel)
  (k:∀(q:Hu) (ps:Hm Hu) S',S'[q]?=gV (.lst (am ps))->ps.Nodup->(∀p∈ps,p∈ls)->ps.length=ls.length->S.length<=q->Fl S' r->Kp r S S'->Q (.ref q,S')) :
  wO (br (au defs fuel (d+2)) "_law_shuffled" 2 [.ref r,.ref l] S) Q:=by
 refine az hg rfl rfl λQ' hR=>?_
 replace k:∀(q:Hu) (ps:Hm Hu) S',S'[q]?=gV (.lst (am ps))->ps.Nodup->(∀p∈ps,p∈ls)->ps.length=ls.length->S.length<=q->Fl S' r->Kp r S S'->Q' (.rt (.ref q),S'):=λa b c e f g h i j m=>hR _ _ (k a b c e f g h i j m)
 clear hR;show wZ _ _ cm [gV (.ref r),gV (.ref l),td,td] S Q';have hrt:=hf.lt;have nl:∀xs:Hm Hu,(am xs).length=xs.length:=λxs=>Hq ..
 dsimp only[cm];refine st ?_;dsimp only[wS,wE,wA,wV,wG,HD];refine AU e ?_;refine st ?_;dsimp only[wS,wE,wA,HD];have l1:(S++[O.lst (am ls)]).length=S.length+1:=by simp
 refine bf λK hK=>?_
 refine By (λm ρ S'=>ρ=[gV (.ref r),gV (.ref l),gV (.ref S.length),gV (.ref (S++[O.lst (am ls)]).length)]/\∃xs ps:Hm Hu,S'[S.length]?=gV (.lst (am xs))/\S'[(S++[O.lst (am ls)]).length]?=gV (.lst (am ps))/\(xs++ps).Nodup/\(∀p∈xs++ps,p∈ls)/\xs.length+ps.length=ls.length/\xs.length=m/\Fl S' r/\Kp r S S') ls.length rfl rfl hfu #[rfl,ls,[],aq ak,ak,by rw[IZ]; exact hnd,λp hp=>by rw[IZ]at hp; exact hp,by simp,rfl,(hf.ka .push).ka .push,Kp.push.trans .push] ?_
 rintro m ρ S2 ⟨rfl,xs,ps,e2,e3,nd,lt,hsz,hm,f2,k2⟩;rw[l1]at e3;rw[l1];have h2:=cF e2;have h3:=cF e3;dsimp only[wT,wE,wA,wV,wG];refine ac (Fn (aq e2) ak) ?_;dsimp only[wB];have e2':=aq (u:=O.lst []) e2;have e3':=aq (u:=O.lst []) e3;have f2':=f2.ka (Ka.push (o:=O.lst []));have k2':=k2.trans (Kp.push (o:=O.lst []));clear e2 e3 f2 k2 h2 h3;generalize S2++[O.lst []]=S2 at e2' e3' f2' k2';refine#[λh=>?_,λh=>?_]
 ·have hx:xs≠[]:=λz=>by rw[z]at h; simp[am]at h
  have hx0:0 < xs.length:=KD.mpr hx;refine#[m - 1,∅,λQ2 hn _=>?_]
  clear hK k;refine st ?_;dsimp only[wS,wE,wA,wV,wG];refine#[dP e3',dP e2',mR e2' ?_];rw[nl];refine bq (d:=d) G.pick f2' ∅ ∅ λv S3 v0 v1 f3 k3=>?_
  have e2'':=k3.get _ _ ∅ e2'
  have e3'':=k3.get _ _ ∅ e3'
  have hv:v.toNat < xs.length:=∅
  refine Fi e2'' v0 (iE (HK hv)) (by rw[nl]; omega) ?_
  have e3s:(S3.set S.length (.lst ((am xs).eraseIdx v.toNat)))[S.length+1]?=gV (.lst (am ps)):=by rw[bV ∅]; exact e3''
  have pm:(xs.eraseIdx v.toNat++(ps++[xs[v.toNat]])).Perm (xs++ps):=by
   have h1:xs.Perm (xs[v.toNat]::xs.eraseIdx v.toNat):=(po hv).symm;have h2:(ps++[xs[v.toNat]]).Perm (xs[v.toNat]::ps):=List.perm_append_singleton ..;refine(OW _ h2).trans (List.perm_middle.trans ?_);exact(OU ps h1).symm
  refine kX e3s (by rw[nl]; omega) (bZ (hn _ _ #[rfl,xs.eraseIdx v.toNat,ps++[xs[v.toNat]],?_,?_,pm.nodup_iff.mpr nd,λp hp=>lt p (pm.mem_iff.mp hp),?_,?_,(f3.own ∅).own ∅,((k2'.trans k3).late ∅).late ∅]))
  ·rw[bV ∅,b7 e2'',qp]
  ·rw[b7 e3s]; unfold am; rw[Ip]; rfl
  ·rw[MA,HW hv,HA,Jo]; omega
  ·rw[MA,HW hv]; omega
 ·have hx:xs=[]:=by
   cases xs with
   | nil=>rfl
   | cons x xs=>simp[am]at h
  subst hx;refine hK _ _ (st ?_);dsimp only[wS,wE,wV,wG];rw[NV]at nd lt;exact k _ ps S2 e3' nd lt (by simpa using hsz) ∅ f2' k2'
theorem fK (hg:Is defs ("_law_over" : HL) 2 2 dC){a n s l:Hu}{p:Pt}{ps:Hm Hu}(hp:GoodP a n s p)(hps:∀k∈ps,k < s)(hl:ps.length<=900)(e:S[l]?=gV (.lst (am ps)))(k:∀S',Ka S S'->Q (bn (aP p ps),S')) :
  wO (br (au defs fuel (d+1)) "_law_over" 2 [bn p,.ref l] S) Q:=by
 refine az hg rfl rfl λQ' hR=>?_
 replace k:∀S',Ka S S'->Q' (.rt (bn (aP p ps)),S'):=λS' a=>hR _ _ (k S' a)
 show wZ _ _ dC [gV (bn p),gV (.ref l)] S Q';dsimp only[dC];refine st ?_;dsimp only[wS,wE,wA,wV,wG];refine aj #v[] rfl ?_
 refine ox ps (λ(q:Hu)=>W.int (q:HF)) (λ_=>true) (λq=>W.int (p.2.getD q 0)) [gV (bn p)] rfl rfl rfl rfl ∅ #[l,rfl,e,.refl] (λq hq S2 k2=>?_) λS2 k2=>?_
 ·dsimp only[iV,wC,wE,wV,wG];refine#[λ_=>aj #v[] rfl (aj (HB q) ?_ #[rfl,rfl,.refl]),λz=>by cases z]
  rw[HE,Hy,aA (d:=0) (by rw[hp.len]; exact hps q hq)]; rfl
 ·rw[iL];refine eD ak ?_;have:=k _ (k2.trans (Ka.push (o:=O.lst (ps.map λq=>W.int (p.2.getD q 0)))))
  unfold aP bn at this;rw[JQ]at this;exact this
end
theorem hJ (P:Hu->HV):∀s,(bB P s=.non/\∀i < s,P i=false)\/∃i:Hu,i < s/\bB P s=.int (i:HF)/\P i=true/\∀j < i,P j=false
 | 0=>.inl #[rfl,λi h=>absurd h (Nat.not_lt_zero _)]
 | s+1=>by
  rcases hJ P s with⟨_,h⟩|⟨i,hi,_,hp,hn⟩
  ·cases c:P s with
   | false=>
    have:∀i < s+1,P i=false:=λi hi=>by
     by_cases e:i=s
     ·rw[e]; exact c
     ·exact h i ∅
    exact .inl #[ll this,this]
   | true=>exact .inr #[s,JS s,hG (JS s) c h,c,h]
  ·exact .inr #[i,∅,hG ∅ hp hn,hp,hn]
theorem tM {X:Hm T}{bs:Hm HF}{a:Hu}{u:Wd}{one other:Pt}{i:Hu}(h1:GoodP a bs.length u.length one)(h2:GoodP a bs.length u.length other)(hi:i < bs.length):(cr (PB X u.length) bs u one other)[i]?=gV (bB (di X bs u one other i) u.length):=by
 unfold cr;rw[Im (by rw[Hq,Iv]; exact hi),Hy,Jm hi]
 show gV _=_;congr 1;refine jN λp hp=>?_
 show decide (du (gj (dM bs u one other i) p u.length (u.length+1))∈X)=_;rw[lr h1 h2 hp]; rfl
theorem u7 {P:Wd->Hu->HV}{bs:Hm HF}{u:Wd}{one other:Pt}:(cr P bs u one other).dropLast.length=bs.length:=by
 rw[Le,jj]; rfl
theorem qD {X:Hm T}{bs:Hm HF}{a:Hu}{u:Wd}{one other:Pt}{i:Hu}{x:W}(h1:GoodP a bs.length u.length one)(h2:GoodP a bs.length u.length other)(h:(cr (PB X u.length) bs u one other).dropLast[i]?=gV x):i < bs.length/\x=bB (di X bs u one other i) u.length:=by
 have hi:i < bs.length:=by
  have:=(HI.mp h).1;rw[u7]at this; exact this
 refine#[hi,?_];rw[L6,HW (by rw[jj]; omega),tM h1 h2 hi]at h
 exact(IS h).symm
section
variable{defs:Hm (HL×Df)}{fuel d:Hu}{S:aa}{r:Hu}{Q:QW}
theorem oz (hfu:20 < fuel)(G:Gen defs)(F:Fil defs)(ho:Is defs ("_law_over" : HL) 2 2 dC)(hg:Is defs ("_law_part_right" : HL) 6 13 cp){m0:W}{ns:Hm HL}{bs:Hm HF}{a lp lf:Hu}{gs:Hm Wd}{u:Wd}{one other:Pt}{ps:Hm Hu}(hb:GoodB bs)(hnl:ns.length=bs.length)(hgs:∀g∈gs,GoodW a bs.length g/\g.length=3)(h64:gs.length<=100)(hu:GoodW a bs.length u)(h1:GoodP a bs.length u.length one)(h2:GoodP a bs.length u.length other)(hul:u.length<=800)(hnd:ps.Nodup)(hps:∀p∈ps,p < u.length)(hpl:ps.length<=800)
  (ep:S[lp]?=gV (.lst (am ps))) (ef:S[lf]?=gV (.lst (ab (bF (di ((cH bs gs).map du) bs u one other) (gT one other u.length) bs.length u.length)))) (k:∀S',Q (.bl true,S')) :
  wO (br (au defs fuel (d+7)) "_law_part_right" 6 [.tup [m0,.tup (HM bp ns bs),.tup (gs.map aD)],aD u,bn one,bn other,.ref lp,.ref lf] S) Q:=by
 refine az hg rfl rfl λQ' hR=>?_
 replace k:∀S',Q' (.rt (.bl true),S'):=λS'=>hR _ _ (k S')
 clear hR;show wZ _ _ cp [gV (.tup [m0,.tup (HM bp ns bs),.tup (gs.map aD)]),gV (aD u),gV (bn one),gV (bn other),gV (.ref lp),gV (.ref lf),td,td,td,td,td,td,td] S Q';have hb3:bs.length<=3:=by rcases hb with rfl|rfl|rfl|rfl|rfl|rfl <;> decide
 have pg:GoodW a bs.length (ay bs u ps):=mZ hb hu hps hnd;have pl:(ay bs u ps).length=ps.length:=dz ..;have o1:GoodP a bs.length (ay bs u ps).length (aP one ps):=by rw[pl]; exact gy h1 hps
 have o2:GoodP a bs.length (ay bs u ps).length (aP other ps):=by rw[pl]; exact gy h2 hps
 generalize hX:(cH bs gs).map du=X at ef;dsimp only[cp];refine st ?_;dsimp only[wS,wE,wA,wV,wG,HD];refine AS (d:=d+4) G hb hnl hu hps hnd ∅ ep λS1 k1=>?_
 refine st ?_;dsimp only[wS,wE,wA,wV,wG,HD];refine fK (d:=d+5) ho h1 hps ∅ (k1.get _ _ ep) λS2 k2=>?_
 refine fK (d:=d+5) ho h2 hps ∅ (k2.get _ _ (k1.get _ _ ep)) λS3 k3=>?_
 dsimp only[w2];have k13:=(k1.trans k2).trans k3;clear k1 k2 k3;refine st ?_;dsimp only[wS,wE,wA,wV,wG,HD];refine lq (d:=d) hfu F hb hnl hgs h64 pg o1 o2 ∅ λl9 S4 e9 _ k4=>?_
 rw[hX,tL o1 o2,pl]at e9;have ep4:=k4.get _ _ (k13.get _ _ ep);have ef4:=k4.get _ _ (k13.get _ _ ef);clear ep ef k13 k4;refine bf λK hK=>?_
 dsimp only[wS,wT,wE,wA];have sub:∀z∈bF (di X bs u one other) (gT one other u.length) bs.length u.length,z∈bF (di X bs (ay bs u ps) (aP one ps) (aP other ps)) (gT (aP one ps) (aP other ps) ps.length) bs.length ps.length:=λz hz=>by
  have pm:∀i,i < ps.length->ps.getD i 0 < u.length:=λi hi=>hps _ (HR (aA (d:=0) hi))
  rw[jk]at hz ⊢;rcases hz with⟨i,rfl,hi,hn⟩|⟨rfl,hs⟩
  ·exact .inl #[i,rfl,hi,λp hp=>by rw[nh hp]; exact hn _ (pm p hp)]
  ·refine .inr #[rfl,?_];unfold gT at hs ⊢;rw[Hw,HX]at hs ⊢;refine#[hs.1,λp hp=>?_]
   have hp:=Iy.mp hp;rw[gz hp,gz hp];exact hs.2 _ (Iy.mpr (pm p hp))
 refine ox (bF (di X bs u one other) (gT one other u.length) bs.length u.length) W.int (λ_=>true) (λ_=>W.bl true) [gV (.ref l9)] rfl rfl rfl rfl ?_ #[lf,rfl,ef4,.refl] (λz hz S5 k5=>?_) λS5 k5=>?_
 ·unfold bF;rw[HA,Hq];have:=JD (λi=>(HJ u.length).all λp=>!di X bs u one other i p) (HJ bs.length)
  rw[Iv]at this;have:(if gT one other u.length=true then[(-1:HF)]else[]).length<=1:=by split <;> decide
  omega
 ·dsimp only[iV,wC,wE,wV,wG];refine#[λ_=>ac (BG (k5.get _ _ e9)) #[rfl,?_,.refl],λz=>by cases z]
  rw[Jg (sub z hz)]
 rw[iL,List.map_const'];have ep5:=aq (u:=O.lst (HY (bF (di X bs u one other) (gT one other u.length) bs.length u.length).length (W.bl true))) (k5.get _ _ ep4);refine ac (a:=(.bl true,S5++[O.lst (HY (bF (di X bs u one other) (gT one other u.length) bs.length u.length).length (W.bl true))])) (by simp only[Bi.fn,Cs,aL ak,mX,Ij,AJ]) ?_
 generalize S5++[O.lst (HY (bF (di X bs u one other) (gT one other u.length) bs.length u.length).length (W.bl true))]=S6 at ep5;refine ac (show eX S6 (.bl true)=gV true from rfl) ?_
 refine ar (Q0:=Q') (λz=>by cases z) (λ_ Q2 hn2 _=>bZ (hn2 _ _ (hK _ _ ?_)))
 clear hn2 hK K ep4 ef4 k5 e9;refine st ?_;dsimp only[wS,wE,wA,wV,wG,HD];refine gk (d:=d+1) hfu F hb hnl hgs h64 hu h1 h2 hul λS7 k7=>?_
 have ep7:=k7.get _ _ ep5;rw[hX];refine bf λK hK=>?_
 refine AT (cr (PB X (ay bs u ps).length) bs (ay bs u ps) (aP one ps) (aP other ps)).dropLast (λi ρ S'=>(∃a10 a12,ρ=[gV (.tup [m0,.tup (HM bp ns bs),.tup (gs.map aD)]),gV (aD u),gV (bn one),gV (bn other),gV (.ref lp),gV (.ref lf),gV (aD (ay bs u ps)),gV (bn (aP one ps)),gV (bn (aP other ps)),gV (.ref l9),a10,gV (.tup (cr (PB X u.length) bs u one other)),a12])/\S'[lp]?=gV (.lst (am ps))) rfl rfl ?_ ?_ ?_
 ·dsimp only[wE,wA,wP,wV,wG,wN];refine gk (d:=d+1) hfu F hb hnl hgs h64 pg o1 o2 ∅ λS8 k8=>?_
  rw[hX];refine ac (show lF (.tup (cr (PB X (ay bs u ps).length) bs (ay bs u ps) (aP one ps) (aP other ps))) td (gV (-1)) S8=gV (.tup (cr (PB X (ay bs u ps).length) bs (ay bs u ps) (aP one ps) (aP other ps)).dropLast,S8) by simp only[lF,qu]) ?_
  exact#[rfl,#[_,_,rfl],k8.get _ _ ep7]
 ·rintro i x ρ S8 hx ⟨⟨a10,a12,rfl⟩,ep8⟩;clear hK;obtain⟨hi,rfl⟩:=qD o1 o2 hx;rw[pl];have hs:=hJ (di X bs (ay bs u ps) (aP one ps) (aP other ps) i) ps.length;generalize bB (di X bs (ay bs u ps) (aP one ps) (aP other ps) i) ps.length=fw at hs;refine ac (show fX (.tp [10,12]) (.tup [.int (i:Hu),fw]) [gV (.tup [m0,.tup (HM bp ns bs),.tup (gs.map aD)]),gV (aD u),gV (bn one),gV (bn other),gV (.ref lp),gV (.ref lf),gV (aD (ay bs u ps)),gV (bn (aP one ps)),gV (bn (aP other ps)),gV (.ref l9),a10,gV (.tup (cr (PB X u.length) bs u one other)),a12] S8=gV ([gV (.tup [m0,.tup (HM bp ns bs),.tup (gs.map aD)]),gV (aD u),gV (bn one),gV (bn other),gV (.ref lp),gV (.ref lf),gV (aD (ay bs u ps)),gV (bn (aP one ps)),gV (bn (aP other ps)),gV (.ref l9),gV (.int (i:Hu)),gV (.tup (cr (PB X u.length) bs u one other)),gV fw],S8)from rfl) ?_
  intro Q2 hn2 _;refine bf λK hK=>?_
  dsimp only[wS,wT,wE,wV,wG];have go:K [gV (.tup [m0,.tup (HM bp ns bs),.tup (gs.map aD)]),gV (aD u),gV (bn one),gV (bn other),gV (.ref lp),gV (.ref lf),gV (aD (ay bs u ps)),gV (bn (aP one ps)),gV (bn (aP other ps)),gV (.ref l9),gV (.int (i:Hu)),gV (.tup (cr (PB X u.length) bs u one other)),gV fw] S8:=hK _ _ (bZ (hn2 _ _ #[#[_,_,rfl],ep8]));rcases hs with⟨rfl,_⟩|⟨t,ht,rfl,hp,_⟩
  ·refine ac (show b6 .isnot .non .non S8=gV (.bl false,S8)from rfl) ?_
   dsimp only[wB];refine#[λz=>(by cases z),λ_=>?_]
   exact ar (Q0:=Q2) (λz=>by cases z) (λ_ Q3 hn3 _=>bZ (hn3 _ _ go))
  ·refine ac (show b6 .isnot (.int (t:HF)) .non S8=gV (.bl true,S8)from rfl) ?_
   dsimp only[wB];refine#[λ_=>?_,λz=>by cases z]
   rw[nh ht]at hp;have gt:=aA (d:=0) ht;have hpu:=hps _ (HR gt);have ba:=tM (X:=X) h1 h2 hi;rcases hJ (di X bs u one other i) u.length with⟨_,hn⟩|⟨j,hj,ej,_,hjn⟩
   ·rw[hn _ hpu]at hp; cases hp
   rw[ej]at ba;have hle:j<=ps.getD t 0:=by
    rcases OR (ps.getD t 0) j with z|z
    ·rw[hjn _ z]at hp; cases hp
    ·exact z
   refine aj (HB i) (by rw[HE]; exact ba) ?_
   refine ac (show b6 .is (.int (j:HF)) .non S8=gV (.bl false,S8)from rfl) ?_
   dsimp only[wB];refine#[λz=>(by cases z),λ_=>?_]
   refine aj (HB i) (by rw[HE]; exact ba) (dQ ep8 (iE gt) (ac Ao ?_))
   dsimp only[wB];rw[Ig (show ¬ ((j:HF) > (ps.getD t 0:Hu)) by omega)]
   exact ar (Q0:=Q2) (λz=>by cases z) (λ_ Q3 hn3 _=>bZ (hn3 _ _ go))
 ·rintro ρ S8 ⟨⟨a10,a12,rfl⟩,_⟩;refine hK _ _ (st ?_);dsimp only[wS,wE];exact k _
end
noncomputable def kg:Ss:=
 #v[.set 1 (.own "_law_flow" 1 #v[.v 0]),.set 2 (.own "_law_some_rule" 1 #v[.v 1]),.set 3 (.own "_law_bad" 1 #v[.v 2]),.asg [4,5,6] (.own "_law_pair" 4 #v[.v 1,.v 2,.v 3,.own "_law_pick" 2 #v[.v 1,.c (.int 9)]]),.set 7 (.own "fillings" 4 #v[.v 2,.v 4,.v 5,.v 6]),.set 8 (.own "fillings" 4 #v[.v 2,.tup .nil,.tup #v[.ix (.v 5) (.c (.int 0)),.tup .nil],.tup #v[.ix (.v 6) (.c (.int 0)),.tup .nil]]),.ite (.cmp .ne (.v 8) (.op .add (.bi .list #v[.bi .range #v[.bi .len #v[.ix (.v 2) (.c (.int 1))]]]) (.op .mul (.lst #v[.neg (.c (.int 1))]) (.bi .int #v[.cmp .eq (.ix (.v 5) (.c (.int 0))) (.ix (.v 6) (.c (.int 0)))])))) #v[.ret (.c (.bl false))] .nil,.loop (.nm 9) (.rng #v[.bi .len #v[.v 4]]) #v[.set 10 (.own "_law_over" 2 #v[.v 5,.lst #v[.v 9]]),.set 11 (.own "fillings" 4 #v[.v 2,.tup #v[.tup #v[.ix (.ix (.v 4) (.v 9)) (.c (.int 0)),.tup .nil]],.v 10,.own "_law_over" 2 #v[.v 6,.lst #v[.v 9]]]),.set 8 (.comp (.v 1) (.nm 1) (.seq (.v 8)) #v[.cmp .isin (.v 1) (.v 2)] [td,td,gV 11])],.ite (.cmp .ne (.v 7) (.v 8)) #v[.ret (.c (.bl false))] .nil,.set 12 (.sl (.own "_law_shuffled" 2 #v[.v 1,.bi .list #v[.bi .range #v[.bi .len #v[.v 4]]]]) .no (.yes (.own "_law_pick" 2 #v[.v 1,.op .add (.bi .len #v[.v 4]) (.c (.int 1))]))),.ret (.own "_law_part_right" 6 #v[.v 2,.v 4,.v 5,.v 6,.v 12,.v 7])]
structure Lw25 (defs:Hm (HL×Df)):Prop where
 gen:Gen defs
 fil:Fil defs
 pai:Pai defs
 flow:Is defs ("_law_flow" : HL) 1 1 eC
 bad:Is defs ("_law_bad" : HL) 1 4 ft
 shuf:Is defs ("_law_shuffled" : HL) 2 4 cm
 over:Is defs ("_law_over" : HL) 2 2 dC
 right:Is defs ("_law_part_right" : HL) 6 13 cp
 law:Is defs ("law" : HL) 1 13 kg
theorem nj {Φ:HL->FF}{ρ:Fm}{S:aa}{e:E}{n:Hu}{m:HF}{Q:QW}(hm:m=n)(he:∀Q:QW,Q (.int m,S)->wE Φ e ρ S Q)(hn:n<=1000)(k:∀(t:Hu) S',S'[t]?=gV (.lst (am (HJ n)))->S.length<=t->Ka S S'->Q (.ref t,S')):wE Φ (.bi .list #v[.bi .range #v[e]]) ρ S Q:=by
 have e1:Bi.range.fn [.int m] S=gV (.ref S.length,S++[.rng 0 m]):=by
  simp only[Bi.fn,nJ];rw[HW #[∅,∅]]
 have h:wO (Bi.list.fn [.ref S.length] (S++[O.rng 0 m])) Q:=by
  subst hm;exact AK ak hn (k _ _ ak (by simp) (Ka.push.trans .push))
 have g:wO (Bi.range.fn [.int m] S) λp=>wO (Bi.list.fn [p.1] p.2) Q:=by
  rw[e1];exact h
 rw[wE,wA];rw[wE,wA];exact he _ g
theorem Fo {B:Hu->Hu->HV}{sm:HV}{n:Hu}:ab (bF B sm n 0)=am (HJ n)++HY (if sm then 1 else 0) (.int (-1)):=by
 unfold bF ab am;have e:(HJ n).filter (λi=>(HJ 0).all λp=>!B i p)=HJ n:=MN.mpr λi _=>rfl
 rw[Ip,e,JQ];congr 1;cases sm <;> rfl
theorem AV {one other:Pt}{i:Hu}:(gT one other i&&gT (aP one [i]) (aP other [i]) 1)=gT one other (i+1):=by
 have e1:gT (aP one [i]) (aP other [i]) 1=((one.1==other.1)&&((one.2.getD i 0==other.2.getD i 0)&&true)):=rfl;have e2:gT one other (i+1)=((one.1==other.1)&&(((HJ i).all λp=>one.2.getD p 0==other.2.getD p 0)&&((one.2.getD i 0==other.2.getD i 0)&&true))):=by
  unfold gT;rw[Ki,NZ]; rfl
 rw[e1,e2];unfold gT;generalize(one.1==other.1)=m;generalize((HJ i).all λp=>one.2.getD p 0==other.2.getD p 0)=A
 generalize(one.2.getD i 0==other.2.getD i 0)=w;cases m <;> cases A <;> cases w <;> rfl
theorem GY {Φ:HL->FF}{fuel:Hu}{ρ:Fm}{S:aa}{K:Fm->aa->Prop}{Q:QO}{m0 b0:W}{N:Hm W}{n l8:Hu}{one other:Pt}{B:Hu->Hu->HV}{z:HF}(hz:z=n)(hN:N.length=n)(hn3:n<=3)(e8:S[l8]?=gV (.lst (ab (bF B (one.1==other.1) n 0))))(h2:∀P:W->Prop,P (.tup [m0,.tup N,b0])->wV ρ 2 P)(h5:∀P:W->Prop,P (bn one)->wV ρ 5 P)(h6:∀P:W->Prop,P (bn other)->wV ρ 6 P)(h8:∀P:W->Prop,P (.ref l8)->wV ρ 8 P)(k:∀S',Ka S S'->K ρ S') :
  wS Φ fuel (.ite (.cmp .ne (.v 8) (.op .add (.bi .list #v[.bi .range #v[.bi .len #v[.ix (.v 2) (.c (.int 1))]]]) (.op .mul (.lst #v[.neg (.c (.int 1))]) (.bi .int #v[.cmp .eq (.ix (.v 5) (.c (.int 0))) (.ix (.v 6) (.c (.int 0)))])))) #v[.ret (.c (.bl false))] .nil) ρ S K Q:=by
 have he:∀Q:QW,Q (.int z,S)->wE Φ (.bi .len #v[.ix (.v 2) (.c (.int 1))]) ρ S Q:=λQ q=>by
  dsimp only[wE,wA];refine h2 _ (aj #v[] rfl (bC ?_))
  rw[hN,<- hz]; exact q
 have hx:∀Q:QW,(∀(t:Hu) S',S'[t]?=gV (.lst (am (HJ n)))->S.length<=t->Ka S S'->Q (.ref t,S'))->wE Φ (.bi .list #v[.bi .range #v[.bi .len #v[.ix (.v 2) (.c (.int 1))]]]) ρ S Q:=λQ h=>nj hz he ∅ h
 clear he;generalize E.bi .list #v[.bi .range #v[.bi .len #v[.ix (.v 2) (.c (.int 1))]]]=c at hx ⊢;dsimp only[wS,wT,wE,wA,wN];refine h8 _ (hx _ λt S1 e1 _ k1=>?_)
 dsimp only;refine h5 _ (aj #v[] rfl (h6 _ (aj #v[] rfl (ac kS ?_))))
 dsimp only;obtain⟨g,hg,eg,er⟩ : ∃g:Hu,g<=1/\(∀S,Bi.int.fn [.bl (one.1==other.1)] S=gV (.int (g:HF),S))/\(if (one.1==other.1)=true then 1 else 0)=g:=by
  cases one.1==other.1
  ·exact#[0,#v[],λ_=>rfl,rfl]
  ·exact#[1,#v[],λ_=>rfl,rfl]
 refine ac (eg _) ?_;dsimp only;refine BC ak ∅ ?_
 rw[Fo,er]at e8;have hl:(am (HJ n)).length=n:=by unfold am; rw[Hq,Iv]
 refine ac (rJ (aq (aq e1)) ak (jU (by rw[HA,Mj,hl]; omega))) ?_
 dsimp only;have ex:am (HJ n)++HY g (W.int (-1))=((HJ n).map (λ(i:Hu)=>(i:HF))++HY g (-1)).map W.int:=by
  unfold am;rw[Ip,JQ,List.map_replicate]; rfl
 rw[ex]at e8 ⊢;refine ac (yh (aq (aq (aq (k1.get _ _ e8)))) ak rfl) ?_;dsimp only[wB];exact ar (Q0:=Q) (λz=>by cases z) (λ_ Q3 hn3 _=>bZ (hn3 _ _ (k _ (((k1.trans .push).trans .push).trans .push))))
section
variable{defs:Hm (HL×Df)}{fuel d:Hu}
theorem GZ (G:Gen defs)(hs:Is defs ("_law_shuffled" : HL) 2 4 cm){ρ:Fm}{S:aa}{K:Fm->aa->Prop}{Q:QO}{r n:Hu}{z:HF}{u:Wd}(hz:z=n)(hu:u.length=n)(hn:n<=8)(hfu:20 < fuel)(hf:Fl S r)(h1:∀P:W->Prop,P (.ref r)->wV ρ 1 P)(h4:∀P:W->Prop,P (aD u)->wV ρ 4 P)
  (k:∀(l:Hu) (ps:Hm Hu) S',S'[l]?=gV (.lst (am ps))->ps.Nodup->(∀p∈ps,p < n)->ps.length<=n->Kp r S S'->K (ρ.set 12 (gV (.ref l))) S') :
  wS (au defs fuel (d+2)) fuel (.set 12 (.sl (.own "_law_shuffled" 2 #v[.v 1,.bi .list #v[.bi .range #v[.bi .len #v[.v 4]]]]) .no (.yes (.own "_law_pick" 2 #v[.v 1,.op .add (.bi .len #v[.v 4]) (.c (.int 1))])))) ρ S K Q:=by
 have ul:(u.map bn).length=n:=by rw[Hq,hu]
 have he:∀Q:QW,Q (.int z,S)->wE (au defs fuel (d+2)) (.bi .len #v[.v 4]) ρ S Q:=λQ q=>by
  dsimp only[wE,wA];refine h4 _ (bC ?_);rw[ul,<- hz]; exact q
 have hx:∀Q:QW,(∀(t:Hu) S',S'[t]?=gV (.lst (am (HJ n)))->S.length<=t->Ka S S'->Q (.ref t,S'))->wE (au defs fuel (d+2)) (.bi .list #v[.bi .range #v[.bi .len #v[.v 4]]]) ρ S Q:=λQ h=>nj hz he ∅ h
 clear he;generalize E.bi .list #v[.bi .range #v[.bi .len #v[.v 4]]]=c at hx ⊢;dsimp only[wS,wE,wA,wP];refine h1 _ (hx _ λt S1 e1 _ k1=>?_)
 dsimp only;refine r4 (d:=d) G hs (hf.ka k1) e1 NN (by rw[Iv]; omega) (by rw[Iv]; omega) λq ps S2 e2 nd mem hl hq f2 k2=>?_
 refine h1 _ (h4 _ (bC (ac dW ?_)));rw[ul];refine bq (d:=d+1) G.pick f2 ∅ ∅ λv S3 v0 v1 f3 k3=>?_
 have hqr:q≠r:=by
  have:=hf.lt;have:=k1.len;omega
 have e3:=k3.get _ _ hqr e2;dsimp only[wN];obtain⟨m,rfl⟩ : ∃m:Hu,v=m:=#[v.toNat,∅]
 refine ac (show lF (.ref q) td (gV (m:HF)) S3=gV (.ref S3.length,S3++[O.lst (am (ps.take m))]) by simp only[lF,aL e3,eE]; unfold am; rw[KI]) ?_
 refine k _ (ps.take m) _ ak (nd.sublist (LF _ _)) (λp hp=>Iy.mp (mem p (J7 hp))) ?_ (((k1.kp r).trans k2).trans (k3.trans .push))
 rw[Iv]at hl;rw[Il]; omega
theorem yi (hfu:50 < fuel)(L:Lw25 defs){zs:Hm HF}:∃S',au defs fuel (d+9) "law" [.ref 0] [.fro (zs.map W.int)]=gV (.bl true,S'):=by
 suffices h:wO (br (au defs fuel (d+9)) "law" 1 [.ref 0] [.fro (zs.map W.int)]) (λp=>p.1=.bl true) by
  obtain⟨⟨v,S'⟩,e,q⟩:=cQ h;cases(show v=.bl true from q)
  exact#[S',e]
 have G:=L.gen;refine az L.law rfl rfl λQ' hR=>?_
 show wZ _ _ kg [gV (.ref 0),td,td,td,td,td,td,td,td,td,td,td,td] [.fro (zs.map W.int)] Q';unfold kg;refine bf λK hK=>?_
 dsimp only[wS,wE,wA,wV,wG,HD];refine Dp (d:=d+7) L.flow (ns:=zs) rfl λr S1 _ f1=>hK _ _ ?_
 clear hK K;refine bf λK hK=>?_
 dsimp only[wS,wE,wA,wV,wG,HD];refine qB (d:=d) ∅ G L.pai f1 λw S2 hw f2 _=>hK _ _ ?_
 clear hK K f1;obtain⟨a,bs,ms,ns,gs0,rfl,hr⟩:=hw;have hb:=hr.size.good;have hnl:=hr.nl;have hml:=hr.ml;have hpos:=hr.size.pos;have ha3:=hr.size.a3;have pm:(iG gs0).Perm gs0:=we;have hgs:∀g∈iG gs0,GoodW a bs.length g/\g.length=3:=λg hg=>uW hb (hr.mem g (pm.mem_iff.mp hg))
 have h64:(iG gs0).length<=100:=by
  have h1:=rK gs0 _ hr.nd hr.mem;have h2:=ou hr.size;rw[pm.length_eq]; omega
 clear hr pm;unfold cM;generalize iG gs0=gs at hgs h64;clear gs0;have hb3:1<=bs.length/\bs.length<=3:=by rcases hb with rfl|rfl|rfl|rfl|rfl|rfl <;> decide
 have zl:(HM bp ns bs).length=bs.length:=by rw[KC,hnl]; omega
 have ml:(ms.map W.str).length=a:=by rw[Hq,hml]
 refine bf λK hK=>?_
 dsimp only[wS,wE,wA,wV,wG,HD];refine Fj (d:=d+5) G L.bad hb hnl hgs h64 λq kvs S3 e3 h3 hq k3=>hK _ _ ?_
 clear hK K;have f3:=f2.ka k3;have hqr:q≠r:=by have:=f2.lt; omega
 clear h3 k3 hq f2;refine bf λK hK=>?_
 dsimp only[wS,wE,wA,wV,wG];refine bq (d:=d+7) G.pick f3 #v[] #v[] λv S4 v0 v1 f4 k4=>?_
 obtain⟨m,rfl⟩ : ∃n:Hu,v=n:=#[v.toNat,∅]
 refine Dt (d:=d+4) G L.pai ml hpos ha3 zl hb3.1 hb3.2 ∅ (k4.get _ _ hqr e3) hqr f4 λu one other S5 hul hu g1 g2 f5 _=>?_
 dsimp only[wU];refine ac (show dv [4,5,6] [aD u,bn one,bn other] [gV (.ref 0),gV (.ref r),gV (.tup [.tup (ms.map W.str),.tup (HM bp ns bs),.tup (gs.map aD)]),gV (.ref q),td,td,td,td,td,td,td,td,td]=gV [gV (.ref 0),gV (.ref r),gV (.tup [.tup (ms.map W.str),.tup (HM bp ns bs),.tup (gs.map aD)]),gV (.ref q),gV (aD u),gV (bn one),gV (bn other),td,td,td,td,td,td]from rfl) (hK _ _ ?_)
 clear hK K e3 f3 f4 k4 v0;have hu8:u.length<=8:=∅
 clear hul v1;have ff:∀(v:Wd) (x y:Pt) (S:aa) (Q:QW),GoodW a bs.length v->GoodP a bs.length v.length x->GoodP a bs.length v.length y->v.length<=8->(∀(l:Hu) S',S'[l]?=gV (.lst (ab (bF (di ((cH bs gs).map du) bs v x y) (gT x y v.length) bs.length v.length)))->S.length<=l->Ka S S'->Q (.ref l,S'))->wO (br (au defs fuel (d+8)) "fillings" 4 [.tup [.tup (ms.map W.str),.tup (HM bp ns bs),.tup (gs.map aD)],aD v,bn x,bn y] S) Q:=λv x y S Q hv h1 h2 h3 h=>lq (d:=d+2) ∅ L.fil hb hnl hgs h64 hv h1 h2 ∅ λl S' e hl kk=>h l S' (by rw[<- tL h1 h2]; exact e) hl kk
 generalize hX:(cH bs gs).map du=X at ff;refine bf λK hK=>?_
 dsimp only[wS,wE,wA,wV,wG,HD];refine ff u one other _ _ hu g1 g2 hu8 λl7 S6 e7 _ k6=>hK _ _ ?_
 clear hK K;have f6:=f5.ka k6;clear f5 k6;refine bf λK hK=>?_
 dsimp only[wS,wE,wA,wV,wG,HD];refine aj #v[] rfl (aj #v[] rfl ?_)
 refine ff [] (one.1,[]) (other.1,[]) _ _ .nil #[g1.mark,rfl,λx hx=>nomatch hx] #[g2.mark,rfl,λx hx=>nomatch hx] #v[] λl8 S7 e8 hl8 k7=>hK _ _ ?_
 clear hK K;have h78:l7≠l8:=by have:=cF e7; have:S6.length<=l8:=hl8; omega
 have e77:=k7.get _ _ e7;have f7:=f6.ka k7;clear e7 f6 k7 hl8;have s0:bF (di X bs [] (one.1,[]) (other.1,[])) (gT (one.1,[]) (other.1,[]) ([]:Wd).length) bs.length ([]:Wd).length=bF (di X bs u one other) (one.1==other.1) bs.length 0:=by
  unfold bF gT;simp
 rw[s0]at e8;refine bf λK hK=>?_
 generalize hρ:[gV (W.ref 0),gV (.ref r),gV (.tup [.tup (ms.map W.str),.tup (HM bp ns bs),.tup (gs.map aD)]),gV (.ref q),gV (aD u),gV (bn one),gV (bn other),gV (.ref l7),gV (.ref l8),td,td,td,td]=ρ0 at hK ⊢;obtain⟨z,hz⟩ : ∃z:HF,z=bs.length:=#[_,rfl];refine GY (z:=z) hz zl hb3.2 e8 (λP h=>by rw[<- hρ]; exact h) (λP h=>by rw[<- hρ]; exact h) (λP h=>by rw[<- hρ]; exact h) (λP h=>by rw[<- hρ]; exact h) λS8 k8=>hK _ _ ?_
 clear hK K hz z;subst hρ;have e78:=k8.get _ _ e77;have e88:=k8.get _ _ e8;have f8:=f7.ka k8;clear e77 e8 f7 k8;have ul:(u.map bn).length=u.length:=Hq ..;refine bf λK hK=>?_
 refine cV (u.length:HF) (λi ρ S'=>∃(l8:Hu) (a9 a10 a11:Ht W),ρ=[gV (.ref 0),gV (.ref r),gV (.tup [.tup (ms.map W.str),.tup (HM bp ns bs),.tup (gs.map aD)]),gV (.ref q),gV (aD u),gV (bn one),gV (bn other),gV (.ref l7),gV (.ref l8),a9,a10,a11,td]/\S'[l7]?=gV (.lst (ab (bF (di X bs u one other) (gT one other u.length) bs.length u.length)))/\S'[l8]?=gV (.lst (ab (bF (di X bs u one other) (gT one other i) bs.length i)))/\Fl S' r) rfl rfl ∅ ?_ ?_ ?_
 ·dsimp only[wE,wA,wV,wG];refine bC ?_;rw[ul];refine#[rfl,l8,_,_,_,rfl,e78,?_,f8];rw[e88,show gT one other 0=(one.1==other.1) by unfold gT; simp]
 ·rintro i ρ S9 hi ⟨l8,a9,a10,a11,rfl,e7,e8,f9⟩ Q2 hn2 _;clear hK;have hi:i < u.length:=∅
  have gi:=aA (d:=(0,[])) hi;dsimp only[HD];refine st ?_;dsimp only[wS,wE,wA,wV,wG,HD];refine fK (d:=d+7) (ps:=[i]) L.over g1 (λk hk=>by rw[HN.mp hk]; exact hi) (by show 1<=900; decide) ak λS10 k10=>?_
  refine st ?_;dsimp only[wS,wE,wA,wV,wG,HD];refine aj (HB i) (dg hi) (aj #v[] rfl ?_)
  refine fK (d:=d+7) (ps:=[i]) L.over g2 (λk hk=>by rw[HN.mp hk]; exact hi) (by show 1<=900; decide) ak λS11 k11=>?_
  refine ff [((u.getD i (0,[])).1,[])] (aP one [i]) (aP other [i]) _ _ (GoodW.nil.snoc (hu.mark _ _ gi) rfl (λx hx=>nomatch hx)) (gy g1 λk hk=>by rw[HN.mp hk]; exact hi) (gy g2 λk hk=>by rw[HN.mp hk]; exact hi) (by show 1<=8; decide) λl11 S12 e11 _ k12=>?_
  have k9:Ka S9 S12:=((Ka.push.trans k10).trans (Ka.push.trans k11)).trans k12;refine st ?_;dsimp only[wS,wE,HD];refine ox (bF (di X bs u one other) (gT one other i) bs.length i) W.int (λz=>decide (z∈bF (di X bs [((u.getD i (0,[])).1,[])] (aP one [i]) (aP other [i])) (gT (aP one [i]) (aP other [i]) 1) bs.length 1)) W.int [gV (.ref l11)] rfl rfl rfl rfl ?_ #[l8,rfl,k9.get _ _ e8,.refl] (λz hz S13 k13=>?_) λS13 k13=>?_
  ·unfold bF;rw[HA,Hq];have:=JD (λj=>(HJ i).all λp=>!di X bs u one other j p) (HJ bs.length)
   rw[Iv]at this;have:(if gT one other i=true then[(-1:HF)]else[]).length<=1:=by split <;> decide
   omega
  ·dsimp only[iV,wC,wT,wE,wV,wG];refine ac (BG (k13.get _ _ e11)) ?_;dsimp only[wB];exact#[λz=>#[z,rfl,.refl],λz=>#[z,.refl]]
  ·have fs:=u6 (B:=di X bs u one other) (B':=di X bs [((u.getD i (0,[])).1,[])] (aP one [i]) (aP other [i])) (sm:=gT one other i) (sm':=gT (aP one [i]) (aP other [i]) 1) (n:=bs.length) (k:=i) (λj=>rfl)
   rw[fs];have es:=AV (one:=one) (other:=other) (i:=i);rw[es];exact bZ (hn2 _ _ #[_,_,_,_,rfl,aq (k13.get _ _ (k9.get _ _ e7)),ak,((f9.ka k9).ka k13).ka .push])
 ·rintro ρ S9 ⟨l8,a9,a10,a11,rfl,e7,e8,f9⟩;rw[HE]at e8;refine hK _ _ ?_;clear hK K e78 e88 f8 h78;refine bf λK hK=>?_
  dsimp only[wS,wT,wE,wV,wG];refine ac (yh e7 e8 rfl) ?_;dsimp only[wB];refine ar (Q0:=Q') (λz=>by cases z) (λ_ Q2 hn2 _=>bZ (hn2 _ _ (hK _ _ ?_)))
  clear hn2 hK K;refine bf λK hK=>?_
  generalize hρ:[gV (W.ref 0),gV (.ref r),gV (.tup [.tup (ms.map W.str),.tup (HM bp ns bs),.tup (gs.map aD)]),gV (.ref q),gV (aD u),gV (bn one),gV (bn other),gV (.ref l7),gV (.ref l8),a9,a10,a11,td]=ρ0 at hK ⊢;obtain⟨z,hz⟩ : ∃z:HF,z=u.length:=#[_,rfl];refine GZ (d:=d+6) (z:=z) G L.shuf hz rfl hu8 ∅ f9 (λP h=>by rw[<- hρ]; exact h) (λP h=>by rw[<- hρ]; exact h) λlp ps S10 ep hnd hps hpl k10=>hK _ _ ?_
  clear hK K hz z;subst hρ;dsimp only[HD];have h7r:l7≠r:=λz=>by
   obtain⟨_,_,_,_,_,_,f⟩:=f9;have:=f.at_r;rw[<- z,e7]at this;have:=congrArg (λo=>match o with|some (O.lst (W.ref _::_))=>true|_=>false) this
   revert this
   unfold bF ab;cases((HJ bs.length).filter λi=>(HJ u.length).all λp=>!di X bs u one other i p)with
   | nil=>cases gT one other u.length <;> simp
   | cons x xs=>simp
  refine st ?_;dsimp only[wS,wE,wA,wV,wG];refine oz (d:=d+1) ∅ G L.fil L.over L.right hb hnl hgs h64 hu g1 g2 ∅ hnd hps ∅ ep (by rw[hX]; exact k10.get _ _ h7r e7) λS'=>hR _ _ rfl
end
noncomputable def ah (i:Hu):J8:=PySem.Challenge.pw_layworld_k25_point_by_point.main.body.getD i (.Pass #[0,0,0,0])
noncomputable def gU:Df:=#[["rule","world","i","j"],["rule","world","i","j"],tJ]
noncomputable def eU:Df:=#[["rule","world","points"],["rule","world","points"],jh]
noncomputable def bu:Df:=#[["rule","world","ahead","point"],["rule","world","ahead","point"],d6]
noncomputable def aQ:Df:=#[["orders","size"],["orders","size","longer","order"],bX]
noncomputable def eV:Df:=#[["rule","way"],["rule","way"],ji]
noncomputable def aR:Df:=#[["rule"],["rule","orders","barred","figure","order"],cw]
noncomputable def b8:Df:=#[["world","i","j","k"],["world","i","j","k","one","two"],dB]
noncomputable def bH:Df:=#[["barred","world"],["barred","world","last","point"],dJ]
noncomputable def b9:Df:=#[["rule","base","one","other"],["rule","base","one","other","bars","found"],fG]
noncomputable def bI:Df:=#[["rule","base","one","other"],["rule","base","one","other"],eP]
noncomputable def cb:Df:=#[["rule","barred","base","one","other"],["rule","barred","base","one","other","bars"],fH]
noncomputable def bJ:Df:=#[["rule","base","one","other","number"],["rule","base","one","other","number"],dL]
noncomputable def ce:Df:=#[["one","other"],["one","other","apart"],eF]
noncomputable def bK:Df:=#[["_law_script"],["_law_script"],eC]
noncomputable def bL:Df:=#[["_law_flow_here","_law_many"],["_law_flow_here","_law_many","_law_cell","_law_digit"],c8]
noncomputable def aS:Df:=#[["_law_flow_here","_law_things"],["_law_flow_here","_law_things","_law_left","_law_told"],cm]
noncomputable def bv:Df:=#[["_law_flow_here","_law_many"],["_law_flow_here","_law_many"],eO]
noncomputable def aY:Df:=#[["_law_rule","_law_world_here","_law_i","_law_j"],["_law_rule","_law_world_here","_law_i","_law_j"],dE]
noncomputable def bM:Df:=#[["_law_rule","_law_world_here","_law_points"],["_law_rule","_law_world_here","_law_points","_law_told","_law_k","_law_i"],dy]
noncomputable def bw:Df:=#[[],[],gc]
noncomputable def bg:Df:=#[["_law_rule","_law_three"],["_law_rule","_law_three"],dZ]
noncomputable def cf:Df:=#[["_law_rule"],["_law_rule","_law_bad_here","_law_three","_law_points"],ft]
noncomputable def aT:Df:=#[["_law_rule","_law_bad_here","_law_world_here","_law_k"],["_law_rule","_law_bad_here","_law_world_here","_law_k","_law_mark","_law_to","_law_j","_law_i"],cJ]
noncomputable def bx:Df:=#[["_law_flow_here","_law_many"],["_law_flow_here","_law_many","_law_menu"],eM]
noncomputable def aZ:Df:=#[["_law_flow_here","_law_marks","_law_backs_here","_law_barred"],["_law_flow_here","_law_marks","_law_backs_here","_law_barred","_law_names_here","_law_ways"],dF]
noncomputable def aI:Df:=#[["_law_flow_here","_law_marks","_law_ways"],["_law_flow_here","_law_marks","_law_ways","_law_told","_law_k"],cL]
noncomputable def bz:Df:=#[["_law_flow_here"],["_law_flow_here","_law_menu"],eN]
noncomputable def aU:Df:=#[["_law_flow_here"],["_law_flow_here","_law_marks","_law_ways","_law_rule","_law_barred","_law_k"],de]
noncomputable def aF:Df:=#[["_law_flow_here"],["_law_flow_here","_law_menu"],cC]
noncomputable def bh:Df:=#[["_law_backs_here","_law_must","_law_to_one","_law_to_two","_law_between_here"],["_law_backs_here","_law_must","_law_to_one","_law_to_two","_law_between_here","_law_to","_law_pair_here","_law_x","_law_y","_law_z"],d0]
noncomputable def aV:Df:=#[["_law_flow_here","_law_backs_here","_law_must"],["_law_flow_here","_law_backs_here","_law_must","_law_many","_law_menu","_law_some","_law_numbers","_law_told","_law_k","_law_other","_law_u","_law_v"],bU]
noncomputable def aG:Df:=#[["_law_flow_here"],["_law_flow_here","_law_form","_law_backs_here","_law_must","_law_most","_law_marks","_law_rule","_law_barred","_law_many","_law_at","_law_one","_law_two","_law_between_here","_law_some","_law_first"],cD]
noncomputable def bj:Df:=#[["_law_marks"],["_law_marks","_law_told","_law_i","_law_j"],d3]
noncomputable def aM:Df:=#[["_law_flow_here"],["_law_flow_here","_law_marks","_law_ways","_law_rule","_law_k","_law_own","_law_free","_law_barred","_law_three"],cW]
noncomputable def aB:Df:=#[["_law_flow_here"],["_law_flow_here","_law_marks","_law_barred"],cu]
noncomputable def aw:Df:=#[["_law_flow_here"],["_law_flow_here","_law_form","_law_rule","_law_barred","_law_some","_law_one","_law_two","_law_between_here","_law_first","_law_marks"],bE]
noncomputable def aW:Df:=#[["_law_flow_here","_law_rule","_law_bad_here","_law_world_here","_law_mark","_law_to"],["_law_flow_here","_law_rule","_law_bad_here","_law_world_here","_law_mark","_law_to","_law_k","_law_left","_law_w","_law_seen","_law_i"],bo]
noncomputable def bA:Df:=#[["_law_flow_here","_law_rule","_law_bad_here","_law_many"],["_law_flow_here","_law_rule","_law_bad_here","_law_many","_law_world_here","_law_k","_law_mark","_law_to"],dI]
noncomputable def aN:Df:=#[["_law_flow_here"],["_law_flow_here","_law_form"],cX]
noncomputable def aO:Df:=#[["_law_flow_here","_law_rule","_law_bad_here","_law_base"],["_law_flow_here","_law_rule","_law_bad_here","_law_base","_law_first","_law_k","_law_mark","_law_to"],cY]
noncomputable def bN:Df:=#[["_law_flow_here","_law_rule","_law_bad_here","_law_base","_law_point"],["_law_flow_here","_law_rule","_law_bad_here","_law_base","_law_point","_law_mark","_law_to","_law_kind","_law_at"],fI]
noncomputable def bO:Df:=#[["_law_flow_here","_law_rule","_law_bad_here","_law_many"],["_law_flow_here","_law_rule","_law_bad_here","_law_many","_law_base","_law_one","_law_other"],fJ]
noncomputable def bP:Df:=#[["_law_point","_law_points"],["_law_point","_law_points"],dC]
noncomputable def aJ:Df:=#[["_law_rule","_law_base","_law_one","_law_other","_law_points","_law_found"],["_law_rule","_law_base","_law_one","_law_other","_law_points","_law_found","_law_some","_law_mine","_law_yours","_law_few","_law_number","_law_told","_law_at"],cp]
noncomputable def gW:Df:=#[["_law_script"],["_law_script","_law_flow_here","_law_rule","_law_bad_here","_law_base","_law_one","_law_other","_law_found","_law_common","_law_k","_law_mine","_law_alone","_law_points"],kg]
noncomputable def jP:Hm (HL×Df):=[(("way" : HL),gU),(("part" : HL),eU),(("point_over" : HL),bu),(("longer_orders" : HL),aQ),(("back" : HL),eV),(("barred_threes" : HL),aR),(("three_at" : HL),b8),(("first_bar" : HL),bH),(("fillings" : HL),b9),(("barred_by" : HL),bI),(("all_bars" : HL),cb),(("with_both" : HL),bJ),(("same_bar" : HL),ce),(("_law_flow" : HL),bK),(("_law_pick" : HL),bL),(("_law_shuffled" : HL),aS),(("_law_names" : HL),bv),(("_law_between" : HL),aY),(("_law_part" : HL),bM),(("_law_turns" : HL),bw),(("_law_figure" : HL),bg),(("_law_bad" : HL),cf),(("_law_last_may" : HL),aT),(("_law_backs" : HL),bx),(("_law_rule_of" : HL),aZ),(("_law_free_three" : HL),aI),(("_law_sizes" : HL),bz),(("_law_any_rule" : HL),aU),(("_law_laying_kind" : HL),aF),(("_law_breaks" : HL),bh),(("_law_numbered" : HL),aV),(("_law_laying_rule" : HL),aG),(("_law_rising" : HL),bj),(("_law_free_rule" : HL),aM),(("_law_one_way_rule" : HL),aB),(("_law_unlaying_rule" : HL),aw),(("_law_new_ways" : HL),aW),(("_law_world" : HL),bA),(("_law_some_rule" : HL),aN),(("_law_new_point" : HL),aO),(("_law_near" : HL),bN),(("_law_pair" : HL),bO),(("_law_over" : HL),bP),(("_law_part_right" : HL),aJ),(("law" : HL),gW)]
noncomputable def AW:Hm (HL×Hu):=[(("way" : HL),4),(("part" : HL),3),(("point_over" : HL),4),(("longer_orders" : HL),2),(("back" : HL),2),(("barred_threes" : HL),1),(("three_at" : HL),4),(("first_bar" : HL),2),(("fillings" : HL),4),(("barred_by" : HL),4),(("all_bars" : HL),5),(("with_both" : HL),5),(("same_bar" : HL),2),(("_law_flow" : HL),1),(("_law_pick" : HL),2),(("_law_shuffled" : HL),2),(("_law_names" : HL),2),(("_law_between" : HL),4),(("_law_part" : HL),3),(("_law_turns" : HL),0),(("_law_figure" : HL),2),(("_law_bad" : HL),1),(("_law_last_may" : HL),4),(("_law_backs" : HL),2),(("_law_rule_of" : HL),4),(("_law_free_three" : HL),3),(("_law_sizes" : HL),1),(("_law_any_rule" : HL),1),(("_law_laying_kind" : HL),1),(("_law_breaks" : HL),5),(("_law_numbered" : HL),3),(("_law_laying_rule" : HL),1),(("_law_rising" : HL),1),(("_law_free_rule" : HL),1),(("_law_one_way_rule" : HL),1),(("_law_unlaying_rule" : HL),1),(("_law_new_ways" : HL),6),(("_law_world" : HL),4),(("_law_some_rule" : HL),1),(("_law_new_point" : HL),4),(("_law_near" : HL),5),(("_law_pair" : HL),4),(("_law_over" : HL),2),(("_law_part_right" : HL),6),(("law" : HL),1)]
noncomputable def Du:Hm HL:=["range","len","list","tuple","int","sorted","isinstance","bool","str","all","min","enumerate"]
noncomputable def dR:Md:=#[AW,Du]
theorem Dv:bR dR (ah 1) gU:=by rfl
theorem Dw:FnScope gU.N gU.ps (ag (ah 1)):=#[rfl,rfl,rfl,by decide +kernel,rfl,by decide +kernel,by decide +kernel]
theorem AX:bR dR (ah 3) eU:=by rfl
theorem AY:FnScope eU.N eU.ps (ag (ah 3)):=#[rfl,rfl,rfl,by decide +kernel,rfl,by decide +kernel,by decide +kernel]
theorem lP:bR dR (ah 4) bu:=by rfl
theorem lQ:FnScope bu.N bu.ps (ag (ah 4)):=#[rfl,rfl,rfl,by decide +kernel,rfl,by decide +kernel,by decide +kernel]
theorem jl:bR dR (ah 5) aQ:=by rfl
theorem jm:FnScope aQ.N aQ.ps (ag (ah 5)):=#[rfl,rfl,rfl,by decide +kernel,rfl,by decide +kernel,by decide +kernel]
theorem AZ:bR dR (ah 7) eV:=by rfl
theorem A6:FnScope eV.N eV.ps (ag (ah 7)):=#[rfl,rfl,rfl,by decide +kernel,rfl,by decide +kernel,by decide +kernel]
theorem jn:bR dR (ah 9) aR:=by rfl
theorem jo:FnScope aR.N aR.ps (ag (ah 9)):=#[rfl,rfl,rfl,by decide +kernel,rfl,by decide +kernel,by decide +kernel]
theorem qE:bR dR (ah 10) b8:=by rfl
theorem qF:FnScope b8.N b8.ps (ag (ah 10)):=#[rfl,rfl,rfl,by decide +kernel,rfl,by decide +kernel,by decide +kernel]
theorem oA:bR dR (ah 11) bH:=by rfl
theorem oB:FnScope bH.N bH.ps (ag (ah 11)):=#[rfl,rfl,rfl,by decide +kernel,rfl,by decide +kernel,by decide +kernel]
theorem qG:bR dR (ah 13) b9:=by rfl
theorem qH:FnScope b9.N b9.ps (ag (ah 13)):=#[rfl,rfl,rfl,by decide +kernel,rfl,by decide +kernel,by decide +kernel]
theorem oD:bR dR (ah 14) bI:=by rfl
theorem oE:FnScope bI.N bI.ps (ag (ah 14)):=#[rfl,rfl,rfl,by decide +kernel,rfl,by decide +kernel,by decide +kernel]
theorem qI:bR dR (ah 15) cb:=by rfl
theorem qJ:FnScope cb.N cb.ps (ag (ah 15)):=#[rfl,rfl,rfl,by decide +kernel,rfl,by decide +kernel,by decide +kernel]
theorem oF:bR dR (ah 16) bJ:=by rfl
theorem oG:FnScope bJ.N bJ.ps (ag (ah 16)):=#[rfl,rfl,rfl,by decide +kernel,rfl,by decide +kernel,by decide +kernel]
theorem qK:bR dR (ah 17) ce:=by rfl
theorem qL:FnScope ce.N ce.ps (ag (ah 17)):=#[rfl,rfl,rfl,by decide +kernel,rfl,by decide +kernel,by decide +kernel]
theorem oH:bR dR (ah 19) bK:=by rfl
theorem oI:FnScope bK.N bK.ps (ag (ah 19)):=#[rfl,rfl,rfl,by decide +kernel,rfl,by decide +kernel,by decide +kernel]
theorem oJ:bR dR (ah 20) bL:=by rfl
theorem oK:FnScope bL.N bL.ps (ag (ah 20)):=#[rfl,rfl,rfl,by decide +kernel,rfl,by decide +kernel,by decide +kernel]
theorem jp:bR dR (ah 21) aS:=by rfl
theorem jq:FnScope aS.N aS.ps (ag (ah 21)):=#[rfl,rfl,rfl,by decide +kernel,rfl,by decide +kernel,by decide +kernel]
theorem lR:bR dR (ah 22) bv:=by rfl
theorem lS:FnScope bv.N bv.ps (ag (ah 22)):=#[rfl,rfl,rfl,by decide +kernel,rfl,by decide +kernel,by decide +kernel]
theorem jV:bR dR (ah 23) aY:=by rfl
theorem jW:FnScope aY.N aY.ps (ag (ah 23)):=#[rfl,rfl,rfl,by decide +kernel,rfl,by decide +kernel,by decide +kernel]
theorem oM:bR dR (ah 24) bM:=by rfl
theorem oN:FnScope bM.N bM.ps (ag (ah 24)):=#[rfl,rfl,rfl,by decide +kernel,rfl,by decide +kernel,by decide +kernel]
theorem lT:bR dR (ah 25) bw:=by rfl
theorem lU:FnScope bw.N bw.ps (ag (ah 25)):=#[rfl,rfl,rfl,by decide +kernel,rfl,by decide +kernel,by decide +kernel]
theorem lu:bR dR (ah 26) bg:=by rfl
theorem lv:FnScope bg.N bg.ps (ag (ah 26)):=#[rfl,rfl,rfl,by decide +kernel,rfl,by decide +kernel,by decide +kernel]
theorem qM:bR dR (ah 27) cf:=by rfl
theorem qN:FnScope cf.N cf.ps (ag (ah 27)):=#[rfl,rfl,rfl,by decide +kernel,rfl,by decide +kernel,by decide +kernel]
theorem jr:bR dR (ah 28) aT:=by rfl
theorem js:FnScope aT.N aT.ps (ag (ah 28)):=#[rfl,rfl,rfl,by decide +kernel,rfl,by decide +kernel,by decide +kernel]
theorem lV:bR dR (ah 29) bx:=by rfl
theorem lW:FnScope bx.N bx.ps (ag (ah 29)):=#[rfl,rfl,rfl,by decide +kernel,rfl,by decide +kernel,by decide +kernel]
theorem jX:bR dR (ah 30) aZ:=by rfl
theorem jY:FnScope aZ.N aZ.ps (ag (ah 30)):=#[rfl,rfl,rfl,by decide +kernel,rfl,by decide +kernel,by decide +kernel]
theorem hW:bR dR (ah 31) aI:=by rfl
theorem hZ:FnScope aI.N aI.ps (ag (ah 31)):=#[rfl,rfl,rfl,by decide +kernel,rfl,by decide +kernel,by decide +kernel]
theorem lX:bR dR (ah 32) bz:=by rfl
theorem lY:FnScope bz.N bz.ps (ag (ah 32)):=#[rfl,rfl,rfl,by decide +kernel,rfl,by decide +kernel,by decide +kernel]
theorem jt:bR dR (ah 33) aU:=by rfl
theorem ju:FnScope aU.N aU.ps (ag (ah 33)):=#[rfl,rfl,rfl,by decide +kernel,rfl,by decide +kernel,by decide +kernel]
theorem gF:bR dR (ah 34) aF:=by rfl
theorem gG:FnScope aF.N aF.ps (ag (ah 34)):=#[rfl,rfl,rfl,by decide +kernel,rfl,by decide +kernel,by decide +kernel]
theorem lx:bR dR (ah 35) bh:=by rfl
theorem ly:FnScope bh.N bh.ps (ag (ah 35)):=#[rfl,rfl,rfl,by decide +kernel,rfl,by decide +kernel,by decide +kernel]
theorem jv:bR dR (ah 36) aV:=by rfl
theorem jw:FnScope aV.N aV.ps (ag (ah 36)):=#[rfl,rfl,rfl,by decide +kernel,rfl,by decide +kernel,by decide +kernel]
theorem gH:bR dR (ah 37) aG:=by rfl
theorem gI:FnScope aG.N aG.ps (ag (ah 37)):=#[rfl,rfl,rfl,by decide +kernel,rfl,by decide +kernel,by decide +kernel]
theorem lz:bR dR (ah 38) bj:=by rfl
theorem lA:FnScope bj.N bj.ps (ag (ah 38)):=#[rfl,rfl,rfl,by decide +kernel,rfl,by decide +kernel,by decide +kernel]
theorem iM:bR dR (ah 39) aM:=by rfl
theorem iN:FnScope aM.N aM.ps (ag (ah 39)):=#[rfl,rfl,rfl,by decide +kernel,rfl,by decide +kernel,by decide +kernel]
theorem gm:bR dR (ah 40) aB:=by rfl
theorem gn:FnScope aB.N aB.ps (ag (ah 40)):=#[rfl,rfl,rfl,by decide +kernel,rfl,by decide +kernel,by decide +kernel]
theorem fO:bR dR (ah 41) aw:=by rfl
theorem fP:FnScope aw.N aw.ps (ag (ah 41)):=#[rfl,rfl,rfl,by decide +kernel,rfl,by decide +kernel,by decide +kernel]
theorem jx:bR dR (ah 42) aW:=by rfl
theorem jy:FnScope aW.N aW.ps (ag (ah 42)):=#[rfl,rfl,rfl,by decide +kernel,rfl,by decide +kernel,by decide +kernel]
theorem lZ:bR dR (ah 43) bA:=by rfl
theorem l4:FnScope bA.N bA.ps (ag (ah 43)):=#[rfl,rfl,rfl,by decide +kernel,rfl,by decide +kernel,by decide +kernel]
theorem iO:bR dR (ah 44) aN:=by rfl
theorem iP:FnScope aN.N aN.ps (ag (ah 44)):=#[rfl,rfl,rfl,by decide +kernel,rfl,by decide +kernel,by decide +kernel]
theorem iQ:bR dR (ah 45) aO:=by rfl
theorem iR:FnScope aO.N aO.ps (ag (ah 45)):=#[rfl,rfl,rfl,by decide +kernel,rfl,by decide +kernel,by decide +kernel]
theorem oO:bR dR (ah 46) bN:=by rfl
theorem oP:FnScope bN.N bN.ps (ag (ah 46)):=#[rfl,rfl,rfl,by decide +kernel,rfl,by decide +kernel,by decide +kernel]
theorem oQ:bR dR (ah 47) bO:=by rfl
theorem oR:FnScope bO.N bO.ps (ag (ah 47)):=#[rfl,rfl,rfl,by decide +kernel,rfl,by decide +kernel,by decide +kernel]
theorem oS:bR dR (ah 48) bP:=by rfl
theorem oT:FnScope bP.N bP.ps (ag (ah 48)):=#[rfl,rfl,rfl,by decide +kernel,rfl,by decide +kernel,by decide +kernel]
theorem ib:bR dR (ah 49) aJ:=by rfl
theorem ic:FnScope aJ.N aJ.ps (ag (ah 49)):=#[rfl,rfl,rfl,by decide +kernel,rfl,by decide +kernel,by decide +kernel]
theorem yj:bR dR (ah 50) gW:=by rfl
theorem yk:FnScope gW.N gW.ps (ag (ah 50)):=#[rfl,rfl,rfl,by decide +kernel,rfl,by decide +kernel,by decide +kernel]
theorem al {α:Type}{x y:HL}{n m:α}{L:Hm (HL×α)}(h:((y,m)::L).lookup x=gV n):(x=y/\n=m)\/L.lookup x=gV n:=by
 rw[Jy]at h;split at h
 ·rename_i e;cases h;exact .inl #[eq_of_beq e,rfl]
 ·exact .inr h
theorem Fp:Lw25 jP:=#[#[#[bL,rfl,rfl,rfl,rfl],#[bv,rfl,rfl,rfl,rfl],#[aY,rfl,rfl,rfl,rfl],#[bM,rfl,rfl,rfl,rfl],#[bw,rfl,rfl,rfl,rfl],#[bg,rfl,rfl,rfl,rfl],#[bx,rfl,rfl,rfl,rfl],#[aZ,rfl,rfl,rfl,rfl],#[aI,rfl,rfl,rfl,rfl],#[bz,rfl,rfl,rfl,rfl],#[aU,rfl,rfl,rfl,rfl],#[aF,rfl,rfl,rfl,rfl],#[bh,rfl,rfl,rfl,rfl],#[aV,rfl,rfl,rfl,rfl],#[aG,rfl,rfl,rfl,rfl],#[bj,rfl,rfl,rfl,rfl],#[aM,rfl,rfl,rfl,rfl],#[aB,rfl,rfl,rfl,rfl]],#[#[#[gU,rfl,rfl,rfl,rfl],#[bu,rfl,rfl,rfl,rfl]],#[eU,rfl,rfl,rfl,rfl],#[aQ,rfl,rfl,rfl,rfl],#[aR,rfl,rfl,rfl,rfl],#[b8,rfl,rfl,rfl,rfl],#[bH,rfl,rfl,rfl,rfl],#[eV,rfl,rfl,rfl,rfl],#[bJ,rfl,rfl,rfl,rfl],#[ce,rfl,rfl,rfl,rfl],#[cb,rfl,rfl,rfl,rfl],#[bI,rfl,rfl,rfl,rfl],#[b9,rfl,rfl,rfl,rfl]],#[#[aw,rfl,rfl,rfl,rfl],#[aN,rfl,rfl,rfl,rfl],#[aW,rfl,rfl,rfl,rfl],#[bA,rfl,rfl,rfl,rfl],#[aT,rfl,rfl,rfl,rfl],#[aO,rfl,rfl,rfl,rfl],#[bN,rfl,rfl,rfl,rfl],#[bO,rfl,rfl,rfl,rfl]],#[bK,rfl,rfl,rfl,rfl],#[cf,rfl,rfl,rfl,rfl],#[aS,rfl,rfl,rfl,rfl],#[bP,rfl,rfl,rfl,rfl],#[aJ,rfl,rfl,rfl,rfl],#[gW,rfl,rfl,rfl,rfl]]
noncomputable def BD (x:HL)(st:J8)(df:Df):Prop:=∀(kV doc pm:Ho) (an:Ht Hx) (cdv ct:Ho) (us:Hm Ho),us.length=df.ps.length->bindArgs (JF x x (dX st) (db st) (ag st) .none kV doc pm an cdv ct) #[us,[]]=pure (df.ps.zip us)
theorem Hk {us:Hm Ho}(h:us.length=0):us=[]:=match us,h with|[],_=>rfl
theorem u8 {us:Hm Ho}(h:us.length=1):∃a,us=[a]:=match us,h with|[a],_=>#[a,rfl]
theorem yt {us:Hm Ho}(h:us.length=2):∃a b,us=[a,b]:=match us,h with|[a,b],_=>#[a,b,rfl]
theorem FH {us:Hm Ho}(h:us.length=3):∃a b c,us=[a,b,c]:=match us,h with|[a,b,c],_=>#[a,b,c,rfl]
theorem ym {us:Hm Ho}(h:us.length=4):∃a b c d,us=[a,b,c,d]:=match us,h with|[a,b,c,d],_=>#[a,b,c,d,rfl]
theorem FJ {us:Hm Ho}(h:us.length=5):∃a b c d e,us=[a,b,c,d,e]:=match us,h with|[a,b,c,d,e],_=>#[a,b,c,d,e,rfl]
theorem G9 {us:Hm Ho}(h:us.length=6):∃a b c d e f,us=[a,b,c,d,e,f]:=match us,h with|[a,b,c,d,e,f],_=>#[a,b,c,d,e,f,rfl]
theorem Dx:BD "way" (ah 1) gU:=λ_ _ _ _ _ _ us h=>by
 obtain⟨x0,x1,x2,x3,rfl⟩:=ym h;rfl
theorem A7:BD "part" (ah 3) eU:=λ_ _ _ _ _ _ us h=>by
 obtain⟨x0,x1,x2,rfl⟩:=FH h;rfl
theorem l5:BD "point_over" (ah 4) bu:=λ_ _ _ _ _ _ us h=>by
 obtain⟨x0,x1,x2,x3,rfl⟩:=ym h;rfl
theorem jz:BD "longer_orders" (ah 5) aQ:=λ_ _ _ _ _ _ us h=>by
 obtain⟨x0,x1,rfl⟩:=yt h;rfl
theorem Ba:BD "back" (ah 7) eV:=λ_ _ _ _ _ _ us h=>by
 obtain⟨x0,x1,rfl⟩:=yt h;rfl
theorem jA:BD "barred_threes" (ah 9) aR:=λ_ _ _ _ _ _ us h=>by
 obtain⟨x0,rfl⟩:=u8 h;rfl
theorem qO:BD "three_at" (ah 10) b8:=λ_ _ _ _ _ _ us h=>by
 obtain⟨x0,x1,x2,x3,rfl⟩:=ym h;rfl
theorem oU:BD "first_bar" (ah 11) bH:=λ_ _ _ _ _ _ us h=>by
 obtain⟨x0,x1,rfl⟩:=yt h;rfl
theorem qP:BD "fillings" (ah 13) b9:=λ_ _ _ _ _ _ us h=>by
 obtain⟨x0,x1,x2,x3,rfl⟩:=ym h;rfl
theorem oV:BD "barred_by" (ah 14) bI:=λ_ _ _ _ _ _ us h=>by
 obtain⟨x0,x1,x2,x3,rfl⟩:=ym h;rfl
theorem qQ:BD "all_bars" (ah 15) cb:=λ_ _ _ _ _ _ us h=>by
 obtain⟨x0,x1,x2,x3,x4,rfl⟩:=FJ h;rfl
theorem oW:BD "with_both" (ah 16) bJ:=λ_ _ _ _ _ _ us h=>by
 obtain⟨x0,x1,x2,x3,x4,rfl⟩:=FJ h;rfl
theorem qR:BD "same_bar" (ah 17) ce:=λ_ _ _ _ _ _ us h=>by
 obtain⟨x0,x1,rfl⟩:=yt h;rfl
theorem oX:BD "_law_flow" (ah 19) bK:=λ_ _ _ _ _ _ us h=>by
 obtain⟨x0,rfl⟩:=u8 h;rfl
theorem oY:BD "_law_pick" (ah 20) bL:=λ_ _ _ _ _ _ us h=>by
 obtain⟨x0,x1,rfl⟩:=yt h;rfl
theorem jB:BD "_law_shuffled" (ah 21) aS:=λ_ _ _ _ _ _ us h=>by
 obtain⟨x0,x1,rfl⟩:=yt h;rfl
theorem ma:BD "_law_names" (ah 22) bv:=λ_ _ _ _ _ _ us h=>by
 obtain⟨x0,x1,rfl⟩:=yt h;rfl
theorem jZ:BD "_law_between" (ah 23) aY:=λ_ _ _ _ _ _ us h=>by
 obtain⟨x0,x1,x2,x3,rfl⟩:=ym h;rfl
theorem oZ:BD "_law_part" (ah 24) bM:=λ_ _ _ _ _ _ us h=>by
 obtain⟨x0,x1,x2,rfl⟩:=FH h;rfl
theorem md:BD "_law_turns" (ah 25) bw:=λ_ _ _ _ _ _ us h=>by
 obtain rfl:=Hk h;rfl
theorem lB:BD "_law_figure" (ah 26) bg:=λ_ _ _ _ _ _ us h=>by
 obtain⟨x0,x1,rfl⟩:=yt h;rfl
theorem qS:BD "_law_bad" (ah 27) cf:=λ_ _ _ _ _ _ us h=>by
 obtain⟨x0,rfl⟩:=u8 h;rfl
theorem jC:BD "_law_last_may" (ah 28) aT:=λ_ _ _ _ _ _ us h=>by
 obtain⟨x0,x1,x2,x3,rfl⟩:=ym h;rfl
theorem mf:BD "_law_backs" (ah 29) bx:=λ_ _ _ _ _ _ us h=>by
 obtain⟨x0,x1,rfl⟩:=yt h;rfl
theorem j3:BD "_law_rule_of" (ah 30) aZ:=λ_ _ _ _ _ _ us h=>by
 obtain⟨x0,x1,x2,x3,rfl⟩:=ym h;rfl
theorem ie:BD "_law_free_three" (ah 31) aI:=λ_ _ _ _ _ _ us h=>by
 obtain⟨x0,x1,x2,rfl⟩:=FH h;rfl
theorem mh:BD "_law_sizes" (ah 32) bz:=λ_ _ _ _ _ _ us h=>by
 obtain⟨x0,rfl⟩:=u8 h;rfl
theorem jD:BD "_law_any_rule" (ah 33) aU:=λ_ _ _ _ _ _ us h=>by
 obtain⟨x0,rfl⟩:=u8 h;rfl
theorem gJ:BD "_law_laying_kind" (ah 34) aF:=λ_ _ _ _ _ _ us h=>by
 obtain⟨x0,rfl⟩:=u8 h;rfl
theorem lC:BD "_law_breaks" (ah 35) bh:=λ_ _ _ _ _ _ us h=>by
 obtain⟨x0,x1,x2,x3,x4,rfl⟩:=FJ h;rfl
theorem jE:BD "_law_numbered" (ah 36) aV:=λ_ _ _ _ _ _ us h=>by
 obtain⟨x0,x1,x2,rfl⟩:=FH h;rfl
theorem gK:BD "_law_laying_rule" (ah 37) aG:=λ_ _ _ _ _ _ us h=>by
 obtain⟨x0,rfl⟩:=u8 h;rfl
theorem lD:BD "_law_rising" (ah 38) bj:=λ_ _ _ _ _ _ us h=>by
 obtain⟨x0,rfl⟩:=u8 h;rfl
theorem iS:BD "_law_free_rule" (ah 39) aM:=λ_ _ _ _ _ _ us h=>by
 obtain⟨x0,rfl⟩:=u8 h;rfl
theorem gp:BD "_law_one_way_rule" (ah 40) aB:=λ_ _ _ _ _ _ us h=>by
 obtain⟨x0,rfl⟩:=u8 h;rfl
theorem fQ:BD "_law_unlaying_rule" (ah 41) aw:=λ_ _ _ _ _ _ us h=>by
 obtain⟨x0,rfl⟩:=u8 h;rfl
theorem jF:BD "_law_new_ways" (ah 42) aW:=λ_ _ _ _ _ _ us h=>by
 obtain⟨x0,x1,x2,x3,x4,x5,rfl⟩:=G9 h;rfl
theorem mj:BD "_law_world" (ah 43) bA:=λ_ _ _ _ _ _ us h=>by
 obtain⟨x0,x1,x2,x3,rfl⟩:=ym h;rfl
theorem iT:BD "_law_some_rule" (ah 44) aN:=λ_ _ _ _ _ _ us h=>by
 obtain⟨x0,rfl⟩:=u8 h;rfl
theorem iU:BD "_law_new_point" (ah 45) aO:=λ_ _ _ _ _ _ us h=>by
 obtain⟨x0,x1,x2,x3,rfl⟩:=ym h;rfl
theorem o4:BD "_law_near" (ah 46) bN:=λ_ _ _ _ _ _ us h=>by
 obtain⟨x0,x1,x2,x3,x4,rfl⟩:=FJ h;rfl
theorem o5:BD "_law_pair" (ah 47) bO:=λ_ _ _ _ _ _ us h=>by
 obtain⟨x0,x1,x2,x3,rfl⟩:=ym h;rfl
theorem o7:BD "_law_over" (ah 48) bP:=λ_ _ _ _ _ _ us h=>by
 obtain⟨x0,x1,rfl⟩:=yt h;rfl
theorem ig:BD "_law_part_right" (ah 49) aJ:=λ_ _ _ _ _ _ us h=>by
 obtain⟨x0,x1,x2,x3,x4,x5,rfl⟩:=G9 h;rfl
theorem Dy:BD "law" (ah 50) gW:=λ_ _ _ _ _ _ us h=>by
 obtain⟨x0,rfl⟩:=u8 h;rfl
section
variable{P:HZ}{w:Iw}{K:HC}{mg:HL->Ht Ho}{base:IF}
noncomputable def ap (K:HC)(mg:HL->Ht Ho)(x:HL)(st:J8)(df:Df):Prop:=∃(f:Hx) (fd:JU),Fun K x x st f fd/\mg x=gV (.ref f)/\Jd K (.ref f)=true/\Binds K fd df.ps []
theorem yn {h:IF}{x:HL}{st:J8}{df:Df}{f:Hx}{oc:Ho}{od an:Ht Hx}{osl:IC (Ht Ho)}{kV doc pm cdv ct:Ho}(X:K.In h)(G:h.Ns mainGlobals mg)
  (b:BD x st df)
  (a:Jc K mainGlobals x=gV (gV (.ref f))) (l:K.lookup f=gV #[oc,od,.func (JF x x (dX st) (db st) (ag st) .none kV doc pm an cdv ct),osl]) (c:Kr K cdv x=true) (k:Jd K (.ref f)=true):ap K mg x st df:=
 have F:=vJ (st:=st) l c k
 #[f,_,F,OF X G a,k,F.binds b]
theorem yo {fuel:Hu}(hb:MdOk w K mg dR)(D:∀x n,AW.lookup x=gV n->∃st df,jP.lookup x=gV df/\df.ps.length=n/\FnScope df.N df.ps (ag st)/\bR dR st df/\ap K mg x st df):∀d,Bp P w K mg base dR jP fuel d
 | 0=>λf n h=>by
  obtain⟨st,df,h1,h2,h3,h4,fa,fd,F,m,kp,b⟩:=D f n h;refine#[fa,fd,df.ps,#[λvs H Q E z=>?_,λA outer s H args us vs Q E hr he hbd hv z=>?_],m,kp,b]
  all_goals
   obtain⟨_,_,_,_,_,_,_,_,z,_⟩:=z;cases z
 | d+1=>λf n h=>by
  obtain⟨st,df,h1,h2,h3,h4,fa,fd,F,m,kp,b⟩:=D f n h;refine#[fa,fd,df.ps,?_,m,kp,b];rw[<- h2];exact Bq F h3 h1 h4 hb (yo hb D d)
theorem Fq (D1:ap K mg "way" (ah 1) gU)(D3:ap K mg "part" (ah 3) eU)(D4:ap K mg "point_over" (ah 4) bu)(D5:ap K mg "longer_orders" (ah 5) aQ)(D7:ap K mg "back" (ah 7) eV)(D9:ap K mg "barred_threes" (ah 9) aR)(D10:ap K mg "three_at" (ah 10) b8)(D11:ap K mg "first_bar" (ah 11) bH)(D13:ap K mg "fillings" (ah 13) b9)(D14:ap K mg "barred_by" (ah 14) bI)(D15:ap K mg "all_bars" (ah 15) cb)(D16:ap K mg "with_both" (ah 16) bJ)(D17:ap K mg "same_bar" (ah 17) ce)(D19:ap K mg "_law_flow" (ah 19) bK)(D20:ap K mg "_law_pick" (ah 20) bL)(D21:ap K mg "_law_shuffled" (ah 21) aS)(D22:ap K mg "_law_names" (ah 22) bv)(D23:ap K mg "_law_between" (ah 23) aY)(D24:ap K mg "_law_part" (ah 24) bM)(D25:ap K mg "_law_turns" (ah 25) bw)(D26:ap K mg "_law_figure" (ah 26) bg)(D27:ap K mg "_law_bad" (ah 27) cf)(D28:ap K mg "_law_last_may" (ah 28) aT)(D29:ap K mg "_law_backs" (ah 29) bx)(D30:ap K mg "_law_rule_of" (ah 30) aZ)(D31:ap K mg "_law_free_three" (ah 31) aI)(D32:ap K mg "_law_sizes" (ah 32) bz)(D33:ap K mg "_law_any_rule" (ah 33) aU)(D34:ap K mg "_law_laying_kind" (ah 34) aF)(D35:ap K mg "_law_breaks" (ah 35) bh)(D36:ap K mg "_law_numbered" (ah 36) aV)(D37:ap K mg "_law_laying_rule" (ah 37) aG)(D38:ap K mg "_law_rising" (ah 38) bj)(D39:ap K mg "_law_free_rule" (ah 39) aM)(D40:ap K mg "_law_one_way_rule" (ah 40) aB)(D41:ap K mg "_law_unlaying_rule" (ah 41) aw)(D42:ap K mg "_law_new_ways" (ah 42) aW)(D43:ap K mg "_law_world" (ah 43) bA)(D44:ap K mg "_law_some_rule" (ah 44) aN)(D45:ap K mg "_law_new_point" (ah 45) aO)(D46:ap K mg "_law_near" (ah 46) bN)(D47:ap K mg "_law_pair" (ah 47) bO)(D48:ap K mg "_law_over" (ah 48) bP)(D49:ap K mg "_law_part_right" (ah 49) aJ)(D50:ap K mg "law" (ah 50) gW):∀x n,AW.lookup x=gV n->∃st df,jP.lookup x=gV df/\df.ps.length=n/\FnScope df.N df.ps (ag st)/\bR dR st df/\ap K mg x st df:=by
 intro x n h;unfold AW at h;rcases al h with⟨rfl,rfl⟩|h
 ·exact#[ah 1,gU,by rfl,rfl,Dw,Dv,D1]
 rcases al h with⟨rfl,rfl⟩|h
 ·exact#[ah 3,eU,by rfl,rfl,AY,AX,D3]
 rcases al h with⟨rfl,rfl⟩|h
 ·exact#[ah 4,bu,by rfl,rfl,lQ,lP,D4]
 rcases al h with⟨rfl,rfl⟩|h
 ·exact#[ah 5,aQ,by rfl,rfl,jm,jl,D5]
 rcases al h with⟨rfl,rfl⟩|h
 ·exact#[ah 7,eV,by rfl,rfl,A6,AZ,D7]
 rcases al h with⟨rfl,rfl⟩|h
 ·exact#[ah 9,aR,by rfl,rfl,jo,jn,D9]
 rcases al h with⟨rfl,rfl⟩|h
 ·exact#[ah 10,b8,by rfl,rfl,qF,qE,D10]
 rcases al h with⟨rfl,rfl⟩|h
 ·exact#[ah 11,bH,by rfl,rfl,oB,oA,D11]
 rcases al h with⟨rfl,rfl⟩|h
 ·exact#[ah 13,b9,by rfl,rfl,qH,qG,D13]
 rcases al h with⟨rfl,rfl⟩|h
 ·exact#[ah 14,bI,by rfl,rfl,oE,oD,D14]
 rcases al h with⟨rfl,rfl⟩|h
 ·exact#[ah 15,cb,by rfl,rfl,qJ,qI,D15]
 rcases al h with⟨rfl,rfl⟩|h
 ·exact#[ah 16,bJ,by rfl,rfl,oG,oF,D16]
 rcases al h with⟨rfl,rfl⟩|h
 ·exact#[ah 17,ce,by rfl,rfl,qL,qK,D17]
 rcases al h with⟨rfl,rfl⟩|h
 ·exact#[ah 19,bK,by rfl,rfl,oI,oH,D19]
 rcases al h with⟨rfl,rfl⟩|h
 ·exact#[ah 20,bL,by rfl,rfl,oK,oJ,D20]
 rcases al h with⟨rfl,rfl⟩|h
 ·exact#[ah 21,aS,by rfl,rfl,jq,jp,D21]
 rcases al h with⟨rfl,rfl⟩|h
 ·exact#[ah 22,bv,by rfl,rfl,lS,lR,D22]
 rcases al h with⟨rfl,rfl⟩|h
 ·exact#[ah 23,aY,by rfl,rfl,jW,jV,D23]
 rcases al h with⟨rfl,rfl⟩|h
 ·exact#[ah 24,bM,by rfl,rfl,oN,oM,D24]
 rcases al h with⟨rfl,rfl⟩|h
 ·exact#[ah 25,bw,by rfl,rfl,lU,lT,D25]
 rcases al h with⟨rfl,rfl⟩|h
 ·exact#[ah 26,bg,by rfl,rfl,lv,lu,D26]
 rcases al h with⟨rfl,rfl⟩|h
 ·exact#[ah 27,cf,by rfl,rfl,qN,qM,D27]
 rcases al h with⟨rfl,rfl⟩|h
 ·exact#[ah 28,aT,by rfl,rfl,js,jr,D28]
 rcases al h with⟨rfl,rfl⟩|h
 ·exact#[ah 29,bx,by rfl,rfl,lW,lV,D29]
 rcases al h with⟨rfl,rfl⟩|h
 ·exact#[ah 30,aZ,by rfl,rfl,jY,jX,D30]
 rcases al h with⟨rfl,rfl⟩|h
 ·exact#[ah 31,aI,by rfl,rfl,hZ,hW,D31]
 rcases al h with⟨rfl,rfl⟩|h
 ·exact#[ah 32,bz,by rfl,rfl,lY,lX,D32]
 rcases al h with⟨rfl,rfl⟩|h
 ·exact#[ah 33,aU,by rfl,rfl,ju,jt,D33]
 rcases al h with⟨rfl,rfl⟩|h
 ·exact#[ah 34,aF,by rfl,rfl,gG,gF,D34]
 rcases al h with⟨rfl,rfl⟩|h
 ·exact#[ah 35,bh,by rfl,rfl,ly,lx,D35]
 rcases al h with⟨rfl,rfl⟩|h
 ·exact#[ah 36,aV,by rfl,rfl,jw,jv,D36]
 rcases al h with⟨rfl,rfl⟩|h
 ·exact#[ah 37,aG,by rfl,rfl,gI,gH,D37]
 rcases al h with⟨rfl,rfl⟩|h
 ·exact#[ah 38,bj,by rfl,rfl,lA,lz,D38]
 rcases al h with⟨rfl,rfl⟩|h
 ·exact#[ah 39,aM,by rfl,rfl,iN,iM,D39]
 rcases al h with⟨rfl,rfl⟩|h
 ·exact#[ah 40,aB,by rfl,rfl,gn,gm,D40]
 rcases al h with⟨rfl,rfl⟩|h
 ·exact#[ah 41,aw,by rfl,rfl,fP,fO,D41]
 rcases al h with⟨rfl,rfl⟩|h
 ·exact#[ah 42,aW,by rfl,rfl,jy,jx,D42]
 rcases al h with⟨rfl,rfl⟩|h
 ·exact#[ah 43,bA,by rfl,rfl,l4,lZ,D43]
 rcases al h with⟨rfl,rfl⟩|h
 ·exact#[ah 44,aN,by rfl,rfl,iP,iO,D44]
 rcases al h with⟨rfl,rfl⟩|h
 ·exact#[ah 45,aO,by rfl,rfl,iR,iQ,D45]
 rcases al h with⟨rfl,rfl⟩|h
 ·exact#[ah 46,bN,by rfl,rfl,oP,oO,D46]
 rcases al h with⟨rfl,rfl⟩|h
 ·exact#[ah 47,bO,by rfl,rfl,oR,oQ,D47]
 rcases al h with⟨rfl,rfl⟩|h
 ·exact#[ah 48,bP,by rfl,rfl,oT,oS,D48]
 rcases al h with⟨rfl,rfl⟩|h
 ·exact#[ah 49,aJ,by rfl,rfl,ic,ib,D49]
 rcases al h with⟨rfl,rfl⟩|h
 ·exact#[ah 50,gW,by rfl,rfl,yk,yj,D50]
 cases h
theorem Fs {h:IF}(X:K.In h)(G:h.Ns mainGlobals mg)(z0:Jc K mainGlobals "range" = gV td)(z1:Jc K mainGlobals "len" = gV td)(z2:Jc K mainGlobals "list" = gV td)(z3:Jc K mainGlobals "tuple" = gV td)(z4:Jc K mainGlobals "int" = gV td)(z5:Jc K mainGlobals "sorted" = gV td)(z6:Jc K mainGlobals "isinstance" = gV td)(z7:Jc K mainGlobals "bool" = gV td)(z8:Jc K mainGlobals "str" = gV td)(z9:Jc K mainGlobals "all" = gV td)(z10:Jc K mainGlobals "min" = gV td)(z11:Jc K mainGlobals "enumerate" = gV td):MdOk w K mg dR:=by
 refine#[?_];show ∀y∈Du,mg y=td;intro y hy;unfold Du at hy;simp only[Iq,Jk,KZ]at hy;rcases hy with rfl|rfl|rfl|rfl|rfl|rfl|rfl|rfl|rfl|rfl|rfl|rfl
 ·exact IQ X G z0
 ·exact IQ X G z1
 ·exact IQ X G z2
 ·exact IQ X G z3
 ·exact IQ X G z4
 ·exact IQ X G z5
 ·exact IQ X G z6
 ·exact IQ X G z7
 ·exact IQ X G z8
 ·exact IQ X G z9
 ·exact IQ X G z10
 ·exact IQ X G z11
end
theorem Dz {l:L9}{w:Iw}{K:HC}{h:IF}{mg:HL->Ht Ho}{fa f:Hx}(X:K.In h)(G:h.Ns mainGlobals mg)(hfa:mg "law" = gV (.ref fa))(hb:MdOk w K mg dR)
  (D1:ap K mg "way" (ah 1) gU) (D3:ap K mg "part" (ah 3) eU) (D4:ap K mg "point_over" (ah 4) bu) (D5:ap K mg "longer_orders" (ah 5) aQ) (D7:ap K mg "back" (ah 7) eV) (D9:ap K mg "barred_threes" (ah 9) aR) (D10:ap K mg "three_at" (ah 10) b8) (D11:ap K mg "first_bar" (ah 11) bH) (D13:ap K mg "fillings" (ah 13) b9) (D14:ap K mg "barred_by" (ah 14) bI) (D15:ap K mg "all_bars" (ah 15) cb) (D16:ap K mg "with_both" (ah 16) bJ) (D17:ap K mg "same_bar" (ah 17) ce) (D19:ap K mg "_law_flow" (ah 19) bK) (D20:ap K mg "_law_pick" (ah 20) bL) (D21:ap K mg "_law_shuffled" (ah 21) aS) (D22:ap K mg "_law_names" (ah 22) bv) (D23:ap K mg "_law_between" (ah 23) aY) (D24:ap K mg "_law_part" (ah 24) bM) (D25:ap K mg "_law_turns" (ah 25) bw) (D26:ap K mg "_law_figure" (ah 26) bg) (D27:ap K mg "_law_bad" (ah 27) cf) (D28:ap K mg "_law_last_may" (ah 28) aT) (D29:ap K mg "_law_backs" (ah 29) bx) (D30:ap K mg "_law_rule_of" (ah 30) aZ) (D31:ap K mg "_law_free_three" (ah 31) aI) (D32:ap K mg "_law_sizes" (ah 32) bz) (D33:ap K mg "_law_any_rule" (ah 33) aU) (D34:ap K mg "_law_laying_kind" (ah 34) aF) (D35:ap K mg "_law_breaks" (ah 35) bh) (D36:ap K mg "_law_numbered" (ah 36) aV) (D37:ap K mg "_law_laying_rule" (ah 37) aG) (D38:ap K mg "_law_rising" (ah 38) bj) (D39:ap K mg "_law_free_rule" (ah 39) aM) (D40:ap K mg "_law_one_way_rule" (ah 40) aB) (D41:ap K mg "_law_unlaying_rule" (ah 41) aw) (D42:ap K mg "_law_new_ways" (ah 42) aW) (D43:ap K mg "_law_world" (ah 43) bA) (D44:ap K mg "_law_some_rule" (ah 44) aN) (D45:ap K mg "_law_new_point" (ah 45) aO) (D46:ap K mg "_law_near" (ah 46) bN) (D47:ap K mg "_law_pair" (ah 47) bO) (D48:ap K mg "_law_over" (ah 48) bP) (D49:ap K mg "_law_part_right" (ah 49) aJ)
  {oc:Ho} {od an:Ht Hx} {osl:IC (Ht Ho)} {kV doc pm cdv ct:Ho} (a:Jc K mainGlobals "law" = gV (gV (.ref f))) (l':K.lookup f=gV #[oc,od,.func (JF "law" "law" (dX (ah 50)) (db (ah 50)) (ag (ah 50)) .none kV doc pm an cdv ct),osl]) (c:Kr K cdv "law" = true) (k:Jd K (.ref f)=true) :
  ∃fd:JU,(∀(s:Hr) (v:Ho),Nf s fd #[[v],[]] [("_law_script",v)])/\∀base:IF,K.In base->base.Ns mainGlobals mg->FnOk l.prog w K mg base u9 9 fa fd ["_law_script"] (wu w K 1 (au jP 100 9 "law")):=by
 have e:=hfa.symm.trans (OF X G a);cases e;have D50:ap K mg "law" (ah 50) gW:=yn X G Dy a l' c k;have F:=vJ (st:=ah 50) l' c k;exact#[JF "law" "law" (dX (ah 50)) (db (ah 50)) (ag (ah 50)) .none kV doc pm an cdv ct,λs v=>.of_eq rfl,λbase _ _=>Bq (df:=gW) F yk (by rfl) yj hb (yo hb (Fq D1 D3 D4 D5 D7 D9 D10 D11 D13 D14 D15 D16 D17 D19 D20 D21 D22 D23 D24 D25 D26 D27 D28 D29 D30 D31 D32 D33 D34 D35 D36 D37 D38 D39 D40 D41 D42 D43 D44 D45 D46 D47 D48 D49 D50) 8)]
theorem G0 {l:L9}{q:HZ}{loose:Hm HL}{XP:(HL->Ht Ho)->IF->Prop}{YP:Iw->IF->Prop}{d:DefRec}{K:Ob->HC}(hn:l.most=gV 63)(hdf:d.params.defaults=[])
  (hY:∀(w:Iw) (h:IF),YP w h->(K w.params).In h)
  (F:∀(w:Iw) (mg:HL->Ht Ho) (fa:Hx) (h:IF),(K w.params).In h->h.Ns mainGlobals mg->mg d.name=gV (.ref fa)->
   ∃fd:JU,(∀(s:Hr) (u:Ho),Nf s fd #[[u],[]] [("_law_script",u)])/\∀base:IF,(K w.params).In base->base.Ns mainGlobals mg->FnOk l.prog w (K w.params) mg base u9 9 fa fd ["_law_script"] (wu w (K w.params) 1 (au jP 100 9 "law"))) :
  Oy q loose XP YP l.row.toRowW d [] (λf vs=>Oc f vs):=
 L2.yV (n:=63) (k:=9) (x:="_law_script") (CX:=λ_=>u9) (sp:=λw=>wu w (K w.params) 1 (au jP 100 9 "law")) hn #v[] hdf #[rfl,#v[],#v[]] hY F
  (λw H a ns hl hO hS=>CY (yi (defs:=jP) (fuel:=100) (d:=0) #v[] Fp) hO hS) λ_ _ _ _ _ z=>z
end Mi
open PySem PySem.W PyProof.Rows L2
set_option maxHeartbeats 0
namespace Mi
section
noncomputable def pw:HZ:=LO
noncomputable def ge (P:Ob)(n:HL)(t:Hu)(v:Ho):JJ:=#[PyData.keyHash P n,.str n t,v]
noncomputable def kd (a:Hu)(es:Hm JJ)(n:Hu):Hx×Jn:=(a,#[.type "dict",td,.dict es.toArray n,#[]])
noncomputable def kt (a:Hu)(c:Ho)(vs:Hm Ho)(n:Hu):Hx×Jn:=(a,#[c,td,.seq vs.toArray n,#[]])
noncomputable def kc (a:Hu)(vs:Hm Ho):Hx×Jn:=(a,#[.type "code",td,.fields vs.toArray,#[]])
noncomputable def kf (a:Hu)(st:J8)(n:HL)(pm cd:Ho):Hx×Jn:=(a,#[.type "function",td,.func (JF n n (dX st) (db st) (ag st) .none .none .none pm td cd .none),#[]])
noncomputable def K0 (P:Ob):HC:=[kd 3 [ge P "__name__" 165 (.str "law_layworld_k25_point_by_point" 305),ge P "__doc__" 166 .none,ge P "__package__" 167 .none,ge P "__loader__" 168 (.builtin "__main__.__loader__#opaque"),ge P "__spec__" 169 .none,ge P "__annotations__" 170 (.ref 6),ge P "__builtins__" 171 (.ref 4),ge P "__file__" 173 (.str "/claim/cut.py" 172),ge P "__cached__" 174 .none,ge P "way" 198 (.ref 21),ge P "part" 206 (.ref 26),ge P "point_over" 212 (.ref 31),ge P "longer_orders" 218 (.ref 36),ge P "back" 228 (.ref 43),ge P "barred_threes" 241 (.ref 50),ge P "three_at" 253 (.ref 57),ge P "first_bar" 263 (.ref 64),ge P "fillings" 271 (.ref 69),ge P "barred_by" 281 (.ref 76),ge P "all_bars" 287 (.ref 81),ge P "with_both" 298 (.ref 88),ge P "same_bar" 304 (.ref 93),ge P "_law_flow" 313 (.ref 100),ge P "_law_pick" 323 (.ref 107),ge P "_law_shuffled" 333 (.ref 114),ge P "_law_names" 339 (.ref 119),ge P "_law_between" 349 (.ref 126),ge P "_law_part" 355 (.ref 131),ge P "_law_turns" 361 (.ref 138),ge P "_law_figure" 367 (.ref 143),ge P "_law_bad" 377 (.ref 150),ge P "_law_last_may" 391 (.ref 157),ge P "_law_backs" 400 (.ref 164),ge P "_law_rule_of" 406 (.ref 169),ge P "_law_free_three" 412 (.ref 174),ge P "_law_sizes" 420 (.ref 181),ge P "_law_any_rule" 432 (.ref 188),ge P "_law_laying_kind" 440 (.ref 195),ge P "_law_breaks" 456 (.ref 202),ge P "_law_numbered" 462 (.ref 207),ge P "_law_laying_rule" 483 (.ref 214),ge P "_law_rising" 489 (.ref 219),ge P "_law_free_rule" 495 (.ref 224),ge P "_law_one_way_rule" 501 (.ref 229),ge P "_law_unlaying_rule" 507 (.ref 234),ge P "_law_new_ways" 524 (.ref 241),ge P "_law_world" 538 (.ref 248),ge P "_law_some_rule" 546 (.ref 255),ge P "_law_new_point" 560 (.ref 262),ge P "_law_near" 575 (.ref 269),ge P "_law_pair" 588 (.ref 276),ge P "_law_over" 594 (.ref 281),ge P "_law_part_right" 600 (.ref 286),ge P "law" 606 (.ref 291)] 54,
 kc 20 [(.str "way" 189),(.str "way" 190),(.str "/claim/cut.py" 191),(.int 2 0),(.int 4 0),(.int 0 0),(.int 0 0),(.int 3 0),(.ref 15),(.bool true),(.int 181 0),(.ref 16),.none,(.ref 17),(.ref 18),(.ref 19),(.int 196 0),(.int 2 0),(.str "/claim/cut.py" 197)],
 kf 21 (ah 1) "way" (.str "layworld.worlds" 187) (.ref 20),
 kc 25 [(.str "part" 201),(.str "part" 202),(.str "/claim/cut.py" 203),(.int 7 0),(.int 3 0),(.int 0 0),(.int 0 0),(.int 3 0),(.ref 22),(.bool true),(.int 181 0),(.ref 23),.none,.none,.none,(.ref 24),(.int 204 0),(.int 7 0),(.str "/claim/cut.py" 205)],
 kf 26 (ah 3) "part" (.str "layworld.parts" 199) (.ref 25),
 kc 30 [(.str "point_over" 207),(.str "point_over" 208),(.str "/claim/cut.py" 209),(.int 9 0),(.int 4 0),(.int 0 0),(.int 0 0),(.int 3 0),(.ref 27),(.bool true),(.int 181 0),(.ref 28),.none,.none,.none,(.ref 29),(.int 210 0),(.int 9 0),(.str "/claim/cut.py" 211)],
 kf 31 (ah 4) "point_over" (.str "layworld.parts" 199) (.ref 30),
 kc 35 [(.str "longer_orders" 213),(.str "longer_orders" 214),(.str "/claim/cut.py" 215),(.int 11 0),(.int 2 0),(.int 0 0),(.int 0 0),(.int 3 0),(.ref 32),(.bool true),(.int 181 0),(.ref 33),.none,.none,.none,(.ref 34),(.int 216 0),(.int 11 0),(.str "/claim/cut.py" 217)],
 kf 36 (ah 5) "longer_orders" (.str "layworld.parts" 199) (.ref 35),
 kc 42 [(.str "back" 221),(.str "back" 222),(.str "/claim/cut.py" 223),(.int 17 0),(.int 2 0),(.int 0 0),(.int 0 0),(.int 3 0),(.ref 37),(.bool true),(.int 181 0),(.ref 38),.none,(.ref 39),(.ref 40),(.ref 41),(.int 226 0),(.int 17 0),(.str "/claim/cut.py" 227)],
 kf 43 (ah 7) "back" (.str "layworld.rules" 219) (.ref 42),
 kc 49 [(.str "barred_threes" 231),(.str "barred_threes" 232),(.str "/claim/cut.py" 233),(.int 20 0),(.int 1 0),(.int 0 0),(.int 0 0),(.int 3 0),(.ref 44),(.bool true),(.int 181 0),(.ref 45),.none,(.ref 46),(.ref 47),(.ref 48),(.int 239 0),(.int 20 0),(.str "/claim/cut.py" 240)],
 kf 50 (ah 9) "barred_threes" (.str "layworld.threes" 229) (.ref 49),
 kc 56 [(.str "three_at" 242),(.str "three_at" 243),(.str "/claim/cut.py" 244),(.int 29 0),(.int 4 0),(.int 0 0),(.int 0 0),(.int 3 0),(.ref 51),(.bool true),(.int 181 0),(.ref 52),.none,(.ref 53),(.ref 54),(.ref 55),(.int 251 0),(.int 29 0),(.str "/claim/cut.py" 252)],
 kf 57 (ah 10) "three_at" (.str "layworld.threes" 229) (.ref 56),
 kc 63 [(.str "first_bar" 254),(.str "first_bar" 255),(.str "/claim/cut.py" 256),(.int 33 0),(.int 2 0),(.int 0 0),(.int 0 0),(.int 3 0),(.ref 58),(.bool true),(.int 181 0),(.ref 59),.none,(.ref 60),(.ref 61),(.ref 62),(.int 261 0),(.int 33 0),(.str "/claim/cut.py" 262)],
 kf 64 (ah 11) "first_bar" (.str "layworld.threes" 229) (.ref 63),
 kc 68 [(.str "fillings" 266),(.str "fillings" 267),(.str "/claim/cut.py" 268),(.int 40 0),(.int 4 0),(.int 0 0),(.int 0 0),(.int 3 0),(.ref 65),(.bool true),(.int 181 0),(.ref 66),.none,.none,.none,(.ref 67),(.int 269 0),(.int 40 0),(.str "/claim/cut.py" 270)],
 kf 69 (ah 13) "fillings" (.str "layworld.fillings" 264) (.ref 68),
 kc 75 [(.str "barred_by" 272),(.str "barred_by" 273),(.str "/claim/cut.py" 274),(.int 46 0),(.int 4 0),(.int 0 0),(.int 0 0),(.int 3 0),(.ref 70),(.bool true),(.int 181 0),(.ref 71),.none,(.ref 72),(.ref 73),(.ref 74),(.int 279 0),(.int 46 0),(.str "/claim/cut.py" 280)],
 kf 76 (ah 14) "barred_by" (.str "layworld.fillings" 264) (.ref 75),
 kc 80 [(.str "all_bars" 282),(.str "all_bars" 283),(.str "/claim/cut.py" 284),(.int 48 0),(.int 5 0),(.int 0 0),(.int 0 0),(.int 3 0),(.ref 77),(.bool true),(.int 181 0),(.ref 78),.none,.none,.none,(.ref 79),(.int 285 0),(.int 48 0),(.str "/claim/cut.py" 286)],
 kf 81 (ah 15) "all_bars" (.str "layworld.fillings" 264) (.ref 80),
 kc 87 [(.str "with_both" 288),(.str "with_both" 289),(.str "/claim/cut.py" 290),(.int 51 0),(.int 5 0),(.int 0 0),(.int 0 0),(.int 3 0),(.ref 82),(.bool true),(.int 181 0),(.ref 83),.none,(.ref 84),(.ref 85),(.ref 86),(.int 296 0),(.int 51 0),(.str "/claim/cut.py" 297)],
 kf 88 (ah 16) "with_both" (.str "layworld.fillings" 264) (.ref 87),
 kc 92 [(.str "same_bar" 299),(.str "same_bar" 300),(.str "/claim/cut.py" 301),(.int 53 0),(.int 2 0),(.int 0 0),(.int 0 0),(.int 3 0),(.ref 89),(.bool true),(.int 181 0),(.ref 90),.none,.none,.none,(.ref 91),(.int 302 0),(.int 53 0),(.str "/claim/cut.py" 303)],
 kf 93 (ah 17) "same_bar" (.str "layworld.fillings" 264) (.ref 92),
 kc 99 [(.str "_law_flow" 307),(.str "_law_flow" 308),(.str "/claim/cut.py" 309),(.int 59 0),(.int 1 0),(.int 0 0),(.int 0 0),(.int 3 0),(.ref 94),(.bool true),(.int 181 0),(.ref 95),.none,(.ref 96),(.ref 97),(.ref 98),(.int 311 0),(.int 59 0),(.str "/claim/cut.py" 312)],
 kf 100 (ah 19) "_law_flow" (.str "law_layworld_k25_point_by_point" 305) (.ref 99),
 kc 106 [(.str "_law_pick" 314),(.str "_law_pick" 315),(.str "/claim/cut.py" 316),(.int 61 0),(.int 2 0),(.int 0 0),(.int 0 0),(.int 3 0),(.ref 101),(.bool true),(.int 181 0),(.ref 102),.none,(.ref 103),(.ref 104),(.ref 105),(.int 321 0),(.int 61 0),(.str "/claim/cut.py" 322)],
 kf 107 (ah 20) "_law_pick" (.str "law_layworld_k25_point_by_point" 305) (.ref 106),
 kc 113 [(.str "_law_shuffled" 324),(.str "_law_shuffled" 325),(.str "/claim/cut.py" 326),(.int 76 0),(.int 2 0),(.int 0 0),(.int 0 0),(.int 3 0),(.ref 108),(.bool true),(.int 181 0),(.ref 109),.none,(.ref 110),(.ref 111),(.ref 112),(.int 331 0),(.int 76 0),(.str "/claim/cut.py" 332)],
 kf 114 (ah 21) "_law_shuffled" (.str "law_layworld_k25_point_by_point" 305) (.ref 113),
 kc 118 [(.str "_law_names" 334),(.str "_law_names" 335),(.str "/claim/cut.py" 336),(.int 82 0),(.int 2 0),(.int 0 0),(.int 0 0),(.int 3 0),(.ref 115),(.bool true),(.int 181 0),(.ref 116),.none,.none,.none,(.ref 117),(.int 337 0),(.int 82 0),(.str "/claim/cut.py" 338)],
 kf 119 (ah 22) "_law_names" (.str "law_layworld_k25_point_by_point" 305) (.ref 118),
 kc 125 [(.str "_law_between" 340),(.str "_law_between" 341),(.str "/claim/cut.py" 342),(.int 84 0),(.int 4 0),(.int 0 0),(.int 0 0),(.int 3 0),(.ref 120),(.bool true),(.int 181 0),(.ref 121),.none,(.ref 122),(.ref 123),(.ref 124),(.int 347 0),(.int 84 0),(.str "/claim/cut.py" 348)],
 kf 126 (ah 23) "_law_between" (.str "law_layworld_k25_point_by_point" 305) (.ref 125),
 kc 130 [(.str "_law_part" 350),(.str "_law_part" 351),(.str "/claim/cut.py" 352),(.int 88 0),(.int 3 0),(.int 0 0),(.int 0 0),(.int 3 0),(.ref 127),(.bool true),(.int 181 0),(.ref 128),.none,.none,.none,(.ref 129),(.int 353 0),(.int 88 0),(.str "/claim/cut.py" 354)],
 kf 131 (ah 24) "_law_part" (.str "law_layworld_k25_point_by_point" 305) (.ref 130),
 kc 137 [(.str "_law_turns" 356),(.str "_law_turns" 357),(.str "/claim/cut.py" 358),(.int 94 0),(.int 0 0),(.int 0 0),(.int 0 0),(.int 3 0),(.ref 132),(.bool true),(.int 181 0),(.ref 133),.none,(.ref 134),(.ref 135),(.ref 136),(.int 359 0),(.int 94 0),(.str "/claim/cut.py" 360)],
 kf 138 (ah 25) "_law_turns" (.str "law_layworld_k25_point_by_point" 305) (.ref 137),
 kc 142 [(.str "_law_figure" 362),(.str "_law_figure" 363),(.str "/claim/cut.py" 364),(.int 96 0),(.int 2 0),(.int 0 0),(.int 0 0),(.int 3 0),(.ref 139),(.bool true),(.int 181 0),(.ref 140),.none,.none,.none,(.ref 141),(.int 365 0),(.int 96 0),(.str "/claim/cut.py" 366)],
 kf 143 (ah 26) "_law_figure" (.str "law_layworld_k25_point_by_point" 305) (.ref 142),
 kc 149 [(.str "_law_bad" 368),(.str "_law_bad" 369),(.str "/claim/cut.py" 370),(.int 98 0),(.int 1 0),(.int 0 0),(.int 0 0),(.int 3 0),(.ref 144),(.bool true),(.int 181 0),(.ref 145),.none,(.ref 146),(.ref 147),(.ref 148),(.int 375 0),(.int 98 0),(.str "/claim/cut.py" 376)],
 kf 150 (ah 27) "_law_bad" (.str "law_layworld_k25_point_by_point" 305) (.ref 149),
 kc 156 [(.str "_law_last_may" 378),(.str "_law_last_may" 379),(.str "/claim/cut.py" 380),(.int 104 0),(.int 4 0),(.int 0 0),(.int 0 0),(.int 3 0),(.ref 151),(.bool true),(.int 181 0),(.ref 152),.none,(.ref 153),(.ref 154),(.ref 155),(.int 389 0),(.int 104 0),(.str "/claim/cut.py" 390)],
 kf 157 (ah 28) "_law_last_may" (.str "law_layworld_k25_point_by_point" 305) (.ref 156),
 kc 163 [(.str "_law_backs" 392),(.str "_law_backs" 393),(.str "/claim/cut.py" 394),(.int 111 0),(.int 2 0),(.int 0 0),(.int 0 0),(.int 3 0),(.ref 158),(.bool true),(.int 181 0),(.ref 159),.none,(.ref 160),(.ref 161),(.ref 162),(.int 398 0),(.int 111 0),(.str "/claim/cut.py" 399)],
 kf 164 (ah 29) "_law_backs" (.str "law_layworld_k25_point_by_point" 305) (.ref 163),
 kc 168 [(.str "_law_rule_of" 401),(.str "_law_rule_of" 402),(.str "/claim/cut.py" 403),(.int 114 0),(.int 4 0),(.int 0 0),(.int 0 0),(.int 3 0),(.ref 165),(.bool true),(.int 181 0),(.ref 166),.none,.none,.none,(.ref 167),(.int 404 0),(.int 114 0),(.str "/claim/cut.py" 405)],
 kf 169 (ah 30) "_law_rule_of" (.str "law_layworld_k25_point_by_point" 305) (.ref 168),
 kc 173 [(.str "_law_free_three" 407),(.str "_law_free_three" 408),(.str "/claim/cut.py" 409),(.int 118 0),(.int 3 0),(.int 0 0),(.int 0 0),(.int 3 0),(.ref 170),(.bool true),(.int 181 0),(.ref 171),.none,.none,.none,(.ref 172),(.int 410 0),(.int 118 0),(.str "/claim/cut.py" 411)],
 kf 174 (ah 31) "_law_free_three" (.str "law_layworld_k25_point_by_point" 305) (.ref 173),
 kc 180 [(.str "_law_sizes" 413),(.str "_law_sizes" 414),(.str "/claim/cut.py" 415),(.int 123 0),(.int 1 0),(.int 0 0),(.int 0 0),(.int 3 0),(.ref 175),(.bool true),(.int 181 0),(.ref 176),.none,(.ref 177),(.ref 178),(.ref 179),(.int 418 0),(.int 123 0),(.str "/claim/cut.py" 419)],
 kf 181 (ah 32) "_law_sizes" (.str "law_layworld_k25_point_by_point" 305) (.ref 180),
 kc 187 [(.str "_law_any_rule" 421),(.str "_law_any_rule" 422),(.str "/claim/cut.py" 423),(.int 126 0),(.int 1 0),(.int 0 0),(.int 0 0),(.int 3 0),(.ref 182),(.bool true),(.int 181 0),(.ref 183),.none,(.ref 184),(.ref 185),(.ref 186),(.int 430 0),(.int 126 0),(.str "/claim/cut.py" 431)],
 kf 188 (ah 33) "_law_any_rule" (.str "law_layworld_k25_point_by_point" 305) (.ref 187),
 kc 194 [(.str "_law_laying_kind" 433),(.str "_law_laying_kind" 434),(.str "/claim/cut.py" 435),(.int 133 0),(.int 1 0),(.int 0 0),(.int 0 0),(.int 3 0),(.ref 189),(.bool true),(.int 181 0),(.ref 190),.none,(.ref 191),(.ref 192),(.ref 193),(.int 438 0),(.int 133 0),(.str "/claim/cut.py" 439)],
 kf 195 (ah 34) "_law_laying_kind" (.str "law_layworld_k25_point_by_point" 305) (.ref 194),
 kc 201 [(.str "_law_breaks" 441),(.str "_law_breaks" 442),(.str "/claim/cut.py" 443),(.int 142 0),(.int 5 0),(.int 0 0),(.int 0 0),(.int 3 0),(.ref 196),(.bool true),(.int 181 0),(.ref 197),.none,(.ref 198),(.ref 199),(.ref 200),(.int 454 0),(.int 142 0),(.str "/claim/cut.py" 455)],
 kf 202 (ah 35) "_law_breaks" (.str "law_layworld_k25_point_by_point" 305) (.ref 201),
 kc 206 [(.str "_law_numbered" 457),(.str "_law_numbered" 458),(.str "/claim/cut.py" 459),(.int 150 0),(.int 3 0),(.int 0 0),(.int 0 0),(.int 3 0),(.ref 203),(.bool true),(.int 181 0),(.ref 204),.none,.none,.none,(.ref 205),(.int 460 0),(.int 150 0),(.str "/claim/cut.py" 461)],
 kf 207 (ah 36) "_law_numbered" (.str "law_layworld_k25_point_by_point" 305) (.ref 206),
 kc 213 [(.str "_law_laying_rule" 463),(.str "_law_laying_rule" 464),(.str "/claim/cut.py" 465),(.int 165 0),(.int 1 0),(.int 0 0),(.int 0 0),(.int 3 0),(.ref 208),(.bool true),(.int 181 0),(.ref 209),.none,(.ref 210),(.ref 211),(.ref 212),(.int 481 0),(.int 165 0),(.str "/claim/cut.py" 482)],
 kf 214 (ah 37) "_law_laying_rule" (.str "law_layworld_k25_point_by_point" 305) (.ref 213),
 kc 218 [(.str "_law_rising" 484),(.str "_law_rising" 485),(.str "/claim/cut.py" 486),(.int 185 0),(.int 1 0),(.int 0 0),(.int 0 0),(.int 3 0),(.ref 215),(.bool true),(.int 181 0),(.ref 216),.none,.none,.none,(.ref 217),(.int 487 0),(.int 185 0),(.str "/claim/cut.py" 488)],
 kf 219 (ah 38) "_law_rising" (.str "law_layworld_k25_point_by_point" 305) (.ref 218),
 kc 223 [(.str "_law_free_rule" 490),(.str "_law_free_rule" 491),(.str "/claim/cut.py" 492),(.int 191 0),(.int 1 0),(.int 0 0),(.int 0 0),(.int 3 0),(.ref 220),(.bool true),(.int 181 0),(.ref 221),.none,.none,.none,(.ref 222),(.int 493 0),(.int 191 0),(.str "/claim/cut.py" 494)],
 kf 224 (ah 39) "_law_free_rule" (.str "law_layworld_k25_point_by_point" 305) (.ref 223),
 kc 228 [(.str "_law_one_way_rule" 496),(.str "_law_one_way_rule" 497),(.str "/claim/cut.py" 498),(.int 204 0),(.int 1 0),(.int 0 0),(.int 0 0),(.int 3 0),(.ref 225),(.bool true),(.int 181 0),(.ref 226),.none,.none,.none,(.ref 227),(.int 499 0),(.int 204 0),(.str "/claim/cut.py" 500)],
 kf 229 (ah 40) "_law_one_way_rule" (.str "law_layworld_k25_point_by_point" 305) (.ref 228),
 kc 233 [(.str "_law_unlaying_rule" 502),(.str "_law_unlaying_rule" 503),(.str "/claim/cut.py" 504),(.int 208 0),(.int 1 0),(.int 0 0),(.int 0 0),(.int 3 0),(.ref 230),(.bool true),(.int 181 0),(.ref 231),.none,.none,.none,(.ref 232),(.int 505 0),(.int 208 0),(.str "/claim/cut.py" 506)],
 kf 234 (ah 41) "_law_unlaying_rule" (.str "law_layworld_k25_point_by_point" 305) (.ref 233),
 kc 240 [(.str "_law_new_ways" 508),(.str "_law_new_ways" 509),(.str "/claim/cut.py" 510),(.int 223 0),(.int 6 0),(.int 0 0),(.int 0 0),(.int 3 0),(.ref 235),(.bool true),(.int 181 0),(.ref 236),.none,(.ref 237),(.ref 238),(.ref 239),(.int 522 0),(.int 223 0),(.str "/claim/cut.py" 523)],
 kf 241 (ah 42) "_law_new_ways" (.str "law_layworld_k25_point_by_point" 305) (.ref 240),
 kc 247 [(.str "_law_world" 525),(.str "_law_world" 526),(.str "/claim/cut.py" 527),(.int 236 0),(.int 4 0),(.int 0 0),(.int 0 0),(.int 3 0),(.ref 242),(.bool true),(.int 181 0),(.ref 243),.none,(.ref 244),(.ref 245),(.ref 246),(.int 536 0),(.int 236 0),(.str "/claim/cut.py" 537)],
 kf 248 (ah 43) "_law_world" (.str "law_layworld_k25_point_by_point" 305) (.ref 247),
 kc 254 [(.str "_law_some_rule" 539),(.str "_law_some_rule" 540),(.str "/claim/cut.py" 541),(.int 244 0),(.int 1 0),(.int 0 0),(.int 0 0),(.int 3 0),(.ref 249),(.bool true),(.int 181 0),(.ref 250),.none,(.ref 251),(.ref 252),(.ref 253),(.int 544 0),(.int 244 0),(.str "/claim/cut.py" 545)],
 kf 255 (ah 44) "_law_some_rule" (.str "law_layworld_k25_point_by_point" 305) (.ref 254),
 kc 261 [(.str "_law_new_point" 547),(.str "_law_new_point" 548),(.str "/claim/cut.py" 549),(.int 251 0),(.int 4 0),(.int 0 0),(.int 0 0),(.int 3 0),(.ref 256),(.bool true),(.int 181 0),(.ref 257),.none,(.ref 258),(.ref 259),(.ref 260),(.int 558 0),(.int 251 0),(.str "/claim/cut.py" 559)],
 kf 262 (ah 45) "_law_new_point" (.str "law_layworld_k25_point_by_point" 305) (.ref 261),
 kc 268 [(.str "_law_near" 561),(.str "_law_near" 562),(.str "/claim/cut.py" 563),(.int 259 0),(.int 5 0),(.int 0 0),(.int 0 0),(.int 3 0),(.ref 263),(.bool true),(.int 181 0),(.ref 264),.none,(.ref 265),(.ref 266),(.ref 267),(.int 573 0),(.int 259 0),(.str "/claim/cut.py" 574)],
 kf 269 (ah 46) "_law_near" (.str "law_layworld_k25_point_by_point" 305) (.ref 268),
 kc 275 [(.str "_law_pair" 576),(.str "_law_pair" 577),(.str "/claim/cut.py" 578),(.int 270 0),(.int 4 0),(.int 0 0),(.int 0 0),(.int 3 0),(.ref 270),(.bool true),(.int 181 0),(.ref 271),.none,(.ref 272),(.ref 273),(.ref 274),(.int 586 0),(.int 270 0),(.str "/claim/cut.py" 587)],
 kf 276 (ah 47) "_law_pair" (.str "law_layworld_k25_point_by_point" 305) (.ref 275),
 kc 280 [(.str "_law_over" 589),(.str "_law_over" 590),(.str "/claim/cut.py" 591),(.int 282 0),(.int 2 0),(.int 0 0),(.int 0 0),(.int 3 0),(.ref 277),(.bool true),(.int 181 0),(.ref 278),.none,.none,.none,(.ref 279),(.int 592 0),(.int 282 0),(.str "/claim/cut.py" 593)],
 kf 281 (ah 48) "_law_over" (.str "law_layworld_k25_point_by_point" 305) (.ref 280),
 kc 285 [(.str "_law_part_right" 595),(.str "_law_part_right" 596),(.str "/claim/cut.py" 597),(.int 284 0),(.int 6 0),(.int 0 0),(.int 0 0),(.int 3 0),(.ref 282),(.bool true),(.int 181 0),(.ref 283),.none,.none,.none,(.ref 284),(.int 598 0),(.int 284 0),(.str "/claim/cut.py" 599)],
 kf 286 (ah 49) "_law_part_right" (.str "law_layworld_k25_point_by_point" 305) (.ref 285),
 kc 290 [(.str "law" 601),(.str "law" 602),(.str "/claim/cut.py" 603),(.int 295 0),(.int 1 0),(.int 0 0),(.int 0 0),(.int 3 0),(.ref 287),(.bool true),(.int 181 0),(.ref 288),.none,.none,.none,(.ref 289),(.int 604 0),(.int 295 0),(.str "/claim/cut.py" 605)],
 kf 291 (ah 50) "law" (.str "law_layworld_k25_point_by_point" 305) (.ref 290)]
noncomputable def Ha:Hm Hu:=[3,20,21,25,26,30,31,35,36,42,43,49,50,56,57,63,64,68,69,75,76,80,81,87,88,92,93,99,100,106,107,113,114,118,119,125,126,130,131,137,138,142,143,149,150,156,157,163,164,168,169,173,174,180,181,187,188,194,195,201,202,206,207,213,214,218,219,223,224,228,229,233,234,240,241,247,248,254,255,261,262,268,269,275,276,280,281,285,286,290,291]
noncomputable def vq:HZ:={ pw with main:={ pw.main with body:=[ah 50] } }
noncomputable def lo:Hm HL:=[("way" : HL),("part" : HL),("point_over" : HL),("longer_orders" : HL),("back" : HL),("barred_threes" : HL),("three_at" : HL),("first_bar" : HL),("fillings" : HL),("barred_by" : HL),("all_bars" : HL),("with_both" : HL),("same_bar" : HL),("_law_flow" : HL),("_law_pick" : HL),("_law_shuffled" : HL),("_law_names" : HL),("_law_between" : HL),("_law_part" : HL),("_law_turns" : HL),("_law_figure" : HL),("_law_bad" : HL),("_law_last_may" : HL),("_law_backs" : HL),("_law_rule_of" : HL),("_law_free_three" : HL),("_law_sizes" : HL),("_law_any_rule" : HL),("_law_laying_kind" : HL),("_law_breaks" : HL),("_law_numbered" : HL),("_law_laying_rule" : HL),("_law_rising" : HL),("_law_free_rule" : HL),("_law_one_way_rule" : HL),("_law_unlaying_rule" : HL),("_law_new_ways" : HL),("_law_world" : HL),("_law_some_rule" : HL),("_law_new_point" : HL),("_law_near" : HL),("_law_pair" : HL),("_law_over" : HL),("_law_part_right" : HL)]
theorem aE {K:HC}{h:IF}{mg:HL->Ht Ho}{x:HL}{st:J8}{df:Df}(a:Hu)(pm cd:Ho)(X:K.In h)(G:h.Ns mainGlobals mg)
  (b:BD x st df)
  (e:Jc K mainGlobals x=gV (gV (.ref a))) (l:K.lookup a=gV (kf a st x pm cd).2) (c:Kr K cd x=true) (k:Jd K (.ref a)=true):ap K mg x st df:=yn X G b e l c k
theorem eK:∀P,Ha=(K0 P).map (·.1):=λ_=>by kernel_rfl
noncomputable def hk:PySem.W.Hook:=PySem.W.kHook K0 Ha eK
theorem hl:PySem.W.LeftO pw vq lo (λs=>OV vq [] s&&OG [] s) hk.obs hk.val 2954:=λw=>by kernel_rfl
end
end Mi
end ZZ.Lean
open ZZ.Lean
theorem PySem.Challenge.cw_layworld_k25_point_by_point_holds : PySem.Challenge.rw_layworld_k25_point_by_point.Holds := by
 w_on
 refine PySem.W.holds_law (by kernel_rfl) (λsaid=>?_)
 refine PySem.W.holds_open (q:=Mi.vq) (loose:=Mi.lo) (Xt:=λs=>OV Mi.vq [] s&&OG [] s) (XP:=PySem.W.XL Mi.vq []) (Yf:=Mi.hk.obs) (Ya:=Mi.hk.val) (YP:=Mi.hk.says) (N:=2954) Mi.hl Mi.hk.of Mi.hk.keeps (λs e=>PySem.W.xl_of s (MB.mp e).1) Pu (by rfl) (by rfl) (by rfl) (λs e=>PySem.W.recFacts_of (MB.mp e).2) (by rfl) said (by decide +kernel) #[rfl,rfl,rfl,rfl,rfl,by decide +kernel] ?hw ?hc
 case hw=>w_witness2
 case hc=>
 refine Mi.G0 (l:=LP) (K:=Mi.K0) rfl rfl (λw h Y=>PySem.W.kIn_of Y) ?F
 case F=>
  intro w mg fa h KX G hmg;exact Mi.Dz KX G hmg (Mi.Fs KX G (by kernel_rfl) (by kernel_rfl) (by kernel_rfl) (by kernel_rfl) (by kernel_rfl) (by kernel_rfl) (by kernel_rfl) (by kernel_rfl) (by kernel_rfl) (by kernel_rfl) (by kernel_rfl) (by kernel_rfl))
   (Mi.aE 21 (.str "layworld.worlds" 187) (.ref 20) (x:="way") (st:=Mi.ah 1) (df:=Mi.gU) KX G Mi.Dx (by kernel_rfl) (by kernel_rfl) (by kernel_rfl) (by kernel_rfl))
   (Mi.aE 26 (.str "layworld.parts" 199) (.ref 25) (x:="part") (st:=Mi.ah 3) (df:=Mi.eU) KX G Mi.A7 (by kernel_rfl) (by kernel_rfl) (by kernel_rfl) (by kernel_rfl))
   (Mi.aE 31 (.str "layworld.parts" 199) (.ref 30) (x:="point_over") (st:=Mi.ah 4) (df:=Mi.bu) KX G Mi.l5 (by kernel_rfl) (by kernel_rfl) (by kernel_rfl) (by kernel_rfl))
   (Mi.aE 36 (.str "layworld.parts" 199) (.ref 35) (x:="longer_orders") (st:=Mi.ah 5) (df:=Mi.aQ) KX G Mi.jz (by kernel_rfl) (by kernel_rfl) (by kernel_rfl) (by kernel_rfl))
   (Mi.aE 43 (.str "layworld.rules" 219) (.ref 42) (x:="back") (st:=Mi.ah 7) (df:=Mi.eV) KX G Mi.Ba (by kernel_rfl) (by kernel_rfl) (by kernel_rfl) (by kernel_rfl))
   (Mi.aE 50 (.str "layworld.threes" 229) (.ref 49) (x:="barred_threes") (st:=Mi.ah 9) (df:=Mi.aR) KX G Mi.jA (by kernel_rfl) (by kernel_rfl) (by kernel_rfl) (by kernel_rfl))
   (Mi.aE 57 (.str "layworld.threes" 229) (.ref 56) (x:="three_at") (st:=Mi.ah 10) (df:=Mi.b8) KX G Mi.qO (by kernel_rfl) (by kernel_rfl) (by kernel_rfl) (by kernel_rfl))
   (Mi.aE 64 (.str "layworld.threes" 229) (.ref 63) (x:="first_bar") (st:=Mi.ah 11) (df:=Mi.bH) KX G Mi.oU (by kernel_rfl) (by kernel_rfl) (by kernel_rfl) (by kernel_rfl))
   (Mi.aE 69 (.str "layworld.fillings" 264) (.ref 68) (x:="fillings") (st:=Mi.ah 13) (df:=Mi.b9) KX G Mi.qP (by kernel_rfl) (by kernel_rfl) (by kernel_rfl) (by kernel_rfl))
   (Mi.aE 76 (.str "layworld.fillings" 264) (.ref 75) (x:="barred_by") (st:=Mi.ah 14) (df:=Mi.bI) KX G Mi.oV (by kernel_rfl) (by kernel_rfl) (by kernel_rfl) (by kernel_rfl))
   (Mi.aE 81 (.str "layworld.fillings" 264) (.ref 80) (x:="all_bars") (st:=Mi.ah 15) (df:=Mi.cb) KX G Mi.qQ (by kernel_rfl) (by kernel_rfl) (by kernel_rfl) (by kernel_rfl))
   (Mi.aE 88 (.str "layworld.fillings" 264) (.ref 87) (x:="with_both") (st:=Mi.ah 16) (df:=Mi.bJ) KX G Mi.oW (by kernel_rfl) (by kernel_rfl) (by kernel_rfl) (by kernel_rfl))
   (Mi.aE 93 (.str "layworld.fillings" 264) (.ref 92) (x:="same_bar") (st:=Mi.ah 17) (df:=Mi.ce) KX G Mi.qR (by kernel_rfl) (by kernel_rfl) (by kernel_rfl) (by kernel_rfl))
   (Mi.aE 100 (.str "law_layworld_k25_point_by_point" 305) (.ref 99) (x:="_law_flow") (st:=Mi.ah 19) (df:=Mi.bK) KX G Mi.oX (by kernel_rfl) (by kernel_rfl) (by kernel_rfl) (by kernel_rfl))
   (Mi.aE 107 (.str "law_layworld_k25_point_by_point" 305) (.ref 106) (x:="_law_pick") (st:=Mi.ah 20) (df:=Mi.bL) KX G Mi.oY (by kernel_rfl) (by kernel_rfl) (by kernel_rfl) (by kernel_rfl))
   (Mi.aE 114 (.str "law_layworld_k25_point_by_point" 305) (.ref 113) (x:="_law_shuffled") (st:=Mi.ah 21) (df:=Mi.aS) KX G Mi.jB (by kernel_rfl) (by kernel_rfl) (by kernel_rfl) (by kernel_rfl))
   (Mi.aE 119 (.str "law_layworld_k25_point_by_point" 305) (.ref 118) (x:="_law_names") (st:=Mi.ah 22) (df:=Mi.bv) KX G Mi.ma (by kernel_rfl) (by kernel_rfl) (by kernel_rfl) (by kernel_rfl))
   (Mi.aE 126 (.str "law_layworld_k25_point_by_point" 305) (.ref 125) (x:="_law_between") (st:=Mi.ah 23) (df:=Mi.aY) KX G Mi.jZ (by kernel_rfl) (by kernel_rfl) (by kernel_rfl) (by kernel_rfl))
   (Mi.aE 131 (.str "law_layworld_k25_point_by_point" 305) (.ref 130) (x:="_law_part") (st:=Mi.ah 24) (df:=Mi.bM) KX G Mi.oZ (by kernel_rfl) (by kernel_rfl) (by kernel_rfl) (by kernel_rfl))
   (Mi.aE 138 (.str "law_layworld_k25_point_by_point" 305) (.ref 137) (x:="_law_turns") (st:=Mi.ah 25) (df:=Mi.bw) KX G Mi.md (by kernel_rfl) (by kernel_rfl) (by kernel_rfl) (by kernel_rfl))
   (Mi.aE 143 (.str "law_layworld_k25_point_by_point" 305) (.ref 142) (x:="_law_figure") (st:=Mi.ah 26) (df:=Mi.bg) KX G Mi.lB (by kernel_rfl) (by kernel_rfl) (by kernel_rfl) (by kernel_rfl))
   (Mi.aE 150 (.str "law_layworld_k25_point_by_point" 305) (.ref 149) (x:="_law_bad") (st:=Mi.ah 27) (df:=Mi.cf) KX G Mi.qS (by kernel_rfl) (by kernel_rfl) (by kernel_rfl) (by kernel_rfl))
   (Mi.aE 157 (.str "law_layworld_k25_point_by_point" 305) (.ref 156) (x:="_law_last_may") (st:=Mi.ah 28) (df:=Mi.aT) KX G Mi.jC (by kernel_rfl) (by kernel_rfl) (by kernel_rfl) (by kernel_rfl))
   (Mi.aE 164 (.str "law_layworld_k25_point_by_point" 305) (.ref 163) (x:="_law_backs") (st:=Mi.ah 29) (df:=Mi.bx) KX G Mi.mf (by kernel_rfl) (by kernel_rfl) (by kernel_rfl) (by kernel_rfl))
   (Mi.aE 169 (.str "law_layworld_k25_point_by_point" 305) (.ref 168) (x:="_law_rule_of") (st:=Mi.ah 30) (df:=Mi.aZ) KX G Mi.j3 (by kernel_rfl) (by kernel_rfl) (by kernel_rfl) (by kernel_rfl))
   (Mi.aE 174 (.str "law_layworld_k25_point_by_point" 305) (.ref 173) (x:="_law_free_three") (st:=Mi.ah 31) (df:=Mi.aI) KX G Mi.ie (by kernel_rfl) (by kernel_rfl) (by kernel_rfl) (by kernel_rfl))
   (Mi.aE 181 (.str "law_layworld_k25_point_by_point" 305) (.ref 180) (x:="_law_sizes") (st:=Mi.ah 32) (df:=Mi.bz) KX G Mi.mh (by kernel_rfl) (by kernel_rfl) (by kernel_rfl) (by kernel_rfl))
   (Mi.aE 188 (.str "law_layworld_k25_point_by_point" 305) (.ref 187) (x:="_law_any_rule") (st:=Mi.ah 33) (df:=Mi.aU) KX G Mi.jD (by kernel_rfl) (by kernel_rfl) (by kernel_rfl) (by kernel_rfl))
   (Mi.aE 195 (.str "law_layworld_k25_point_by_point" 305) (.ref 194) (x:="_law_laying_kind") (st:=Mi.ah 34) (df:=Mi.aF) KX G Mi.gJ (by kernel_rfl) (by kernel_rfl) (by kernel_rfl) (by kernel_rfl))
   (Mi.aE 202 (.str "law_layworld_k25_point_by_point" 305) (.ref 201) (x:="_law_breaks") (st:=Mi.ah 35) (df:=Mi.bh) KX G Mi.lC (by kernel_rfl) (by kernel_rfl) (by kernel_rfl) (by kernel_rfl))
   (Mi.aE 207 (.str "law_layworld_k25_point_by_point" 305) (.ref 206) (x:="_law_numbered") (st:=Mi.ah 36) (df:=Mi.aV) KX G Mi.jE (by kernel_rfl) (by kernel_rfl) (by kernel_rfl) (by kernel_rfl))
   (Mi.aE 214 (.str "law_layworld_k25_point_by_point" 305) (.ref 213) (x:="_law_laying_rule") (st:=Mi.ah 37) (df:=Mi.aG) KX G Mi.gK (by kernel_rfl) (by kernel_rfl) (by kernel_rfl) (by kernel_rfl))
   (Mi.aE 219 (.str "law_layworld_k25_point_by_point" 305) (.ref 218) (x:="_law_rising") (st:=Mi.ah 38) (df:=Mi.bj) KX G Mi.lD (by kernel_rfl) (by kernel_rfl) (by kernel_rfl) (by kernel_rfl))
   (Mi.aE 224 (.str "law_layworld_k25_point_by_point" 305) (.ref 223) (x:="_law_free_rule") (st:=Mi.ah 39) (df:=Mi.aM) KX G Mi.iS (by kernel_rfl) (by kernel_rfl) (by kernel_rfl) (by kernel_rfl))
   (Mi.aE 229 (.str "law_layworld_k25_point_by_point" 305) (.ref 228) (x:="_law_one_way_rule") (st:=Mi.ah 40) (df:=Mi.aB) KX G Mi.gp (by kernel_rfl) (by kernel_rfl) (by kernel_rfl) (by kernel_rfl))
   (Mi.aE 234 (.str "law_layworld_k25_point_by_point" 305) (.ref 233) (x:="_law_unlaying_rule") (st:=Mi.ah 41) (df:=Mi.aw) KX G Mi.fQ (by kernel_rfl) (by kernel_rfl) (by kernel_rfl) (by kernel_rfl))
   (Mi.aE 241 (.str "law_layworld_k25_point_by_point" 305) (.ref 240) (x:="_law_new_ways") (st:=Mi.ah 42) (df:=Mi.aW) KX G Mi.jF (by kernel_rfl) (by kernel_rfl) (by kernel_rfl) (by kernel_rfl))
   (Mi.aE 248 (.str "law_layworld_k25_point_by_point" 305) (.ref 247) (x:="_law_world") (st:=Mi.ah 43) (df:=Mi.bA) KX G Mi.mj (by kernel_rfl) (by kernel_rfl) (by kernel_rfl) (by kernel_rfl))
   (Mi.aE 255 (.str "law_layworld_k25_point_by_point" 305) (.ref 254) (x:="_law_some_rule") (st:=Mi.ah 44) (df:=Mi.aN) KX G Mi.iT (by kernel_rfl) (by kernel_rfl) (by kernel_rfl) (by kernel_rfl))
   (Mi.aE 262 (.str "law_layworld_k25_point_by_point" 305) (.ref 261) (x:="_law_new_point") (st:=Mi.ah 45) (df:=Mi.aO) KX G Mi.iU (by kernel_rfl) (by kernel_rfl) (by kernel_rfl) (by kernel_rfl))
   (Mi.aE 269 (.str "law_layworld_k25_point_by_point" 305) (.ref 268) (x:="_law_near") (st:=Mi.ah 46) (df:=Mi.bN) KX G Mi.o4 (by kernel_rfl) (by kernel_rfl) (by kernel_rfl) (by kernel_rfl))
   (Mi.aE 276 (.str "law_layworld_k25_point_by_point" 305) (.ref 275) (x:="_law_pair") (st:=Mi.ah 47) (df:=Mi.bO) KX G Mi.o5 (by kernel_rfl) (by kernel_rfl) (by kernel_rfl) (by kernel_rfl))
   (Mi.aE 281 (.str "law_layworld_k25_point_by_point" 305) (.ref 280) (x:="_law_over") (st:=Mi.ah 48) (df:=Mi.bP) KX G Mi.o7 (by kernel_rfl) (by kernel_rfl) (by kernel_rfl) (by kernel_rfl))
   (Mi.aE 286 (.str "law_layworld_k25_point_by_point" 305) (.ref 285) (x:="_law_part_right") (st:=Mi.ah 49) (df:=Mi.aJ) KX G Mi.ig (by kernel_rfl) (by kernel_rfl) (by kernel_rfl) (by kernel_rfl))
   (f:=291) (oc:=.type "function") (od:=td) (an:=td) (osl:=#[]) (kV:=.none) (doc:=.none) (pm:=(.str "law_layworld_k25_point_by_point" 305)) (cdv:=(.ref 290)) (ct:=.none) (by kernel_rfl) (by kernel_rfl) (by kernel_rfl) (by kernel_rfl)
