import PyProof.Rows.All
import Wide.All
import OpenK.AllK
import Wide.FinOn
import Lean
import PyProof.EqAt
import PyProof.EqKinds
import PyProof.TupleCall
import PyProof.ExcClass
import PySem.Challenge.RW_layworld_k02_each_thing_amiss_in_rules
import PyProof.StationsW
import PyProof.ExcClass3
import PyProof.ExcBaseAll.ValueError
import PyProof.ExcArgsOwn
import PyProof.ExcAttrAll.ValueError
import OpenK.KOwn
import KE.KIsNot
import PyProof.IsiTuple
import PyProof.RulesDel
import KE.KDictList
import PyProof.SetKind
import PyProof.IsRules
import KE.KSortTup
import PyProof.CallStr
import PyProof.Cells
import PyProof.ZipIter
import PyProof.Draws
import PyProof.EnumMake
import PyProof.WalksEnum
noncomputable section
open Option renaming some->aB,none->ba
set_option hygiene false
local macro_rules|`(abbrev $i:declId $s:optDeclSig $v:declVal)=>`(noncomputable def $i:declId $s:optDeclSig $v:declVal)|`(def $i:declId $b* :$t $v:declVal)=>`(theorem $i:declId $b* :$t $v:declVal)|`(tactic|omega)=>`(tactic|first|lia|omega (config:={}))|`(tactic|show $e:term)=>`(tactic|refine $e:term)|`(↥$x)=>`(($x).length)|`(⇑$x)=>`(($x).size)|`(tactic|delta $x*)=>`(tactic|dsimp only[$[$x:ident],*])|`(tactic|revert $x*)=>`(tactic|simp only[$[$x:term],*])|`(tactic|left)=>`(tactic|dsimp only[wS,wE,wA,wV,wG,List.set])|`(tactic|nofun)=>`(tactic|refine bz λK hK=>?_)
local macro_rules|`(#v[])=>`((by decide))|`(#v[$x:term])=>`(.cons $x .nil)|`(#v[$x:term,$y:term,*])=>`(.cons $x #v[$y,*])
local macro_rules|`(#[$x:term])=>`(⟨$x⟩)|`(#[$x:term,$y:term,*])=>`(⟨$x,$y,*⟩)
local macro_rules|`(∅)=>`((by omega))
open _root_ renaming List->Nb,Option->Nf,Nat->Np,Bool->ND,Int->NI,if_pos->NK,decide_eq_true_eq->NZ,if_neg->N1,of_decide_eq_true->N3,decide_eq_true->N4,decide_eq_false->N5,Array->N9,False->Oo,beq_self_eq_true->Ot,String->OV,or_false->Pk,beq_iff_eq->Pu,beq_eq_false_iff_ne->PP,of_decide_eq_false->P9,if_true->Qv,DecidableEq->QG,if_false->QX,decide_eq_false_iff_not->SC,bne_self_eq_false->UO,not_or->U6,beq_false_of_ne->VC,Unit->VE,True->Wl,dif_pos->W6
open PySem renaming wpAny_bind->Nc,Value->Nd,Shared->Nh,Addr->Nl,wpAny_pure->Nm,Str->Nu,Expr->NF,Program->NM,World->NU,Around->NY,Heap->N6,wpAny_mono->Ou,wpAny_holding->Ov,wpAny_callSpecial?_slot->Ow,wpAny_newObj_type->Oy,Spec->OB,Stmt->OE,sizeLine_eq->OF,FuncData->OG,wpAny_field->OH,wpAny_call_entry->OO,codeAny_builtin->OP,Obj->OQ,wpAny_truthy_bool->OZ,NameKind->O0,ClassData->O8,wpAny_Call_Name_kw->Pc,wpAny_seqItems->Pl,Pos->Pp,codeAny_mono->Py,wpAny_typeNameOfWhole_keyiter->PC,DictEntry->PF,Scope->PX,wpAny_attempt->PZ,plainId_quiet->P0,wpAny_passesOwn->Qa,codeAny_call_builtin->Qf,wpAny_typeNameOf_keyiter->Qg,mem_of_lookup->Qi,wpAny_setField->Qn,wpAny_call->Qu,wpAny_setField_rec->Qx,wpAny_standAt->Qy,strKind->Qz,Builtin->QD,wpAny_loadPart_at->QE,wpAny_pyIter_list->QF,wpAny_letGo->QM,wpAny_rule->Q8,SetTable->Ri,wpAny_dictEntries->Rj,Params->Rs,wpAny_isInstance->Rt,wpAny_execs_nil->RB,wpAny_loadPart'->RC,codeAny_of_tree->RE,wpAny_typeOf->RQ,PassesOwn->RW,Env->RX,GenState->RY,IsPart->R0,wpAny_runValue->R5,wpAny_tryCatch->R7,Model->Si,wpAny_of_eq->Sj,wpAny_comprehension_free->Sv,wpAny_pyHash_str->Sy,noFill_tuple_add->Sz,Result->SG,call_meets->SI,ItemsOf->SN,IsPair->SQ,wpAny_dictEpoch->SV,wpAny_updateSeq->SW,pushCells_keeps->SZ,wpAny_isOneOf_keyiter->Tc,Paired->Th,wpAny_loadPart->Ti,isSubtype_stop->Tl,wpAny_pyIter_keyiter->Tn,wpAny_newTuple->Tq,wpAny_updateSeq_pair->Ts,BindsTo->TD,wpAny_isSubtype_exc->TM,rangeSize_one->TU,seq_tuple_add->TV,wpAny_onRaise->T4,wpAny_newList->T5,wpAny_load->Ud,wpAny_pyIter_tuple->Uj,wpAny_pyIter_ascii->Uk,wpAny_assign_Name->Ut,Operator->Uu,CmpOp->Uv,Keyword->Uy,concat_meets->Uz,wpAny_sequenceKey->UA,seqIndex_neg->UB,list_append->UD,ExcBaseFacts->UG,wpAny_pyIter_enum->UQ,wpAny_pyHash_int->UT,wpAny_execs_cons->UU,wpAny_lookBehind->UZ,pastItsLine_dict->U0,isinstance_outer->U3,wpAny_forIn_list->U5,wpAny_pyIter_zip->Vc,seqIndex_of->Vm,wpAny_mkInt->Vn,call_isinstance->Vs,wpAny_Name->VF,typeIs_int->VJ,call->VM,arm_exec_Raise->VN,wpAny_is_plain->VO,wpAny_fieldsOf->VS,BoolOp->VT,callType_newIn->VU,Sem->VZ,intBits_le_64->V3,call_list_seq->V5,ExceptHandler->V8,wpAny_handled->Wc,small_one->Wg,Arguments->Wh,wpAny_nsSet1->Ws,wpAny_mkText->Wt,Drawn->Wy,IsRangeIter->Wz,wpAny_point->WF,wpAny_alloc->WG,wpAny_throw->WH,IsZip->WI,Tok->WL,IsEnum->W0,OwnTail->W3,IsRange->W7,Flow->Xa,Walks->Xl
open PySem.Heap renaming get?_push_of_some->Ng,get?_push_size->Nx,lt_size->Nz,get?_update_other->N8,get?_update_self->OJ,size_push->O9,get?_update_ne->PQ,SameBut->PR,ExtBut->Tk,get?_push_at->UI,size_update->U9
open List renaming length_map->Ni,zipWith->Nn,length_append->Nq,getElem?_eq_getElem->Nt,set->Nv,getElem?_map->Nw,getElem?_eq_some_iff->NA,all_eq_true->NB,size_toArray->NC,mem_cons->NE,mem_append_right->NG,mem_cons_self->NH,mem_cons_of_mem->NL,mem_map->NN,mem_of_getElem?->NT,mem_singleton->NX,range->N2,getElem_mem->N7,getD_eq_getElem?_getD->Oa,mem_append_left->Ob,not_mem_nil->Oc,getElem?_append_left->Od,length_cons->Og,mem_range->Oh,map_append->Oj,map_cons->Ol,lookup_cons->Om,mem_append->Op,length_take->Os,replicate->Ox,length_range->Oz,all_cons->OA,append_nil->ON,mem_filter->OS,getElem?_eq_none_iff->OX,map_map->O2,length_zipWith->O3,map_congr_left->O4,append_assoc->O5,take_add_one->O7,mem_of_mem_take->Pg,getElem?_set_self->Ph,take_of_length_le->Pj,length_filter_le->Pr,any_cons->Pz,mem_of_mem_drop->PD,nodup_append->PH,getElem?_set->PJ,nodup_cons->PM,idxOf_lt_length_of_mem->PV,length_drop->P2,take_length->P5,zip_cons_cons->P8,length_set->Qb,length_nil->Qc,getElem?_set_ne->Qe,filterMap_cons->Qh,getElem?_range->Qk,getElem_inj->Ql,ext_getElem->Qp,take_append_of_le_length->Qs,eq_nil_of_length_eq_zero->Qt,take_append_drop->QC,lookup->QH,getElem?_append_right->QI,nodup_iff_pairwise_ne->QN,pairwise_iff_getElem->QS,exists_mem_of_ne_nil->QT,map_take->Q1,of_mem_zip->Q5,findIdx?_eq_some_iff_getElem->Rf,pairwise_map->Rk,getElem_cons_drop->Rl,length_singleton->Rn,getElem?_zipWith->Rp,mem_iff_getElem?->Rq,getElem_map->Ru,mem_flatMap->Rv,map_zipWith->Rw,mem_iff_getElem->Rz,length_dropLast->RA,foldl_cons->RD,forIn_cons->RH,length_zip->RM,replicate_succ->RN,filterMap_map->R1,contains_cons->R3,mem_eraseDups->R9,filter_append->Sc,ne_nil_of_mem->Sd,getElem_idxOf->Se,getElem_take->Sk,map_id->Sl,getElem?_take_of_lt->So,length_eq_zero_iff->SE,range_succ_eq_map->SJ,drop_of_length_le->SS,getElem?_eq_none->Td,forIn_nil->Tj,nodup_nil->Tr,dropLast_concat->Tu,getLastD_concat->Tv,forall_mem_cons->Tx,length_pos_iff->TR,map_drop->T8,mem_filterMap->Ue,length_zipIdx->Ul,getElem?_drop->Uo,getElem_range->Uq,flatten_cons->UC,all_map->UK,zip_nil_left->UL,map_set->UR,any_toArray->U7,map_snd_zip->U8,nodup_range->Va,any_eq_true->Vb,isEmpty_iff->Vd,cons_append->Vg,perm_middle->Vh,zipWith_map->Vi,map_fst_zip->Vk,length->Vl,nil_append->Vr,foldr_cons->Vv,find?_some->Vw,drop_left'->Vz,range_succ->VA,drop_zero->VX,zip->VY,map->WJ,foldl->WY
open Bool renaming and_eq_true->Nj,false_ne_true->Oe,and_false->OT,eq_false_iff->OU,or_eq_true->Pa,false_eq_true->Pw,true_and->P1,false_and->Qm,or_eq_false_iff->QL,false_or->Sq,noConfusion->SA,and_eq_false_iff->Ta,and_eq_true_iff->Tz,not_true->T0,or_true->UH,eq_iff_iff->VB,and_true->Wb
open Option renaming map_eq_some_iff->Nk,isSome_iff_exists->Oq,map_some->OD,bind_some->Pe,isNone->T6,getD_none->UW,getD_some->U4,toList->We,map->W1
open Nat renaming le_of_ble_eq_true->No,le_refl->Ny,ne_of_lt->NJ,le_trans->NO,lt_of_lt_of_le->NS,ne_of_gt->On,lt_irrefl->OL,zero_le->OW,le_succ->O6,le_of_lt->Px,lt_succ_of_lt->PK,lt_succ_self->P3,le_add_right->P4,not_lt->QK,lt_of_le_of_lt->Q9,lt_of_succ_lt_succ->SL,ble_eq_true_of_le->Tf,mul_le_mul_right->Tt,lt_or_gt_of_ne->Ui,lt_trans->UF,min_eq_right->Vf,not_lt_zero->Vu,min_eq_left->Vy,add_assoc->Wa,succ_mul->Wo,min_self->Wu,sub_zero->Wv,lt_or_ge->Ww,succ_pos->Wx,ble->Xr
open PySem.W renaming Frag->Nr,look_both->Of,keepIn->OI,fnOf->O1,nsIn->Pb,codeIn->P6,kia_one->Qd,kas_sort->Qq,findIn->Qr,mg_of->Q4,callWith_K->Q6,cellsFrom_some->SH,OpenLaw->SU,kat_nil->SY,KdlSrc->To,callWith_K0->TH,subIn->T7,lookIn->VG,WalkO->V6,recOk->V7,xlAt->Wq
open Array renaming length_toList->NP,getElem?_eq_some_iff->Oi,getElem?_toList->OR,getElem?_eq_getElem->QR,getElem?_setIfInBounds_ne->Rm,perm_iff_toList_perm->R8,getElem?_eq_none->SM,getD->SO,append_assoc->Ub,forIn_toList->Uh,all_toList->Vj,toList->Wm
open Int renaming toNat_natCast->NQ,natCast_nonneg->NW,emod_lt_of_pos->Ra,emod_nonneg->RJ,zero_add->SR,toNat_of_nonneg->TN,ediv_nonneg->Vx,ofNat_lt->Wn
open PySem.Value renaming ref->NR,none->OM,bool->OY,builtin->PB,type->PL,str->Rb,int->Sw
open Option.some renaming injEq->NV,inj->OC
open PySem.Builtin.Range renaming rangeSize->Pd,small->RO
open PySem.Around renaming under_plainId->Pf,under->Uw
open PySem.Obj renaming mapSeq->Pi,mapFields->PY,data_mapFields->P7,isFreed_of_fields->Ro,cls_mapFields->UM
open ForInStep renaming yield->Pn
open PyProof.Rows renaming slot_tuple_getitem->Po,callWith_type1->PU,subscriptTail_builtinR->Rh,AllBare->RP,listUpdate_at->Sr,get?_update_seq->SX,SortKind->Tp,entry_tuple_getitem->TJ,lt_int->TQ,args_tuple_getitem->Uf,IsTup->Us,listItems_at->UN,callWith_builtin1->UV,seqEpoch_at->Vo,IntsAre->VD,slicePart_none->VH,tupleItemsOf_->V4,StrsAre->W5
open PySem.Heap.SameBut renaming update->Qj,refl->UJ
open PySem.SetTable renaming grown->Qo,fits_plain_off->Wj,orStandIn->WZ,relaid->Xg,laid->Xo
open PySem.Str renaming ofString->Qw,length->WV,join->Xm
open PySem.NameKind renaming cell->QA,free->QZ
open PySem.Builtin.Tuple renaming tupleItemsOf->QJ,tupleHashOf->Sf,tupleExact->Su,tupleCompareSizes->US,tupleIsExact->VP
open PySem.Builtin.Slice renaming sliceAdjust->QP,slicePlaces->QQ,slicePartIndex->Vp,sliceApplied->VI
open PySem.Builtin.SmallTypes renaming ownedTupleHandOut->QU
open PySem.F renaming args_tuple_add_2->QV,entry_tuple_add->Re,slot_tuple_add->Rg,excBase_ValueError->R4,plainAttrs_list->SD
open PySem.Builtin.List renaming listTooLong->QY,listExtendWith->RV,listFitsIndex->VL
open PySem.Code renaming quiet_builtin->Q7,isFrame->Ux,frames->WA
open PySem.Builtin.Str renaming occurrences->Rc,tooLong->V0,glued->W9
open PySem.SeqAt renaming EqAt->Rr,notIn_listAt->Ug,in_tupleAt->UX,in_listAt->Vq
open PySem.Challenge renaming pw_layworld_k02_each_thing_amiss_in_rules->Rx,rw_layworld_k02_each_thing_amiss_in_rules->Ry
open PySem.PassesOwn renaming never->RI,leaving->W8
open PySem.Builtin.Builtins renaming bindParams->RS
open PySem.Calls renaming Name_function_global->RZ,call_function_entry->Sh,Constant_str->Uc
open True renaming intro->R6
open Classical renaming byContradiction->Sg,propDecidable->Wk
open PySem.Paired renaming length->Sn
open PySem.Builtin.Dict renaming showsAll->Tb
open Sum renaming inl->TB,inr->TC
open PySem.Expr renaming Name->TF
open PySem.EntryCells renaming newEntry->TK
open PySem.W.Fast renaming te14082659384304107361->TY,te14364793385576792824->TZ
open PySem.SeqAt.EqAt renaming int_str->T9,str_int->Ua,none_bool->WB,bool_none->WC,bool_bool->WD,none_int->WM,none_str->WN,bool_int->WO,bool_str->WP,int_none->WQ,int_bool->WR,str_none->WS,str_bool->WT,int_int->WW,str_str->WX,same->Xf
open PySem.ScopeKind renaming function->Um
open PySem.AutoListH renaming list___mul___list_int_3->Ur
open PySem.AutoSeq1 renaming list_extend_list_list_0->UE,sub_tuple_tuple->V9
open Function renaming comp_def->UP
open PySem.IsL renaming update->UY
open PySem.Builtin.Frozenset renaming updateFrom->Vt,newClass->VQ
open PySem.Walks renaming list->VR
open PySem.Env renaming kindOf->VW
open Prod.mk renaming injEq->Wf
open PyProof.Rows.IsTup renaming new->Wi
open PySem.Within renaming cons->WE
open Prod renaming fst->WK,ext->Xi
open PySem.Heap.IsSliceOf renaming new->WU
open List.Pairwise renaming nil->W2
open PySem.Heap.Ns1 renaming of_empty->W4
open PySem.DictEntry renaming refKey->Xb
open PySem.W.Looks renaming ld->Xd
open PySem.W.XL renaming keeps->Xe
open List.cons renaming injEq->Xh
open Or renaming inr->Xj
open PySem.Txt renaming join->Xk,mul->Xq
open PySem.Value.ref renaming inj->Xn
open List.Perm renaming map->Xp
set_option genSizeOf false
namespace ZZ.Lean
noncomputable section
set_option Elab.async false
set_option linter.all false
set_option maxRecDepth 100000
noncomputable abbrev wh{α}(p w A):=@PySem.wpAny α (PySem.model p w) A
namespace L2
open PySem PySem.Spec PyProof.Rows
noncomputable abbrev rQ:=Sum NI Nu
abbrev Ey:rQ->Nd->ND
 |.inl k,v=>Value.isInt k v
 |.inr x,v=>Value.isStrOf x v
abbrev K5 (w:NU):rQ->NI
 |.inl k=>hashInt k
 |.inr x=>hashStr w x
def br:∀{k:rQ}{v:Nd},Ey k v=true->(∃i t,k=TB i/\v=Sw i t)\/(∃x t,k=TC x/\v=Rb x t)
 |.inl i,v,h=>by
  obtain⟨t,e⟩:=Value.isInt_shape   h;show .inl #[i,t,rfl,e]
 |.inr x,v,h=>by
  obtain⟨t,e⟩:=Value.isStrOf_shape   h;show .inr #[x,t,rfl,e]
def Fk (a b:NI):decide ((TB a:rQ)=TB b)=(a==b):=by
 by_cases e:a=b
 ·subst e;simp
 ·have h:¬ (TB a:rQ)=TB b:=λq=>e (Sum.inl.inj q)
  rw[N5 h];show(PP.mpr e).symm
def Fn (a b:Nu):decide ((TC a:rQ)=TC b)=decide (a=b):=by
 by_cases e:a=b
 ·simp
 ·have h:¬ (TC a:rQ)=TC b:=λq=>e (Sum.inr.inj q)
  rw[N5 h,N5 e]
def Fo (a:NI)(b:Nu):decide ((TB a)=TC b)=false:=N5 (λq=>nomatch q)
def Fp (a:Nu)(b:NI):decide ((TC a)=TB b)=false:=N5 (λq=>nomatch q)
abbrev uc (prog:NM)(w:NU):PySem.KeyKind prog w rQ where
 is:=Ey
 hash:=K5 w
 inj:=λv a b f d=>by
  rcases br f with⟨i,t,rfl,rfl⟩|⟨x,t,rfl,rfl⟩
  ·rcases br d with⟨j,u,rfl,e⟩|⟨y,u,rfl,e⟩
   ·injection e with e1 _;rw[e1]
   ·show nomatch e
  ·rcases br d with⟨j,u,rfl,e⟩|⟨y,u,rfl,e⟩
   ·show nomatch e
   ·injection e with e1 _;rw[e1]
 byValue:=λk v h=>by
  rcases br h with⟨i,t,rfl,rfl⟩|⟨x,t,rfl,rfl⟩<;>rfl
 pyHash:=λc h=>by
  rcases br c with⟨i,t,rfl,rfl⟩|⟨x,t,rfl,rfl⟩
  ·show UT h
  ·show Sy h
 eqBool:=λg c h=>by
  rcases br g with⟨i,t,rfl,rfl⟩|⟨x,t,rfl,rfl⟩
  ·rcases br c with⟨j,u,rfl,rfl⟩|⟨y,u,rfl,rfl⟩
   ·rw[Fk]at h;show wpAny_eqBool_int h
   ·rw[Fo]at h;show T9 i t y u _ _ _ _ h
  ·rcases br c with⟨j,u,rfl,rfl⟩|⟨y,u,rfl,rfl⟩
   ·rw[Fp]at h;show Ua x t j u _ _ _ _ h
   ·rw[Fn]at h;show wpAny_eqBool_str h
 «strs»:=λk x t v h=>by
  rcases br h with⟨i,u,rfl,e⟩|⟨y,u,rfl,e⟩
  ·show nomatch e
  ·injection e with e1 _
   subst e1;cases v<;>rfl
inductive V where
 |non|bl (b:ND)|int (i:NI)|str (x:Nu)|byt (b:N9 UInt8)|flt (b:UInt64)|ref (a:Nl)|ty (n:OV)
 deriving QG
abbrev RelV:V->Nd->Prop
 |.non,u=>u=OM
 |.bl b,u=>u=OY b
 |.int i,u=>∃t,u=Sw i t
 |.str x,u=>∃t,u=Rb x t
 |.byt b,u=>∃t,u=Value.bytes b t
 |.flt b,u=>∃t,u=Value.float b t
 |.ref a,u=>u=NR a
 |.ty n,u=>u=PL n
noncomputable abbrev Vals:Nb V->Nb Nd->Prop:=Th RelV
def Vals.length (r:Vals xs us):↥xs=↥us:=Sn r
def Vals.get:∀{xs:Nb V}{us:Nb Nd}{i:Np}{x:V},Vals xs us->xs[i]?=aB x->∃u,us[i]?=aB u/\RelV x u
 |_,_,_,_,.nil,e=>by simp at e
 |_,_,0,_,.cons r _,e=>by simp at e;subst e;show#[_,rfl,r]
 |_,_,i+1,x,.cons _ t,e=>by
  obtain⟨u,a,h2⟩:=Vals.get   t (by simpa using e)
  show#[u,by simpa using a,h2]
def Vals.set (r:RelV x u):∀{xs:Nb V}{us:Nb Nd} i,Vals xs us->Vals (xs.set i x) (us.set i u)
 |_,_,_,.nil=>.nil
 |_,_,0,.cons _ t=>.cons r t
 |_,_,i+1,.cons q t=>.cons q (Vals.set r i t)
def Vals.append:∀{xs a:Nb V}{us ws:Nb Nd},Vals xs us->Vals a ws->Vals (xs++a) (us++ws)
 |_,_,_,_,.nil,s=>s
 |_,_,_,_,.cons r t,s=>.cons r (Vals.append t s)
def Vals.take:∀{xs:Nb V}{us:Nb Nd} n,Vals xs us->Vals (xs.take n) (us.take n)
 |_,_,0,_=>.nil
 |_,_,_+1,.nil=>.nil
 |_,_,n+1,.cons r t=>.cons r (Vals.take n t)
def Vals.drop:∀{xs:Nb V}{us:Nb Nd} n,Vals xs us->Vals (xs.drop n) (us.drop n)
 |_,_,0,r=>r
 |_,_,_+1,.nil=>.nil
 |_,_,n+1,.cons _ t=>Vals.drop n t
abbrev Fq:Nf V->Nf Nd->Prop
 |some v,aB u=>RelV v u
 |none,ba=>Wl
 |_,_=>Oo
abbrev KV {κ:Type}:Nb (κ×V)->Nb (κ×Nd)->Prop:=Th λ(p:κ×V) (q:κ×Nd)=>p.1=q.1/\RelV p.2 q.2
abbrev kV:rQ->V
 |.inl i=>.int i
 |.inr x=>.str x
inductive HO where
 |lst (xs:Nb V)
 |tup (xs:Nb V)
 |dK (U:Nb (rQ×V))
 |own (x:Nl)
 |rng (lo hi:NI)
 |frz (o:OQ) (u:HO)
 |tbl (ps:N9 Nd)
 |ext (φ:N6->Prop)
noncomputable abbrev Hp:=Nl->Nf HO
abbrev aT (H:Hp)(a:Nl)(o:HO):Hp:=λb=>if b=a then aB o else H b
def aA :aT H a o a=aB o:=by unfold aT;rw[NK rfl]
def ar (h:b≠a):aT H a o b=H b:=by unfold aT;rw[N1 h]
def BI :aT (aT H a o) a u=aT H a u:=by
 funext b;unfold aT;split<;>rfl
def du {H:Hp}(h:H a=aB o)(h':H b=ba):a≠b:=by
 intro e;subst e;rw[h]at h';cases h'
section
variable (P:NM) (w:NU)
abbrev NoD (h:N6)(a:Nl):Prop:=∃o,h.get? a=aB o/\o.dict=ba
def NoD.new (h:N6)(its:N9 Nd)(n:Np):NoD (h.push {cls:=.type "tuple",data:=.seq its n}) ⇑h.objs:=#[_,Nx _ rfl,rfl]
noncomputable abbrev xi (x:Array PySem.Value)(n:Nat):PySem.Obj:={cls:=.type "list",data:=.seq x n}
abbrev ObjOk (H:Hp)(h:N6)(a:Nl):HO->Prop
 |.lst xs=>↥xs<=sizeLine/\∃(its:Nb Nd) (n:Np),Vals xs its/\h.get? a=aB (xi its.toArray n)
 |.tup xs=>(↥xs<=sizeLine/\NoD h a)/\∃its:Nb Nd,Vals xs its/\Us h a its.toArray
 |.dK U=>↥U<=sizeLine/\(a==sysModules)=false/\∃vs,KV U vs/\h.DictOf (uc P w) a vs
 |.own _=>∃o,h.get? a=aB o
 |.rng lo hi=>∃t u v,h.get? a=aB {cls:=.type "range",data:=.fields [.int lo t,.int hi u,.int 1 v].toArray}
 |.frz o u=>h.get? a=aB o/\ObjOk H h a u
 |.tbl ps=>h.get? a=aB {cls:=.none,data:=.fields ps}
 |.ext φ=>φ h/\(∃o,h.get? a=aB o)/\∀b h2:N6,φ b->(∀o,b.get? a=aB o->h2.get? a=aB o)->φ h2
abbrev HOk (H:Hp)(h:N6):Prop:=∀a o,H a=aB o->ObjOk P w H h a o
end
section
variable{P:NM}{w:NU}{H H':Hp}{h h':N6}{a:Nl}{o:HO}
def ObjOk.lt (x:ObjOk P w H h a o):a<⇑h.objs:=by
 cases o with
 |lst xs=>obtain⟨_,_,_,_,e⟩:=x;show Nz e
 |tup xs=>obtain⟨_,_,_,p⟩:=x;show p.lt
 |dK U=>obtain⟨_,_,_,_,o,_,_,e,_⟩:=x;show Nz e
 |own y=>obtain⟨_,e⟩:=x;show Nz e
 |rng lo hi=>obtain⟨_,_,_,e⟩:=x;show Nz e
 |frz ob u=>obtain⟨e,_⟩:=x;show Nz e
 |tbl ps=>show Nz x
 |ext φ=>obtain⟨_,⟨_,e⟩,_⟩:=x;show Nz e
def Paired.mapP :∀{l₁:Nb α}{l₂:Nb β},Th F l₁ l₂->(∀a b,F a b->G a b)->Th G l₁ l₂
 |_,_,.nil,_=>.nil
 |_,_,.cons r t,f=>.cons (f _ _ r) (Paired.mapP t f)
def ObjOk.stay (x:ObjOk P w H h a o)(k:∀b u,(b=a\/H b=aB (.own a))->h.get? b=aB u->h'.get? b=aB u)
  (l:∀b,H b=aB (.own a)->H' b=aB (.own a)) (ht:∀b xs,H b=aB (.tup xs)->H' b=aB (.tup xs)):ObjOk P w H' h' a o:=by
 induction o with
 |lst xs=>obtain⟨z,its,n,r,e⟩:=x;show#[z,its,n,r,k _ _ (.inl rfl) e]
 |tup xs=>obtain⟨⟨z,f,g,d⟩,its,r,ob,e,c⟩:=x;show#[#[z,f,k _ _ (.inl rfl) g,d],its,r,ob,k _ _ (.inl rfl) e,c]
 |dK U=>obtain⟨z,y,vs,r,ob,j,i,e,c⟩:=x;show#[z,y,vs,r,ob,j,i,k _ _ (.inl rfl) e,c]
 |own y=>obtain⟨ob,e⟩:=x;show#[ob,k _ _ (.inl rfl) e]
 |rng lo hi=>obtain⟨t,u,v,e⟩:=x;show#[t,u,v,k _ _ (.inl rfl) e]
 |frz ob u ih=>obtain⟨e,q⟩:=x;show#[k _ _ (.inl rfl) e,ih q]
 |tbl ps=>
  have e:h.get? a=aB {cls:=.none,data:=.fields ps}:=x;change h'.get? a=aB {cls:=.none,data:=.fields ps};show k a _ (.inl rfl) e
 |ext φ=>obtain⟨p,⟨o,e⟩,st⟩:=x;show#[st _ _ p λo q=>k _ _ (.inl rfl) q,#[o,k _ _ (.inl rfl) e],st]
def HOk.lt (x:HOk P w H h)(e:H a=aB o):a<⇑h.objs:=(x a o e).lt
def HOk.fresh (x:HOk P w H h)(e:⇑h.objs<=a):H a=ba:=by
 cases q:H a with
 |none=>rfl
 |some u=>show absurd (NS (x.lt q) e) (OL _)
def HOk.kept (x:HOk P w H h)(k:∀b u,h.get? b=aB u->h'.get? b=aB u):HOk P w H h':=λa o e=>
 (x a o e).stay (λb u _ q=>k b u q) (λ_ q=>q) λ_ _ q=>q
def HOk.laid (x:HOk P w H h)(k:∀b u,h.get? b=aB u->h'.get? b=aB u)(g:⇑h.objs<=a)(new:ObjOk P w (aT H a o) h' a o):HOk P w (aT H a o) h':=λb u e=>by
 have f:=x.fresh g
 by_cases d:b=a
 ·subst d;rw[aA]at e;cases e;show new
 ·rw[ar d]at e;show(x b u e).stay (λc v _ q=>k c v q) (λc q=>by rw[ar (du q f)];show q) λc xs q=>by rw[ar (du q f)];show q
end
abbrev Rd (H:Hp)(a:Nl)(u:HO):Prop:=H a=aB u\/∃o,H a=aB (.frz o u)
def Rd.ok (r:Rd H a u)(x:HOk P w H h):ObjOk P w H h a u:=by
 rcases r with r|⟨o,r⟩
 ·show x a u r
 ·obtain⟨_,q⟩:=x a _ r;show q
abbrev IE:Nf HO->Prop
 |some (.lst _)=>Wl
 |some (.dK _)=>Wl
 |some (.ext _)=>Wl
 |_=>Oo
section
variable{P:NM}{w:NU}{H:Hp}{h h':N6}{x e:Nl}{o':HO}
def HOk.write (ok:HOk P w H h)(i:IE (H x))(l:e=x\/H e=aB (.own x))(k:∀b u,b≠e->h.get? b=aB u->h'.get? b=aB u)(j:∃u,h'.get? e=aB u)
  (new:ObjOk P w (aT H x o') h' x o'):HOk P w (aT H x o') h':=λb u q=>by
 have d:∀c y,H c=aB (.own y)->c≠x:=λc y r z=>by subst z;rw[r]at i;show i
 have f:∀c xs,H c=aB (.tup xs)->c≠x:=λc xs r z=>by subst z;rw[r]at i;show i
 by_cases g:b=x
 ·subst g;rw[aA]at q;cases q;show new
 ·rw[ar g]at q
  by_cases a:b=e
  ·have m:H b=aB (.own x):=by
    rcases l with z|z
    ·show absurd (a.trans z) g
    ·rw[a];show z
   rw[q]at m;cases m
   obtain⟨v,n⟩:=j;show#[v,by rw[a];show n]
  ·show(ok b u q).stay (λc v hc r=>k c v ?_ r) (λc r=>by rw[ar (d c b r)];show r) λc xs r=>by rw[ar (f c xs r)];show r
   rcases hc with rfl|hc
   ·show a
   ·rintro rfl;rcases l with z|z
    ·show d c b hc z
    ·rw[hc]at z;cases z;show g rfl
end
structure Un (fs ex:Nb Nl)(H H':Hp)(h h':N6):Prop where
 keep:∀b o,h.get? b=aB o->H b=ba->b∉fs->b∉ex->h'.get? b=aB o
 slot:∀b o,h.get? b=aB o->H b=ba->b∈fs->b∉ex->∃sl,h'.get? b=aB {o with slots:=sl}
 free:∀b o,h.get? b=aB o->H b=ba->b∉ex->H' b=ba
 there:∀b o,h.get? b=aB o->b∉ex->∃o',h'.get? b=aB o'
 tups:∀b xs,H b=aB (.tup xs)->H' b=aB (.tup xs)
 frzs:∀b o u,H b=aB (.frz o u)->H' b=aB (.frz o u)
 tbls:∀b ps,H b=aB (.tbl ps)->∃more,H' b=aB (.tbl (ps++more))
section
variable{fs fs' ex ex':Nb Nl}{H H1 H2:Hp}{h h1 h2 h':N6}{a x e:Nl}{o:HO}
def Un.any (u:Un fs ex H H1 h h1)(q:h.get? b=aB ob)(n:H b=ba)(c:b∉ex):∃d,h1.get? b=aB {ob with slots:=d}:=by
 by_cases a:b∈fs
 ·show u.slot b ob q n a c
 ·show#[ob.slots,u.keep b ob q n a c]
def Un.trans (a:Un fs ex H H1 h h1)(b:Un fs ex H1 H2 h1 h2):Un fs ex H H2 h h2 where
 keep:=λc ob q n hc d=>b.keep c ob (a.keep c ob q n hc d) (a.free c ob q n d) hc d
 slot:=λc ob q n hc d=>by
  obtain⟨k,e⟩:=a.slot c ob q n hc d;obtain⟨g,f⟩:=b.slot c _ e (a.free c ob q n d) hc d;show#[g,f]
 free:=λc ob q n d=>by
  obtain⟨o',e⟩:=a.there c ob q d;show b.free c o' e (a.free c ob q n d) d
 there:=λc ob q d=>by
  obtain⟨o',e⟩:=a.there c ob q d;show b.there c o' e d
 tups:=λc xs q=>b.tups c xs (a.tups c xs q)
 frzs:=λc ob xs q=>b.frzs c ob xs (a.frzs c ob xs q)
 tbls:=λc ps q=>by
  obtain⟨i,e⟩:=a.tbls c ps q;obtain⟨j,f⟩:=b.tbls c _ e;show#[i++j,by rw[f,Ub]]
def Un.kept (k:∀b u,h.get? b=aB u->h'.get? b=aB u):Un fs ex H H h h':=
 #[λb ob q _ _ _=>k b ob q,λb ob q _ _ _=>#[ob.slots,k b ob q],λ_ _ _ n _=>n,λb ob q _=>#[ob,k b ob q],λ_ _ q=>q,λ_ _ _ q=>q,λ_ ps q=>#[#[],by rw[q];rfl]]
def Un.refl:Un fs ex H H h h:=Un.kept λ_ _ q=>q
def Un.laid (k:∀b u,h.get? b=aB u->h'.get? b=aB u)(d:⇑h.objs<=a)(c:H a=ba):Un fs ex H (aT H a o) h h' where
 keep:=λb u q _ _ _=>k b u q
 slot:=λb u q _ _ _=>#[u.slots,k b u q]
 free:=λb u q n _=>by rw[ar (NJ (NS (Nz q) d))];show n
 there:=λb u q _=>#[u,k b u q]
 tups:=λb xs q=>by rw[ar (du q c)];show q
 frzs:=λb u xs q=>by rw[ar (du q c)];show q
 tbls:=λb ps q=>#[#[],by rw[ar (du q c),q];rfl]
def Un.write (c:IE (H x))(j:e=x\/H e=aB (.own x))(k:∀b u,b≠e->h.get? b=aB u->h'.get? b=aB u)(d:∃u,h'.get? e=aB u):Un fs ex H (aT H x o) h h':=by
 have i:∀b,H b=ba->b≠x:=λb n z=>by subst z;rw[n]at c;show c
 have g:∀b,H b=ba->b≠e:=λb n z=>by
  subst z;rcases j with r|r
  ·show i b n r
  ·rw[n]at r;cases r
 have f:∀b u,H b=aB u->¬ IE (aB u)->b≠x:=λb u q nm z=>by subst z;rw[q]at c;show nm c
 show#[λb u q n _ _=>k b u (g b n) q,λb u q n _ _=>#[u.slots,k b u (g b n) q],λb u q n _=>by rw[ar (i b n)];show n,λb u q _=>?_,
  λb xs q=>by rw[ar (f b _ q λz=>z)];show q,λb u xs q=>by rw[ar (f b _ q λz=>z)];show q,λb ps q=>#[#[],by rw[ar (f b _ q λz=>z),q];rfl]]
 by_cases a:b=e
 ·subst a;show d
 ·show#[u,k b u a q]
end
abbrev Mq (h:N6)(H:Hp):Nb Nl:=(N2 ⇑h.objs).filter λa=>(H a).isSome
abbrev nE (h:N6)(H:Hp):N6:=PySem.W.hideAll h (Mq h H)
def vV (h:N6)(H:Hp):(nE h H).objs.size=⇑h.objs:=PySem.W.hideAll_size _ _
def xZ (e:h.get? b=aB o)(n:H b=ba):(nE h H).get? b=aB o:=
 PySem.W.hideAll_get _ e λa=>by
  have q:=(OS.mp a).2;rw[n]at q;simp at q
def BJ (e:(nE h H).get? b=aB o):h.get? b=aB o/\H b=ba:=by
 have a:=PySem.W.of_hideAll _ e;show#[a,?_];cases q:H b with
 |none=>rfl
 |some x=>
  have c:b∈Mq h H:=OS.mpr #[Oh.mpr (Nz a),by simp[q]]
  have z:(nE h H).get? b=ba:=PySem.W.hideAll_none _ c;rw[z]at e;cases e
abbrev BM (g h:N6)(L:Nl):Nb (Nl×OQ):=(N2 ⇑h.objs).filterMap λa=>if a=L\/(g.get? a).isSome=true then ba else(h.get? a).map λo=>(a,o)
abbrev aO (g h:N6)(L d:Nl):Nb (Nl×OQ):=(BM g h L).filter λp=>decide (p.1≠d)
structure Mod (K:Nr)(mg:Nu->Nf Nd)(base:N6):Prop where
 kin:K.In base
 glob:base.Ns mainGlobals mg
 blt:∃mb,base.Ns builtinsNs mb/\∀x:Nu,x≠"__name__"->mb x=bootBuiltins x
 nolimit:base.NoLimit
structure Cx where
 prog:NM
 w:NU
 K:Nr
 mg:Nu->Nf Nd
 base:N6
 A:NY
 N:Nb Nu
 s₀:Nh
 H₀:Hp
 env:RX
 outer:Nb RX
 stack:Nb RX
 ex:Nb Nl
 fn:Nu->ND
 calm:ND
 pn:Nb (Nl×OQ)
 xe:Nd->Nh->Prop
abbrev my (l:Nb RX):Nb Nl:=l.filterMap (·.frame)
noncomputable abbrev Cx.fs (X:Cx):Nb Nl:=my X.outer
abbrev KQ (sc:PX)(x:Nu):Prop:=sc.names.lookup x=aB .local\/sc.names.lookup x=aB .cell\/sc.names.lookup x=aB .free
abbrev x6 (sc:PX)(x:Nu):Prop:=sc.names.lookup x=aB .local\/sc.names.lookup x=aB .cell
abbrev Look (env:RX)(h:N6)(m:Nu->Nf Nd)(x:Nu)(u:Nd):Prop:=
 (env.kindOf x=aB .local/\m x=aB u)\/((env.kindOf x=aB .cell\/env.kindOf x=aB .free)/\∃c,env.cells.lookup x=aB c/\h.IsCell c (aB u))
noncomputable abbrev wi{α}(X:Cx):=@PySem.wpAny α (PySem.model X.prog X.w) X.A
structure Cx.Ok (X:Cx):Prop where
 mod:Mod X.K X.mg X.base
 kind:X.env.scope.kind=.function
 glob:X.env.globals=mainGlobals
 blt:X.env.builtins=builtinsNs
 above:⇑X.s₀.heap.objs<=X.env.locals
 inj:∀x y c,X.env.cells.lookup x=aB c->X.env.cells.lookup y=aB c->x=y
 has:∀x,(X.env.kindOf x=aB .cell\/X.env.kindOf x=aB .free)->∃c,X.env.cells.lookup x=aB c
 cab:∀x c,X.fn x=true->X.env.cells.lookup x=aB c->⇑X.s₀.heap.objs<=c
 hd:X.calm=true->X.A.handled=ba
 frames:X.A.frames=aB X.stack
 stk:X.stack=X.outer\/(X.stack=X.env::X.outer/\X.env.frame=aB X.env.locals)
 exf:∀b∈X.ex,b≠X.env.locals/\∀x c,X.env.cells.lookup x=aB c->c≠b
 bs:∀b o,X.base.get? b=aB o->X.s₀.heap.get? b=aB o/\X.H₀ b=ba
 bsz:⇑X.base.objs<=⇑X.s₀.heap.objs
 noex:∀b o,X.base.get? b=aB o->b∉X.ex
 exfs:∀b∈X.ex,b∉X.fs
 funs:X.s₀.heap.FunFrames X.base X.outer
 frf:∀b∈X.fs,X.H₀ b=ba
structure Inv (X:Cx)(J:Nb (Nl×OQ))(Y:Nb (Nf V))(H:Hp)(s:Nh):Prop where
 ok:X.Ok
 os:s.os=X.s₀.os
 bare:RP s.gens
 base:Un X.fs X.ex X.H₀ H X.s₀.heap s.heap
 loc:∃m,s.heap.Ns X.env.locals m/\∀(i:Np) (x:Nu) (v:V),X.N[i]?=aB x->Y[i]?=aB (aB v)->KQ X.env.scope x->∃u,RelV v u/\Look X.env s.heap m x u
 cell:∀x c,X.env.cells.lookup x=aB c->∃v,s.heap.IsCell c v
 free:H X.env.locals=ba
 freeC:∀x c,X.env.cells.lookup x=aB c->H c=ba
 pin:∀p∈X.pn++J,s.heap.get? p.1=aB p.2/\H p.1=ba/\p.1≠X.env.locals/\p.1∉X.fs/\∀v,p.2.data≠.cell v
 hok:HOk X.prog X.w H s.heap
 len:↥Y=↥X.N
section
variable{X:Cx}{J:Nb (Nl×OQ)}{Y:Nb (Nf V)}{H H':Hp}{s:Nh}{h':N6}
def Cx.Ok.nofr (ok:X.Ok)(e:X.base.get? b=aB o):b∉X.fs:=λa=>by
 have:=(ok.funs.mem a).1;rw[e]at this;cases this
def Inv.bs (I:Inv X J Y H s):∀b o,X.base.get? b=aB o->s.heap.get? b=aB o/\H b=ba:=λb o e=>
 #[I.base.keep b o (I.ok.bs b o e).1 (I.ok.bs b o e).2 (I.ok.nofr e) (I.ok.noex b o e),I.base.free b o (I.ok.bs b o e).1 (I.ok.bs b o e).2 (I.ok.noex b o e)]
def Inv.bk (I:Inv X J Y H s):∀b o,X.base.get? b=aB o->s.heap.get? b=aB o:=λb o e=>(I.bs b o e).1
def Inv.mod (I:Inv X J Y H s):Mod X.K X.mg X.base:=I.ok.mod
def Inv.kIn (I:Inv X J Y H s):X.K.In s.heap:=I.ok.mod.kin.keeps I.bk
def Inv.lt (I:Inv X J Y H s):X.env.locals<⇑s.heap.objs:=let ⟨_,hn,_⟩:=I.loc;hn.lt
def Inv.sz (I:Inv X J Y H s):⇑X.s₀.heap.objs<=⇑s.heap.objs:=NO I.ok.above (Px I.lt)
def Inv.nofs (I:Inv X J Y H s){a:Nl}(h:⇑s.heap.objs<=a):a∉X.fs:=λb=>by
 obtain⟨_,o,c,_⟩:=I.ok.funs.mem b;show absurd (NS (Nz c) (NO I.sz h)) (OL _)
def Inv.cne (I:Inv X J Y H s):∀x c,X.env.cells.lookup x=aB c->c≠X.env.locals:=λx c e z=>by
 obtain⟨v,o,d,hd⟩:=I.cell x c e;obtain⟨m,⟨o',g,f,b,a,_⟩,_⟩:=I.loc;rw[z,b]at d;cases d;rw[a]at hd;cases hd
def Inv.funs (I:Inv X J Y H s):s.heap.FunFrames X.base X.outer:=by
 have all:∀l,(∀b∈my l,b∈X.fs)->X.s₀.heap.FunFrames X.base l->s.heap.FunFrames X.base l:=by
  intro l
  induction l with
  |nil=>intro _ _;trivial
  |cons env r ih=>
   intro f hl;obtain⟨hk,⟨L,o,d,g,h,hd⟩,i⟩:=hl;have a:=f L (by unfold my;rw[Qh,d];show NH)
   obtain⟨j,e⟩:=I.base.slot L o h (I.ok.frf L a) a λz=>I.ok.exfs L z a
   show#[hk,#[L,_,d,g,e,hd],ih (λb c=>f b (by unfold my;rw[Qh,d];show NL _ c)) i]
 show all _ (λ_ c=>c) I.ok.funs
def Inv.stack (I:Inv X J Y H s):s.heap.FunFrames X.base X.stack:=by
 rcases I.ok.stk with e|⟨e,a⟩
 ·rw[e];show I.funs
 ·rw[e];obtain⟨m,b,_⟩:=I.loc;show .cons (by rw[I.ok.kind];decide) a b ?_ I.funs
  show Heap.get?_none_of_le (NO I.ok.bsz I.ok.above)
def Inv.stkSub (I:Inv X J Y H s):∀b∈my X.stack,b∈X.env.locals::X.fs:=λb a=>by
 rcases I.ok.stk with e|⟨e,c⟩
 ·rw[e]at a;show NL _ a
 ·rw[e]at a;unfold my at a;rw[Qh,c]at a;show a
def Inv.stkFree (I:Inv X J Y H s):∀b∈my X.stack,H b=ba:=λb a=>by
 rcases NE.mp (I.stkSub b a)with e|a
 ·rw[e];show I.free
 ·obtain⟨_,o,c,_⟩:=I.ok.funs.mem a;show I.base.free b o c (I.ok.frf b a) λz=>I.ok.exfs b z a
def Inv.step {ch:Nb Nl}(I:Inv X J Y H s)
  (g:∀b∈ch,(b∈X.ex\/⇑X.s₀.heap.objs<=b)/\b≠X.env.locals/\(∀x c,X.env.cells.lookup x=aB c->c≠b)/\∀p∈X.pn++J,p.1≠b)
  (keep:∀b o,b≠X.env.locals->b∉X.fs->b∉ch->s.heap.get? b=aB o->H b=ba->h'.get? b=aB o)
  (slot:∀b o,b≠X.env.locals->b∈X.fs->b∉ch->s.heap.get? b=aB o->H b=ba->∃D,h'.get? b=aB {o with slots:=D}) (free:∀b o,b∉ch->s.heap.get? b=aB o->H b=ba->H' b=ba)
  (there:∀b o,b∉ch->s.heap.get? b=aB o->∃o',h'.get? b=aB o')
  (tups:∀b xs,H b=aB (.tup xs)->H' b=aB (.tup xs)) (frzs:∀b o u,H b=aB (.frz o u)->H' b=aB (.frz o u)) (tbls:∀b ps,H b=aB (.tbl ps)->∃more,H' b=aB (.tbl (ps++more)))
  (ns:∀m,s.heap.Ns X.env.locals m->h'.Ns X.env.locals m) (C:HOk X.prog X.w H' h') (N:RP g') :
  Inv X J Y H' {s with heap:=h',gens:=g',drawn:=d',toks:=t'}:=by
 have B:∀b o,X.s₀.heap.get? b=aB o->b≠X.env.locals:=λb o e=>NJ (NS (Nz e) I.ok.above)
 have t:∀b o,X.s₀.heap.get? b=aB o->b∉X.ex->b∉ch:=λb o e a w=>by
  rcases(g b w).1 with z|z
  ·show a z
  ·show absurd (NS (Nz e) z) (OL _)
 have f:∀x c,X.env.cells.lookup x=aB c->∀v,s.heap.IsCell c v->h'.IsCell c v:=λx c e v #[o,y,hd]=>by
  have h:c∉ch:=λz=>(g c z).2.2.1 x c e rfl
  by_cases hc:c∈X.fs
  ·obtain⟨D,q⟩:=slot c o (I.cne x c e) hc h y (I.freeC x c e);show#[_,q,hd]
  ·show#[o,keep c o (I.cne x c e) hc h y (I.freeC x c e),hd]
 show#[I.ok,I.os,N,#[λb o e n w a=>?_,λb o e n w a=>?_,λb o e n a=>?_,λb o e a=>?_,λb xs e=>tups b xs (I.base.tups b xs e),λb o xs e=>frzs b o xs (I.base.frzs b o xs e),λb ps e=>?_],?_,λx c e=>?_,?_,λx c e=>?_,λp G=>?_,C,I.len]
 ·show keep b o (B b o e) w (t b o e a) (I.base.keep b o e n w a) (I.base.free b o e n a)
 ·obtain⟨D,j⟩:=I.base.slot b o e n w a;obtain⟨E,A⟩:=slot b _ (B b o e) w (t b o e a) j (I.base.free b o e n a);show#[E,A]
 ·obtain⟨o',j⟩:=I.base.there b o e a;show free b o' (t b o e a) j (I.base.free b o e n a)
 ·obtain⟨o',j⟩:=I.base.there b o e a;show there b o' (t b o e a) j
 ·obtain⟨P,j⟩:=I.base.tbls b ps e;obtain⟨Q,A⟩:=tbls b _ j;show#[P++Q,by rw[A,Ub]]
 ·obtain⟨m,O,hl⟩:=I.loc;show#[m,ns m O,λi x v j A M=>?_]
  obtain⟨u,r,l⟩:=hl i x v j A M;show#[u,r,?_];rcases l with l|⟨k,c,e,z⟩
  ·show .inl l
  ·show .inr #[k,c,e,f x c e _ z]
 ·obtain⟨v,z⟩:=I.cell x c e;show#[v,f x c e v z]
 ·obtain⟨m,⟨o,_,_,y,_⟩,_⟩:=I.loc;show free _ o (λz=>(g _ z).2.1 rfl) y I.free
 ·obtain⟨v,o,y,hd⟩:=I.cell x c e;show free c o (λz=>(g c z).2.2.1 x c e rfl) y (I.freeC x c e)
 ·obtain⟨e,n,ne,L,d⟩:=I.pin p G;have h:p.1∉ch:=λz=>(g p.1 z).2.2.2 p G rfl
  show#[keep p.1 p.2 ne L h e n,free p.1 p.2 h e n,ne,L,d]
noncomputable abbrev xa (s:Nh)(h:PySem.Heap)(t:Nat):Nh:={s with heap:=h,toks:=t}
def Inv.un (I:Inv X J Y H s)(u:Un X.fs [] H H' s.heap h')(g:HOk X.prog X.w H' h'):Inv X J Y H' (xa s h' t'):=by
 obtain⟨m,⟨o,p,l,h,r⟩,_⟩:=id I.loc;obtain⟨t,i⟩:=u.any h I.free (by simp)
 show I.step (g':=s.gens) (d':=s.drawn) (ch:=[]) (λ_ z=>nomatch z) (λb o _ f _ e n=>u.keep b o e n f (by simp)) (λb o _ f _ e n=>u.slot b o e n f (by simp)) (λb o _ e n=>u.free b o e n (by simp)) (λb o _ e=>u.there b o e (by simp)) u.tups u.frzs u.tbls (λq j=>by
  obtain⟨o',d,c,a,k⟩:=j;rw[h]at a;cases a
  show#[_,d,c,i,k]) g I.bare
def Inv.call (I:Inv X J Y H s)(u:Un (my X.stack) ch H H' s.heap h')(i:HOk X.prog X.w H' h')(l:RP g')
  (a:∀b∈ch,(b∈X.ex\/⇑X.s₀.heap.objs<=b)/\b≠X.env.locals/\(∀x c,X.env.cells.lookup x=aB c->c≠b)/\∀p∈X.pn++J,p.1≠b) :
  Inv X J Y H' {s with heap:=h',gens:=g',drawn:=d',toks:=t'}:=by
 obtain⟨m,⟨o,w,v,j,r⟩,_⟩:=id I.loc;obtain⟨A,h⟩:=u.any j I.free λz=>(a _ z).2.1 rfl
 show I.step (ch:=ch) a (λb o h k hc e n=>u.keep b o e n (λz=>(NE.mp (I.stkSub b z)).elim h k) hc) (λb o _ _ hc e n=>u.any e n hc) (λb o hc e n=>u.free b o e n hc) (λb o hc e=>u.there b o e hc) u.tups u.frzs u.tbls (λy q=>by
  obtain⟨o',g,f,d,t⟩:=q;rw[j]at d;cases d
  show#[_,g,f,h,t]) i l
def Inv.turned (I:Inv X J Y H s)(k:∀b o,b≠it->s.heap.get? b=aB o->h'.get? b=aB o)(t:H it=ba)(d:it≠X.env.locals)
  (h:it∈X.ex\/⇑X.s₀.heap.objs<=it) (h2:∀x c,X.env.cells.lookup x=aB c->c≠it) (i:∀p∈X.pn++J,p.1≠it):Inv X J Y H (xa s h' t'):=by
 have a:∀b u,H b=aB u->b≠it:=λb u e z=>by rw[z,t]at e;cases e
 show I.step (g':=s.gens) (d':=s.drawn) (ch:=[it]) (λb j=>?_) (λb o _ _ hc e _=>k b o (λz=>hc (by simp[z])) e) (λb o _ _ hc e _=>#[o.slots,k b o (λz=>hc (by simp[z])) e]) (λ_ _ _ _ n=>n)
  (λb o hc e=>#[o,k b o (λz=>hc (by simp[z])) e]) (λ_ _ e=>e) (λ_ _ _ e=>e) (λb ps e=>#[#[],by rw[e];simp]) (λm l=>?_) (λb u e=>?_) I.bare
 ·have e:b=it:=by simpa using j
  subst e;show#[h,d,h2,i]
 ·obtain⟨o,g,f,w,r⟩:=l;show#[o,g,f,k _ o (Ne.symm d) w,r]
 ·show(I.hok b u e).stay (λc v hc q=>k c v ?_ q) (λ_ q=>q) λ_ _ q=>q
  rcases hc with z|z
  ·rw[z];show a b u e
  ·show a c _ z
def Inv.tok (I:Inv X J Y H s)(t:Np):Inv X J Y H {s with toks:=t}:=I.un   Un.refl I.hok
def Inv.kept (I:Inv X J Y H s)(k:∀b u,s.heap.get? b=aB u->h'.get? b=aB u):Inv X J Y H (xa s h' t'):=I.un (Un.kept k) (I.hok.kept k)
def Inv.laid {a:Nl}(I:Inv X J Y H s)(k:∀b u,s.heap.get? b=aB u->h'.get? b=aB u)(c:⇑s.heap.objs<=a)(new:ObjOk X.prog X.w (aT H a o) h' a o) :
  Inv X J Y (aT H a o) (xa s h' t'):=I.un (Un.laid k c (I.hok.fresh c)) (I.hok.laid k c new)
def Inv.write (I:Inv X J Y H s)(d:IE (H x))(c:e=x\/H e=aB (.own x))(k:∀b u,b≠e->s.heap.get? b=aB u->h'.get? b=aB u)(a:∃u,h'.get? e=aB u)
  (new:ObjOk X.prog X.w (aT H x o) h' x o):Inv X J Y (aT H x o) (xa s h' t'):=I.un (Un.write d c k a) (I.hok.write d c k a new)
def Inv.pins_of (I:Inv X J Y H s)(h:∀p∈a,s.heap.get? p.1=aB p.2/\H p.1=ba/\p.1≠X.env.locals/\p.1∉X.fs/\∀v,p.2.data≠.cell v):Inv X a Y H s:=
 #[I.ok,I.os,I.bare,I.base,I.loc,I.cell,I.free,I.freeC,λp b=>(Op.mp b).elim (λz=>I.pin p (Ob _ z)) (h p),I.hok,I.len]
def iq {N:Nb Nu}(e:N.Nodup){ j:Np}(a:N[i]?=aB x)(b:N[j]?=aB x):i=j:=by
 obtain⟨f,c⟩:=NA.mp a;obtain⟨h2,d⟩:=NA.mp b;show(Ql e).mp (c.trans d.symm)
def vW (I:Inv X J Y H s)(hN:X.N.Nodup)(hi:X.N[i]?=aB x)(t:x6 X.env.scope x)(r:RelV v u)
  (h:∀s',Inv X J (Y.set i (aB v)) H s'->(∃a,PR a s.heap s'.heap/\(a=X.env.locals\/X.env.cells.lookup x=aB a))->Q () s') (hf:X.fn x=true\/X.env.scope.names.lookup x=aB .local):wpAny T A (storeName X.env x u) Q E s:=by
 obtain⟨m,W,hl⟩:=id I.loc;have N:(X.env.scope.kind==.class||(X.env.scope.kind==.module&&X.env.locals != X.env.globals))=false:=by rw[I.ok.kind];rfl
 have hiσ:i<↥Y:=by rw[I.len];show(NA.mp hi).1
 have cne:=I.cne;have l:∀{a:Nl}{h':N6},(∃o,s.heap.get? a=aB o/\H a=ba)->PR a s.heap h'->HOk X.prog X.w H h':=λ{a h'} ha f b ob e=>by
  obtain⟨_,_,w⟩:=ha;show(I.hok b ob e).stay (λc S hc q=>(f.2 c ?_).trans q) (λ_ q=>q) λ_ _ q=>q
  rintro rfl;rcases hc with rfl|hc
  ·rw[w]at e;cases e
  ·rw[w]at hc;cases hc
 rcases t with hk|hk
 ·show wpAny_storeName_local hk W (λh' Z f=>?_) N
  obtain⟨oL,_,_,hoL,_⟩:=id W;show h _ #[I.ok,I.os,I.bare,#[λb o e n C t=>?_,λb o e n C t=>?_,I.base.free,λb o e t=>?_,I.base.tups,I.base.frzs,I.base.tbls],#[_,Z,λj y v' g B U=>?_],λy c e=>?_,I.free,I.freeC,λp hp=>?_,l #[oL,hoL,I.free] f,by simpa using I.len] #[_,f,.inl rfl]
  ·show(f.2 b (NJ (NS (Nz e) I.ok.above))).trans (I.base.keep b o e n C t)
  ·obtain⟨sl,g⟩:=I.base.slot b o e n C t;show#[sl,(f.2 b (NJ (NS (Nz e) I.ok.above))).trans g]
  ·obtain⟨o',g⟩:=I.base.there b o e t;show#[o',(f.2 b (NJ (NS (Nz e) I.ok.above))).trans g]
  ·by_cases G:j=i
   ·subst G;rw[hi]at g;cases g
    rw[Ph hiσ]at B;cases B;show#[u,r,.inl #[hk,by simp]]
   ·rw[Qe (Ne.symm G)]at B;obtain⟨u',r',q⟩:=hl j y v' g B U;show#[u',r',?_];rcases q with⟨k,e⟩|⟨k,c,e,z⟩
    ·show .inl #[k,?_];have:y≠x:=λe=>G (iq hN g (e▸hi))
     simp[this,e]
    ·show .inr #[k,c,e,z.sameBut f (cne y c e)]
  ·obtain⟨S,z⟩:=I.cell y c e;show#[S,z.sameBut f (cne y c e)]
  ·obtain⟨e,n,ne,nf,d⟩:=I.pin p hp;show#[(f.2 p.1 ne).trans e,n,ne,nf,d]
 ·have D:X.fn x=true:=by
   rcases hf with z|z
   ·show z
   ·rw[z]at hk;cases hk
  obtain⟨c,hc⟩:=I.ok.has x (.inl hk);obtain⟨S,z⟩:=I.cell x c hc;show wpAny_storeName_cell I.ok.kind hk hc z (λh' L f=>?_)
  obtain⟨oc,O,P⟩:=id z;show h {s with heap:=h'} #[I.ok,I.os,I.bare,#[λb o e n C t=>?_,λb o e n C t=>?_,I.base.free,λb o e t=>?_,I.base.tups,I.base.frzs,I.base.tbls],#[m,W.sameBut f (Ne.symm (cne x c hc)),λj y v' g B U=>?_],λy R e=>?_,I.free,I.freeC,λp hp=>?_,l #[oc,O,I.freeC x c hc] f,by simpa using I.len] #[c,f,.inr hc]
  ·show(f.2 b (NJ (NS (Nz e) (I.ok.cab x c D hc)))).trans (I.base.keep b o e n C t)
  ·obtain⟨sl,g⟩:=I.base.slot b o e n C t;show#[sl,(f.2 b (NJ (NS (Nz e) (I.ok.cab x c D hc)))).trans g]
  ·obtain⟨o',g⟩:=I.base.there b o e t;show#[o',(f.2 b (NJ (NS (Nz e) (I.ok.cab x c D hc)))).trans g]
  ·by_cases G:j=i
   ·subst G;rw[hi]at g;cases g
    rw[Ph hiσ]at B;cases B;show#[u,r,.inr #[.inl hk,c,hc,L]]
   ·rw[Qe (Ne.symm G)]at B;obtain⟨u',r',q⟩:=hl j y v' g B U;show#[u',r',?_];rcases q with q|⟨k,R,e,z'⟩
    ·show .inl q
    ·show .inr #[k,R,e,z'.sameBut f ?_];rintro rfl;show G (iq hN g (I.ok.inj _ _ _ e hc▸hi))
  ·by_cases M:R=c
   ·subst M;show#[_,L]
   ·obtain⟨w2,z2⟩:=I.cell y R e;show#[w2,z2.sameBut f M]
  ·obtain⟨e,n,ne,nf,d⟩:=I.pin p hp;show#[(f.2 p.1 ?_).trans e,n,ne,nf,d];intro q;rw[q,O]at e;have q':oc=p.2:=OC e;show d S (by rw[<- q'];show P)
def iu (I:Inv X J Y H s)(d:X.N.Nodup)(hi:X.N[i]?=aB x)(f:x6 X.env.scope x)(r:RelV v u)
  (h:∀a,Inv X J (Y.set i (aB v)) H a->Q () a) (e:X.fn x=true\/X.env.scope.names.lookup x=aB .local):wpAny b A (storeName X.env x u) Q E s:=
 vW I d hi f r (λa c _=>h a c) e
def Inv.call' (I:Inv X J Y H s)(h:a.os=s.os)(u:Un (my X.stack) ch H H' s.heap a.heap)(f:HOk X.prog X.w H' a.heap)(g:RP a.gens)
  (d:∀b∈ch,(b∈X.ex\/⇑X.s₀.heap.objs<=b)/\b≠X.env.locals/\(∀x c,X.env.cells.lookup x=aB c->c≠b)/\∀p∈X.pn++J,p.1≠b):Inv X J Y H' a:=by
 obtain⟨h',g',d',t',o'⟩:=a;have e:o'=s.os:=h;subst e;show I.call (g':=g') (t':=t') (d':=d') u f g d
end
noncomputable abbrev XK:=Nd->Nf Nl->Hp->Prop
noncomputable abbrev St:=Nb (Nf V)
noncomputable abbrev VK:=V->Hp->Prop
noncomputable abbrev TE:=St->Hp->VK->Prop
noncomputable abbrev TT:=St->Hp->(ND->Hp->Prop)->Prop
noncomputable abbrev TA:=St->Hp->(Nb V->Hp->Prop)->Prop
structure Ends where
 nx:St->Hp->Prop
 rt:VK
 bk:St->Hp->Prop:=λ_ _=>Oo
 ct:St->Hp->Prop:=λ_ _=>Oo
noncomputable abbrev TS:=Ends->St->Hp->Prop
inductive EP (X:Cx)(J:Nb (Nl×OQ))(Y:St)(Q:VK)(u:Nd)(s':Nh):Prop
 |mk (v:V) (H':Hp) (i:Inv X J Y H' s') (r:RelV v u) (q:Q v H'):EP X J Y Q u s'
inductive TP (X:Cx)(J:Nb (Nl×OQ))(Y:St)(Q:ND->Hp->Prop)(b:ND)(s':Nh):Prop
 |mk (H':Hp) (i:Inv X J Y H' s') (q:Q b H'):TP X J Y Q b s'
inductive AP (X:Cx)(J:Nb (Nl×OQ))(Y:St)(Q:Nb V->Hp->Prop)(us:Nb Nd)(s':Nh):Prop
 |mk (vs:Nb V) (H':Hp) (i:Inv X J Y H' s') (r:Vals vs us) (q:Q vs H'):AP X J Y Q us s'
abbrev SP (X:Cx)(J:Nb (Nl×OQ))(D:Ends)(f:Xa)(c:Nh):Prop:=
 match f with
 |.next=>∃b a,Inv X J b a c/\D.nx b a
 |.brk=>∃b a,Inv X J b a c/\D.bk b a
 |.cont=>∃b a,Inv X J b a c/\D.ct b a
 |.ret u=>∃v b a,Inv X J b a c/\RelV v u/\D.rt v a
abbrev PE (X:Cx)(e:NF)(t:TE):Prop:=
 ∀(J:Nb (Nl×OQ)) (s:Nh) (Y:St) (H:Hp) (Q:VK),Inv X J Y H s->t Y H Q->wi X (eval e X.env) (EP X J Y Q) X.xe s
abbrev PT (X:Cx)(e:NF)(t:TT):Prop:=
 ∀(J:Nb (Nl×OQ)) (s:Nh) (Y:St) (H:Hp) (Q:ND->Hp->Prop),Inv X J Y H s->t Y H Q->wi X (isTrue e X.env (eval e X.env)) (TP X J Y Q) X.xe s
abbrev PW (X:Cx)(e:NF)(t:TT):Prop:=
 ∀(a:VZ Nd) (J:Nb (Nl×OQ)) (s:Nh) (Y:St) (H:Hp) (Q:ND->Hp->Prop),Inv X J Y H s->t Y H Q->wi X (isTrue e X.env a) (TP X J Y Q) X.xe s
def PW.pt (h:PW X e t):PT X e t:=h _
abbrev PA (X:Cx)(a:Nb NF)(t:TA):Prop:=
 ∀(pos:Pp) (J:Nb (Nl×OQ)) (s:Nh) (Y:St) (H:Hp) (Q:Nb V->Hp->Prop),Inv X J Y H s->t Y H Q->wi X (spliced (backTo pos (starEach a X.env))) (AP X J Y Q) X.xe s
abbrev PS (X:Cx)(st:OE)(t:TS):Prop:=
 ∀(J:Nb (Nl×OQ)) (s:Nh) (Y:St) (H:Hp) (D:Ends),Inv X J Y H s->t D Y H->wi X (exec st X.env) (SP X J D) X.xe s
abbrev PSs (X:Cx)(st:Nb OE)(t:TS):Prop:=
 ∀(J:Nb (Nl×OQ)) (s:Nh) (Y:St) (H:Hp) (D:Ends),Inv X J Y H s->t D Y H->wi X (execs st X.env) (SP X J D) X.xe s
def bd (h:wpAny b A t Q E s)(d:∀a s,Q a s->c a s):wpAny b A t c E s:=Ou h d λ_ _ x=>x
section
variable{X:Cx}
abbrev pI (i:Np):TE:=λY H Q=>∃v,Y[i]?=aB (aB v)/\Q v H
abbrev tC (v:V):TE:=λ_ H Q=>Q v H
def gO {pos:Pp}(d:X.N[i]?=aB x)(j:KQ X.env.scope x)(hd:(x==("__debug__"))=false:=by decide)(b:(x==("__classdict__"))=false:=by decide):PE X (.Name x pos) (pI i):=by
 intro J s Y H Q I h;obtain⟨v,e,h⟩:=h;obtain⟨m,g,hl⟩:=I.loc;obtain⟨u,r,l⟩:=hl i x v d e j;have fin:EP X _ Y Q u s:=#[v,H,I,r,h];rcases l with⟨hk,f⟩|⟨hk,c,hc,a⟩
 ·show VF (wpAny_loadName_local I.ok.kind hk g f fin) hd
 ·rcases hk with hk|hk
  ·show VF (wpAny_loadName_cell I.ok.kind hk hc a fin) hd
  ·show VF (wpAny_loadName_free I.ok.kind hk hc a fin b) hd
def nF {  pos}:PE X (.Constant (.int i) j pos) (tC (.int i)):=λ_ _ _ H _ I h=>wpAny_Constant_int #[.int i,H,I.tok _,#[_,rfl],h]
def ud {  pos}:PE X (.Constant (.bool b) j pos) (tC (.bl b)):=λ_ _ _ H _ I h=>Constant_bool #[.bl b,H,I,rfl,h]
def jj { pos}:PE X (.Constant .none j pos) (tC .non):=λ_ _ _ H _ I h=>Constant_none #[.non,H,I,rfl,h]
def nG {  pos}:PE X (.Constant (.str x) j pos) (tC (.str x)):=λ_ _ _ H _ I h=>Uc #[.str x,H,I.tok _,#[_,rfl],h]
abbrev Gl (X:Cx)(x:Nu):Prop:=X.env.kindOf x=aB .globalImplicit
def da {Y:St}(I:Inv X J Y H s)(a:Gl X x)(b:X.mg x=aB u)(h:Q u s)
  (hd:(x==("__debug__"))=false:=by decide):wi X (eval (.Name x pos) X.env) Q E s:=
 RZ I.ok.kind a (Calls.loadGlobal_global (by rw[I.ok.glob];show I.mod.glob.keeps I.bk) b h) hd
def jk {E:Nd->Nh->Prop}{Y:St}{pos:Pp}(I:Inv X J Y H s)(b:Gl X x)(c:X.mg x=ba)(e:bootBuiltins x=aB u)(h:Q u s)
  (d:x≠"__name__":=by decide) (hd:(x==("__debug__"))=false:=by decide):wi X (eval (.Name x pos) X.env) Q E s:=by
 obtain⟨f,a,h2⟩:=I.mod.blt;show RZ I.ok.kind b (Calls.loadGlobal_builtin (by rw[I.ok.glob];show I.mod.glob.keeps I.bk) c (by rw[I.ok.blt];show a.keeps I.bk) ((h2 x d).trans e) h) hd
def nH (a:Gl X x)(b:X.mg x=aB u)(r:RelV v u)(hd:(x==("__debug__"))=false:=by decide):PE X (.Name x pos) (tC v):=
 λ_ _ _ H _ I h=>da I a b #[v,H,I,r,h] hd
def ue {pos:Pp}(a:Gl X x)(b:X.mg x=ba)(d:bootBuiltins x=aB u)(r:RelV v u)(c:x≠"__name__":=by decide)(hd:(x==("__debug__"))=false:=by decide):PE X (.Name x pos) (tC v):=
 λ_ _ _ H _ I h=>jk I a b d #[v,H,I,r,h] c hd
variable{a b:NF}{ta tb:TE}{pos:Pp}
abbrev tB (t:TE):TT:=λY H Q=>t Y H λx a=>∃c,x=.bl c/\Q c a
variable{tA tB':TT}{aO:Nb NF}
abbrev IF (t u:TT):TT:=λY H Q=>t Y H λc a=>if c=true then u Y a Q else Q false a
abbrev Mr (t u:TT):TT:=λY H Q=>t Y H λc a=>if c=true then Q true a else u Y a Q
abbrev K6 (t:TT):TT:=λY H Q=>t Y H λc a=>Q (!c) a
def BN (b:PT X a tA):PW X (.BoolOp .And [a] pos) tA:=by
 intro f J s Y H Q I h;show isTrue_and (bd (b _ s Y H Q I h) λc d e=>?_)
 cases c with
 |true=>show isTrue_and_nil e
 |false=>show e
def Fs (b:PT X a tA):PW X (.BoolOp .Or [a] pos) tA:=by
 intro f J s Y H Q I h;show isTrue_or (bd (b _ s Y H Q I h) λc d e=>?_)
 cases c with
 |false=>show isTrue_or_nil e
 |true=>show e
def Ft (e:PT X a tA)(f:PW X (.BoolOp .And (b::aO) pos) tB'):PW X (.BoolOp .And (a::b::aO) pos) (IF tA tB'):=by
 intro i J s Y H Q I h;show isTrue_and (bd (e _ s Y H _ I h) λc g #[d,I1,q1]=>?_)
 cases c with
 |true=>show f i _ g Y d Q I1 q1
 |false=>show#[d,I1,q1]
def IG (e:PT X a tA)(f:PW X (.BoolOp .Or (b::aO) pos) tB'):PW X (.BoolOp .Or (a::b::aO) pos) (Mr tA tB'):=by
 intro i J s Y H Q I h;show isTrue_or (bd (e _ s Y H _ I h) λc g #[d,I1,q1]=>?_)
 cases c with
 |true=>show#[d,I1,q1]
 |false=>show f i _ g Y d Q I1 q1
def Fu (d:PT X a tA):PT X (.UnaryOp .Not a pos) (K6 tA):=by
 intro J s Y H Q I h;show isTrue_not (bd (d _ s Y H (λc b=>Q _ b) I h) λ_ _ #[b,i,q]=>#[b,i,q])
abbrev IH (ta tb:TE):TE:=λY H Q=>ta Y H λx a=>∃c,x=.bl c/\if c=true then tb Y a Q else Q (.bl false) a
abbrev K7 (ta tb:TE):TE:=λY H Q=>ta Y H λx a=>∃c,x=.bl c/\if c=true then Q (.bl true) a else tb Y a Q
abbrev II (ta:TE):TE:=λY H Q=>ta Y H λx a=>∃c,x=.bl c/\Q (.bl (!c)) a
def Fv {op}(h:PE X a t):PE X (.BoolOp op [a] pos) t:=λJ s Y H Q I hw=>BoolOp_one (h _ s Y H Q I hw)
def Fw (e:PE X a ta)(f:PE X (.BoolOp .And (b::aO) pos) tb):PE X (.BoolOp .And (a::b::aO) pos) (IH ta tb):=by
 intro J s Y H Q I h;show BoolOp_and (bd (e _ s Y H _ I h) λv g #[x,H1,I1,r1,d]=>?_)
 obtain⟨c,rfl,d⟩:=d;cases r1;show OZ ?_;cases c with
 |true=>show f _ g Y H1 Q I1 d
 |false=>show#[.bl _,H1,I1,rfl,d]
def IJ (e:PE X a ta)(f:PE X (.BoolOp .Or (b::aO) pos) tb):PE X (.BoolOp .Or (a::b::aO) pos) (K7 ta tb):=by
 intro J s Y H Q I h;show BoolOp_or (bd (e _ s Y H _ I h) λv g #[x,H1,I1,r1,d]=>?_)
 obtain⟨c,rfl,d⟩:=d;cases r1;show OZ ?_;cases c with
 |false=>show f _ g Y H1 Q I1 d
 |true=>show#[.bl _,H1,I1,rfl,d]
def Fy (d:PE X a ta):PE X (.UnaryOp .Not a pos) (II ta):=by
 intro J s Y H Q I h;show UnaryOp_ (bd (d _ s Y H _ I h) λv e #[x,H1,I1,r1,b]=>?_)
 obtain⟨c,rfl,b⟩:=b;cases r1;show not_of (OZ #[.bl _,H1,I1,rfl,b])
abbrev MO (t:TT)(ta tb:TE):TE:=λY H Q=>t Y H λc a=>if c=true then ta Y a Q else tb Y a Q
def x8 (hc:PT X c tA)(g:PE X a ta)(i:PE X b tb):PE X (.IfExp c a b pos) (MO tA ta tb):=by
 intro J s Y H Q I h;show wpAny_IfExp (bd (hc _ s Y H _ I h) λd f #[e,I1,q1]=>?_)
 cases d with
 |true=>show g _ f Y e Q I1 q1
 |false=>show i _ f Y e Q I1 q1
end
abbrev SqL (K:Nr)(H:Hp)(a:Nl)(xs:Nb V):Prop:=
 Rd H a (.lst xs)\/
  ∃(o:OQ) (its:N9 Nd) (n:Np),K.lookup a=aB o/\o.cls=.type "list"/\o.dict=ba/\o.data=.seq its n/\⇑its<=sizeLine/\Vals xs its.toList
abbrev SqT (K:Nr)(H:Hp)(a:Nl)(xs:Nb V):Prop:=
 Rd H a (.tup xs)\/
  ∃(o:OQ) (its:N9 Nd) (n:Np),K.lookup a=aB o/\o.cls=.type "tuple"/\o.dict=ba/\o.data=.seq its n/\⇑its<=sizeLine/\Vals xs its.toList
abbrev BO:Nd->Nf V
 |.none=>aB .non
 |.bool b=>aB (.bl b)
 |.int i _=>aB (.int i)
 |.str x _=>aB (.str x)
 |.bytes b _=>aB (.byt b)
 |.float b _=>aB (.flt b)
 |.ref a=>aB (.ref a)
 |.type n=>aB (.ty n)
 |_=>ba
def RelV.abs (r:RelV x u):BO u=aB x:=by
 cases x with
 |non=>cases r;rfl
 |bl _=>cases r;rfl
 |int _=>obtain⟨t,rfl⟩:=r;rfl
 |str _=>obtain⟨t,rfl⟩:=r;rfl
 |byt _=>obtain⟨t,rfl⟩:=r;rfl
 |flt _=>obtain⟨t,rfl⟩:=r;rfl
 |ref _=>cases r;rfl
 |ty _=>cases r;rfl
def RelV.inj (r:RelV x u)(q:RelV y u):x=y:=OC (r.abs.symm.trans q.abs)
def Vals.inj:∀{xs a:Nb V}{us:Nb Nd},Vals xs us->Vals a us->xs=a
 |_,_,_,.nil,.nil=>rfl
 |_,_,_,.cons r t,.cons b t'=>by rw[r.inj b,Vals.inj t t']
section
variable{X:Cx}{J:Nb (Nl×OQ)}{Y:St}{H:Hp}{s:Nh}{a:Nl}{xs ys:Nb V}
def SqL.of {K:Nr}(h:H a=aB (.lst xs)):SqL K H a xs:=.inl (.inl h)
def SqT.of {K:Nr}(h:H a=aB (.tup xs)):SqT K H a xs:=.inl (.inl h)
def Inv.list (I:Inv X J Y H s)(h:SqL X.K H a xs):∃its:Nb Nd,Vals xs its/\PlainL s.heap a its.toArray/\↥xs<=sizeLine:=by
 rcases h with h|⟨o,its,n,hk,hc,hd,b,c,r⟩
 ·obtain⟨z,its,n,r,e⟩:=h.ok I.hok;show#[its,r,#[_,n,e,rfl,rfl,rfl],z]
 ·show#[its.toList,r,#[o,n,I.kIn a o hk,hc,hd,by simpa using b],?_]
  have e:=↥r;simp only[NP]at e;omega
def Inv.tuple (I:Inv X J Y H s)(h:SqT X.K H a xs):∃its:Nb Nd,Vals xs its/\Us s.heap a its.toArray/\↥xs<=sizeLine:=by
 rcases h with h|⟨o,its,n,hk,hc,hd,b,c,r⟩
 ·obtain⟨z,its,r,p⟩:=h.ok I.hok;show#[its,r,p,z.1]
 ·show#[its.toList,r,#[o,I.kIn a o hk,hc,n,by simpa using b],?_]
  have e:=↥r;simp only[NP]at e;omega
def Inv.list_inj (I:Inv X J Y H s)(h:SqL X.K H a xs)(h':SqL X.K H a ys):xs=ys:=by
 obtain⟨its,r,⟨o,n,e,_,_,d⟩,_⟩:=I.list h;obtain⟨b,f,⟨o',g,c,_,_,d'⟩,_⟩:=I.list h';rw[e]at c;cases c
 rw[d]at d';injection d' with d1 _
 have:its=b:=by simpa using congrArg Wm d1
 subst this;show r.inj f
def Inv.tuple_inj (I:Inv X J Y H s)(h:SqT X.K H a xs)(h':SqT X.K H a ys):xs=ys:=by
 obtain⟨its,r,⟨o,e,_,n,d⟩,_⟩:=I.tuple h;obtain⟨b,f,⟨o',c,_,g,d'⟩,_⟩:=I.tuple h';rw[e]at c;cases c
 rw[d]at d';injection d' with d1 _
 have:its=b:=by simpa using congrArg Wm d1
 subst this;show r.inj f
end
noncomputable abbrev Cx.wish (X:Cx)(E:Nd->Nh->Prop):Cx:={X with xe:=E}
noncomputable abbrev Cx.nox (X:Cx):Cx:=X.wish λ_ _=>Oo
def Cx.Ok.wish {X:Cx}(ok:X.Ok)(E:Nd->Nh->Prop):(X.wish E).Ok:=
 #[ok.mod,ok.kind,ok.glob,ok.blt,ok.above,ok.inj,ok.has,ok.cab,ok.hd,ok.frames,ok.stk,ok.exf,ok.bs,ok.bsz,ok.noex,ok.exfs,ok.funs,ok.frf]
def Cx.Ok.unwish {X:Cx}(ok:(X.wish E).Ok):X.Ok:=
 #[ok.mod,ok.kind,ok.glob,ok.blt,ok.above,ok.inj,ok.has,ok.cab,ok.hd,ok.frames,ok.stk,ok.exf,ok.bs,ok.bsz,ok.noex,ok.exfs,ok.funs,ok.frf]
section
variable{X:Cx}{J:Nb (Nl×OQ)}{Y:St}{H:Hp}{s:Nh}{E:Nd->Nh->Prop}
def Inv.wish (I:Inv X J Y H s)(E:Nd->Nh->Prop):Inv (X.wish E) J Y H s:=#[I.ok.wish E,I.os,I.bare,I.base,I.loc,I.cell,I.free,I.freeC,I.pin,I.hok,I.len]
def Inv.unwish (I:Inv (X.wish E) J Y H s):Inv X J Y H s:=#[I.ok.unwish,I.os,I.bare,I.base,I.loc,I.cell,I.free,I.freeC,I.pin,I.hok,I.len]
def SP.unwish (h:SP (X.wish E) J D f c):SP X J D f c:=by
 cases f with
 |next=>obtain⟨b,a,I,q⟩:=h;show#[b,a,I.unwish,q]
 |brk=>obtain⟨b,a,I,q⟩:=h;show#[b,a,I.unwish,q]
 |cont=>obtain⟨b,a,I,q⟩:=h;show#[b,a,I.unwish,q]
 |ret u=>obtain⟨v,b,a,I,r,q⟩:=h;show#[v,b,a,I.unwish,r,q]
def PSs.nox {st:Nb OE}(h:PSs X.nox st t):PSs X st t:=λJ s Y H D I hw=>
 Ou (h _ s Y H D (I.wish _) hw) (λ_ _ q=>q.unwish) λ_ _ z=>Oo.elim z
end
section
variable{X:Cx}{st:OE}{aO:Nb OE}{t u:TS}{e:NF}{te:TE}{pos:Pp}
abbrev x9:TS:=λD Y H=>D.nx Y H
abbrev IK (t u:TS):TS:=λD Y H=>t {D with nx:=u D} Y H
def BP:PSs X [] x9:=λ_ _ Y H _ I h=>RB #[Y,H,I,h]
def kN (d:PS X st t)(h2:PSs X aO u):PSs X (st::aO) (IK t u):=by
 intro J s Y H D I h;show UU (bd (d _ s Y H _ I h) λf e q=>?_)
 cases f with
 |next=>
  obtain⟨c,a,b,q⟩:=q;show h2 _ e c a D b q
 |ret v=>show q
 |brk=>show q
 |cont=>show q
def uf (a:PS X st t):PSs X [st] t:=by
 intro J s Y H D I h;show UU (bd (a J s Y H D I h) λf b q=>?_)
 cases f with
 |next=>show RB q
 |ret v=>show q
 |brk=>show q
 |cont=>show q
def BQ:PS X (.Pass pos) x9:=λ_ _ Y H _ I h=>wpAny_Pass #[Y,H,I,h]
def Inv.quiet {Y:St}(I:Inv X J Y H s):interactive X.env=false:=by simp[interactive,I.ok.kind]
def Fz {   pos'}:PS X (.Expr (.Constant (.str x) j pos) pos') x9:=λ_ s Y H _ I h=>wpAny_Expr (Uc (show SP X _ _ .next {s with toks:=s.toks+1} from#[Y,H,I.tok _,h])) I.quiet
abbrev Ez (te:TE):TS:=λD Y H=>te Y H λ_ a=>D.nx Y a
def nI (a:PE X e te)(b:swapsWith e ba pos.line X.env=pure false:=by rfl):PS X (.Expr e pos) (Ez te):=by
 intro J s Y H D I h;show wpAny_Expr_any (bd (a _ s Y H _ I h) λv c #[x,H1,I1,r1,q1]=>#[Y,H1,I1,q1]) I.quiet b
abbrev K8 (te:TE):TS:=λD Y H=>te Y H D.rt
def FB (a:PE X e te):PS X (.Return (aB e) pos) (K8 te):=by
 intro J s Y H D I h;show wpAny_Return_some (bd (a _ s Y H _ I h) λv b #[x,H1,I1,r1,q1]=>#[x,Y,H1,I1,r1,q1])
abbrev K9 (c:TT)(t u:TS):TS:=λD Y H=>c Y H λb a=>if b=true then t D Y a else u D Y a
def EA (hc:PT X c g)(i:PSs X a t)(j:PSs X b u):PS X (.If c a b pos) (K9 g t u):=by
 intro J s Y H D I h;show wpAny_If (bd (hc _ s Y H _ I h) λd f #[e,I1,q1]=>?_)
 cases d with
 |true=>show i _ f Y e D I1 q1
 |false=>show j _ f Y e D I1 q1
end
noncomputable abbrev TG:=V->St->Hp->(St->Hp->Prop)->Prop
noncomputable abbrev FC:=Nb V->St->Hp->(St->Hp->Prop)->Prop
abbrev PG (X:Cx)(a:NF)(t:TG):Prop:=
 ∀(J:Nb (Nl×OQ)) (s:Nh) (Y:St) (H:Hp) (v:V) (u:Nd) (Q:St->Hp->Prop),Inv X J Y H s->RelV v u->t v Y H Q->
  wi X (assign a X.env u) (λ_ d=>∃c b,Inv X J c b d/\Q c b) X.xe s
abbrev IL (X:Cx)(ts:Nb NF)(t:FC):Prop:=
 ∀(J:Nb (Nl×OQ)) (s:Nh) (Y:St) (H:Hp) (vs:Nb V) (us:Nb Nd) (Q:St->Hp->Prop),Inv X J Y H s->Vals vs us->t vs Y H Q->
  wi X (assignInOrder ((assignEach ts X.env).map (·.2)) us) (λ_ c=>∃b a,Inv X J b a c/\Q b a) X.xe s
noncomputable abbrev FD:=V->V->V->Hp->(Hp->Prop)->Prop
abbrev FH (X:Cx)(t:FD):Prop:=
 ∀(J:Nb (Nl×OQ)) (s:Nh) (Y:St) (H:Hp) (o i v:V) (ov iv u:Nd) (Q:Hp->Prop),Inv X J Y H s->RelV o ov->RelV i iv->RelV v u->t o i v H Q->
  wi X (setItem ov iv u) (λ_ b=>∃a,Inv X J Y a b/\Q a) X.xe s
section
variable{X:Cx}{pos:Pp}
abbrev IM (i:Np):TG:=λv Y H Q=>Q (Y.set i (aB v)) H
def ug (b:X.N.Nodup)(hi:X.N[i]?=aB x)(d:x6 X.env.scope x)(c:X.fn x=true\/X.env.scope.names.lookup x=aB .local):PG X (.Name x pos) (IM i):=by
 intro J s Y H v u Q I r h;show Ut (iu I b hi d r (λe a=>#[_,H,a,h]) c)
abbrev La:FC:=λvs Y H Q=>vs=[]/\Q Y H
abbrev IN (t:TG)(u:FC):FC:=λvs Y H Q=>∃v r,vs=v::r/\t v Y H λb a=>u r b a Q
def BS:IL X [] La:=by
 intro J s Y H vs us Q I r h;obtain⟨e,h⟩:=h;subst e;cases r;show assignInOrder_nil #[Y,H,I,h]
def ya (d:PG X e t)(h2:IL X a u)
  (f:(assignEach (e::a) X.env).map (·.2)=assign e X.env::(assignEach a X.env).map (·.2):=by rfl):IL X (e::a) (IN t u):=by
 intro J s Y H vs us Q I r h;obtain⟨v,j,c,h⟩:=h;subst c;cases r with
 |cons r g=>
  rw[f];show assignInOrder_cons (bd (d _ s Y H _ _ _ I r h) λ_ i #[b,H1,I1,q1]=>?_)
  show h2 _ i b H1 _ _ Q I1 g q1
abbrev Lb (K:Nr)(n:Np)(t:FC):TG:=λv Y H Q=>∃a xs,v=.ref a/\SqT K H a xs/\↥xs=n/\t xs Y H Q
def FJ {k:Np}(hc:X.calm=true)(h:IL X c t)
  (j:(assignEach c X.env).length=n:=by rfl) (d:(assignEach c X.env).findIdx? (·.1)=ba:=by rfl):PG X (.Tuple c k pos) (Lb X.K n t):=by
 intro J s Y H v u Q I r hw;obtain⟨a,xs,i,l,hl,hw⟩:=hw;subst i;cases r;obtain⟨its,f,ht,p⟩:=I.tuple l;show assign_Tuple_tuple (I.ok.hd hc) ht (by simp[j,<- hl,↥f]) d λh' m=>?_
 have g:Inv X _ Y H {s with heap:=h'}:=I.kept  λb o e=>m b o (NJ (Nz e)) e
 show h _ _ Y H xs _ Q g (by simpa using f) hw
abbrev Lc (e d:TE)(t:FD):TG:=λv Y H Q=>e Y H λo a=>d Y a λi b=>t o i v b λc=>Q Y c
def FK (g:PE X o d)(hi:PE X i c)(j:FH X t)
  (f:∀v,assign (.Subscript o i pos) X.env v=(do
   let a <- holding [v] (eval o X.env)
   let b <- holding [v,a] (eval i X.env)
   standAt pos
   holding [v,a,b] (setItem a b v)
   release [v,a,b] []):=by intro _;rfl):PG X (.Subscript o i pos) (Lc d c t):=by
 intro J s Y H v u Q I r h;rw[f];show Nc (Ov (bd (g _ s Y H _ I h) λa k #[x,H1,I1,r1,q1]=>?_))
 show Nc (Ov (bd (hi _ k Y H1 _ I1 q1) λb l #[y,H2,I2,r2,q2]=>?_))
 show Nc (Qy (Nc (Ov (bd (j _ l Y H2 x y v a b u _ I2 r1 r2 r q2) λ_ m #[e,I3,q3]=>?_))))
 show wpAny_release #[Y,e,I3,q3]
abbrev Ld (b:TE)(g:TG):TS:=λD Y H=>b Y H λx a=>g x Y a D.nx
def FL (c:PE X e a)(d:PG X tg g)(f:swapsWithSole [tg] e pos.line X.env=pure false:=by rfl)(hw:swappedStores [tg] e X.env=pure ba:=by rfl)
  (b:(assignEach [tg] X.env).map (·.2)=[assign tg X.env]:=by rfl):PS X (.Assign [tg] e pos) (Ld a g):=by
 intro J s Y H D I h;show wpAny_Assign_stores (bd (c _ s Y H _ I h) λv i #[x,H1,I1,r1,q1]=>?_) f hw
 rw[b];show bd (d _ i Y H1 x v _ I1 r1 q1) λ_ j q=>q
abbrev FM (c:TT)(g:TS):TS:=λD Y H=>∃W:Np->St->Hp->Prop,(∃m,W m Y H)/\∀m Y H,W m Y H->
 c Y H λb d=>if b=true then ∃N:St->Hp->Prop,(∀e a,N e a->∃f,f<m/\W f e a)/\g {D with nx:=N,ct:=N,bk:=D.nx} Y d else D.nx Y d
def yb (t:RW (model X.prog X.w) X.A X.env X.xe)(hc:PT X c w)(y:PSs X body u):PS X (.While c body [] pos) (FM w u):=by
 intro J s Y H D I h;obtain⟨W,⟨m0,C⟩,turn⟩:=h;show wpAny_While (codeAny_whileLoop (λn z=>∃q m,Inv X _ q m z/\W n q m) ?_ m0 #[Y,H,I,C])
 rintro n A ⟨e,o,x,E⟩;show Qa t (bd (hc _ A e o _ x (turn n e o E)) λb B #[p,I2,g]=>?_)
 cases b with
 |true=>
  obtain⟨N,r,g⟩:=g;show Qa t (bd (y _ B e p _ I2 g) λf G i=>?_)
  cases f with
  |next=>
   obtain⟨d,a,j,n3⟩:=i;obtain⟨l,k,w3⟩:=r d a n3;show#[l,k,d,a,j,w3]
  |cont=>
   obtain⟨d,a,j,n3⟩:=i;obtain⟨l,k,w3⟩:=r d a n3;show#[l,k,d,a,j,w3]
  |brk=>show i
  |ret v=>show i
 |false=>
  show RB #[e,p,I2,g]
end
structure It where
 go:Np->Hp->Prop
 yld:Np->Hp->V->Hp->Prop
 stop:Np->Hp->Prop
abbrev gP (X:Cx)(J:Nb (Nl×OQ))(H:Hp)(b:Nl):Prop:=
 H b=ba/\b≠X.env.locals/\b∉X.fs/\(b∈X.ex\/⇑X.s₀.heap.objs<=b)/\(∀x c,X.env.cells.lookup x=aB c->c≠b)/\∀p∈X.pn++J,p.1≠b
def Inv.fpOk {Y:St}{b:Nl}(I:Inv X J Y H s)(a:⇑s.heap.objs<=b)(f:d b=ba):gP X J d b:=by
 show#[f,On (NS I.lt a),I.nofs a,.inr (NO I.sz a),λx c e z=>?_,λp g z=>?_]
 ·obtain⟨v,q⟩:=I.cell x c e;show absurd (NS q.lt (by rw[z];show a)) (OL _)
 ·show absurd (NS (Nz (I.pin p g).1) (by rw[z];show a)) (OL _)
structure Turn (P:NM)(w:NU)(K:Nr)(tg:NF)(tx:It)(fp:Nb Nl)(it:Nl)(tn:Np->N6->Prop):Prop where
 mem:it∈fp
 obj:∀i h,tn i h->∀b∈fp,∃o,h.get? b=aB o/\∀v,o.data≠.cell v
 keep:∀i h h',tn i h->(∀b∈fp,∀o,h.get? b=aB o->h'.get? b=aB o)->tn i h'
 item:∀(X:Cx),X.prog=P->X.w=w->X.K=K->X.calm=true->∀(i:Np) (J:Nb (Nl×OQ)) (s:Nh) (Y:St) (H:Hp) (E:Nd->Nh->Prop),Inv X J Y H s->(∀b∈fp,gP X J H b)->tn i s.heap->tx.go i H->
  wpAny (model P w) X.A (pyNext (.ref it)) (λr s1=>∃u,r=aB u/\
   wpAny (model P w) X.A (letOwnedTupleGo tg (.ref it) u) (λ_ s2=>∃x H',Inv X J Y H' s2/\RelV x u/\tx.yld i H x H'/\tn (i+1) s2.heap/\∀b∈fp,H' b=ba) E s1) E s
 done:∀(X:Cx),X.prog=P->X.w=w->X.K=K->X.calm=true->∀(i:Np) (J:Nb (Nl×OQ)) (s:Nh) (Y:St) (H:Hp) (E:Nd->Nh->Prop),Inv X J Y H s->(∀b∈fp,gP X J H b)->tn i s.heap->tx.stop i H->
  wpAny (model P w) X.A (pyNext (.ref it)) (λr s1=>r=ba/\Inv X J Y H s1) E s
 self:∀(A:NY) (i:Np) (s:Nh) (Q:Nd->Nh->Prop) (E:Nd->Nh->Prop),tn i s.heap->Q (.ref it) s->wpAny (model P w) A (pyIter (.ref it)) Q E s
noncomputable abbrev TI:=St->Hp->(It->Hp->Prop)->Prop
abbrev IP (X:Cx)(J:Nb (Nl×OQ))(Y:St)(tg:NF)(R:It->Hp->Prop)(a:Nd)(d:Nh):Prop:=
 ∃(it:Nl) (c:Nb Nl) (tn:Np->N6->Prop) (tx:It) (H':Hp),a=.ref it/\Inv X J Y H' d/\Turn X.prog X.w X.K tg tx c it tn/\tn 0 d.heap/\(∀b∈c,gP X J H' b)/\R tx H'
abbrev PI (X:Cx)(tg iter:NF)(b:TI):Prop:=
 ∀(J:Nb (Nl×OQ)) (s:Nh) (Y:St) (H:Hp) (R:It->Hp->Prop),Inv X J Y H s->b Y H R->
  wi X (eval iter X.env) (λv a=>wi X (pyIter v) (IP X J Y tg R) X.xe a) X.xe s
def pJ (d:s.heap.get? it=aB o)(hc:o.cls=.type n)(hd:o.data=.fields vs)
    (c:["enumerate","zip","dict_itemiterator","dict_reverseitemiterator","odict_iterator","itertools.zip_longest","itertools.pairwise"].contains n=false) (b:Q () s):wpAny a A (letOwnedTupleGo tg (.ref it) u) Q E s:=by
  unfold letOwnedTupleGo;cases tg<;>first
    |show Nm b
    |(cases u<;>first
        |show Nm b
        | (show Nc (Ud d ?_)
           rw[hc,hd];change wpAny a A (if (["enumerate","zip","dict_itemiterator","dict_reverseitemiterator","odict_iterator","itertools.zip_longest","itertools.pairwise"].contains n&&vs[0]?==aB (rawInt _))=true then _ else _) Q E s
           rw[N1 (by intro h;rw[c,Qm]at h;cases h)]
           show Nm b))
abbrev Le (K:Nr)(a:Nl):It:=
 #[λi H=>∃xs x,SqL K H a xs/\xs[i]?=aB x,λi H x b=>b=H/\∀xs,SqL K H a xs->xs[i]?=aB x,λi H=>∃xs,SqL K H a xs/\↥xs<=i]
abbrev Ir (K:Nr)(a:Nl):It:=
 #[λi H=>∃xs x,SqT K H a xs/\xs[i]?=aB x,λi H x b=>b=H/\∀xs,SqT K H a xs->xs[i]?=aB x,λi H=>∃xs,SqT K H a xs/\↥xs<=i]
abbrev IQ (lo:NI)(n:Np):It:=#[λi _=>i<n,λi H x a=>a=H/\x=.int (lo+i),λi _=>n<=i]
def vX {K:Nr}(a it:Nl):Turn P w K tg (Le K a) [it] it (λi h=>h.IsListIter it a i) where
 mem:=by simp
 obj:=λi h st b f=>by
  have e:b=it:=by simpa using f
  subst e;obtain⟨o,e,c,d⟩:=st;show#[o,e,λv z=>by rw[d]at z;cases z]
 keep:=λi h h' st k=>st.at λo e=>k it (by simp) o e
 item:=by
  intro X y hw hK hc i J s Y H E I j st A;subst y hw hK;obtain⟨xs,x,l,B⟩:=A;obtain⟨its,C,p,O⟩:=I.list l;obtain⟨u,M,Q⟩:=C.get B;obtain⟨m,n,L,q,r,t⟩:=j it (by simp)
  show wpAny_pyNext_list_item st p.isList  (by simpa using M) λh' g R=>?_
  have D:Inv X _ Y H {s with heap:=h'}:=I.turned  (λb o f e=>(R.2 b f).trans e) m n q r t
  obtain⟨o,e,c,d⟩:=id g;show#[u,rfl,pJ  e c d #v[] #[x,H,D,Q,#[rfl,λS N=>by rw[I.list_inj N l];show B],g,λb f=>(j b f).1]]
 done:=by
  intro X y hw hK hc i J s Y H E I j st A;subst y hw hK;obtain⟨xs,l,B⟩:=A;obtain⟨its,C,p,O⟩:=I.list l;obtain⟨m,n,L,q,r,t⟩:=j it (by simp)
  have hl:=↥C;show wpAny_pyNext_list_end (I.ok.hd hc) st p.isList (by simp;omega) λh' G=>#[rfl,I.turned  (λb o f e=>G b o f e) m n q r t]
 self:=λ_ _ _ _ _ st h=>wpAny_pyIter_listiter st h
def rR {K:Nr}(a it:Nl):Turn P w K tg (Ir K a) [it] it (λi h=>h.IsTupleIter it a i) where
 mem:=by simp
 obj:=λi h st b f=>by
  have e:b=it:=by simpa using f
  subst e;obtain⟨o,e,c,d⟩:=st;show#[o,e,λv z=>by rw[d]at z;cases z]
 keep:=λi h h' st k=>st.at λo e=>k it (by simp) o e
 item:=by
  intro X y hw hK hc i J s Y H E I j st A;subst y hw hK;obtain⟨xs,x,l,B⟩:=A;obtain⟨its,C,p,O⟩:=I.tuple l;obtain⟨u,M,Q⟩:=C.get B;obtain⟨m,n,L,q,r,t⟩:=j it (by simp)
  show wpAny_pyNext_tuple_item st p  (by simpa using M) λh' g R=>?_
  have D:Inv X _ Y H {s with heap:=h'}:=I.turned  (λb o f e=>(R.2 b f).trans e) m n q r t
  obtain⟨o,e,c,d⟩:=id g;show#[u,rfl,pJ  e c d #v[] #[x,H,D,Q,#[rfl,λS N=>by rw[I.tuple_inj N l];show B],g,λb f=>(j b f).1]]
 done:=by
  intro X y hw hK hc i J s Y H E I j st A;subst y hw hK;obtain⟨xs,l,B⟩:=A;obtain⟨its,C,p,O⟩:=I.tuple l;obtain⟨m,n,L,q,r,t⟩:=j it (by simp)
  have hl:=↥C;show wpAny_pyNext_tuple_end (I.ok.hd hc) st p (by simp;omega) λh' G=>#[rfl,I.turned  (λb o f e=>G b o f e) m n q r t]
 self:=λ_ _ _ _ _ st h=>wpAny_pyIter_tupleiter st h
def rS {K:Nr}(it:Nl)(lo:NI)(n:Np):Turn P w K tg (IQ lo n) [it] it (λi h=>Wz h it (lo+i*1) (n-i) 1) where
 mem:=by simp
 obj:=λi h st b a=>by
  have e:b=it:=by simpa using a
  subst e;show#[_,st,λv z=>by
   have B:=z;cases B]
 keep:=λi h h' st k=>k it (by simp) _ st
 item:=by
  intro X q hw hK hc i J s Y H E I d st p;subst q hw hK;obtain⟨f,g,x,j,l,m⟩:=d it (by simp)
  have W:=Walks.range (prog:=X.prog) (w:=X.w) (I.ok.hd hc) it lo 1 n;show W.item i s _ _ p st λv h' tk y c A=>?_
  obtain⟨t,rfl⟩:=y;have r:Inv X _ Y H (xa s h' tk):=I.turned (λb o a e=>A b o (by simpa using a) e) f g j l m
  show#[_,rfl,pJ   c rfl rfl #v[] #[.int _,H,r,#[t,?_],#[rfl,rfl],c,λb a=>(d b a).1]]
  rw[Int.mul_one]
 done:=by
  intro X q hw hK hc i J s Y H E I d st p;obtain⟨f,g,x,j,l,m⟩:=d it (by simp)
  show wpAny_pyNext_range_end (I.ok.hd hc) st (by have:n<=i:=p;omega) λh' u=>#[rfl,I.turned  (λb o a e=>u b o a e) f g j l m]
 self:=λ_ _ _ _ _ st h=>wpAny_pyIter_rangeiter st h
section
variable{X:Cx}{tg:NF}
def yc {Y:St}{lo :NI}(I:Inv X J Y H s)(f : -(2^62)<=lo)(h2:lo<2^62)(g : -(2^62)<=hi)(h:hi<2^62)
  (q:R (IQ lo (hi-lo).toNat) H):wi X (pyIter (.ref ⇑s.heap.objs)) (IP X J Y tg R) E {s with heap:=s.heap.push {cls:=.type "range",data:=.fields [.int lo t,.int hi u,.int 1 v].toArray},toks:=tk}:=by
 show wpAny_pyIter_range (IsRange.new ..) (Wg f h2 g h) ?_;have a:Inv X J Y H {s with heap:=s.heap.push {cls:=.type "range",data:=.fields [.int lo t,.int hi u,.int 1 v].toArray},toks:=tk}:=I.kept λb o e=>Ng _ e
 show#[(s.heap.push {cls:=.type "range",data:=.fields [.int lo t,.int hi u,.int 1 v].toArray}).objs.size,[(s.heap.push {cls:=.type "range",data:=.fields [.int lo t,.int hi u,.int 1 v].toArray}).objs.size],_,_,H,rfl,
  a.kept (t':=tk) λb o e=>Ng _ e,rS _ lo (hi-lo).toNat,?_,λb i=>?_,q]
 ·have c:lo+((0:Np):NI)*1=lo:=by simp
  have d:(((hi-lo).toNat:Np):NI)-((0:Np):NI)=Pd lo hi 1:=by rw[TU];split<;>omega
  change Wz _ _ (lo+((0:Np):NI)*1) ((((hi-lo).toNat:Np):NI)-((0:Np):NI)) 1;rw[c,d];show Nx _ rfl
 ·have e:b=(s.heap.push {cls:=.type "range",data:=.fields [.int lo t,.int hi u,.int 1 v].toArray}).objs.size:=by simpa using i
  subst e;show a.fpOk (Ny _) (a.hok.fresh (Ny _))
abbrev IR (b:TA):TI:=λY H R=>b Y H λvs a=>∃j:NI,vs=[.int j]/\-(2^62)<=j/\j<2^62/\R (IQ 0 j.toNat) a
abbrev iRng2 (b:TA):TI:=λY H R=>b Y H λvs a=>∃i j:NI,vs=[.int i,.int j]/\(-(2^62)<=i/\i<2^62/\-(2^62)<=j/\j<2^62)/\R (IQ i (j-i).toNat) a
def vY (f:Gl X "range")(g:X.mg "range" = ba)(d:PA X [a] c)(i:starEach [a] X.env=[(false,eval a X.env)]:=by rfl):PI X tg (.Call (.Name "range" p) [a] [] pos) (IR c):=by
 intro J s Y H R I h;show Call_ (jk I f g boot_range (PU (bd (d pos _ s Y H _ I h) λus m #[vs,H1,I1,r1,b]=>?_) i rfl))
 obtain⟨j,e,b,k,q⟩:=b;subst e;cases r1 with
 |cons r l=>
  cases l;obtain⟨t,rfl⟩:=r;show call_range_1 (yc I1 ∅ ∅ b k (by simpa using q))
abbrev Lf (k:TI)(g:TG)(j:TS):TS:=λD Y H=>k Y H λb e=>∃W:Np->Np->St->Hp->Prop,(∃m,W 0 m Y e)/\∀i m Y H,W i m Y H->
 (b.stop i H/\D.nx Y H)\/(b.go i H/\∃N:St->Hp->Prop,(∀c a,N c a->∃d,d<m/\W (i+1) d c a)/\∀x a,b.yld i H x a->g x Y a λh f=>j {D with nx:=N,ct:=N,bk:=D.nx} h f)
abbrev kO (a:Nb Nl)(h:N6):Nb (Nl×OQ):=a.filterMap λb=>(h.get? b).map λo=>(b,o)
def eM (c:b∈a)(e:h.get? b=aB o):(b,o)∈kO a h:=Ue.mpr #[b,c,by rw[e];rfl]
def vZ (f:p∈kO a h):p.1∈a/\h.get? p.1=aB p.2:=by
 obtain⟨b,d,e⟩:=Ue.mp f;cases q:h.get? b with
 |none=>rw[q]at e;cases e
 |some o=>
  rw[q]at e;have c:=OC e;subst c;show#[d,q]
def Inv.pinned {Y:St}(I:Inv X J Y H s)(j:∀b∈a,gP X J H b)(k:∀b∈a,∃o,s.heap.get? b=aB o/\∀v,o.data≠.cell v):Inv X (J++kO a s.heap) Y H s:=
 I.pins_of λp l=>(Op.mp l).elim (λz=>I.pin p (NG _ z)) λz=>by
  obtain⟨f,e⟩:=vZ z;obtain⟨g,h,i,_⟩:=j p.1 f;obtain⟨o,c,d⟩:=k p.1 f;rw[e]at c;cases c
  show#[e,g,h,i,d]
def Inv.unpinned {Y:St}(I:Inv X (J++pl) Y H s):Inv X J Y H s:=I.pins_of λp a=>I.pin p (NG _ (Ob _ a))
def FN (z:RW (model X.prog X.w) X.A X.env X.xe)(hc:X.calm=true)(hi:PI X tg iter Z)(hg:PG X tg g)(k:PSs X body U)
  (hs:∀x,foldedSetIterable iter X.env x=pure x:=by intro _;rfl):PS X (.For tg iter body [] pos) (Lf Z g U):=by
 intro J s Y H D I h;show wpAny_For (bd (hi _ s Y H _ I h) λv s1 h1=>bd h1 λitv s2 h2=>?_) hs
 obtain⟨it,G,V,tx,H2,e,I2,T,bz,P,W,⟨m0,w0⟩,turn⟩:=h2;subst e;have l:∀{p:Hp},(∀b∈G,p b=ba)->∀b∈G,gP X _ p b:=λhn b k=>#[hn b k,(P b k).2]
 show codeAny_forLoop_any (λn Q=>∃i t p,Inv X _ t p Q/\V i Q.heap/\(∀b∈G,p b=ba)/\W i n t p) ?_ m0 #[0,Y,H2,I2,bz,λb k=>(P b k).1,w0]
 rintro n R ⟨i,w,E,O,B,y,w3⟩;rcases turn i n w E w3 with⟨C,qn⟩|⟨go,N,hN,step⟩
 ·show Qa z (bd (T.done X rfl rfl rfl hc i _ R w E _ O (l y) B C) λr s4 #[M,I4]=>?_)
  subst M;show RB #[w,E,I4,qn]
 ·show Qa z (bd (T.item X rfl rfl rfl hc i _ R w E _ O (l y) B go) λr s4 #[u,M,h4]=>?_)
  subst M;show Qa z (bd h4 λ_ s5 #[x,H5,I5,r5,y5,st5,fr5]=>?_)
  have L:=I5.pinned (l fr5) (T.obj _ _ st5);show Qa z (bd (hg _ s5 w H5 x u _ L r5 (step x H5 y5)) λ_ s6 #[Y6,H6,I6,q6]=>?_)
  show Qa z (bd (k _ s6 Y6 H6 _ I6 q6) λf S q=>?_)
  have again:∀{j:St}{a:Hp},Inv X _ j a S->N j a->∃m,m<n/\∃i t p,Inv X J t p S/\V i _/\(∀b∈G,p b=ba)/\W i m t p:=λ{j a} c A=>by
   obtain⟨m',hm,w7⟩:=hN j a A;show#[m',hm,i+1,j,a,c.unpinned,T.keep _ _ _ st5 λb k o e=>(c.pin _ (NG _ (NG _ (eM k e)))).1,λb k=>?_,w7]
   obtain⟨o,e,d⟩:=T.obj _ _ st5 b k;show(c.pin (b,o) (NG _ (NG _ (eM k e)))).2.1
  cases f with
  |next=>obtain⟨j,a,c,A⟩:=q;show again c A
  |cont=>obtain⟨j,a,c,A⟩:=q;show again c A
  |brk=>obtain⟨j,a,c,q⟩:=q;show#[j,a,c.unpinned,q]
  |ret v=>obtain⟨x7,j,a,c,r7,q⟩:=q;show#[x7,j,a,c.unpinned,r7,q]
end
def for_tup {K:Nr}{g:TG}{l:TS}{D:Ends}(b:Np->St->Hp->Prop)(n:b 0 Y H)(hl:∀i Y H,i<=↥xs->b i Y H->SqT K H a xs)
  (o:∀i x Y H,xs[i]?=aB x->b i Y H->g x Y H λj f=>l {D with nx:=b (i+1),ct:=b (i+1),bk:=D.nx} j f) (hd:∀Y H,b ↥xs Y H->D.nx Y H) :
  ∃W:Np->Np->St->Hp->Prop,(∃m,W 0 m Y H)/\∀i m Y H,W i m Y H->
   ((Ir K a).stop i H/\D.nx Y H)\/((Ir K a).go i H/\∃N:St->Hp->Prop,(∀h c,N h c->∃k,k<m/\W (i+1) k h c)/\∀x c,(Ir K a).yld i H x c->g x Y c λj f=>l {D with nx:=N,ct:=N,bk:=D.nx} j f):=by
 show#[λi m Y H=>m=↥xs-i/\i<=↥xs/\b i Y H,#[↥xs,by rfl,OW _,n],?_]
 rintro i m Y H ⟨rfl,hi,p⟩;have q:=hl i Y H hi p
 by_cases d:i<↥xs
 ·show .inr #[#[xs,xs[i],q,by simp[d]],b _,λh c r=>#[↥xs-(i+1),∅,rfl,d,r],λx c y=>?_]
  obtain⟨e,y⟩:=y;subst e;show o i x Y _ (y xs q) p
 ·have e:i=↥xs:=∅
  subst e;show .inl #[#[xs,q,Ny _],hd Y H p]
noncomputable abbrev R2:=V->V->Hp->VK->Prop
abbrev OpR (X:Cx)(f:Nd->Nd->VZ Nd)(r:R2):Prop:=
 ∀(J:Nb (Nl×OQ)) (s:Nh) (Y:St) (H:Hp) (x y:V) (v u:Nd) (Q:VK),Inv X J Y H s->RelV x v->RelV y u->r x y H Q->
  wi X (f v u) (EP X J Y Q) X.xe s
abbrev Lg (X:Cx)(f:Nd->VZ Nd)(r:V->Hp->VK->Prop):Prop:=
 ∀(J:Nb (Nl×OQ)) (s:Nh) (Y:St) (H:Hp) (x:V) (v:Nd) (Q:VK),Inv X J Y H s->RelV x v->r x H Q->
  wi X (f v) (EP X J Y Q) X.xe s
abbrev CallR (X:Cx)(f:Nd)(r:Nb V->Hp->VK->Prop):Prop:=
 ∀(J:Nb (Nl×OQ)) (s:Nh) (Y:St) (H:Hp) (xs:Nb V) (us:Nb Nd) (Q:VK),Inv X J Y H s->Vals xs us->r xs H Q->
  wi X (call f us) (EP X J Y Q) X.xe s
abbrev Lh (X:Cx)(r:V->Hp->(ND->Hp->Prop)->Prop):Prop:=
 ∀(J:Nb (Nl×OQ)) (s:Nh) (Y:St) (H:Hp) (x:V) (v:Nd) (Q:ND->Hp->Prop),Inv X J Y H s->RelV x v->r x H Q->
  wi X (truthy v) (TP X J Y Q) X.xe s
abbrev KR (r:R2)(c d:TE):TE:=λY H Q=>c Y H λx a=>d Y a λy b=>r x y b Q
abbrev MP (r:V->Hp->VK->Prop)(b:TE):TE:=λY H Q=>b Y H λx a=>r x a Q
abbrev rI (C:NI->NI->Prop)(g:NI->NI->V):R2:=λx y H Q=>∃i j,x=.int i/\y=.int j/\C i j/\Q (g i j) H
abbrev EB (g:NI->NI->V):R2:=λx y H Q=>∃i j,x=.int i/\y=.int j/\Q (g i j) H
abbrev rU (g:NI->V):V->Hp->VK->Prop:=λx H Q=>∃i,x=.int i/\Q (g i) H
section
variable{X:Cx}{a b c:NF}{ta tb tc:TE}{pos:Pp}
def FP (j:PE X a ta)(k:PE X b tb){Y:St}{R:V->V->Hp->Prop}(I:Inv X J Y H s)
  (h:ta Y H λx i=>tb Y i λy c=>R x y c) {f:Nd->Nd->VZ Nd}
  (l:∀v u g x y c,Inv X J Y c g->RelV x v->RelV y u->R x y c->wi X (f v u) Q X.xe g) :
  wi X (eval a X.env) (λv d=>wi X (eval b X.env) (λu e=>wi X (f v u) Q X.xe e) X.xe d) X.xe s:=by
 show bd (j _ s Y H _ I h) λv m #[x,i,I1,r1,q1]=>?_
 show bd (k _ m Y i _ I1 q1) λu g #[y,c,I2,r2,q2]=>?_
 show l v u g x y c I2 r1 r2 q2
def IS {c:Uu}(i:OpR X (binaryOp c) r)(f:PE X a ta)(g:PE X b tb):PE X (.BinOp a c b pos) (KR r ta tb):=by
 intro J s Y H Q I h;show wpAny_BinOp (FP f g I h λv u l x y d e j k q=>i _ l Y d x y v u Q e j k q)
def IT {b:UnaryOp}(d:Lg X (unaryOp b) r)(c:PE X a ta):PE X (.UnaryOp b a pos) (MP r ta):=by
 intro J s Y H Q I h;show UnaryOp_ (bd (c _ s Y H _ I h) λv e #[x,H1,I1,r1,q1]=>d _ e Y H1 x v Q I1 r1 q1)
def KS {g:NI->NI->NI}
  (a:∀ i j t u s Q E,C i j->Q (.int (g i j) s.toks) {s with toks:=s.toks+1}->wi X (f (.int i t) (.int j u)) Q E s) :
  OpR X f (rI C λi j=>.int (g i j)):=by
 intro J s Y H x y v u Q I b c h;obtain⟨i,j,rfl,rfl,hc,q⟩:=h;obtain⟨t,rfl⟩:=b;obtain⟨t',rfl⟩:=c;show a i j t t' s _ _ hc #[.int _,H,I.tok _,#[_,rfl],q]
def IU {g:NI->NI->NI}
  (a:∀ i j t u s Q E,Q (.int (g i j) s.toks) {s with toks:=s.toks+1}->wi X (f (.int i t) (.int j u)) Q E s) :
  OpR X f (EB λi j=>.int (g i j)):=by
 intro J s Y H x y v u Q I b c h;obtain⟨i,j,rfl,rfl,q⟩:=h;obtain⟨t,rfl⟩:=b;obtain⟨t',rfl⟩:=c;show a i j t t' s _ _ #[.int _,H,I.tok _,#[_,rfl],q]
def BU {g:NI->NI->ND}
  (a:∀ i j t u s Q E,Q (.bool (g i j)) s->wi X (f (.int i t) (.int j u)) Q E s) :
  OpR X f (EB λi j=>.bl (g i j)):=by
 intro J s Y H x y v u Q I b c h;obtain⟨i,j,rfl,rfl,q⟩:=h;obtain⟨t,rfl⟩:=b;obtain⟨t',rfl⟩:=c;show a i j t t' s _ _ #[.bl _,H,I,rfl,q]
abbrev Li (i j:NI):Prop:=0<j/\j<1073741824
abbrev Lj (i j:NI):Prop:=0<=j/\j<=1000000/\i.natAbs<2^64
abbrev CMul (i j:NI):Prop:=(-(2^64)<i/\i<2^64)\/(-(2^64)<j/\j<2^64)
def CMul.ok (h:CMul i j):IntMulOk i j:=by
 rcases h with⟨a,h2⟩|⟨a,h2⟩
 ·show .of_left (V3 a h2)
 ·show .of_right (V3 a h2)
def FQ:OpR X (binaryOp .Add) (EB λi j=>.int (i+j)):=IU λ_ _ _ _ _ _ _ q=>add_int q
def FR:OpR X (binaryOp .Sub) (EB λi j=>.int (i-j)):=IU λ_ _ _ _ _ _ _ q=>sub_int q
def FU:OpR X (binaryOp .Mult) (rI CMul λi j=>.int (i*j)):=KS λ_ _ _ _ _ _ _ hc q=>mul_int q hc.ok
def BV:OpR X (binaryOp .FloorDiv) (rI Li λi j=>.int (i/j)):=KS λi j _ _ _ _ _ hc q=>by
 have a:(0:NI)<j:=hc.1;have h2:j<1073741824:=hc.2;show floordiv_int ∅ (by rw[Int.fdiv_eq_ediv_of_nonneg i ∅];show q) (.inl (PyProof.noPylong_small ∅))
def FV:OpR X (binaryOp .Mod) (rI (λ_ j=>0<j) λi j=>.int (i % j)):=KS λi j _ _ _ _ _ hc q=>by
 have a:(0:NI)<j:=hc;show mod_int' ∅ (by rw[Int.fmod_eq_emod_of_nonneg i ∅];show q)
def FW:OpR X (binaryOp .Pow) (rI Lj λi j=>.int (i^j.toNat)):=KS λ_ _ _ _ _ _ _ hc q=>pow_int_small hc.1 hc.2.1 hc.2.2 q
def MQ {g:NI->NI}
  (a:∀ i t s Q E,Q (.int (g i) s.toks) {s with toks:=s.toks+1}->wi X (f (.int i t)) Q E s) :
  Lg X f (rU λi=>.int (g i)):=by
 intro J s Y H x v Q I b h;obtain⟨i,rfl,q⟩:=h;obtain⟨t,rfl⟩:=b;show a i t s _ _ #[.int _,H,I.tok _,#[_,rfl],q]
def FY:Lg X (unaryOp .USub) (rU λi=>.int (-i)):=MQ λ_ _ _ _ _ q=>neg_int q
def rT {Y:St}{ a:ND}(I:Inv X J Y H s)(q:Q (.bl k) H)(e:k=a):EP X J Y Q (.bool a) s:=by
 subst e;show#[.bl k,H,I,rfl,q]
def IV:OpR X (compareOp .Lt) (EB λi j=>.bl (decide (i<j))):=BU λ_ _ _ _ _ _ _ q=>lt_int q
def IW:OpR X (compareOp .LtE) (EB λi j=>.bl (decide (i<=j))):=BU λ_ _ _ _ _ _ _ q=>le_int q
def IX:OpR X (compareOp .Gt) (EB λi j=>.bl (decide (j<i))):=BU λ_ _ _ _ _ _ _ q=>gt_int q
def IY:OpR X (compareOp .GtE) (EB λi j=>.bl (decide (j<=i))):=BU λ_ _ _ _ _ _ _ q=>ge_int q
def v6:OpR X (compareOp .In) (λx y H Q=>∃i j,x=.str i/\y=.str j/\Q (.bl (!(Rc j i 0 ↥j 1).isEmpty)) H):=by
 intro J s Y H x y v u Q I a b h;obtain⟨i,j,rfl,rfl,q⟩:=h;obtain⟨t,rfl⟩:=a;obtain⟨t',rfl⟩:=b;show in_str (rT I q rfl)
def FZ:OpR X (compareOp .Is) (λx y H Q=>y=.non/\Q (.bl (decide (x=.non))) H):=by
 intro J s Y H x y v u Q I a b h;obtain⟨rfl,q⟩:=h;cases b;show is_none_gen (rT I q ?_);cases x<;>first
  |(cases a;rfl)
  |(obtain⟨t,rfl⟩:=a;rfl)
def BW:OpR X (compareOp .IsNot) (λx y H Q=>y=.non/\Q (.bl (!decide (x=.non))) H):=by
 intro J s Y H x y v u Q I a b h;obtain⟨rfl,q⟩:=h;cases b;show isnot_none_gen (rT I q ?_);cases x<;>first
  |(cases a;rfl)
  |(obtain⟨t,rfl⟩:=a;rfl)
def BX {c:Uv}(j:OpR X (compareOp c) r)(f:PE X a ta)(g:PE X b tb)(i:behindInMarks c b=false):PE X (.Compare a [c] [b] pos) (KR r ta tb):=by
 intro J s Y H Q I h;show wpAny_Compare1 (FP f g I h λv u m x y d e k l q=>j J m Y d x y v u Q e k l q) i
abbrev EC (t:TE):TT:=λY H Q=>t Y H λx a=>∃k,x=.bl k/\Q k a
def BY (j:OpR X (compareOp d) r)(f:PE X a ta)(g:PE X b tb)(i:behindInMarks d b=false):PT X (.Compare a [d] [b] pos) (EC (KR r ta tb)):=by
 intro J s Y H Q I h;show wpAny_isTrue_Compare1 (bd (f _ s Y H _ I h) λv l #[x,H1,I1,r1,q1]=>bd (g _ l Y H1 _ I1 q1) λu m #[y,H2,I2,r2,q2]=>
  bd (j _ m Y H2 x y v u _ I2 r1 r2 q2) λc n #[z,H3,I3,r3,k,e,q3]=>?_) i
 subst e;cases r3;show OZ #[H3,I3,q3]
abbrev rV (r e:R2)(ta tb tc:TE):TE:=λY H Q=>ta Y H λx b=>tb Y b λy c=>r x y c λz a=>∃k,z=.bl k/\
 (if k=true then tc Y a λf d=>e y f d Q else Q (.bl false) a)
def yd (o:OpR X (compareOp i) r)(g:OpR X (compareOp f) j)(l:PE X a ta)(m:PE X b tb)(hc:PE X c tc)
  (n:lastMarks [i,f] [b,c]=false:=by with_unfolding_all rfl):PE X (.Compare a [i,f] [b,c] pos) (rV r j ta tb tc):=by
 intro J s Y H Q I h;show Compare_chain (bd (l _ s Y H _ I h) λv p #[x,H1,I1,r1,q1]=>chain_link (bd (m _ p Y H1 _ I1 q1) λu q #[y,H2,I2,r2,q2]=>
  bd (o _ q Y H2 x y v u _ I2 r1 r2 q2) λd t #[z,H3,I3,r3,k,e,q3]=>?_)) n
 subst e;cases r3;show OZ ?_;cases k with
 |false=>show ite_ff #[.bl _,H3,I3,rfl,q3]
 |true=>show ite_tt (chain_last (bd (hc _ t Y H3 _ I3 q3) λA w #[B,H4,I4,r4,q4]=>g _ w Y H4 y B u A Q I4 r2 r4 q4))
def ye (p:OpR X (compareOp i) r)(g:OpR X (compareOp f) j)(m:PE X a ta)(n:PE X b tb)(hc:PE X c tc)
  (o:lastMarks [i,f] [b,c]=false:=by with_unfolding_all rfl):PT X (.Compare a [i,f] [b,c] pos) (EC (rV r j ta tb tc)):=by
 intro J s Y H Q I h;show isTrue_chain (bd (m _ s Y H _ I h) λv t #[x,H1,I1,r1,q1]=>test_link (bd (n _ t Y H1 _ I1 q1) λu w #[y,H2,I2,r2,q2]=>
  bd (p _ w Y H2 x y v u _ I2 r1 r2 q2) λd A #[z,H3,I3,r3,k,e,q3]=>?_)) o
 subst e;cases r3;show OZ ?_;cases k with
 |false=>
  obtain⟨E,l,q⟩:=q3;cases l;show ite_ff #[H3,I3,q]
 |true=>
  show ite_tt (test_last (bd (hc _ A Y H3 _ I3 q3) λC B #[D,H4,I4,r4,q4]=>bd (g _ B Y H4 y D u C _ I4 r2 r4 q4) λd' G #[L,H5,I5,r5,k2,e2,q5]=>?_))
  subst e2;cases r5;show OZ #[H5,I5,q5]
abbrev Lk (K:Nr)(x:V)(H:Hp)(k:ND):Prop:=
 match x with
 |.non=>k=false
 |.bl b=>k=b
 |.int i=>k=(i != 0)
 |.str y=>↥y<=sizeLine/\k=((↥y:NI) != 0)
 |.byt y=>⇑y<=sizeLine/\k=((⇑y:NI) != 0)
 |.ref p=>(∃xs,SqL K H p xs/\k = !xs.isEmpty)\/(∃xs,SqT K H p xs/\k = !xs.isEmpty)\/∃U,H p=aB (.dK U)/\k = !U.isEmpty
 |_=>Oo
def rW {vs:Nb (κ×Nd)}(r:KV U vs):(!vs.isEmpty) = !U.isEmpty:=by
 cases r<;>rfl
def kP (r:Vals xs its):(!its.toArray.isEmpty) = !xs.isEmpty:=by
 cases r<;>rfl
def nJ:sizeLine<2^63:=by decide
def F1:Lh X (λx H Q=>∃k,Lk X.K x H k/\Q k H):=by
 intro J s Y H x v Q I d h;obtain⟨k,e,q⟩:=h;have n:=OF;cases x with
 |non=>
  cases d;have a:=e;subst a;show truthy_none #[H,I,q]
 |bl b=>
  cases d;have a:=e;subst a;show OZ #[H,I,q]
 |int i=>
  obtain⟨t,rfl⟩:=d;have a:=e;subst a;show PySem.P.truthy_int #[H,I,q]
 |str y=>
  obtain⟨t,rfl⟩:=d;obtain⟨l,a⟩ : ↥y<=sizeLine/\k=((↥y:NI) != 0):=e;subst a;show PySem.P.truthy_str ∅ #[H,I.tok _,q]
 |byt y=>
  obtain⟨t,rfl⟩:=d;obtain⟨l,a⟩ : ⇑y<=sizeLine/\k=((⇑y:NI) != 0):=e;subst a;show PySem.W.truthy_bytes (by show NO ‹_› (No rfl)) #[H,I.tok _,q]
 |ref p=>
  cases d;have a:=e;rcases a with⟨xs,f,a⟩|⟨xs,f,a⟩|⟨U,f,a⟩
  ·subst a;obtain⟨its,r,pl,g⟩:=I.list f;have c:=↥r;show wpAny_truthy_list pl.isList (by revert NC;omega) #[H,I.tok _,by rw[kP r];show q]
  ·subst a;obtain⟨its,r,pl,g⟩:=I.tuple f;have c:=↥r;show truthy_tuple pl (by revert NC;omega) #[H,I.tok _,by rw[kP r];show q]
  ·subst a;obtain⟨g,j,vs,r,m⟩ : ↥U<=sizeLine/\(p==sysModules)=false/\∃vs,KV U vs/\s.heap.DictOf (uc X.prog X.w) p vs:=I.hok p _ f;have c:=Sn r;show wpAny_truthy_dict j m ∅ #[H,I.tok _,by rw[rW r];show q]
 |_=>show e.elim
def rX:OpR X (binaryOp .Add) (λx y H Q=>∃i j,x=.str i/\y=.str j/\↥i+↥j<=sizeLine/\Q (.str (i++j)) H):=by
 intro J s Y H x y v u Q I b c h;obtain⟨i,j,rfl,rfl,a,q⟩:=h;obtain⟨t,rfl⟩:=b;obtain⟨t',rfl⟩:=c;show add_str (λt' tk=>#[.str _,H,I.tok _,#[_,rfl],q]) a
def jM (r:Vals [x] us):∃u,us=[u]/\RelV x u:=by
 cases r with
 |cons a b=>cases b;show#[_,rfl,a]
def yf:CallR X (.builtin "abs") (λxs H Q=>∃i,xs=[.int i]/\Q (.int (if i<0 then -i else i)) H):=by
 intro J s Y H xs us Q I r h;obtain⟨i,rfl,q⟩:=h;obtain⟨u,rfl,t,rfl⟩:=jM r;show call_abs_int λu tk=>#[.int (if i<0 then -i else i),H,I.tok _,#[_,rfl],q]
def mz:CallR X (.type "int") (λxs H Q=>(∃i,xs=[.int i]/\Q (.int i) H)\/∃k,xs=[.bl k]/\Q (.int (if k then 1 else 0)) H):=by
 intro J s Y H xs us Q I r h;rcases h with⟨i,rfl,q⟩|⟨k,rfl,q⟩
 ·obtain⟨u,rfl,t,rfl⟩:=jM r;show call_int_int #[.int i,H,I,#[_,rfl],q]
 ·obtain⟨u,rfl,a⟩:=jM r;cases a;show call_int_bool #[.int _,H,I.tok _,#[_,rfl],q]
abbrev Lm (K:Nr)(x:V)(H:Hp)(n:Np):Prop:=
 match x with
 |.str y=>↥y<=sizeLine/\n=↥y
 |.byt y=>⇑y<=sizeLine/\n=⇑y
 |.ref p=>(∃xs,SqL K H p xs/\n=↥xs)\/∃xs,SqT K H p xs/\n=↥xs
 |_=>Oo
def kQ:CallR X (.builtin "len") (λxs H Q=>∃x n,xs=[x]/\Lm X.K x H n/\Q (.int n) H):=by
 intro J s Y H xs us Q I r h;obtain⟨x,n,rfl,e,q⟩:=h;obtain⟨u,rfl,f⟩:=jM r;have j:=OF;cases x with
 |str y=>
  obtain⟨t,rfl⟩:=f;obtain⟨g,b⟩ : ↥y<=sizeLine/\n=↥y:=e;subst b;show len_str ∅ #[.int _,H,I.tok _,#[_,rfl],q]
 |byt y=>
  obtain⟨t,rfl⟩:=f;obtain⟨g,b⟩ : ⇑y<=sizeLine/\n=⇑y:=e;subst b;show PySem.W.len_bytes ∅ #[.int _,H,I.tok _,#[_,rfl],q]
 |ref p=>
  cases f;have b:=e;rcases b with⟨xs,c,b⟩|⟨xs,c,b⟩
  ·subst b;obtain⟨its,d,pl,i⟩:=I.list c;have a:=↥d;show Calls.call_len_list pl.isList (by revert NC;omega) #[.int _,H,I.tok _,#[_,by revert NC;rw[a]],q]
  ·subst b;obtain⟨its,d,pl,i⟩:=I.tuple c;have a:=↥d;show len_tuple pl (by revert NC;omega) #[.int _,H,I.tok _,#[_,by revert NC;rw[a]],q]
 |_=>show e.elim
end
def v7 {h:N6}(n:h.Ns1 c f):∃od,h.get? c=aB od/\∀name,VG name od=aB (f name):=by
 obtain⟨o,d,l,j,hd,hk,_,i⟩:=n;show#[o,j,λname=>?_]
 have e:=i name;unfold nsFind findBy at e;rw[<- Array.find?_toList]at e;unfold VG;rw[hd];dsimp only;split
 next y q=>rw[q]at e;show congrArg aB e
 next q=>
  rw[q]at e;have a:d.toList.any (·.refKey)=false:=by
   rw[List.any_eq_false];intro y k;obtain⟨z,t,b⟩:=hk y (Array.mem_toList_iff.mp k);simp[Xb,b]
  have g:¬ d.toList.any (·.refKey)=true:=by rw[a];show Oe
  rw[N1 g];show congrArg aB e
abbrev iw (f:Nu)(v:V):Nb (Nu×V)->Nb (Nu×V)
 |[]=>[(f,v)]
 |(g,x)::r=>if g=f then(g,v)::r else(g,x)::iw f v r
def fB (f g:Nu)(v:V):∀fs:Nb (Nu×V),(iw f v fs).lookup g=if g=f then aB v else fs.lookup g
 |[]=>by
  change QH g [(f,v)]=_
  by_cases h:g=f
  ·have a:(g==f)=true:=Pu.mpr h;simp only[QH,a,NK h]
  ·have a:(g==f)=false:=PP.mpr h;simp only[QH,a,N1 h]
 |(k,x)::r=>by
  have ih:=fB f g v r;rw[show iw f v ((k,x)::r)=(if k=f then(k,v)::r else(k,x)::iw f v r)from rfl]
  by_cases hk:k=f
  ·rw[NK hk]
   by_cases h:g=k
   ·have a:(g==k)=true:=Pu.mpr h;simp only[QH,a,NK (h.trans hk)]
   ·have a:(g==k)=false:=PP.mpr h;simp only[QH,a,N1 (λe:g=f=>h (e.trans hk.symm))]
  ·rw[N1 hk]
   by_cases h:g=k
   ·have a:(g==k)=true:=Pu.mpr h;simp only[QH,a,N1 (λe:g=f=>hk (h.symm.trans e))]
   ·have a:(g==k)=false:=PP.mpr h;revert QH a;show ih
def jl (f:Nu)(v:V):∀fs:Nb (Nu×V),f∈(iw f v fs).map (·.1)/\∀g,g∈fs.map (·.1)->g∈(iw f v fs).map (·.1)
 |[]=>#[by simp[iw],λg h=>by simp at h]
 |(k,x)::r=>by
  obtain⟨i1,a⟩:=jl f v r;rw[show iw f v ((k,x)::r)=(if k=f then(k,v)::r else(k,x)::iw f v r)from rfl]
  by_cases hk:k=f
  ·rw[NK hk];subst hk;show#[by simp,λg h=>by simpa using h]
  ·rw[N1 hk];show#[?_,λg h=>?_]
   ·rw[Ol];show NL _ i1
   ·rw[Ol]at h ⊢;rcases NE.mp h with e|e
    ·show NE.mpr (.inl e)
    ·show NL _ (a g e)
section
variable{X:Cx}{J:Nb (Nl×OQ)}{Y:St}{H:Hp}{s:Nh}{a C dx:Nl}{fs:Nb (Nu×V)}{f:Nu}{v:V}{A:NY}{E:Nd->Nh->Prop}
def BZ (b:attributeBase e f env (eval e env)=eval e env)
  (h:wh prog w A (eval e env) (λo a=>wh prog w A (getAttr o f true) Q E a) E s):wh prog w A (eval (.Attribute e f pos) env) Q E s:=
 Attribute_any_ h (by rw[arm_eval_Attribute,b])
end
structure Room (k:Np)(A:NY):Prop where
 hd:A.handled=ba
 dp:A.depth+3*k+5<recursionLimit
 un:A.units+16*k+200<cLine
def Room.mono (r:Room k A)(h:j<=k):Room j A:=#[r.hd,by have:=r.dp;omega,by have:=r.un;omega]
def Room.deeper (r:Room (k+1) A)(env:RX):Room k (A.deeper env):=
 #[r.hd,by have:=r.dp;show A.depth+1+3*k+5<_;omega,by have:=r.un;show A.units+3+16*k+200<_;omega]
def rY {A:NY}:(A.under (.builtin "type.__call__" #[.ref C::us,a])).depth=A.depth+1:=by
 first|rfl|simp[Uw,Code.weight,Code.isCreation,Code.isGuard,Code.isCaller,WA,Ux,guardIds]
def rZ {A:NY}:(A.under (.builtin "type.__call__" #[.ref C::us,a])).units=A.units+1:=by
 first|rfl|simp[Uw,Code.cUnits,WA,Ux]
def Room.make (r:Room (k+1) A)(C:Nl)(us:Nb Nd)(a:Nb (Nu×Nd)):Room k (A.under (.builtin "type.__call__" #[.ref C::us,a])):=
 #[r.hd,by have:=r.dp;rw[rY];omega,by have:=r.un;rw[rZ];omega]
def Room.depth (r:Room k A):A.depth<recursionLimit:=by have:=r.dp;omega
abbrev B0:TA:=λ_ H Q=>Q [] H
abbrev yg (c:TE)(d:TA):TA:=λY H Q=>c Y H λx a=>d Y a λxs b=>Q (x::xs) b
section
variable{X:Cx}{e:NF}{es:Nb NF}{te:TE}{t:TA}{pos:Pp}
def gQ:PA X [] B0:=λ_ _ _ _ H Q I h=>Calls.spliced_nil #[[],H,I,.nil,h]
def bU (a:PE X e te)(b:PA X es t)(c:starEach (e::es) X.env=(false,eval e X.env)::starEach es X.env:=by rfl):PA X (e::es) (yg te t):=by
 intro pos J s Y H Q I h;rw[c];show Calls.spliced_cons (bd (a _ s Y H _ I h) λu d #[x,H1,I1,r1,q1]=>?_)
 show bd (b pos _ d Y H1 _ I1 q1) λus f #[xs,H2,I2,r2,q2]=>#[x::xs,H2,I2,.cons r1 r2,q2]
abbrev Ln (t:TA):TE:=λY H Q=>t Y H λxs a=>↥xs<=sizeLine/\∀p,a p=ba->Q (.ref p) (aT a p (.tup xs))
abbrev Lo (t:TA):TE:=λY H Q=>t Y H λxs a=>↥xs<=sizeLine/\∀p,a p=ba->Q (.ref p) (aT a p (.lst xs))
def yh {x1}(h:PA X es t):PE X (.Tuple es x1 pos) (Ln t):=by
 intro J s Y H Q I c;show wpAny_Tuple_spliced (bd (h pos _ s Y H _ I c) λus d #[xs,H1,I1,r,z,q]=>#[by rw[<- ↥r];show z,?_])
 have a:=I1.hok.fresh (Ny _);show#[.ref _,aT H1 _ _,I1.laid  (λb u e=>Ng _ e) (Ny _) ?_,rfl,q _ a]
 show#[#[z,NoD.new _ _ _],us,r,#[_,Nx _ rfl,rfl,_,rfl]]
def F3 (h:PA X es t):PE X (.List es pos) (Lo t):=by
 intro J s Y H Q I c;show wpAny_List_spliced (bd (h pos _ s Y H _ I c) λus d #[xs,H1,I1,r,z,q]=>#[by rw[<- ↥r];show z,?_])
 have a:=I1.hok.fresh (Ny _);show#[.ref _,aT H1 _ _,I1.laid  (λb u e=>Ng _ e) (Ny _) ?_,rfl,q _ a]
 show#[z,us,0,r,Nx _ rfl]
end
noncomputable abbrev Sp:=Nb V->Hp->VK->XK->Prop
noncomputable abbrev rM:=Nb RX->Hp->Nh->XK->Nd->Nh->Prop
structure Env0 (P:NM)(w:NU)(K:Nr)(mg:Nu->Nf Nd)(base:N6)(A:NY)(outer:Nb RX)(s:Nh)(H:Hp):Prop where
 frames:A.frames=aB outer
 mod:Mod K mg base
 bs:∀b o,base.get? b=aB o->s.heap.get? b=aB o/\H b=ba
 bsz:⇑base.objs<=⇑s.heap.objs
 funs:s.heap.FunFrames base outer
 frf:∀b∈my outer,H b=ba
 hok:HOk P w H s.heap
 bare:RP s.gens
abbrev CE (outer:Nb RX)(P:NM)(w:NU)(H:Hp)(s:Nh)(Q:VK)(u:Nd)(a:Nh):Prop:=
 ∃v b,a.os=s.os/\RP a.gens/\Un (my outer) [] H b s.heap a.heap/\HOk P w b a.heap/\RelV v u/\Q v b
abbrev CR (CX:rM)(outer:Nb RX)(P:NM)(w:NU)(H:Hp)(s:Nh)(Q:VK)(E:XK)(r:SG)(a:Nh):Prop:=
 match r with
 |.ok (.ret u)=>CE outer P w H s Q u a
 |.ok _=>Oo
 |.error e=>CX outer H s E e a
structure FnOk (P:NM)(w:NU)(K:Nr)(mg:Nu->Nf Nd)(base:N6)(CX:rM)(k:Np)(f:Nl)(fd:OG)(ps:Nb Nu)(sp:Sp):Prop where
 len:∀vs H Q E,sp vs H Q E->↥vs=↥ps
 run:∀(A:NY) (outer:Nb RX) (s:Nh) (H:Hp) (args:Args) (us:Nb Nd) (vs:Nb V) (Q:VK) (E:XK),Room k A->Env0 P w K mg base A outer s H->TD s fd args (ps.zip us)->Vals vs us->sp vs H Q E->
  codeAny (model P w) A (.call (.ref f) args) (CR CX outer P w H s Q E) s
def FnOk.imp {K:Nr}(F:FnOk P w K mg base CX k f fd ps sp)
  (h:∀vs H Q E,a vs H Q E->sp vs H Q E):FnOk P w K mg base CX k f fd ps a:=
 #[λvs H Q E q=>F.len vs H Q E (h _ _ _ _ q),λA outer s H args us vs Q E d c b g e=>F.run A outer s H args us vs Q E d c b g (h _ _ _ _ e)]
def Env0.make {K:Nr}(e:Env0 P w K mg base A outer s H)(C:Nl)(us:Nb Nd)(a:Nb (Nu×Nd)) :
  Env0 P w K mg base (A.under (.builtin "type.__call__" #[.ref C::us,a])) outer s H:=#[by first|show e.frames|(simpa [Uw,Code.envs,Ux,pushEnvs]using e.frames),e.mod,e.bs,e.bsz,e.funs,e.frf,e.hok,e.bare]
section
variable{X:Cx}{J:Nb (Nl×OQ)}{Y:St}{H:Hp}{s s':Nh}
def Inv.env0 (I:Inv X J Y H s):Env0 X.prog X.w X.K X.mg X.base X.A X.stack s H:=
 #[I.ok.frames,I.ok.mod,I.bs,NO I.ok.bsz I.sz,I.stack,I.stkFree,I.hok,I.bare]
def Inv.after (I:Inv X J Y H s)(h:CE X.stack X.prog X.w H s Q u s'):EP X J Y Q u s':=by
 obtain⟨v,f,os,a,un,c,r,q⟩:=h;obtain⟨i,g,d,t,e⟩:=s';obtain rfl:e=s.os:=os;show#[v,f,I.call (h':=i) (g':=g) (d':=d) (t':=t) (ch:=[]) un c a (λb z=>absurd z (by simp)),r,q]
end
abbrev yi (sp:Sp)(a:Nb V)(E:XK)(t:TA):TE:=λY H Q=>t Y H λvs b=>sp (vs++a) b Q E
abbrev Binds (K:Nr)(fd:OG)(ps:Nb Nu)(a:Nb Nd):Prop:=
 ∀(s:Nh) (us:Nb Nd),K.In s.heap->(us++a).length=↥ps->TD s fd #[us,[]] (ps.zip (us++a))
def Binds.all {K:Nr}(h:∀us:Nb Nd,↥us=↥ps->bindArgs fd #[us,[]]=pure (ps.zip us)):Binds K fd ps []:=λs us _ hl=>by
 rw[ON]at hl ⊢;show .of_eq (h us hl)
abbrev gR (CX:rM)(X:Cx)(E:XK):Prop:=∀(J:Nb (Nl×OQ)) (Y:St) (H:Hp) (s:Nh) (e:Nd) (s':Nh),Inv X J Y H s->CX X.stack H s E e s'->X.xe e s'
section
variable{X:Cx}{CX:rM}{k:Np}{f C:Nl}{fd:OG}{ps:Nb Nu}{sp:Sp}{dvs:Nb V}{ds:Nb Nd}{E:XK}{x m:Nu}{p pos apos:Pp}{e o:NF}{es:Nb NF}{ta:TE}{t:TA}
def yj {Y:St}(F:FnOk X.prog X.w X.K X.mg X.base CX k f fd ps sp)(g:Room k X.A)(d:Binds X.K fd ps ds)(hd:Vals dvs ds)(i:gR CX X E)
  (I:Inv X J Y H s) (r:Vals vs us) (h:sp (vs++dvs) H Q E):wi X (call (.ref f) us) (EP X J Y Q) X.xe s:=by
 have b:Vals (vs++dvs) (us++ds):=r.append hd;have hl:(us++ds).length=↥ps:=by rw[<- ↥b];show F.len _ _ _ _ h
 show Qu (Py (F.run X.A X.stack s H #[us,[]] (us++ds) (vs++dvs) Q E g I.env0 (d s us I.kIn hl) b h) λr j a=>?_)
 cases r with
 |error e=>show i J Y H s e j I a
 |ok c=>
  cases c with
  |ret u=>show I.after a
  |next=>show Oo.elim a
  |brk=>show Oo.elim a
  |cont=>show Oo.elim a
def B1 (F:FnOk X.prog X.w X.K X.mg X.base CX k f fd ps sp)(j:Room k X.A)(g:Gl X x)(i:X.mg x=aB (.ref f))(hk:OI X.K (.ref f)=true)(c:Binds X.K fd ps ds)(hd:Vals dvs ds)(l:gR CX X E)
  (b:PA X (e::es) t) (hdb:(x==("__debug__"))=false:=by decide) (d:starEach (e::es) X.env=(false,eval e X.env)::starEach es X.env:=by rfl) (a:(backTo pos (starEach es X.env)).any (·.1)=false:=by rfl) :
  PE X (.Call (.Name x p) (e::es) [] pos) (yi sp dvs E t):=by
 intro J s Y H Q I h;show Pc (da I g i ?_ hdb);show Q6  I.ok.mod.kin hk (bd (b pos _ s Y H _ I h) λus m #[vs,H1,I1,r,q]=>#[I1.kIn,?_]) d a
 show yj F j c hd l I1 r q
def yk (F:FnOk X.prog X.w X.K X.mg X.base CX k f fd ps sp)(d:Room k X.A)(b:Gl X x)(c:X.mg x=aB (.ref f))(hk:OI X.K (.ref f)=true)(a:Binds X.K fd ps ds)(hd:Vals dvs ds)(e:gR CX X E)
  (hdb:(x==("__debug__"))=false:=by decide):PE X (.Call (.Name x p) [] [] pos) (yi sp dvs E B0):=by
 intro J s Y H Q I h;show Pc (da I b c ?_ hdb);show TH I.kIn hk (yj  F d a hd e I .nil h)
end
structure FnScope (N P:Nb Nu)(sc:PX):Prop where
 kind:sc.kind=.function
 co:sc.isCoroutine=false
 gen:sc.isGenerator=false
 nd:N.Nodup
 pre:N.take ↥P=P
 par:∀x∈P,sc.names.lookup x=aB .local\/sc.names.lookup x=aB .cell
 nofree:∀y∈sc.names,y.2≠.free
def mB :∀{binds:Nb (Nu×Nd)}{m:Nu->Nf Nd},(∀v,(x,v)∉binds)->bindL a binds m x=m x
 |[],_,_=>rfl
 |(n,v)::r,m,h=>by
  delta bindL;rw[mB λw hw=>h w (NL _ hw)]
  split
  ·have:x≠n:=by rintro rfl;show h v NH
   simp[this]
  ·rfl
def mC :∀{binds:Nb (Nu×Nd)}{m:Nu->Nf Nd},(∀v,(x,v)∉binds)->bindC a binds m x=m x
 |[],_,_=>rfl
 |(n,v)::r,m,h=>by
  delta bindC;rw[mC λw hw=>h w (NL _ hw)]
  split
  ·rfl
  ·have:x≠n:=by rintro rfl;show h v NH
   simp[this]
def mE :∀{P:Nb Nu}{vs:Nb Nd}{i:Np}{m:Nu->Nf Nd},P.Nodup->P[i]?=aB x->vs[i]?=aB v->a x=aB .local->
  bindL a (P.zip vs) m x=aB v
 |[],_,_,_,_,h,_,_=>by simp at h
 |_::_,[],_,_,_,_,h,_=>by simp at h
 |p::P,w::vs,0,m,nd,b,h2,hk=>by
  simp at b h2;subst b;subst h2
  change bindL _ ((p,w)::P.zip vs) m p=_;delta bindL;rw[mB λv c=>(PM.mp nd).1 (Q5 c).1,NK hk]
  simp
 |p::P,w::vs,i+1,m,nd,b,h2,hk=>by
  unfold bindL;show mE  (PM.mp nd).2 (by simpa using b) (by simpa using h2) hk
def mF :∀{P:Nb Nu}{vs:Nb Nd}{i:Np}{m:Nu->Nf Nd},P.Nodup->P[i]?=aB x->vs[i]?=aB v->a x≠aB .local->
  bindC a (P.zip vs) m x=aB v
 |[],_,_,_,_,h,_,_=>by simp at h
 |_::_,[],_,_,_,_,h,_=>by simp at h
 |p::P,w::vs,0,m,nd,b,h2,hk=>by
  simp at b h2;subst b;subst h2
  change bindC _ ((p,w)::P.zip vs) m p=_;delta bindC;rw[mC λv c=>(PM.mp nd).1 (Q5 c).1,N1 hk]
  simp
 |p::P,w::vs,i+1,m,nd,b,h2,hk=>by
  unfold bindC;show mF  (PM.mp nd).2 (by simpa using b) (by simpa using h2) hk
abbrev fe (N:Nb Nu)(vs:Nb V):St:=vs.map aB++Ox (↥N-↥vs) ba
abbrev eN (CX:rM)(P:NM)(w:NU)(K:Nr)(mg:Nu->Nf Nd)(base:N6)(N:Nb Nu)(a:Nu)(scope:PX)(f:Nl)(c:Nd)(A:NY)(outer:Nb RX)(s:Nh)(H:Hp)(E:XK):Cx where
 prog:=P
 w:=w
 K:=K
 mg:=mg
 base:=base
 A:=A.deeper (envOfC a scope ⇑s.heap.objs f c)
 N:=N
 s₀:=s
 H₀:=H
 env:=envOfC a scope ⇑s.heap.objs f c
 outer:=outer
 stack:=envOfC a scope ⇑s.heap.objs f c::outer
 ex:=[]
 calm:=A.handled.isNone
 fn:=λ_=>true
 pn:=[]
 xe:=λe g=>wpAny (model P w) (A.deeper (envOfC a scope ⇑s.heap.objs f c)) (leaving (envOfC a scope ⇑s.heap.objs f c) e) (λ_ b=>CX outer H s E e b) (λd b=>CX outer H s E d b) g
def pK {sc:PX}(h:sc.names.lookup x=aB .cell):∃c,(cellsFrom n sc.names []).lookup x=aB c:=by
 have q:=SH _ n [] (.inl h);show Oq.mp q
def v8 {K:Nr}
  (S:FnScope N ps scope) (g:Env0 P w K mg base A outer s H) (hl:↥vs=↥ps) (r:Vals vs us)
  (x:InCallC s ⇑s.heap.objs (bindL (envOfC d scope ⇑s.heap.objs f t).kindOf (ps.zip us) λ_=>ba) (cellsFrom (⇑s.heap.objs+1) scope.names []) (bindC (envOfC d scope ⇑s.heap.objs f t).kindOf (ps.zip us) λ_=>ba) D) :
  Inv (eN CX P w K mg base N d scope f t A outer s H E) [] (fe N vs) H D:=by
 have I:↥ps<=↥N:=by have:=congrArg Vl S.pre;rw[Os]at this;omega
 obtain⟨B,tk,rfl,hk⟩:=x.done;have l:∀b:Nl,b∉(eN CX P w K mg base N d scope f t A outer s H E).ex:=λb z=>absurd (show b∈([]:Nb Nl)from z) (by simp)
 show#[#[g.mod,S.kind,rfl,rfl,Ny _,λy z c B h2=>?_,λy j=>?_,λy c _ h=>?_,λz=>Option.isNone_iff_eq_none.mp z,Around.frames_deeper g.frames,.inr #[rfl,rfl],λb z=>absurd z (l b),g.bs,g.bsz,λb _ _=>l b,λb z=>absurd z (l b),g.funs,g.frf],
  rfl,g.bare,Un.kept hk,#[_,x.toInCall.ns,λi y v B h2 L=>?_],λy c h=>#[_,x.cell y c h],g.hok.fresh (Ny _),λy c h=>?_,λp m=>absurd (show p∈([]:Nb (Nl×OQ))from m) (by simp),g.hok.kept hk,?_]
 ·show name_of_addr x.apart (Qi B) (Qi h2)
 ·have j:scope.names.lookup y=aB .cell\/scope.names.lookup y=aB .free:=j;rcases j with j|j
  ·show pK j
  ·show absurd rfl (S.nofree _ (Qi j))
 ·show Px (x.above y c (Qi h))
 ·have hi:i<↥vs:=by
   unfold fe at h2
   by_cases hi:i<↥vs
   ·show hi
   ·rw[QI (by simpa using hi)]at h2
    rw[List.getElem?_replicate]at h2;split at h2<;>cases h2
  have G:vs[i]?=aB v:=by
   unfold fe at h2;rw[Od (by simpa using hi),Nw]at h2
   cases e:vs[i]? with
   |none=>rw[e]at h2;cases h2
   |some a=>rw[e]at h2;cases h2;rfl
  obtain⟨u,C,J⟩:=r.get G;have m:ps[i]?=aB y:=by
   rw[<- S.pre,So ∅];show B
  have o:ps.Nodup:=by rw[<- S.pre];show S.nd.sublist (List.take_sublist _ _)
  show#[u,J,?_];rcases S.par y (NT m)with k|k
  ·show .inl #[k,mE o m C k]
  ·obtain⟨c,e⟩:=pK (n:=⇑s.heap.objs+1) k;show .inr #[.inl k,c,e,?_];have q:=x.cell y c e;rw[mF o m C (by change scope.names.lookup y≠_;rw[k];decide)]at q
   show q
 ·show g.hok.fresh (Px (x.above y c (Qi h)))
 ·unfold fe;change _=↥N;rw[Nq,Ni,List.length_replicate];omega
def uh {K:Nr}{ kV     :Nd}
   (T:K.lookup f=aB #[oc,od,.func (O1 name a c body scope G kV doc pm an cdv ct),osl]) (m:P6 K cdv a=true) (S:FnScope N ps scope)
   (p:A.depth<recursionLimit) (k:Env0 P w K mg base A outer s H) (M:TD s (O1 name a c body scope G kV doc pm an cdv ct) args (ps.zip us)) (r:Vals vs us) (hl:↥vs=↥ps)
  (h:∃t,PSs (eN CX P w K mg base N a scope f cdv A outer s H E) body t/\t {nx:=λ_ d=>Q .non d,rt:=Q} (fe N vs) H) :
  codeAny (model P w) A (.call (.ref f) args) (CR CX outer P w H s Q E) s:=by
 have D:K.In s.heap:=k.mod.kin.keeps λb o e=>(k.bs b o e).1
 have z:s.heap.NoLimit:=k.mod.nolimit.keeps λb o e=>(k.bs b o e).1
 have i:∀y∈ps.zip us,scope.names.lookup y.1=aB .local\/(scope.names.lookup y.1=aB .cell/\((cellsFrom (⇑s.heap.objs+1) scope.names []).lookup y.1).isSome=true):=λ#[n,v] hy=>by
  rcases S.par n (Q5 hy).1 with q|q
  ·show .inl q
  ·show .inr #[q,SH _ _ _ (.inl q)]
 show codeAny_call_function p (D _ _ T) rfl S.co S.gen rfl (PySem.W.codeRec_of D m) (M _ _ _ _ ?_);show wpAny_newFunctionEnv_cells S.kind i λenv O J x=>?_
 subst O;show#[z.keeps x.toInCall.keep,codeAny_func ?_];obtain⟨t,ht,R⟩:=h;have I:Inv (eN CX P w K mg base N a scope f cdv A outer s H E) [] (fe N vs) H J:=v8 S k hl r x;show Ou (ht [] J (fe N vs) H _ I R) (λL C j=>?_) λe C j=>j
 have fin:∀{l:St}{d:Hp}{v:V}{u:Nd},Inv (eN CX P w K mg base N a scope f cdv A outer s H E) [] l d C->RelV v u->Q v d->CE outer P w H s Q u C:=
  λ{l d v u} g B q=>#[v,d,g.os,g.bare,g.base,g.hok,B,q]
 cases L with
 |ret u=>
  obtain⟨v,l,d,g,B,q⟩:=j;show fin g B q
 |next=>
  obtain⟨l,d,g,q⟩:=j;show fin (v:=V.non) (u:=OM) g rfl q
 |brk=>
  obtain⟨_,_,_,q⟩:=j;show Oo.elim q
 |cont=>
  obtain⟨_,_,_,q⟩:=j;show Oo.elim q
def ED {K:Nr}{ kV     :Nd}
   (m:K.lookup f=aB #[oc,od,.func (O1 name a b body scope g kV doc pm an cdv ct),osl]) (e:P6 K cdv a=true) (S:FnScope N ps scope)
  (len:∀vs H Q E,sp vs H Q E->↥vs=↥ps)
  (c:∀ A outer s H vs Q E,Room k (A.deeper (envOfC a scope ⇑s.heap.objs f cdv))->sp vs H Q E->
   ∃t,PSs (eN CX P w K mg base N a scope f cdv A outer s H E) body t/\t {nx:=λ_ i=>Q .non i,rt:=Q} (fe N vs) H) :
  FnOk P w K mg base CX (k+1) f (O1 name a b body scope g kV doc pm an cdv ct) ps sp:=
 #[len,λA outer s H args us vs Q E h j l r d=>uh m e S h.depth j l r (len _ _ _ _ d) (c A outer s H vs Q E (h.deeper _) d)]
section
variable{X:Cx}{x:Nu}{p pos:Pp}{e:NF}{es:Nb NF}{t:TA}{id T:OV}{r:Nb V->Hp->VK->Prop}
abbrev Ms (r:Nb V->Hp->VK->Prop)(t:TA):TE:=λY H Q=>t Y H λvs a=>r vs a Q
def fD (hc:CallR X (.builtin id) r)(d:Gl X x)(f:X.mg x=ba)(i:bootBuiltins x=aB (.builtin id))(b:PA X (e::es) t)(g:x≠"__name__":=by decide)(hdb:(x==("__debug__"))=false:=by decide)
  (c:starEach (e::es) X.env=(false,eval e X.env)::starEach es X.env:=by rfl) (a:(backTo pos (starEach es X.env)).any (·.1)=false:=by rfl):PE X (.Call (.Name x p) (e::es) [] pos) (Ms r t):=by
 intro J s Y H Q I h;show Pc (jk I d f i ?_ g hdb);show UV (bd (b pos J s Y H _ I h) λus j #[vs,H1,I1,r1,q1]=>hc J j Y H1 vs us Q I1 r1 q1) c a
def wa (hc:CallR X (.type T) r)(d:Gl X x)(f:X.mg x=ba)(i:bootBuiltins x=aB (.type T))(b:PA X (e::es) t)(g:x≠"__name__":=by decide)(hdb:(x==("__debug__"))=false:=by decide)
  (c:starEach (e::es) X.env=(false,eval e X.env)::starEach es X.env:=by rfl) (a:(backTo pos (starEach es X.env)).any (·.1)=false:=by rfl):PE X (.Call (.Name x p) (e::es) [] pos) (Ms r t):=by
 intro J s Y H Q I h;show Pc (jk I d f i ?_ g hdb);show PU (bd (b pos J s Y H _ I h) λus j #[vs,H1,I1,r1,q1]=>hc J j Y H1 vs us Q I1 r1 q1) c a
end
end L2
namespace HT
open PySem PyProof.Rows
section
open PySem.SeqAt
open PySem.AutoSeq1 (wpAny_loadPart')
open PySem.MeetsSeq PySem.MeetsSeq2 PySem.MeetsSeq3
end
section
variable{prog:NM}{w:NU}{A:NY}{E:Nd->Nh->Prop}{s:Nh}
def B2 (ht:Us s.heap t vs.toArray)(p:Us s.heap b ws.toArray)(k:vs≠[])
  (o:ws=[]->Q (.ref t) s) (h2:ws≠[]->Q (.ref ⇑s.heap.objs) {s with heap:=s.heap.push {cls:=.type "tuple",data:=.seq (vs++ws).toArray}})
  (hsz:↥vs+↥ws<=sizeLine):wh prog w A (binaryOp .Add (.ref t) (.ref b)) Q E s:=by
 obtain⟨⟨cls,dd,data,m⟩,h,hc,n,hd⟩:=id ht;obtain⟨⟨j,c,i,g⟩,a,d,l,f⟩:=id p;simp only at hc hd d f;subst hc hd d f;have e:vs.toArray++ws.toArray=(vs++ws).toArray:=by simp
 by_cases hw:ws=[]
 ·show Uz #[_,h,rfl] #[_,a,rfl] Sz TV Rg Re (QV _ _)
   (tuple_addW1 t b vs.toArray ws.toArray n l dd c m g (by simpa using k) (by simp[hw])) #[h,a,o hw]
 ·show Uz #[_,h,rfl] #[_,a,rfl] Sz TV Rg Re (QV _ _)
   (tuple_addW2 t b vs.toArray ws.toArray n l dd c m g (by simpa using k) (by simpa using hw) (by rw[NC,NC];show hsz)) #[h,a,?_]
  rw[e];show h2 hw
abbrev db (n d:Np):Nf NI->Np
 |none=>d
 |some v=>if v<0 then(v+(n:NI)).toNat else min v.toNat n
def kR (n d:Np):db n d ba=d:=rfl
def uj (n d k:Np):db n d (aB k)=min k n:=by
 show(if k<0 then(k+(n:NI)).toNat else min _ n)=min k n
 rw[N1 ∅,NQ]
def uk (v:NI)(n d:Np):(if v<0 then max (v+n) 0 else min v n)=((db n d (aB v))):=by
 show(if v<0 then max _ 0 else min v n)=(if v<0 then(v+n).toNat else min _ n)
 by_cases a:v<0
 ·simp only[NK a];omega
 ·simp only[N1 a];omega
def r9 (lo hi:Nf NI)(n:Np):QP lo hi 1 n=(((db n 0 lo):NI),((db n n hi):NI)):=by
 unfold QP;show Xi ?_ ?_
 ·cases lo with
  |none=>rfl
  |some v=>show uk v n 0
 ·cases hi with
  |none=>rfl
  |some v=>show uk v n n
def sf (i j:Np):QQ i j 1=j-i:=by
 unfold QQ;have a:(1:NI) > 0:=∅
 revert a Qv Int.ediv_one;split<;>omega
def kU (p:R0 v o)(h:Q o s):wh prog w A (Vp v) Q E s:=by
 cases p with
 |none=>show VH h
 |int i t=>show slicePart_int h
def d0 {lo :Nf NI}{Q:NI×NI×Np->Nh->Prop}(g:s.heap.IsSliceOf e c d .none)(pl:R0 c lo)(i:R0 d hi)
  (h:Q (((db n 0 lo)),1,db n n hi-db n 0 lo) s):wh prog w A (VI (.ref e) (pure n)) Q E s:=by
 obtain⟨os,b,f,a⟩:=id g;show Nc (Nc (OH b a (x:=c) rfl (Nc (OH b a (x:=d) rfl (Nc (OH b a  rfl (Nm ?_)))))));show Nc (VH ?_);show Nc (kU pl (Nc (kU i (Nc (Nm ?_)))));change wpAny _ _ (match QP lo hi 1 n with|(lo,hi)=>pure (lo,(1:NI),QQ lo hi 1)) _ _ s
 rw[r9 lo hi n];change wpAny _ _ (pure _) _ _ s;rw[sf];show Nm h
def ym (xs:N9 Nd)(i k:Np):((N2 k).filterMap λ(m:Np)=>xs[(i+(m:NI)*1).toNat]?).toArray=((xs.toList.drop i).take k).toArray:=by
 have e:(λ(m:Np)=>xs[(i+(m:NI)*1).toNat]?)=λm=>xs[i+m]?:=by
  funext m
  have:(i+(m:NI)*1).toNat=i+m:=∅
  rw[this]
 rw[e];have:=pick_run xs i k;rw[R1]at this;have a:((λx=>xs[x]?)∘λx=>i+x)=λm=>xs[i+m]?:=rfl
 rw[a]at this;rw[this]
def iy {lo :Nf NI}(ht:Us s.heap t items)(g:s.heap.IsSliceOf f i j .none)(pl:R0 i lo)(l:R0 j hi)
  (hw:¬ (db ⇑items 0 lo=0/\db ⇑items ⇑items hi=⇑items))
  (h:Q (.ref ⇑s.heap.objs) {s with heap:=s.heap.push {cls:=.type "tuple",data:=.seq ((items.toList.drop (db ⇑items 0 lo)).take (db ⇑items ⇑items hi-db ⇑items 0 lo)).toArray}})
  (hsz:⇑items<=sizeLine):wh prog w A (getItem (.ref t) (.ref f)) Q E s:=by
 have a:sizeOk (.seq ((items.toList.drop (db ⇑items 0 lo)).take (db ⇑items ⇑items hi-db ⇑items 0 lo)).toArray):=by
  show((items.toList.drop _).take _).toArray.size<=sizeLine;rw[NC,Os,P2,NP];omega
 obtain⟨os,e,c,k⟩:=id g;have b:s.TypeIs (.ref f) "slice":=#[os,e,c];unfold getItem
 try with_reducible show Ov ?_
 first|refine Nc (Nm ?_)|skip
 show Nc (UA ht.typeIs #v[] ?_)
 show Nc (Ow  ht.typeIs Po
  (OO Po ht.typeIs TJ ?_ (Uf _ _)))
 change wpAny _ _ (QJ (.ref t) >>= _) _ _ s;show Nc (V4 ht ?_);show Nc (RQ b ?_);show Nc (d0 g pl l ?_);have d:¬ ((((db ⇑items 0 lo):NI)==0&&(1:NI)==1&&(db ⇑items ⇑items hi-db ⇑items 0 lo)==⇑items)=true):=by
  intro q;rw[Nj,Nj]at q;have m:=eq_of_beq q.1.1;have n:=eq_of_beq q.2;show hw #[∅,∅]
 change wpAny _ _ (if (((db ⇑items 0 lo):NI)==0&&1==1&&(db ⇑items ⇑items hi-db ⇑items 0 lo)==⇑items)=true then _ else _) _ _ s
 rw[N1 d,ym]
 first
  |show Nc  (Oy (Nm #[_,rfl,Nm h]) a)
  |show Nc  (Oy (Nc (Nm (Nm #[_,rfl,Nm h]))) a)
  |show Nc (Nc  (Oy (Nm (Nm #[_,rfl,Nm h])) a))
  |show Nc (Nc  (Oy (Nm #[_,rfl,Nm h]) a))
end
end HT
namespace L2
open PySem PySem.Spec PyProof.Rows
noncomputable abbrev TO:=St->Hp->(Nf NI->Hp->Prop)->Prop
abbrev PO (X:Cx)(e:Nf NF)(t:TO):Prop:=
 ∀(J:Nb (Nl×OQ)) (s:Nh) (Y:St) (H:Hp) (Q:Nf NI->Hp->Prop),Inv X J Y H s->t Y H Q->
  wi X (evalPart e X.env) (λu b=>∃o a,Inv X J Y a b/\R0 u o/\Q o a) X.xe s
abbrev B3:TO:=λ_ H Q=>Q ba H
abbrev IZ (t:TE):TO:=λY H Q=>t Y H λx a=>∃i,x=.int i/\Q (aB i) a
section
variable{X:Cx}{e:NF}{te:TE}{lo hi:Nf NF}{tl th:TO}{pos p2:Pp}
def B4:PO X ba B3:=by
 intro J s Y H Q I h;show Nm #[ba,H,I,.none,h]
def B5 (h:PE X e te):PO X (aB e) (IZ te):=by
 intro J s Y H Q I hw;show bd (h _ s Y H _ I hw) λu a #[x,H1,I1,r1,q1]=>?_
 obtain⟨i,rfl,q⟩:=q1;obtain⟨t,rfl⟩:=r1;show#[aB i,H1,I1,.int i t,q]
abbrev Ja (X:Cx)(r:V->Nf NI->Nf NI->Hp->VK->Prop):Prop:=
 ∀(J:Nb (Nl×OQ)) (s:Nh) (Y:St) (H:Hp) (x:V) (v vl vu:Nd) (lo hi:Nf NI) (sl:Nl) (Q:VK),Inv X J Y H s->RelV x v->s.heap.IsSliceOf sl vl vu .none->R0 vl lo->R0 vu hi->r x lo hi H Q->
  ∃T id,typeLookup (.type T) "__getitem__" = pure (aB (.builtin id))/\s.TypeIs v T/\wi X (getItem v (.ref sl)) (EP X J Y Q) X.xe s
abbrev MR (r:V->Nf NI->Nf NI->Hp->VK->Prop)(te:TE)(tl th:TO):TE:=λY H Q=>te Y H λx a=>tl Y a λl b=>th Y b λu c=>r x l u c Q
def yn (k:Ja X r)(i:PE X e te)(hl:PO X lo tl)(m:PO X hi th):PE X (.Subscript e (.Slice lo hi ba p2) pos) (MR r te tl th):=by
 intro J s Y H Q I h;show Subscript_ (bd (i J s Y H _ I h) λv n #[x,H1,I1,r1,q1]=>?_)
 show wpAny_Slice (bd (hl J n Y H1 _ I1 q1) λc o #[l,H2,I2,pl,q2]=>bd (m J o Y H2 _ I2 q2) λd a #[u,H3,I3,pu,q3]=>?_)
 rw[evalPart_none];show Nm ?_;have f:Inv X J Y H3 {a with heap:=a.heap.push {cls:=.type "slice",data:=.fields [c,d,.none].toArray}}:=I3.kept (t':=a.toks) λb ob q=>Ng _ q
 obtain⟨T,id,g,ht,j⟩:=k J {a with heap:=a.heap.push {cls:=.type "slice",data:=.fields [c,d,.none].toArray}} Y H3 x v c d l u ⇑a.heap.objs Q f r1 (WU ..) pl pu q3
 change wi X (subscriptTail e (.Slice lo hi ba p2) v (.ref ⇑a.heap.objs)) (EP X J Y Q) X.xe {a with heap:=a.heap.push {cls:=.type "slice",data:=.fields [c,d,.none].toArray}}
 show tail_any (ops:=[.ref ⇑a.heap.objs,v]) ht g j (by with_unfolding_all rfl)
abbrev nK (xs:Nb V)(lo hi:Nf NI):Nb V:=(xs.drop (HT.db ↥xs 0 lo)).take (HT.db ↥xs ↥xs hi-HT.db ↥xs 0 lo)
def jN (xs:Nb V)(lo hi:Nf NI):(nK xs lo hi).length<=↥xs:=by
 unfold nK;rw[Os,P2];omega
abbrev Lp (K:Nr):V->Nf NI->Nf NI->Hp->VK->Prop:=λx lo hi H Q=>∃a xs,x=.ref a/\SqT K H a xs/\
 ¬ (HT.db ↥xs 0 lo=0/\HT.db ↥xs ↥xs hi=↥xs)/\∀p,H p=ba->Q (.ref p) (aT H p (.tup (nK xs lo hi)))
def F4:Ja X (Lp X.K):=by
 intro J s Y H x v k l lo hi j Q I i e pl g h;obtain⟨a,xs,rfl,f,hw,q⟩:=h;cases i;obtain⟨its,r,ht,d⟩:=I.tuple f;have c:⇑its.toArray=↥xs:=by show r.length.symm
 show#["tuple",_,PyProof.Rows.slot_tuple_getitem.lookup,ht.typeIs,?_];show HT.iy ht e pl g (by rw[c];show hw) ?_ (by rw[c];show d)
 rw[c];show#[.ref _,_,I.laid   (λb ob q=>Ng _ q) (Ny _) ?_,rfl,q _ (I.hok.fresh (Ny _))]
 show#[#[NO (jN xs lo hi) d,NoD.new _ _ _],_,(r.drop _).take _,Wi _ _]
def Vals.nil_iff (r:Vals xs us):us=[]↔xs=[]:=by
 cases r with
 |nil=>simp
 |cons _ _=>simp
end
abbrev rN (n:Np)(i:NI):Nf Np:=if 0<=i then(if i<n then aB i.toNat else ba)else if -(n:NI)<=i then aB (i+n).toNat else ba
abbrev mG {α:Type}(xs:Nb α)(i:NI):Nf α:=(rN ↥xs i).bind λj=>xs[j]?
def um (h:rN n i=aB j):seqIndex? i n=aB j/\j<n/\-n<=i/\i<n:=by
 unfold rN at h
 by_cases b:0<=i
 ·rw[NK b]at h
  by_cases a:i<n
  ·rw[NK a]at h;have e:=OC h;show#[by rw[Vm b a,e],∅,∅,a]
  ·rw[N1 a]at h;cases h
 ·rw[N1 b]at h
  by_cases a : -n<=i
  ·rw[NK a]at h;have e:=OC h;show#[by rw[UB ∅ a,e],∅,a,∅]
  ·rw[N1 a]at h;cases h
def nL (h:mG xs i=aB v):∃j,seqIndex? i ↥xs=aB j/\xs[j]?=aB v/\j<↥xs/\-(↥xs)<=i/\i<↥xs:=by
 unfold mG at h;cases e:rN _ i with
 |none=>rw[e]at h;cases h
 |some j=>
  rw[e]at h;obtain⟨a,h2,b,c⟩:=um e;show#[j,a,h,h2,b,c]
def atI_nat {j:Np}(h:xs[j]?=aB v):mG xs j=aB v:=by
 have a:=(NA.mp h).1;have e:rN ↥xs j=aB j:=by
  unfold rN;rw[NK (by show NW _),NK (by show Wn.mpr ‹_›)];rfl
 unfold mG;rw[e];show h
abbrev nM (b:NF):Prop:=∀o i,subscripted b false o i=operate [o,i] (getItem o i)
abbrev IxR (X:Cx)(r:R2):Prop:=
 ∀(b a:NF) (J:Nb (Nl×OQ)) (s:Nh) (Y:St) (H:Hp) (x y:V) (v u:Nd) (Q:VK),Inv X J Y H s->RelV x v->RelV y u->r x y H Q->
  subscripted a false v u=operate [v,u] (getItem v u)->wi X (subscriptTail b a v u) (EP X J Y Q) X.xe s
abbrev MtR (X:Cx)(id:OV)(r:V->Nb V->Hp->VK->Prop):Prop:=
 ∀(J:Nb (Nl×OQ)) (s:Nh) (Y:St) (H:Hp) (x:V) (xs:Nb V) (v:Nd) (us:Nb Nd) (Q:VK),Inv X J Y H s->RelV x v->Vals xs us->r x xs H Q->
  wi X (call (.builtin id) (v::us)) (EP X J Y Q) X.xe s
section
variable{X:Cx}{a b:NF}{ta tb:TE}{pos:Pp}
def Jb (g:IxR X r)(e:PE X a ta)(f:PE X b tb)(i:nM b):PE X (.Subscript a b pos) (KR r ta tb):=by
 intro J s Y H Q I h;show Subscript_ (FP e f I h λv u l x y c d j k q=>g a b J l Y c x y v u Q d j k q (i _ _))
abbrev Lq (K:Nr):R2:=λx y H Q=>∃p xs i v,x=.ref p/\y=.int i/\SqL K H p xs/\mG xs i=aB v/\Q v H
abbrev Lr (K:Nr):R2:=λx y H Q=>∃p xs i v,x=.ref p/\y=.int i/\SqT K H p xs/\mG xs i=aB v/\Q v H
abbrev Ls:R2:=λx y H Q=>∃z i c,x=.str z/\y=.int i/\↥z<=sizeLine/\mG z.cps.toList i=aB c/\Q (.str #[[c].toArray]) H
def B6:IxR X (Lq X.K):=by
 intro e d J s Y H x y v u Q I A B h k;obtain⟨p,xs,i,z,rfl,rfl,o,n,q⟩:=h;cases A;obtain⟨t,rfl⟩:=B;obtain⟨its,r,pl,E⟩:=I.list o;obtain⟨j,a,h2,C,l,m⟩:=nL n;obtain⟨w,f,c⟩:=r.get h2;have hl:=↥r;have D:=nJ;have fin:EP X _ Y Q w s:=#[z,H,I,c,q]
 by_cases g:0<=i
 ·have b:i.toNat=j:=by
   rw[Vm g m]at a;show OC a
  show item_listR pl.isList g ∅ (by rw[b];simpa using f) fin k
 ·have b:(i+⇑its.toArray).toNat=j:=by
   rw[UB ∅ l]at a
   rw[NC,<- hl];show OC a
  show Rh  pl.isList.typeIs slot_list_getitem.lookup
   (wpAny_getItem_list_neg  pl.isList ∅ (by rw[NC]<;>omega) ∅ (by rw[b];simpa using f) #[rfl,fin]) k
def F5:IxR X (Lr X.K):=by
 intro c b J s Y H x y v u Q I l m h k;obtain⟨p,xs,i,z,rfl,rfl,g,f,q⟩:=h;cases l;obtain⟨t,rfl⟩:=m;obtain⟨its,r,pl,C⟩:=I.tuple g;obtain⟨j,e,h2,n,o,A⟩:=nL f;obtain⟨w,d,a⟩:=r.get h2;have hl:=↥r;have B:=nJ;have fin:EP X _ Y Q w s:=#[z,H,I,a,q];show Rh  pl.typeIs slot_tuple_getitem.lookup
  (getItem_tuple   pl ∅ ∅ (by rw[NC,<- hl];show e) (by simpa using d) #[rfl,fin]) k
def F6:IxR X Ls:=by
 intro b a J s Y H x y v u Q I n o h m;obtain⟨z,i,c,rfl,rfl,w,l,q⟩:=h;obtain⟨t,rfl⟩:=n;obtain⟨t',rfl⟩:=o;obtain⟨j,d,h2,p,g,k⟩:=nL l;have hl:↥z.cps.toList=↥z:=by simp[WV]
 rw[hl]at d g k;have r:=nJ;show tail_any (typeIs_str s z t) slot_str_getitem.lookup (getItem_str  (by
  have e:decide (i < -(2^63))=false:=N5 ∅
  have f:decide (i>=2^63)=false:=N5 ∅
  rw[e,f,Bool.or_false]) (by rw[d];simpa using h2) #[.str _,H,I.tok _,#[_,rfl],q]) m
def sg (its:Nb Nd)(n j:Np)(u:Nd):Pi (·.setIfInBounds j u) (xi its.toArray n)=(xi (its.set j u).toArray n):=by
 simp[Pi]
def Inv.lst {Y:St}(I:Inv X J Y H s)(h:H p=aB (.lst xs)) :
  ∃ its n,Vals xs its/\s.heap.get? p=aB (xi its.toArray n)/\↥xs<=sizeLine:=by
 obtain⟨z,its,n,r,e⟩:=I.hok p _ h;show#[its,n,r,e,z]
def Inv.lstUpd {Y:St}{its a:Nb Nd}(I:Inv X J Y H s)(h:H p=aB (.lst xs))
  (j:s.heap.get? p=aB (xi its.toArray n)) (g:f (xi its.toArray n)=(xi a.toArray c)) (r:Vals d a) (k:↥d<=sizeLine) (t:Np) :
  Inv X J Y (aT H p (.lst d)) {s with heap:=s.heap.update p f,toks:=t}:=by
 have e:(s.heap.update p f).get? p=aB (xi a.toArray c):=by
  rw[OJ f j (by rw[g]<;>rfl),g]
 show I.write (x:=p) (e:=p) (by rw[h];trivial) (.inl rfl) (λb u i q=>(N8 _ _ (Ne.symm i)).trans q) #[_,e] ?_
 show#[k,a,c,r,e]
abbrev Jc:V->V->V->Hp->(Hp->Prop)->Prop:=λo i v H Q=>∃p xs k j,o=.ref p/\i=.int k/\H p=aB (.lst xs)/\rN ↥xs k=aB j/\Q (aT H p (.lst (xs.set j v)))
def yo:FH X Jc:=by
 intro J s Y H o i v B A u Q I x w y h;obtain⟨p,xs,k,j,rfl,rfl,g,l,q⟩:=h;cases x;obtain⟨t,rfl⟩:=w;obtain⟨its,n,r,b,m⟩:=I.lst g;obtain⟨a,h2,e,f⟩:=um l;have hl:=↥r;have z:=nJ;have c:=
  I.lstUpd g b (sg its n j u) (r.set y j) (by rw[Qb];show m) s.toks
 by_cases d:0<=k
 ·have hk:k.toNat=j:=by
   rw[Vm d f]at a;show OC a
  show PySem.W.ki_setAt b d ∅ (by rw[NC,<- hl];show f) (by rw[hk];show#[_,c,q])
 ·have hk:(k+⇑its.toArray).toNat=j:=by
   rw[UB ∅ e]at a
   rw[NC,<- hl];show OC a
  show PySem.W.ki_setBack b ∅ (by rw[NC,<- hl];show e) ∅ (by rw[hk];show#[_,c,q])
def nN (lo hi:Nf NI)(n:Np):(sliceBounds lo hi ba n).1=((HT.db n 0 lo))/\(sliceBounds lo hi ba n).2.1=((HT.db n n hi))/\(sliceBounds lo hi ba n).2.2=1:=by
 show#[?_,?_,rfl]
 ·cases lo with
  |none=>(delta sliceBounds HT.db;simp)
  |some i=>
   (delta sliceBounds HT.db;simp only[UW,show(1:NI) > 0 by decide,Qv])
   by_cases h:i<0
   ·simp only[h,Qv]<;>omega
   ·simp only[h,QX]<;>omega
 ·cases hi with
  |none=>(delta sliceBounds HT.db;simp)
  |some i=>
   (delta sliceBounds HT.db;simp only[UW,show(1:NI) > 0 by decide,Qv])
   by_cases h:i<0
   ·simp only[h,Qv]<;>omega
   ·simp only[h,QX]<;>omega
def mf (its:Nb Nd)(lo hi:Nf NI):slicePick its.toArray lo hi ba=((its.drop (HT.db ↥its 0 lo)).take (HT.db ↥its ↥its hi-HT.db ↥its 0 lo)).toArray:=by
 obtain⟨a,h2,b⟩:=nN lo hi _;unfold slicePick;rw[a,h2,b];simp only[sliceRange_one,pick_run]<;>rfl
abbrev Lu (K:Nr):V->Nf NI->Nf NI->Hp->VK->Prop:=λx lo hi H Q=>∃a xs,x=.ref a/\SqL K H a xs/\∀p,H p=ba->Q (.ref p) (aT H p (.lst (nK xs lo hi)))
def B7:Ja X (Lu X.K):=by
 intro J s Y H x v k l lo hi j Q I i d pl g h;obtain⟨a,xs,rfl,e,q⟩:=h;cases i;obtain⟨its,r,ht,f⟩:=I.list e;have c:=↥r;show#["list",_,slot_list_getitem.lookup,ht.isList.typeIs,?_];show wpAny_getItem_list_slice ht.isList d pl g .none (by trivial) ?_ (by rw[NC]<;>omega)
 rw[mf,<- c];show#[.ref _,_,I.laid   (λb ob q=>Ng _ q) (Ny _) ?_,rfl,q _ (I.hok.fresh (Ny _))]
 show#[NO (jN xs lo hi) f,_,0,(r.drop _).take _,Nx _ rfl]
abbrev gC:V->ND
 |.non=>true
 |.bl _=>true
 |.int _=>true
 |.str _=>true
 |_=>false
abbrev B8:V->V->ND
 |.non,.non=>true
 |.bl a,.bl b=>a==b
 |.bl a,.int b=>(if a then 1 else 0)==b
 |.int a,.bl b=>a==(if b then 1 else 0)
 |.int a,.int b=>a==b
 |.str a,.str b=>a==b
 |_,_=>false
def F7 (d:RelV y u)(c:RelV x v)(e:gC y=true)(fx:gC x=true):Rr A s u v (B8 y x):=by
 cases y with
 |non=>
  cases d;cases x with
  |non=>cases c;show Xf _
  |bl b=>cases c;show WB b
  |int b=>obtain⟨t,rfl⟩:=c;show WM b t
  |str b=>obtain⟨t,rfl⟩:=c;show WN b t
  |_=>show absurd fx Oe
 |bl a=>
  cases d;cases x with
  |non=>cases c;show WC a
  |bl b=>cases c;show WD a b
  |int b=>obtain⟨t,rfl⟩:=c;show WO a b t
  |str b=>obtain⟨t,rfl⟩:=c;show WP a b t
  |_=>show absurd fx Oe
 |int a=>
  obtain⟨t',rfl⟩:=d;cases x with
  |non=>cases c;show WQ a t'
  |bl b=>cases c;show WR a t' b
  |int b=>obtain⟨t,rfl⟩:=c;show WW a t' b t
  |str b=>obtain⟨t,rfl⟩:=c;show T9 a t' b t
  |_=>show absurd fx Oe
 |str a=>
  obtain⟨t',rfl⟩:=d;cases x with
  |non=>cases c;show WS a t'
  |bl b=>cases c;show WT a t' b
  |int b=>obtain⟨t,rfl⟩:=c;show Ua a t' b t
  |str b=>obtain⟨t,rfl⟩:=c;show WX a t' b t
  |_=>show absurd fx Oe
 |_=>show absurd e Oe
abbrev F8 (x:V)(u:Nd):ND:=match u with
 |.none=>B8 .non x
 |.bool b=>B8 (.bl b) x
 |.int i _=>B8 (.int i) x
 |.str z _=>B8 (.str z) x
 |_=>false
def yp (r:RelV y u)(f:gC y=true):F8 x u=B8 y x:=by
 cases y with
 |non=>cases r;rfl
 |bl b=>cases r;rfl
 |int i=>obtain⟨t,rfl⟩:=r;rfl
 |str z=>obtain⟨t,rfl⟩:=r;rfl
 |_=>show absurd f Oe
def iA :∀{xs:Nb V}{us:Nb Nd},Vals xs us->xs.all gC=true->us.any (F8 x)=xs.any λy=>B8 y x
 |_,_,.nil,_=>rfl
 |y::xs,u::us,.cons r t,f=>by
  rw[OA,Nj]at f;rw[Pz,Pz,yp r f.1,iA t f.2]
def fE (b:RelV x v)(fx:gC x=true):∀{xs:Nb V}{us:Nb Nd},Vals xs us->xs.all gC=true->∀u∈us,Rr A s u v (F8 x u)
 |_,_,.nil,_=>λu a=>by cases a
 |y::xs,u::us,.cons r t,f=>λc a=>by
  rw[OA,Nj]at f;rcases NE.mp a with rfl|a
  ·rw[yp r f.1];show F7 r b f.1 fx
  ·show fE b fx t f.2 c a
abbrev KT (x:V)(xs:Nb V):ND:=xs.any λy=>B8 y x
abbrev Lv (K:Nr)(neg:ND):R2:=λx y H Q=>∃p xs,y=.ref p/\(SqL K H p xs\/SqT K H p xs)/\gC x=true/\xs.all gC=true/\Q (.bl (if neg then !KT x xs else KT x xs)) H
def wb:OpR X (compareOp .In) (Lv X.K false):=by
 intro J s Y H x y v u Q I b d h;obtain⟨p,xs,rfl,a,fx,fs,q⟩:=h;cases d;rcases a with a|a
 ·obtain⟨its,r,pl,c⟩:=I.list a;show Vq _ pl.isList (λw hw=>fE b fx r fs w (by simpa using hw)) #[.bl _,H,I,rfl,?_]
  rw[show its.toArray.any _=its.any (F8 x) by simp,iA r fs]
  show q
 ·obtain⟨its,r,pl,c⟩:=I.tuple a;show UX _ pl (λw hw=>fE b fx r fs w (by simpa using hw)) #[.bl _,H,I,rfl,?_]
  rw[show its.toArray.any _=its.any (F8 x) by simp,iA r fs]
  show q
def nP:OpR X (compareOp .NotIn) (Lv X.K true):=by
 intro J s Y H x y v u Q I b d h;obtain⟨p,xs,rfl,a,fx,fs,q⟩:=h;cases d;rcases a with a|a
 ·obtain⟨its,r,pl,c⟩:=I.list a;show Ug _ pl.isList (λw hw=>fE b fx r fs w (by simpa using hw)) #[.bl _,H,I,rfl,?_]
  rw[show its.toArray.any _=its.any (F8 x) by simp,iA r fs]
  show q
 ·obtain⟨its,r,pl,c⟩:=I.tuple a;show SeqAt.notIn_tupleAt _ pl (λw hw=>fE b fx r fs w (by simpa using hw)) #[.bl _,H,I,rfl,?_]
  rw[show its.toArray.any _=its.any (F8 x) by simp,iA r fs]
  show q
def nQ:CallR X (.type "list") (λxs H Q=>∃p c,xs=[.ref p]/\(SqL X.K H p c\/SqT X.K H p c)/\∀l,H l=ba->Q (.ref l) (aT H l (.lst c))):=by
 intro J s Y H xs us Q I r h;obtain⟨p,c,rfl,g,q⟩:=h;obtain⟨u,rfl,k⟩:=jM r;cases k;have fin:∀its,Vals c its->↥c<=sizeLine->∀h' d,(∀b o',s.heap.get? b=aB o'->h'.get? b=aB o')->
   h'.get? ⇑s.heap.objs=aB _->EP X _ Y Q _ {s with heap:=h'}:=λits a i h' d kp e=>
  #[.ref _,_,I.laid  kp (Ny _) (show ObjOk _ X.w _ h' _ (.lst c)from#[i,its,d,a,e]),rfl,q _ (I.hok.fresh (Ny _))]
 rcases g with g|g
 ·obtain⟨its,a,pl,i⟩:=I.list g;have f:=↥a;obtain⟨o,j,hc,n,hd⟩:=pl.isList;show V5 p (.inl rfl) j hc hd (λh' d kp e=>fin its a i h' d kp e) (by simp only[NC]<;>omega)
 ·obtain⟨its,a,pl,i⟩:=I.tuple g;have f:=↥a;obtain⟨o,j,hc,n,hd⟩:=pl;show V5 p (.inr rfl) j hc hd (λh' d kp e=>fin its a i h' d kp e) (by simp only[NC]<;>omega)
def gE:CallR X (.type "tuple") (λxs H Q=>∃p a,xs=[.ref p]/\((SqL X.K H p a/\∀l,H l=ba->Q (.ref l) (aT H l (.tup a)))\/(SqT X.K H p a/\Q (.ref p) H))):=by
 intro J s Y H xs us Q I r h;obtain⟨p,a,rfl,h⟩:=h;obtain⟨u,rfl,k⟩:=jM r;cases k;rcases h with⟨c,q⟩|⟨c,q⟩
 ·obtain⟨its,d,pl,i⟩:=I.list c;have g:=↥d;show call_tuple_list pl.isList (λh' kp=>?_) (by simp only[NC]<;>omega)
  have f:Inv X _ Y H {s with heap:=h'}:=I.kept  kp
  have j:Inv X _ Y (aT H _ (.tup a)) {s with heap:=h'.push _}:=
   f.laid  (λb o e=>Ng _ e) (Ny _) #[#[i,NoD.new _ _ _],its,d,Wi _ _]
  show#[.ref ⇑h'.objs,_,j,rfl,q _ (f.hok.fresh (Ny _))]
 ·obtain⟨its,d,pl,i⟩:=I.tuple c;show call_tuple_same pl #[.ref p,H,I,rfl,q]
abbrev Lw (K:Nr)(T:OV)(x:V)(H:Hp):Prop:=match x with
 |.str _=>T="str"
 |.int _=>T="int"
 |.ref p=>(T="list"/\∃xs,SqL K H p xs)\/(T="tuple"/\∃o,K.lookup p=aB o/\o.cls=.type "tuple"/\o.dict=ba)\/Oo
 |_=>Oo
def yq {Y:St}(I:Inv X J Y H s)(r:RelV x v)(ty:Lw X.K T x H) :
  s.TypeIs v T/\∀a,v=.ref a->∃ob,s.heap.get? a=aB ob/\ob.dict=ba:=by
 cases x with
 |str z=>
  obtain⟨t,rfl⟩:=r;cases ty;show#[typeIs_str s z t,λ_ e=>nomatch e]
 |int i=>
  obtain⟨t,rfl⟩:=r;cases ty;show#[VJ s i t,λ_ e=>nomatch e]
 |ref p=>
  cases r;rcases ty with⟨rfl,xs,b⟩|⟨rfl,o,hk,hc,hd⟩|hk
  ·obtain⟨its,_,pl,_⟩:=I.list b;show#[pl.isList.typeIs,λa e=>?_]
   cases e;obtain⟨o,n,e,c,hd,_⟩:=pl;show#[o,e,hd]
  ·show#[#[o,I.kIn p o hk,hc],λa e=>?_]
   cases e;show#[o,I.kIn _ o hk,hd]
  ·show hk.elim
 |_=>show Oo.elim ty
variable{o e:NF}{es:Nb NF}{to:TE}{t:TA}{name:Nu}{apos cpos:Pp}{T id:OV}{r:V->Nb V->Hp->VK->Prop}
end
abbrev Mt (X:Cx)(id:OV)(r:V->Nb V->Hp->VK->Prop):Prop:=
 ∀(J:Nb (Nl×OQ)) (s:Nh) (Y:St) (H:Hp) (x:V) (xs:Nb V) (v:Nd) (us:Nb Nd) (Q:VK),Inv X J Y H s->RelV x v->Vals xs us->r x xs H Q->
  wi X (call (.builtin id) (v::us)) (EP X J Y Q) X.xe s
def Vals.one:∀{x:V}{us:Nb Nd},Vals [x] us->∃u,us=[u]/\RelV x u
 |_,_,.cons r .nil=>#[_,rfl,r]
def Vals.eraseIdx:∀{xs:Nb V}{us:Nb Nd} i,Vals xs us->Vals (xs.eraseIdx i) (us.eraseIdx i)
 |_,_,_,.nil=>.nil
 |_,_,0,.cons _ t=>t
 |_,_,i+1,.cons r t=>.cons r (Vals.eraseIdx i t)
def Vals.rep (h:Vals xs us):∀k:Np,Vals (Ox k xs).flatten (Ox k us).flatten
 |0=>.nil
 |k+1=>by
  show Vals.append h (Vals.rep h k)
def mH (its:Nb Nd):∀ k a,
  WY (λc d=>c++d) a.toArray (Ox k its.toArray)=(a++(Ox k its).flatten).toArray
 |0,a=>by simp
 |k+1,a=>by
  have e:a.toArray++its.toArray=(a++its).toArray:=by simp
  have b:(a++its)++(Ox k its).flatten=a++(Ox (k+1) its).flatten:=by
   rw[RN,UC,O5]
  rw[<- b,<- mH its k _,<- e,RN,RD]
section
variable{X:Cx}{J:Nb (Nl×OQ)}{Y:St}{H:Hp}{s:Nh}{l b:Nl}{xs ys zs:Nb V}
def Inv.lset {its :Nb Nd}(I:Inv X J Y H s)(b:H l=aB (.lst xs))
  (e:s.heap.get? l=aB (xi its.toArray n)) (d:f its.toArray=a.toArray) (h:Vals ys a) (i:↥ys<=sizeLine) :
  Inv X J Y (aT H l (.lst ys)) {s with heap:=s.heap.update l (Pi f),toks:=t'}:=by
 have q:=UY e f;rw[d]at q;show I.write   (by rw[b];show trivial) (.inl rfl) (λj u c g=>(N8 _ _ (Ne.symm c)).trans g) #[_,q] ?_
 show#[i,a,_,h,q]
def Inv.lnew (I:Inv X J Y H s)(a:Vals ys its)(b:↥ys<=sizeLine) :
  Inv X J Y (aT H ⇑s.heap.objs (.lst ys)) {s with heap:=s.heap.push {cls:=.type "list",data:=.seq its.toArray},toks:=t'}:=
 I.laid (λ_ _ q=>Ng _ q) (Ny _) #[b,its,0,a,Nx _ rfl]
def Inv.fresh (I:Inv X J Y H s):H ⇑s.heap.objs=ba:=I.hok.fresh (Ny _)
def Inv.lstM (I:Inv X J Y H s)(a:H l=aB (.lst xs)):↥xs<=sizeLine/\∃ its n,Vals xs its/\↥xs=↥its/\s.heap.get? l=aB (xi its.toArray n):=by
 obtain⟨z,its,n,r,e⟩:=I.hok l _ a;show#[z,its,n,r,↥r,e]
def pL (h:n<=sizeLine):QY n=false:=by
 show N5 (by show QK.mpr ‹_›)
end
section
variable{X:Cx}
abbrev B9:V->Nb V->Hp->VK->Prop:=λx vs H Q=>∃l xs y,x=.ref l/\vs=[y]/\H l=aB (.lst xs)/\↥xs<sizeLine/\Q .non (aT H l (.lst (xs++[y])))
def wc:Mt X "list.append" B9:=by
 intro J s Y H x vs v us Q I d c h;obtain⟨l,xs,y,rfl,rfl,a,f,q⟩:=h;cases d;obtain⟨u,rfl,b⟩:=c.one;obtain⟨z,its,n,r,hl,e⟩:=I.lstM a;show SI F.slot_list_append #[_,e,rfl] F.entry_list_append (F.args_list_append_2 _ _) (UD l _ n u (by rw[NC];omega)) #[e,?_]
 show#[.non,_,I.lset  a e (by simp) (r.append #v[b]) ?_,rfl,q]
 rw[Nq,Rn];show Nat.succ_le_of_lt ‹_›
abbrev Cc:V->Nb V->Hp->VK->Prop:=λx vs H Q=>∃l b xs a,x=.ref l/\vs=[.ref b]/\H l=aB (.lst xs)/\H b=aB (.lst a)/\↥xs+↥a<=sizeLine/\Q .non (aT H l (.lst (xs++a)))
def we:Mt X "list.extend" Cc:=by
 intro J s Y H x vs v us Q I p o h;obtain⟨l,b,xs,y,rfl,rfl,d,g,t,q⟩:=h;cases p;obtain⟨u,rfl,m⟩:=o.one;cases m;obtain⟨z,its,n,r,hl,e⟩:=I.lstM d;obtain⟨w,a,j,k,i,f⟩:=I.lstM g;have hsz:⇑its.toArray+⇑a.toArray<=sizeLine:=by rw[NC,NC];omega
 have c:¬ (!its.toArray.isEmpty&&QY (⇑its.toArray+⇑a.toArray))=true:=by
  rw[pL hsz,OT];show Oe
 show SI F.slot_list_extend #[_,e,rfl] F.entry_list_extend (F.args_list_extend_2 _ _)
  (UE l _ n b _ j c (by rw[NC];omega) (by show Nat.le_succ_of_le ‹_›)) #[e,f,?_]
 show#[.non,_,I.lset  d e (by simp) (r.append k) ?_,rfl,q]
 rw[Nq];show NO ‹_› (No rfl)
abbrev Lx:R2:=λx y H Q=>∃l b xs a,x=.ref l/\y=.ref b/\H l=aB (.lst xs)/\H b=aB (.lst a)/\↥xs+↥a<=sizeLine/\∀p,H p=ba->Q (.ref p) (aT H p (.lst (xs++a)))
def F9:OpR X (binaryOp .Add) Lx:=by
 intro J s Y H x y v u Q I k m h;obtain⟨l,b,xs,w,rfl,rfl,g,f,o,q⟩:=h;cases k;cases m;obtain⟨z,its,n,r,hl,e⟩:=I.lstM g;obtain⟨t,a,p,j,i,c⟩:=I.lstM f;show PySem.P.add_list e c ?_ (by rw[NC,NC];omega)
 have d:its.toArray++a.toArray=(its++a).toArray:=by simp
 rw[d];show#[.ref _,_,I.lnew  (r.append j) (by rw[Nq];omega),rfl,q _ I.fresh]
abbrev Ly:R2:=λx y H Q=>∃l k xs,x=.ref l/\y=.int k/\H l=aB (.lst xs)/\-(2^63)<=k/\k<2^63/\↥xs*k.toNat<=sizeLine/\
 ∀p,H p=ba->Q (.ref p) (aT H p (.lst (Ox k.toNat xs).flatten))
def Cd {α:Type}(xs:Nb α)(k:Np):(Ox k xs).flatten.length=k*↥xs:=by
 induction k with
 |zero=>simp
 |succ k ih=>rw[RN,UC,Nq,ih,Wo,Nat.add_comm]
def Ga:OpR X (binaryOp .Mult) Ly:=by
 intro J s Y H x y v u Q I w A h;obtain⟨l,k,xs,rfl,rfl,p,o,h2,i,q⟩:=h;cases w;obtain⟨t,rfl⟩:=A;obtain⟨z,its,n,r,hl,e⟩:=I.lstM p;have f:⇑its.toArray*k.toNat<=sizeLine:=by rw[NC,<- hl];show i
 have c:¬ ⇑its.toArray*k.toNat > (2^63-1)/8:=by
  have:sizeLine<=(2^63-1)/8:=by decide
  omega
 have d:¬ (!VL k)=true:=by
  rw[fitsIndex_both o h2];show Oe
 have b:¬ QY (⇑its.toArray*k.toNat)=true:=by
  rw[pL f];show Oe
 have g:WY (λC D=>C++D) #[] (Ox (if its.toArray.isEmpty=true then 0 else k.toNat) its.toArray)=(Ox k.toNat its).flatten.toArray:=by
  have j:=λm=>by
   have:=mH its m [];rw[Vr]at this;show this
  rw[j];cases its with
  |nil=>simp
  |cons a E=>rw[N1 (by simp)]
 show wpAny_binaryOp_repeat_ref   #v[] #[_,e,rfl] (λB=>VJ B k t) noFill_list_mul F.fills_int_mul F.slot_int_rmul repeat_list F.slot_int_index.lookup
  (SI F.slot_int_rmul (VJ s k t) F.entry_int_rmul (F.args_int_rmul_2 _ _) (int___rmul___int_list k t l _ n)
   #[e,rfl,#[_,e,rfl],SI F.slot_list_mul #[_,e,rfl] F.entry_list_mul (F.args_list_mul_2 _ _) (Ur l _ n k t d c b) #[e,?_]])
 rw[g];show#[.ref _,_,I.lnew  (r.rep _) (by rw[Cd,Nat.mul_comm];show i),rfl,q _ I.fresh]
end
section
variable{X:Cx}{J:Nb (Nl×OQ)}{Y:St}{H:Hp}{s:Nh}{a:Nl}{y v:V}{u r:Nd}{o:Nf V}{A:NY}{E:Nd->Nh->Prop}
def Inv.big (I:Inv X J Y H s):sysModules<⇑s.heap.objs:=by
 have h:=(I.mod.glob.keeps I.bk).lt;show UF #v[] h
def uq (I:Inv X J Y H s)(g:IE (H a))(f:PR a s.heap h')(d:∃q,h'.get? a=aB q)(new:ObjOk X.prog X.w (aT H a ob) h' a ob) :
  Inv X J Y (aT H a ob) (xa s h' t'):=
 I.write (x:=a) (e:=a) g (.inl rfl) (λb q c z=>(f.2 b c).trans z) d new
end
noncomputable abbrev VV:Nb (V×V)->Nb (Nd×Nd)->Prop:=Th λp q=>RelV p.1 q.1/\RelV p.2 q.2
end L2
namespace Att
open PySem PySem.W PySem.Calls PyProof.Rows
def ki :∀ ns vs,WellAll P h vs (ns.map WData.int)->VD vs ns:=by
 intro ns
 induction ns with
 |nil=>
  intro vs w;cases w;show .nil
 |cons n ns ih=>
  intro vs w;cases w with
  |cons a b=>
   cases a;show .cons _ _ (ih _ b)
def wf {l:OpenLaw}(p:l.most=aB n)
  (b:l.row.toRowW.claim.pre args=true) (j:WellAll P h c args) :
  ∃a vs ns,c=[NR a]/\args=[WData.list (ns.map WData.int)]/\h.get? a=aB {cls:=.type "list",data:=.seq vs.toArray}/\VD vs ns/\↥ns<=n:=by
 have i:WShape.hasAll [] _ _=true:=(pre_splitW b).1;have hc:l.pre.holds [] _=true:=(pre_splitW b).2;obtain⟨d,r,rfl,m,h2⟩:=hasAllW_cons i;obtain rfl:=hasAllW_nil h2;obtain⟨xs,rfl,o⟩:=hasW_list m;obtain⟨ns,rfl⟩:=items_int o;have f:↥ns<=n:=by
  have g:(WTm.not (.lt (.lit (.int n)) (.len (.arg 0)))).holds [] {args:=[.list (ns.map .int)]}=true:=by
   have g:=(holds_andW hc).1;rw[p]at g;show g
  have k:=condW_of g (w_not (w_lt w_lit (w_len_list (w_arg rfl))));show Nat.le_of_not_lt λq=>?_
  first
   |(show absurd k #v[])
   |(simp at k;omega)
 cases j with
 |cons t w2=>
  cases w2;cases t with
  |list s e=>show#[_,_,ns,rfl,rfl,s,ki ns _ e,f]
def wg (l:OpenLaw)(args:Nb WData):l.row.toRowW.claim.post args (.bool true) args=true:=
 postW_of
  (show WShape.has [] _ _=true by first|rfl|decide|simp[])
  (w_eq_bool (w_res rfl) w_lit) rfl
def attach_call {l:OpenLaw}
  (H:l.most=aB n) (m:d.params.defaults=[])
  (call:∀ w s₀ b mg t fa o pm i doc a vs ns,
   Ground q loose [] XP w s₀ mg t b.heap->YP w b.heap->
   b.heap.get? fa=aB o->o.data=.func (docDef d.name d.params d.body d.scope pm i doc)->b.heap.CodeRec i d.name->mg d.name=aB (.ref fa)->
   b.heap.get? a=aB {cls:=.type "list",data:=.seq vs.toArray}->VD vs ns->↥ns<=n->b.gens=#[]->
   codeAny (model l.prog w) callerA (.call (.ref fa) #[[.ref a],[]]) (λr j=>r=.ok (.ret (.bool true))/\OldK b.heap j.heap/\j.os=b.os/\RP j.gens) b) :
  WalkO q loose XP YP l.row.toRowW d [] (λf vs=>VM f vs):=by
 intro w s₀ b mg t G y fa o pm i doc z kV I hd k u p C args x as h v L s D;obtain rfl:z=.none:=Dflts.none u m;obtain rfl:kV=.none:=Dflts.noKw u;obtain⟨a,vs,ns,rfl,rfl,g,c,e⟩:=wf H h s;show enter_call (Py (call w s₀ b mg t fa o pm i doc a vs ns G y I (fd_plain hd) k p g c e C) λr j J=>?_)
 obtain⟨rfl,h2,A,B⟩:=J;show#[.inl #[.bool true,.bool true,[],rfl,λ_=>rfl,.bool true,wg l _,λ_=>#[W2,λ_ E=>(nomatch E)]],h2,A,B]
end Att
namespace L2
open PySem PySem.Spec PyProof.Rows
def mI:∀{vs:Nb Nd}{ns:Nb NI},VD vs ns->Vals (ns.map V.int) vs
 |_,_,.nil=>.nil
 |_,_,.cons n t h=>.cons #[t,rfl] (mI h)
abbrev yr (H:Hp):Prop:=∀b,H b=ba\/∃o xs,H b=aB (.frz o (.lst xs))
def yt {K:Nr}
  (T:K.In c.heap) (D:c.heap.Ns mainGlobals mg) (g:c.heap.Ns builtinsNs R) (O:∀x:Nu,x≠"__name__"->R x=bootBuiltins x) (C:c.heap.NoLimit) (hg:c.gens=#[])
  (L:c.heap.get? a=aB {cls:=.type "list",data:=.seq vs.toArray}) (hi:VD vs ns) (hl:↥ns<=sizeLine) (hr:Room k callerA)
  (F:∀base:N6,K.In base->base.Ns mainGlobals mg->FnOk P w K mg base CX k fa fd [x] sp) (p:∀ s u,TD s fd #[[u],[]] [(x,u)])
  (Q:∀H:Hp,yr H->SqL K H a (ns.map V.int)->sp [.ref a] H (λv _=>v=.bl true) λ_ _ _=>Oo)
  (N:∀H e i,CX [] H c (λ_ _ _=>Oo) e i->Oo) :
  codeAny (model P w) callerA (.call (.ref fa) #[[.ref a],[]]) (λr i=>r=.ok (.ret (.bool true))/\OldK c.heap i.heap/\i.os=c.os/\RP i.gens) c:=by
 have Y:=mI hi;have I:=↥hi;have l:∀H:Hp,yr H->SqL K H a (ns.map V.int)->HOk P w H c.heap->(∀b,H b≠ba->b=a)->(H a≠ba->K.lookup a=ba)->
   codeAny (model P w) callerA (.call (.ref fa) #[[.ref a],[]]) (λr i=>r=.ok (.ret (.bool true))/\OldK c.heap i.heap/\i.os=c.os/\RP i.gens) c:=by
  intro H X hS E W hK;have f:∀{b:Nl}{o:OQ},c.heap.get? b=aB o->H b=ba->(nE c.heap H).get? b=aB o:=λe n=>xZ e n
  have S:∀{b:Nl}{o:OQ}{A:N9 PF}{y:Np},c.heap.get? b=aB o->o.data=.dict A y->H b=ba:=λ{b o A y} e d=>by
   cases q:H b with
   |none=>rfl
   |some u=>
    have M:b=a:=W b (by rw[q];simp)
    subst M;rw[L]at e;cases e
    have d':Data.seq vs.toArray _=Data.dict A y:=d;cases d'
  have j:∀{b:Nl}{m:Nu->Nf Nd},c.heap.Ns b m->(nE c.heap H).Ns b m:=λ{b m} #[o,A,y,e,d,r]=>#[o,A,y,f e (S e d),d,r]
  have B:K.In (nE c.heap H):=λb o e=>f (T b o e) (by
   cases q:H b with
   |none=>rfl
   |some u=>
    have M:b=a:=W b (by rw[q];simp)
    subst M;rw[hK (by rw[q];simp)]at e;cases e)
  have hM:Mod K mg (nE c.heap H):=#[B,j D,#[R,j g,O],let ⟨mc,h1,h2⟩:=C;#[mc,j h1,h2]]
  have Z:Env0 P w K mg (nE c.heap H) callerA [] c H:=#[rfl,hM,λb o e=>BJ e,Nat.le_of_eq (vV _ _),trivial,λb g=>absurd (show b∈([]:Nb Nl)from g) (by simp),E,.of_eq hg]
  show Py ((F _ B (j D)).run callerA [] c H #[[.ref a],[]] [.ref a] [.ref a] _ _ hr Z (p c (.ref a)) #v[rfl] (Q H X hS)) λr i h=>?_
  cases r with
  |error e=>show(N H e i h).elim
  |ok fl=>
   cases fl with
   |next=>show Oo.elim h
   |brk=>show Oo.elim h
   |cont=>show Oo.elim h
   |ret u=>
    obtain⟨v,H',os,t,un,G,r',q⟩:=h;have q':v=.bl true:=q;subst q';obtain rfl:u=OY true:=r';show#[rfl,OldK.of_keep λb o e=>?_,os,t]
    cases q:H b with
    |none=>show un.keep b o e q (by intro z;show absurd (show b∈([]:Nb Nl)from z) (by simp)) (by simp)
    |some u=>
     rcases X b with z|⟨ob,xs,z⟩
     ·rw[q]at z;cases z
     ·have z2:=un.frzs b ob _ z;obtain⟨U,_⟩:=E b _ z;obtain⟨e2,_⟩:=G b _ z2;rw[e]at U;cases U
      show e2
 cases hk:K.lookup a with
 |some o=>
  have e:=T a o hk;rw[L]at e;cases e;show l (λ_=>ba) (λ_=>.inl rfl) (.inr #[_,vs.toArray,_,hk,rfl,rfl,rfl,by rw[NC,I];show hl,by simpa using Y]) (λb u z=>by have J:(ba:Nf HO)=aB u:=z;cases J) (λb z=>absurd rfl z) λz=>absurd rfl z
 |none=>
  show l (λb=>if b=a then aB (.frz {cls:=.type "list",data:=.seq vs.toArray} (.lst (ns.map V.int)))else ba) (λb=>?_) (.inl (.inr #[{cls:=.type "list",data:=.seq vs.toArray},NK rfl])) (λb u z=>?_) (λb z=>?_) λ_=>hk
  ·by_cases g:b=a
   ·show .inr #[_,_,NK g]
   ·show .inl (N1 g)
  ·by_cases g:b=a
   ·have J:=(NK g).symm.trans z;cases J;subst g;show#[L,by rw[Ni];show hl,vs,_,Y,L]
   ·have J:=(N1 g).symm.trans z;cases J
  ·by_cases g:b=a
   ·show g
   ·show absurd (N1 g) z
def Ce {l:SU}{K:Rs->Nr}{CX:NU->rM}{sp:NU->Sp}
  (M:l.most=aB n) (r:n<=sizeLine) (m:d.params.defaults=[]) (N:Room k callerA)
  (E:∀ w h,YP w h->(K w.params).In h)
  (F:∀ w mg fa h,(K w.params).In h->h.Ns mainGlobals mg->mg d.name=aB (.ref fa)->
   ∃fd:OG,(∀ s u,TD s fd #[[u],[]] [(x,u)])/\
    ∀base:N6,(K w.params).In base->base.Ns mainGlobals mg->FnOk l.prog w (K w.params) mg base (CX w) k fa fd [x] (sp w))
  (t:∀ w H a (ns:Nb NI),↥ns<=n->yr H->SqL (K w.params) H a (ns.map V.int)->sp w [.ref a] H (λv _=>v=.bl true) λ_ _ _=>Oo)
  (j:∀ w H s e y,CX w [] H s (λ_ _ _=>Oo) e y->Oo) :
  V6 q loose XP YP l.row.toRowW d [] (λf vs=>VM f vs):=by
 show Att.attach_call M m λw s₀ i mg Q fa o pm O doc a vs ns G A P hd J p g c b L=>?_
 have z:=E w _ A;obtain⟨fd,I,B⟩:=F w mg fa _ z G.T.g p;show yt z G.T.g G.T.b G.T.builtins G.T.nolimit L g c (NO b r) N B I (λH C D=>t w H a ns b C D) λH e y=>j w H i e y
abbrev bV (s:OE):Wh:=match s with
 |.FunctionDef _ a _ _ _ _ _ _ _ _=>a
 |_=>{posonlyargs:=[],args:=[],vararg:=ba,kwonlyargs:=[],kw_defaults:=[],kwarg:=ba,defaults:=[]}
abbrev aI (s:OE):Nb OE:=match s with
 |.FunctionDef _ _ b _ _ _ _ _ _ _=>b
 |_=>[]
abbrev aq (s:OE):PX:=match s with
 |.FunctionDef _ _ _ _ _ _ sc _ _ _=>sc
 |_=>{kind:=.function,names:=[],isGenerator:=false,isCoroutine:=false}
noncomputable abbrev kj:rM:=λ_ _ _ _ _ _=>Oo
noncomputable abbrev E0:XK:=λ_ _ _=>Oo
def ur :gR kj X E0:=λ_ _ _ _ _ _ _ h=>h.elim
structure Fun (K:Nr)(x qual:Nu)(st:OE)(f:Nl)(fd:OG):Prop where
 ex:∃(oc:Nd) (od:Nf Nl) (kV doc pm:Nd) (an:Nf Nl) (cdv ct:Nd) (osl:N9 (Nf Nd)),
  fd=O1 x qual (bV st) (aI st) (aq st) .none kV doc pm an cdv ct/\K.lookup f=aB #[oc,od,.func fd,osl]/\P6 K cdv qual=true
 kp:OI K (.ref f)=true
section
variable{P:NM}{w:NU}{K:Nr}{mg:Nu->Nf Nd}{base:N6}
def Fun.ok {st:OE}(F:Fun K x a st f fd)(S:FnScope N ps (aq st))(len:∀vs H Q E,sp vs H Q E->↥vs=↥ps)
  (b:∀ cdv A outer s H vs Q E,Room k (A.deeper (envOfC a (aq st) ⇑s.heap.objs f cdv))->sp vs H Q E->
   ∃t,PSs (eN kj P w K mg base N a (aq st) f cdv A outer s H E).nox (aI st) t/\t {nx:=λ_ e=>Q .non e,rt:=Q} (fe N vs) H):FnOk P w K mg base kj (k+1) f fd ps sp:=by
 obtain⟨oc,od,kV,doc,pm,an,cdv,ct,osl,rfl,i,c⟩:=F.ex;show ED i c S len λA outer s H vs Q E g d=>?_
 obtain⟨t,h,q⟩:=b cdv A outer s H vs Q E g d;show#[t,h.nox,q]
def Fun.binds {st:OE}(F:Fun K x a st f fd)
  (h:∀ kV doc pm an cdv ct us,↥us=↥ps->bindArgs (O1 x a (bV st) (aI st) (aq st) .none kV doc pm an cdv ct) #[us,[]]=pure (ps.zip us)):Binds K fd ps []:=by
 obtain⟨oc,od,kV,doc,pm,an,cdv,ct,osl,rfl,c,b⟩:=F.ex;show .all (h kV doc pm an cdv ct)
def sh {st:OE}{kV    :Nd}(l:K.lookup f=aB #[oc,od,.func (O1 x a (bV st) (aI st) (aq st) .none kV doc pm an cdv ct),osl])
  (c:P6 K cdv a=true) (k:OI K (.ref f)=true):Fun K x a st f (O1 x a (bV st) (aI st) (aq st) .none kV doc pm an cdv ct):=#[#[oc,od,kV,doc,pm,an,cdv,ct,osl,rfl,l,c],k]
end
section
variable{X:Cx}
def pv (i:Np){pos:Pp}(b:X.N[i]?=aB x:=by rfl)(c:KQ X.env.scope x)(hd:(x==("__debug__"))=false:=by decide)
  (a:(x==("__classdict__"))=false:=by decide):PE X (.Name x pos) (pI i):=gO b c hd a
end
end L2
open PySem PySem.W PyProof.Rows L2
set_option maxHeartbeats 0
namespace Mi
section
abbrev top (i:Np):OE:=PySem.Challenge.pw_layworld_k02_each_thing_amiss_in_rules.main.body.getD i (.Pass #[0,0,0,0])
abbrev pw:NM:=Rx
abbrev ge (P:Rs)(n:Nu)(t:Np)(v:Nd):PF:=#[PyData.keyHash P n,.str n t,v]
abbrev kd (a:Np)(b:Nb PF)(n:Np):Nl×OQ:=(a,#[.type "dict",ba,.dict b.toArray n,#[]])
abbrev kc (a:Np)(vs:Nb Nd):Nl×OQ:=(a,#[.type "code",ba,.fields vs.toArray,#[]])
abbrev kf (a:Np)(st:OE)(n:Nu)(pm b:Nd):Nl×OQ:=(a,#[.type "function",ba,.func (O1 n n (bV st) (aI st) (aq st) .none .none .none pm ba b .none),#[]])
abbrev Lz (i:Np):Nd:=if i<=13 then(.str "layworld.kinds" 403)else if i<=17 then(.str "layworld.worlds" 426)else if i<=21 then(.str "layworld.parts" 452)else if i<=40 then(.str "layworld.rules" 472)else(.str "law_layworld_k02_each_thing_amiss_in_rules" 576)
abbrev nm (i:Np):Nu:=match top i with
 |.FunctionDef n ..=>n
 |_=>""
abbrev pO (i:Np):Nb Nu:=(bV (top i)).args.map (·.arg)
abbrev nO (i:Np):Nb Nu:=pO i++((aq (top i)).names.filter λp=>(p.2==.local||p.2==.cell) && !(pO i).contains p.1).map (·.1)
abbrev gd (P:Rs)(i t a:Np):PF:=ge P (nm i) t (.ref a)
abbrev kx (a:Np)(b:ND)(i:Np)(t:Np)(l p:NI)(m:Np)(R:Nr):Nr:=kc a [.str (nm i) t,.str (nm i) (t+1),.str "/claim/cut.py" (t+2),.int l 0,.int p 0,.int 0 0,.int 0 0,.int 3 0,.ref (if b then a-5 else a-3),.bool true,.int 181 0,.ref (if b then a-4 else a-2),.none,if b then .ref (a-3)else .none,if b then .ref (a-2)else .none,.ref (a-1),.int m 0,.int l 0,.str "/claim/cut.py" (m+1)]::kf (a+1) (top i) (nm i) (Lz i) (.ref a)::R
abbrev kq (a:Np)(vs:Nb Nd)(n:Np)(R:Nr):Nr:=(a,#[.type "tuple",ba,.seq vs.toArray n,#[]])::R
abbrev EE:Nb Nd:=[(.str "marks" 478),(.str "ways" 479),(.str "bar" 480),(.str "some" 481),(.str "each" 482),(.str "not" 483),(.str "and" 484),(.str "or" 485),(.str "is" 486)]
abbrev LA (i:Np):OE:=match top i with
 |.ClassDef _ _ _ b ..=>b.getD 0 (.Pass #[0,0,0,0])
 |s=>s
abbrev ke (C:Np)(nm:Nu)(N:Np)(bs bm sub:Nb Nd)(k0:Np)(t2 a:Np):Nl×OQ:=(C,excClassObj nm nm C N bs bm true [] sub false ba ba (aB (.ref k0)) ba (aB (.str nm t2)) (aB (.str nm a)) (aB (.bool true)) "ValueError.__new__")
abbrev kg (a:Np)(st:OE)(q:Nu)(pm b:Nd):Nl×OQ:=(a,#[.type "function",ba,.func (O1 "__init__" q (bV st) (aI st) (aq st) .none .none .none pm ba b .none),#[]])
abbrev MS (P:Rs):Nr:=[(2,#[.none,ba,.dict #[] 0,#[]]),
 kd 23 [ge P "__module__" 196 (.str "layworld.errors" 187),ge P "__firstlineno__" 200 (.int 2 199),ge P "__static_attributes__" 201 (.ref 22),ge P "__weakref__" 203 (.ref 25),ge P "__doc__" 204 .none] 3,
 ke 24 "LayError" 23 [(.type "ValueError")] [(.type "ValueError"),(.type "Exception"),(.type "BaseException"),(.type "object")] [(.ref 44),(.ref 63),(.ref 82),(.ref 101),(.ref 120),(.ref 139),(.ref 158),(.ref 177)] 15 189 197,
 kd 43 [ge P "__module__" 214 (.str "layworld.errors" 187),ge P "__firstlineno__" 218 (.int 4 217),ge P "__init__" 226 (.ref 41),ge P "__static_attributes__" 228 (.ref 42),ge P "__doc__" 229 .none] 2,
 kc 40 [(.str "__init__" 219),(.str "NoRule.__init__" 220),(.str "/claim/cut.py" 221),(.int 6 0),(.int 2 0),(.int 0 0),(.int 0 0),(.int 3 0),(.ref 35),(.bool true),(.int 181 0),(.ref 36),.none,(.ref 37),(.ref 38),(.ref 39),(.int 224 0),(.int 6 0),(.str "/claim/cut.py" 225)],
 kg 41 (LA 2) "NoRule.__init__" (.str "layworld.errors" 187) (.ref 40),
 ke 44 "NoRule" 43 [(.ref 24)] [(.ref 24),(.type "ValueError"),(.type "Exception"),(.type "BaseException"),(.type "object")] [] 28 207 215,
 ke 82 "BadText" 81 [(.ref 24)] [(.ref 24),(.type "ValueError"),(.type "Exception"),(.type "BaseException"),(.type "object")] [] 66 257 265,
 ke 101 "NoLaying" 100 [(.ref 24)] [(.ref 24),(.type "ValueError"),(.type "Exception"),(.type "BaseException"),(.type "object")] [] 85 282 290,
 ke 177 "NoRow" 176 [(.ref 24)] [(.ref 24),(.type "ValueError"),(.type "Exception"),(.type "BaseException"),(.type "object")] [] 161 380 388,
 ke 158 "NoSentence" 157 [(.ref 24)] [(.ref 24),(.type "ValueError"),(.type "Exception"),(.type "BaseException"),(.type "object")] [] 142 355 363,
 ke 120 "NoShare" 119 [(.ref 24)] [(.ref 24),(.type "ValueError"),(.type "Exception"),(.type "BaseException"),(.type "object")] [] 104 309 317,
 ke 139 "NoWish" 138 [(.ref 24)] [(.ref 24),(.type "ValueError"),(.type "Exception"),(.type "BaseException"),(.type "object")] [] 123 332 340,
 ke 63 "NoWorld" 62 [(.ref 24)] [(.ref 24),(.type "ValueError"),(.type "Exception"),(.type "BaseException"),(.type "object")] [] 47 232 240]
abbrev K0 (P:Rs):Nr:=kd 3 [ge P "__name__" 165 (.str "law_layworld_k02_each_thing_amiss_in_rules" 576),ge P "__doc__" 166 .none,ge P "__package__" 167 .none,ge P "__loader__" 168 (.builtin "__main__.__loader__#opaque"),ge P "__spec__" 169 .none,ge P "__annotations__" 170 (.ref 6),ge P "__builtins__" 171 (.ref 4),ge P "__file__" 173 (.str "/claim/cut.py" 172),ge P "__cached__" 174 .none,ge P "LayError" 206 (.ref 24),ge P "NoRule" 231 (.ref 44),ge P "NoWorld" 256 (.ref 63),ge P "BadText" 281 (.ref 82),ge P "NoLaying" 308 (.ref 101),ge P "NoShare" 331 (.ref 120),ge P "NoWish" 354 (.ref 139),ge P "NoSentence" 379 (.ref 158),ge P "NoRow" 402 (.ref 177),gd P 11 411 186,gd P 12 419 193,gd P 13 425 198,gd P 15 433 203,gd P 16 441 210,gd P 17 451 217,gd P 19 459 222,gd P 20 465 227,gd P 21 471 232,ge P "LETTERS" 475 (.str "abcdefghijklmnopqrstuvwxyz" 474),ge P "LONGEST_NAME" 477 (.int 8 476),ge P "WORDS" 487 (.ref 233),ge P "MOST_MARKS" 489 (.int 3 488),ge P "MOST_WAYS" 491 (.int 3 490),ge P "MOST_TOGETHER" 493 (.int 6 492),gd P 29 500 240,gd P 30 508 247,gd P 31 514 252,gd P 32 521 259,gd P 33 527 264,gd P 34 536 271,gd P 35 542 276,gd P 36 548 281,gd P 37 554 286,gd P 38 563 293,gd P 39 569 298,gd P 40 575 303,gd P 42 584 310,gd P 43 594 317,gd P 44 600 322,gd P 45 609 329,gd P 46 622 336,gd P 47 632 343,gd P 48 638 348,gd P 49 644 355,gd P 50 650 360,gd P 51 659 367,gd P 52 665 372,gd P 53 671 377,gd P 54 679 384,gd P 55 685 389,gd P 56 693 396,gd P 57 702 403,gd P 58 714 410,gd P 59 722 417,gd P 60 733 424,gd P 61 742 431,gd P 62 759 438,gd P 63 765 443,gd P 64 771 448,gd P 65 777 453,gd P 66 783 458,gd P 67 793 465,gd P 68 802 472] 72::(kx 185 true 11 405 43 1 409
 (kx 192 true 12 412 45 2 417
 (kx 197 false 13 420 47 2 423
 (kx 202 false 15 428 50 3 431
 (kx 209 true 16 434 55 2 439
 (kx 216 true 17 442 57 4 449
 (kx 221 false 19 454 62 4 457
 (kx 226 false 20 460 64 2 463
 (kx 231 false 21 466 74 2 469
 (kq 233 EE 0
 (kx 239 true 29 494 86 1 498
 (kx 246 true 30 501 98 2 506
 (kx 251 false 31 509 100 1 512
 (kx 258 true 32 515 105 1 519
 (kx 263 false 33 522 107 1 525
 (kx 270 true 34 528 109 1 534
 (kx 275 false 35 537 113 1 540
 (kx 280 false 36 543 116 1 546
 (kx 285 false 37 549 120 1 552
 (kx 292 true 38 555 122 2 561
 (kx 297 false 39 564 127 1 567
 (kx 302 false 40 570 131 2 573
 (kx 309 true 42 578 136 1 582
 (kx 316 true 43 585 138 2 592
 (kx 321 false 44 595 153 2 598
 (kx 328 true 45 601 155 2 607
 (kx 335 true 46 610 163 2 620
 (kx 342 true 47 623 176 4 630
 (kx 347 false 48 633 180 3 636
 (kx 354 true 49 639 186 0 642
 (kx 359 false 50 645 188 2 648
 (kx 366 true 51 651 190 2 657
 (kx 371 false 52 660 193 4 663
 (kx 376 false 53 666 197 3 669
 (kx 383 true 54 672 202 1 677
 (kx 388 false 55 680 205 2 683
 (kx 395 true 56 686 217 1 691
 (kx 402 true 57 694 224 3 700
 (kx 409 true 58 703 226 1 712
 (kx 416 true 59 715 233 2 720
 (kx 423 true 60 723 235 2 731
 (kx 430 true 61 734 243 2 740
 (kx 437 true 62 743 248 2 757
 (kx 442 false 63 760 270 2 763
 (kx 447 false 64 766 277 2 769
 (kx 452 false 65 772 288 2 775
 (kx 457 false 66 778 298 2 781
 (kx 464 true 67 784 320 2 791
 (kx 471 true 68 794 328 1 800 (MS P))))))))))))))))))))))))))))))))))))))))))))))))))
abbrev Mu:Nb Np:=(K0 {strHash:=λ_=>0,shareClass:=λ_=>0,mergeTok:=id,idOf:=λ_=>0,idOfShared:=λ_ _=>0,followText:=λ_=>false,idOfImm:=λ_=>0}).map (·.1)
abbrev vq:NM:={pw with main:={pw.main with body:=[top 68]}}
abbrev lo:Nb Nu:=(["LayError","NoRule","NoWorld","BadText","NoLaying","NoShare","NoWish","NoSentence","NoRow"]:Nb Nu)++[11,12,13,15,16,17,19,20,21].map nm++(["LETTERS","LONGEST_NAME","WORDS","MOST_MARKS","MOST_WAYS","MOST_TOGETHER"]:Nb Nu)++[29,30,31,32,33,34,35,36,37,38,39,40,42,43,44,45,46,47,48,49,50,51,52,53,54,55,56,57,58,59,60,61,62,63,64,65,66,67].map nm
def eK:∀P,Mu=(K0 P).map (·.1):=λ_=>by kernel_rfl
abbrev hk:PySem.W.Hook:=PySem.W.kHook K0 Mu eK
def hl:PySem.W.LeftO pw vq lo (λs=>Wq vq [] s&&V7 [] s) hk.obs hk.val 7410:=λw=>by
 unfold openEnds topFrom;rw[TY,TZ]
 kernel_rfl
def s0:PySem.Challenge.rw_layworld_k02_each_thing_amiss_in_rules.row.wellSaid=true:=by kernel_rfl
end
end Mi
namespace Xc
open PySem
inductive Fly (h:N6)(e:Nl)(cls:Nd)(dd:Nf Nl)(a0 fl:Nd):Prop
 |new {vs:N9 Nd}{sl:N9 (Nf Nd)}:h.get? e=aB #[cls,dd,.fields vs,sl]->vs[0]?=aB a0->vs[1]?=aB .none->Fly h e cls dd a0 fl
 |on {vs ts:N9 Nd}{sl:N9 (Nf Nd)}{T:Nl}{oT:OQ}:h.get? e=aB #[cls,dd,.fields vs,sl]->vs[0]?=aB a0->vs[1]?=aB (.ref T)->e<T->h.get? T=aB oT->oT.data=.fields ts->ts[3]?=aB fl->Fly h e cls dd a0 fl
structure Mv (fr:Nb Nl)(e:Nl)(h h':N6):Prop where
 keep:∀b o,h.get? b=aB o->b∉fr->b≠e->(e<b->∀vs,o.data≠.fields vs)->h'.get? b=aB o
 fram:∀b o,h.get? b=aB o->b∈fr->(∀vs,o.data≠.fields vs)->∃sl,h'.get? b=aB {o with slots:=sl}
 size:⇑h.objs<=⇑h'.objs
def Mv.refl :Mv a e h h:=#[λ_ _ q _ _ _=>q,λ_ o q _ _=>#[o.slots,q],Ny _]
def Mv.trans (x:Mv a e h h')(y:Mv a e h' h2):Mv a e h h2:=
 #[λb o q c d n3=>y.keep b o (x.keep b o q c d n3) c d n3,λb o q m n=>let ⟨_,q1⟩:=x.fram b o q m n;let ⟨sl,q2⟩:=y.fram b _ q1 m n;#[sl,q2],NO ⇑x ⇑y]
def Mv.funs (x:Mv d e h h')(f:h.FunFrames base l)(g:∃o vs,h.get? e=aB o/\o.data=.fields vs):h'.FunFrames base l:=
 f.of_keeps λb o a c=>by
  by_cases m:b∈d
  ·obtain⟨n,q⟩:=x.fram b o a m c;show#[_,q,rfl]
  ·show#[o,x.keep b o a m (λz=>?_) λ_=>c,rfl]
   obtain⟨k,vs,i,j⟩:=g;rw[z,i]at a;cases a;show c vs j
section
variable{Mqa:Si}{A:NY}{E:Nd->Nh->Prop}{s:Nh}{base:N6}{env:RX}{outer:Nb RX}{L e:Nl}{cls a0 fl:Nd}{dd:Nf Nl}{Q:VE->Nh->Prop}
def ut (t:A.frames=aB (env::outer))(hl:s.heap.FunFrames base (env::outer))(G:env.frame=aB L)
  (y:s.heap.get? e=aB #[cls,dd,.fields vs,p]) (C:vs[0]?=aB a0) (r:1<⇑vs)
  (k:∀h',Mv ((env::outer).filterMap (·.frame)) e s.heap h'->Fly h' e cls dd a0 (rawInt L)->(∃o vs T,h'.get? e=aB o/\o.data=.fields vs/\vs[1]?=aB (.ref T))->Q () {s with heap:=h'}) :
  wpAny Mqa A (do let a <- frameOf env;let pl <- entryPlaceOf L d;let b <- TK f a .none (rawInt L) .none pl;setField (.ref e) 1 b) Q E s:=by
 have ne:e∉(env::outer).filterMap (·.frame):=λH=>by
  obtain⟨_,o,B,u⟩:=hl.mem H;rw[y]at B;cases B;show u vs rfl
 show Nc (wpAny_frameOf_fun t hl G λc l=>?_)
 show Nc (wpAny_entryPlaceOf λpl w=>?_)
 unfold TK newFields;show Nc (Oy ?_ (w.sizeOk5 _ _ _ _ _));generalize x:([f,.ref L,.none,rawInt L,.none]++(if pl.isEmpty then Ox 6 OM else pl)).toArray=ts
 have N:ts[3]?=aB (rawInt L):=by rw[<- x];simp
 have g:c.get? e=aB #[cls,dd,.fields vs,p]:=(l.2.1 e ne).trans y;have lt:e<⇑c.objs:=Nz g;have i:=Ng (h:=c) {cls:=.type "traceback",dict:=ba,data:=.fields ts} g;have D:=Nx c (o:={cls:=.type "traceback",dict:=ba,data:=.fields ts}) rfl;have j:=OJ (PY (·.setIfInBounds 1 (NR ⇑c.objs))) i rfl
 show Qn i rfl r (k _ #[λb o q I J n3=>?_,λb o q m n=>?_,?_] ?_ ?_)
 ·rw[N8 _ _ (Ne.symm J)];show Ng _ ((l.2.1 b I).trans q)
 ·obtain⟨p,M⟩:=l.2.2 b o q;show#[p,?_];rw[N8 _ _ (λz:e=b=>ne (z▸m))]
  show Ng _ M
 ·simp[l.1]
 ·show .on (T:=⇑c.objs) (oT:={cls:=.type "traceback",dict:=ba,data:=.fields ts}) j (by rw[Rm #v[]];show C) (by simp[r]) lt ?_ rfl N
  rw[N8 _ _ (NJ lt)];show D
 ·show#[_,_,⇑c.objs,j,rfl,by simp[r]]
def yu (f:A.frames=aB (env::outer))(hl:s.heap.FunFrames base (env::outer))(i:env.frame=aB L)(x:Fly s.heap e cls dd a0 .none)
  (k:∀h',Mv ((env::outer).filterMap (·.frame)) e s.heap h'->Fly h' e cls dd a0 (rawInt L)->(∃o vs T,h'.get? e=aB o/\o.data=.fields vs/\vs[1]?=aB (.ref T))->Q () {s with heap:=h'}) :
  wpAny Mqa A (noteFrame (.ref e) env) Q E s:=by
 unfold noteFrame;revert i;cases x with
 |new c h d=>
  show Nc (OH c rfl d ?_);rw[N1 #v[]]
  show ut f hl i c h (Oi.mp d).1 k
 |@on vs ts y T oT c h d lt g hd j=>
  show Nc (OH c rfl d ?_);rw[NK (show(NR T != OM)=true from by simp)]
  show Nc (OH g hd j ?_);rw[N1 (show ¬ ((OM==rawInt L)=true)from by simp[rawInt])]
  show Nc (Qn g hd (Oi.mp j).1 ?_);have a:∀b,b≠T->(s.heap.update T (PY (·.setIfInBounds 3 OM))).get? b=s.heap.get? b:=λb p=>N8 _ _ (Ne.symm p)
  have mv:Mv ((env::outer).filterMap (·.frame)) e s.heap (s.heap.update T (PY (·.setIfInBounds 3 OM))):=by
   show#[λb o q u w n3=>(a b λz=>?_).trans q,λb o q m n=>#[o.slots,(a b λz=>?_).trans q],by simp]
   ·rw[z,g]at q;cases q;show n3 (z▸lt) _ hd
   ·rw[z,g]at q;cases q;show n _ hd
  show ut f (mv.funs hl #[_,_,c,rfl]) i ((a e (NJ lt)).trans c) h (Oi.mp d).1 λh' r l t=>k h' (mv.trans r) l t
def kW (j:Nb Nl)(x:Fly s.heap e cls dd a0 fl)(k:∀h',Mv j e s.heap h'->Fly h' e cls dd a0 (f.elim OM λf=>rawInt f)->Q () {s with heap:=h'}):wpAny Mqa A (setFlight (.ref e) f) Q E s:=by
 unfold setFlight;cases x with
 |new g i c=>
  show Nc (OH g rfl c ?_);rw[N1 #v[]]
  show Nm (k _ .refl (.new g i c))
 |@on vs ts u T oT g i c lt h hd l=>
  show Nc (OH g rfl c ?_);rw[NK (show(NR T != OM)=true from by simp)]
  have d:=(Oi.mp l).1;have a:∀b,b≠T->(s.heap.update T (PY (·.setIfInBounds 3 (f.elim OM λf=>rawInt f)))).get? b=s.heap.get? b:=λb p=>N8 _ _ (Ne.symm p)
  show Qn h hd d (k _ #[λb o q r t n3=>(a b λz=>?_).trans q,λb o q m n=>#[o.slots,(a b λz=>?_).trans q],by simp] ?_)
  ·rw[z,h]at q;cases q;show n3 (z▸lt) _ hd
  ·rw[z,h]at q;cases q;show n _ hd
  ·show .on ((a e (NJ lt)).trans g) i c lt (OJ _ h (Ro (P7 hd _))) (P7 hd _) (by simp[d])
def Cf (a:A.frames=aB (env::outer))(hl:s.heap.FunFrames base (env::outer))(d:env.frame=aB L)(x:Fly s.heap e cls dd a0 .none)
  (k:∀h',Mv ((env::outer).filterMap (·.frame)) e s.heap h'->Fly h' e cls dd a0 .none->Q () {s with heap:=h'}):wpAny Mqa A (leaving env (.ref e)) Q E s:=by
 unfold leaving;show Nc (yu a hl d x λh f b _=>?_)
 show kW _ b λh2 g c=>k h2 (f.trans g) c
end
end Xc
namespace Xc
open PySem PySem.Spec PySem.W
section
variable{prog:NM}{w:NU}{A:NY}{E:Nd->Nh->Prop}{h:N6}{g:N9 RY}{d:Wy}{t:Np}{os:OsState}
variable{nm q:Nu}{C N f:Nl}{bs bm bmB:Nb Nd}{hdct:ND}{sn:Nb Nu}{sub:Nb Nd}{ab:ND}{col:Nf ND}{dd:Nf Nl}{k0 k1 k2 k3 k5:Nf Nd}{B newId initId:OV}
noncomputable abbrev jm (C t:Nl):OQ:={cls:=.ref C,data:=.fields [.ref t,.none,.none,.none,.bool false,.none].toArray}
noncomputable abbrev gF (aO:Nb Nd):OQ:={cls:=.type "tuple",data:=.seq aO.toArray}
abbrev EF (e:Nl)(Q:Nd->Nh->Prop)(E:Nd->Nh->Prop)(r:SG)(a:Nh):Prop:=match r with
 |.ok (.ret v)=>v=.none/\Q (.ref e) a
 |.ok _=>Oo
 |.error x=>E x a
def mh (F:UG B newId initId bmB)(T:W3 h bmB bm){aO:Nb Nd}
  (a:h.get? C=aB (excClassObj nm q C N bs bm hdct sn sub ab col dd k0 k1 k2 k3 k5 newId)) (hi:Looks (model prog w) h (typeLookup (.ref C) "__init__") (aB (.ref f))) (l:∀self,Looks (model prog w) h (bindSpecial (.ref f) self) (.ref f,[self]))
  (m:codeAny (model prog w) (A) (.call (.ref f) #[.ref (⇑h.objs+1)::aO,[]]) (EF (⇑h.objs+1) (λv s=>Q (.done (.ret v)) s) E) #[(h.push (gF aO)).push (jm C ⇑h.objs),g,d,t,os]) (hrest:aO.length<=sizeLine:=by size_fits) :
  wpAny (model prog w) A (QD.«type.__call__» #[.ref C::aO,[]]) Q E #[h,g,d,t,os]:=by
 repeat (first|with_reducible show QE a ?_|with_reducible show wpAny_madeBy_exc a ?_|wp_step)
 show codeAny_call_builtin_code (Q7 _ F.quiet) (wpAny_check_new_subT F T a ?_);show codeAny_exc_new_subT F T a ?_ hrest;change wpAny _ _ _ _ _ _;have k:∀b o,h.get? b=aB o->((h.push (gF aO)).push (jm C ⇑h.objs)).get? b=aB o:=λb o e=>Ng _ (Ng _ e)
 have i:=k _ _ a;have c:((h.push (gF aO)).push (jm C ⇑h.objs)).get? (⇑h.objs+1)=aB (jm C ⇑h.objs):=by heap_get
 have j:(NR C::bm).contains (.ref C)=true:=by simp
 have n:=T.keeps k;unfold isInstance
 repeat (first|with_reducible show QE c ?_|(with_reducible show TM i ?_;rw[j])|wp_step)
 change wpAny _ _ (typeLookup (.ref C) _) _ _ _;show hi _ _ _ _ k ?_;show Ov (Nc (l (.ref (⇑h.objs+1)) _ _ _ _ k ?_));show Nc (Qu ?_);show Py m λr p z=>?_
 rcases r with e|(_|_|_|v)
 ·show z
 ·show z.elim
 ·show z.elim
 ·show z.elim
 ·obtain⟨rfl,z⟩:=z;show Nm (Nm z)
def yv (F:UG B newId initId bmB)(T:W3 h bmB bm){aO:Nb Nd}
  (a:h.get? C=aB (excClassObj nm q C N bs bm hdct sn sub ab col dd k0 k1 k2 k3 k5 newId)) (hi:Looks (model prog w) h (typeLookup (.ref C) "__init__") (aB (.ref f))) (b:∀self,Looks (model prog w) h (bindSpecial (.ref f) self) (.ref f,[self]))
  (c:codeAny (model prog w) (A.under (.builtin "type.__call__" #[.ref C::aO,[]])) (.call (.ref f) #[.ref (⇑h.objs+1)::aO,[]]) (EF (⇑h.objs+1) Q E) #[(h.push (gF aO)).push (jm C ⇑h.objs),g,d,t,os]) (hrest:aO.length<=sizeLine:=by size_fits) :
  wpAny (model prog w) A (call (.ref C) aO) Q E #[h,g,d,t,os]:=by
 have e:=tc_lookup;have i:=tc_bind (.ref C);have j:(#[h,g,d,t,os]:Nh).TypeIs (.ref C) "type":=#[_,a,rfl];show Qu (RE ?_);change wpAny _ _ (callAny (.ref C) _) _ _ _
 repeat (any_goals (first|assumption|with_reducible show QE a ?_|wp_step))
 show#[rfl,?_];show codeAny_call_builtin_at (Q7 _ (by decide +kernel)) entry_typeCall (wpAny_check_type_call_sub a (mh (hrest:=hrest) F T a hi b c))
end
end Xc
namespace Xc
open PySem PySem.Spec PySem.W PySem.Builtin.ObjectAttr
abbrev dR:Nb Nd->ND
 |.ref _::r=>dR r
 |l=>l==[.type "ValueError",.type "Exception",.type "BaseException",.type "object"]
def pM (self:Nd):refuseLoop self "__setattr__" [.type "ValueError",.type "Exception",.type "BaseException",.type "object"]=pure ():=by kernel_rfl
def kX (self:Nd):∀{l:Nb Nd},dR l=true->refuseLoop self "__setattr__" l=pure ()
 |.ref c::r,e=>by rw[refuseLoop_ref];show kX self (l:=r) e
 |[],e=>by cases e
 |.type n::r,e=>by
  have:(PL n::r)=[.type "ValueError",.type "Exception",.type "BaseException",.type "object"]:=Pu.mp e;rw[this];show pM self
 |.none::r,e|.bool _::r,e|.int _ _::r,e|.str _ _::r,e|.builtin _::r,e|.float _ _::r,e=>by cases e
def cz:∀{l:Nb Nd},dR l=true->l.contains (.type "object")=true/\l.isEmpty=false
 |.ref c::r,e=>#[by rw[R3,(cz (l:=r) e).1,UH],rfl]
 |[],e=>by cases e
 |.type n::r,e=>by
  have:(PL n::r)=[.type "ValueError",.type "Exception",.type "BaseException",.type "object"]:=Pu.mp e;rw[this];show#[by decide +kernel,rfl]
 |.none::r,e|.bool _::r,e|.int _ _::r,e|.str _ _::r,e|.builtin _::r,e|.float _ _::r,e=>by cases e
section
variable{prog:NM}{w:NU}{A:NY}{K:Frag}{C x:Nl}{s:Nh}{R:SG->Nh->Prop}
def Jd (X:K.In s.heap)(I:InstAt s.heap x k C od)(hc:clsIn K C=aB c)(g:dR c.mro=true)(i:findIn K (.ref C) name=aB ba)
  (h:wpAny (model prog w) A.in1 (storeInOwnDict (.ref x) (.ref C) (.str name tk) name v false) (λfin b=>match fin with|.done f=>R (.ok f) b|.again d=>d.quiet=true/\codeAny (model prog w) A d R b) (λe b=>R (.error e) b) s) :
  codeAny (model prog w) A (.call (.builtin "object.__setattr__") #[[.ref x,.str name tk,v],[]]) R s:=by
 have a:=PySem.F.store_object;obtain⟨j,ne⟩:=cz g;have sub:Looks (model prog w) s.heap (isInstance (.ref x) (.type "object")) true:=I.type.andThen (looks_mroIn X (by unfold mroIn;rw[hc,Pe,N1 (by rw[ne];decide),j]))
 show Qf a.slot.plain a.entry (@check_slot (model prog w) _ _ s "object.__setattr__" "object" "__setattr__" (.ref x) [.str name tk,v] [] _ a.kind a.split sub (a.args (.ref x) (.str name tk) v) ?_);have hl:Looks (model prog w) s.heap (mroOf (.ref C)) c.mro:=(looks_clsIn X hc).andThen .now;rw[osa_eq,refuse_eq];show Nc (Nc (I.type.here (Nc (hl.here ?_))));rw[kX _ g];show Nm (Nc (I.type.here (Nc ((looks_findIn X i).here (Nc (Looks.here (r:=ba) .now h))))))
def yw (X:K.In s.heap)(h:s.heap.get? x=aB #[.ref C,ba,.fields vs,i])
  (H:findIn K (.ref C) "__setattr__" = aB (aB (.builtin "object.__setattr__"))) (hc:clsIn K C=aB j) (G:dR j.mro=true) (hd:j.hasDict=true) (D:findIn K (.ref C) name=aB ba)
  (k:∀h' tk,h'.get? x=aB #[.ref C,aB ⇑s.heap.objs,.fields vs,i]->h'.Ns1 ⇑s.heap.objs (λy=>if y=name then aB v else ba)->(∀b o,b≠x->s.heap.get? b=aB o->h'.get? b=aB o)->⇑h'.objs=⇑s.heap.objs+1->
   Q () (xa s h' tk)):wpAny (model prog w) A (setAttr (.ref x) name v) Q E s:=by
 have I:InstAt s.heap x #[.ref C,ba,.fields vs,i] C ba:=#[h,rfl,rfl,trivial];show set_plain X I H (Jd (s:={s with toks:=s.toks+1}) X I hc G D ?_)
 unfold storeInOwnDict ownDictForStores instanceDict;show Nc (Nm (Nc (Nc (Ti h (Nc (Looks.here (s:={s with toks:=s.toks+1}) (looks_clsIn X hc) ?_))))))
 rw[hd];have f:(s.heap.push {cls:=.type "dict",data:=.dict #[]}).get? x=aB #[.ref C,ba,.fields vs,i]:=Ng _ h;have g:x≠⇑s.heap.objs:=NJ (Nz h);show Nc (wpAny_alloc' ?_);show Nc (wpAny_update' f ?_);show Nm (a:=aB ⇑s.heap.objs) ?_;have n:((s.heap.push {cls:=.type "dict",data:=.dict #[]}).update x λo=>{cls:=o.cls,dict:=aB ⇑s.heap.objs,data:=o.data,slots:=o.slots}).get? ⇑s.heap.objs=aB {cls:=.type "dict",data:=.dict #[]}:=
  (PQ _ _ _ _ g.symm).trans (UI rfl rfl)
 have p:((s.heap.push {cls:=.type "dict",data:=.dict #[]}).update x λo=>{cls:=o.cls,dict:=aB ⇑s.heap.objs,data:=o.data,slots:=o.slots}).Ns ⇑s.heap.objs (λ_=>ba):=
  #[_,#[],_,n,rfl,λe B=>absurd B (by simp),λ_=>rfl]
 change wpAny _ _ (storeInDict ⇑s.heap.objs (.str name _) name v) _ _ _;unfold storeInDict newKeyGuard;show Nc (Nm (Nc (Ws (W4 p) λh' d c=>?_)))
 obtain⟨J,u,t,r,m,l⟩:=d.count (WE name v Within.nil);show Nc (UZ r (by rw[m];show U0 (NO l (by rw[Og,Qc,OF];omega))) ?_)
 show Nm (k h' _ ?_ d (λb o z q=>?_) ?_)
 ·show(c.2 x g).trans (OJ _ f rfl)
 ·show(c.2 b (NJ (Nz q))).trans ((PQ _ _ _ _ z).trans (Ng _ q))
 ·rw[c.1];simp
def wj (X:K.In s.heap)(n:s.heap.get? x=aB #[.ref C,aB c,.fields vs,o])
  (m:s.heap.Ns1 c l) (hw:Within l ns) (hsz:↥ns<=100) (D:c≠x)
  (G:findIn K (.ref C) "__setattr__" = aB (aB (.builtin "object.__setattr__"))) (hc:clsIn K C=aB f) (B:dR f.mro=true) (hd:f.hasDict=true) (z:findIn K (.ref C) name=aB ba)
  (k:∀h' tk,h'.Ns1 c (λy=>if y=name then aB v else l y)->(∀b,b≠c->h'.get? b=s.heap.get? b)->⇑h'.objs=⇑s.heap.objs->
   Q () (xa s h' tk)):wpAny (model prog w) A (setAttr (.ref x) name v) Q E s:=by
 obtain⟨H,r,p,i,L⟩:=id m;have I:InstAt s.heap x #[.ref C,aB c,.fields vs,o] C (aB H):=#[n,rfl,rfl,i];show set_plain X I G (Jd (s:={s with toks:=s.toks+1}) X I hc B z ?_)
 unfold storeInOwnDict ownDictForStores instanceDict;show Nc (Nm (Nc (Nc (Ti n (Nc (Looks.here (s:={s with toks:=s.toks+1}) (looks_clsIn X hc) ?_))))))
 rw[hd];show Nm (a:=aB c) ?_;change wpAny _ _ (storeInDict c (.str name _) name v) _ _ _;unfold storeInDict newKeyGuard;show Nc (Nm (Nc (Ws (s:={s with toks:=s.toks+1}) m λh' d e=>?_)))
 obtain⟨J,t,q,j,h,g⟩:=d.count (WE name v hw);show Nc (UZ j (by rw[h];show U0 (NO g (by rw[Og,OF];omega))) ?_)
 show Nm (k h' _ d (λb u=>e.2 b u) e.1)
def uu (self:Nd):bindSpecial (.builtin "BaseException.__getattribute__") self=pure (.builtin "BaseException.__getattribute__",[self]):=PySem.F.attr_ValueError.ga.bind self
def fF:∀{l:Nb Nd},dR l=true->l.contains (.type "BaseException")=true
 |.ref c::r,e=>by rw[R3,fF (l:=r) e,UH]
 |[],e=>by cases e
 |.type n::r,e=>by
  have:(PL n::r)=[.type "ValueError",.type "Exception",.type "BaseException",.type "object"]:=Pu.mp e;rw[this];decide +kernel
 |.none::r,e|.bool _::r,e|.int _ _::r,e|.str _ _::r,e|.builtin _::r,e|.float _ _::r,e=>by cases e
def LB (X:K.In s.heap)(D:s.heap.get? x=aB #[.ref C,aB c,.fields vs,m])
  (t:s.heap.Ns1 c o) (y:findIn K (.ref C) "__getattribute__" = aB (aB (.builtin "BaseException.__getattribute__"))) (z:findIn K (.ref C) "__getattr__" = aB ba)
  (hc:clsIn K C=aB b) (n:dR b.mro=true) (hd:b.hasDict=true) (u:findIn K (.ref C) name=aB ba) (B:o name=aB v) (h:handedIn v=true)
  (k:Q v {s with toks:=s.toks+1}):wpAny (model prog w) A (getAttr (.ref x) name a) Q E s:=by
 obtain⟨l,f,e⟩:=L2.v7 t;have I:InstAt s.heap x #[.ref C,aB c,.fields vs,m] C (aB l):=#[D,rfl,rfl,f];have p:InstAt ({s with toks:=s.toks+1}:Nh).heap x #[.ref C,aB c,.fields vs,m] C (aB l):=I
 have hl:Looks (model prog w) s.heap (mroOf (.ref C)) b.mro:=(looks_clsIn X hc).andThen .now;have ne:=(cz n).2;have sub:Looks (model prog w) s.heap (isInstance (.ref x) (.type "BaseException")) true:=I.type.andThen (looks_mroIn X (by unfold mroIn;rw[hc,Pe,N1 (by rw[ne];decide),fF n]))
 have hk:builtinKind "BaseException.__getattribute__" = aB .slot:=by decide +kernel
 have g:splitId "BaseException.__getattribute__" = aB ("BaseException","__getattribute__"):=by decide +kernel
 unfold getAttr getAttrBy;show Nc (Wt (Ov (Nc (p.type.here (Nc (Looks.here (s:={s with toks:=s.toks+1}) (looks_findIn X y) ?_))))))
 have i:(onTheHeap (NR C)&&PB "BaseException.__getattribute__" == PB "object.__getattribute__")=false:=by
  rw[show(PB "BaseException.__getattribute__" == PB "object.__getattribute__")=false from by decide +kernel,OT]
 dsimp only;rw[i];change wpAny _ _ (getAttrByItsOwn _ _ _ _ _ _) _ _ _;unfold getAttrByItsOwn hookBefore;show Nc (Looks.here (s:={s with toks:=s.toks+1}) (looks_findIn X z) ?_)
 have j:(a&&onTheHeap (PB "BaseException.__getattribute__"))=false:=by cases a<;>rfl
 unfold callGetattribute boundAndCalled;rw[j,uu];show Nc (PZ (Ov (Nc (Nm (Qu ?_)))));show Qf PySem.F.attr_ValueError.ga.plain F.entry_bexc_ga (@check_slot (model prog w) _ _ {s with toks:=s.toks+1} "BaseException.__getattribute__" "BaseException" "__getattribute__" (.ref x) [.str name s.toks] [] _ hk g sub (F.args_bexc_ga (.ref x) (.str name s.toks)) ?_)
 have d:lookIn name l=aB (aB v):=by rw[e,B]
 have r:Looks (model prog w) s.heap _ _:=looks_find X I (findObj_own (by unfold hasDictIn;rw[hc];show hd) u rfl d)
 have q:Looks (model prog w) s.heap _ _:=I.type;show Nc (Nm (Nc (Nm (Nc (q.here (s:={s with toks:=s.toks+1}) (Nc (r.here (s:={s with toks:=s.toks+1}) ?_)))))))
 show Nm ?_;change wpAny _ _ (handedOut v) _ _ _;rw[handedOut_of h];show Nm k
end
section
variable{prog:NM}{w:NU}{A:NY}{E:Nd->Nh->Prop}{h:N6}{g:N9 RY}{d:Wy}{t:Np}{os:OsState}
variable{nm q:Nu}{C N e:Nl}{bs bm bmB:Nb Nd}{hdct:ND}{sn:Nb Nu}{sub:Nb Nd}{ab:ND}{col:Nf ND}{dd dx:Nf Nl}{k0 k1 k2 k3 k5:Nf Nd}{B newId initId:OV}
def Je (F:UG B newId initId bmB)(T:W3 h bmB bm){aO:Nb Nd}
  (f:h.get? C=aB (excClassObj nm q C N bs bm hdct sn sub ab col dd k0 k1 k2 k3 k5 newId)) (b:h.get? e=aB #[.ref C,dx,.fields vs,c])  (a:vs[0]?=aB (.ref k))
  (j:Q .none #[(h.push (gF aO)).update e (PY (·.setIfInBounds 0 (.ref ⇑h.objs))),g,d,t,os]) (hrest:aO.length<=sizeLine:=by size_fits) :
  wpAny (model prog w) A (call (.builtin initId) (.ref e::aO)) Q E #[h,g,d,t,os]:=by
 have i:(h.push (gF aO)).get? e=aB #[.ref C,dx,.fields vs,c]:=Ng _ b;show Qu (Qf F.init.plain F.initEntry (wpAny_check_init_subT F T f b rfl ?_));have l:=(Oi.mp a).1
 wp_walk
 rw[a]
 wp_walk
 show j
end
section
variable{prog:NM}{w:NU}{A:NY}{K:Frag}{CL:Nl}{s:Nh}{E:Nd->Nh->Prop}{pl:VZ ND}{Q:Nd×Nb Nd->Nh->Prop}{mc:Nd}{name:Nu}
def Jf (X:K.In s.heap)(a:specialIn K (.ref CL) "__getattribute__" = aB (aB (.builtin "type.__getattribute__")))(c:readsIn K CL mc=true)(e:findCls K (.ref CL) mc name=aB (.val v))(b:handedIn v=true)
  (k:Q (v,[]) {s with toks:=s.toks+1}):wpAny (model prog w) A (getMethod (.ref CL) name pl) Q E s:=method_cls X a (cls_value X c e b k)
end
section
variable{Mqa:Si}{A:NY}{E:Nd->Nh->Prop}{s:Nh}{env:RX}
variable{nm q:Nu}{C N:Nl}{bs bm:Nb Nd}{hdct:ND}{sn:Nb Nu}{sub:Nb Nd}{ab:ND}{col:Nf ND}{dd:Nf Nl}{k0 k1 k2 k3 k5:Nf Nd}{newId:OV}
def yx (a:bm.contains (.type "BaseException")=true)(n:A.handled=ba)
  (h:wpAny Mqa A x (λv b=>∃e f vs k,v=.ref e/\b.heap.get? C=aB (excClassObj nm q C N bs bm hdct sn sub ab col dd k0 k1 k2 k3 k5 newId)/\b.heap.get? e=aB #[.ref C,f,.fields vs,k]/\vs[1]?=aB .none/\E (.ref e) b) E s) :
  wpAny Mqa A (raiseStmt env (aB x) ba) Q E s:=by
 have c:(NR C::bm).contains (.type "BaseException")=true:=by rw[R3,a,UH]
 unfold raiseStmt;show Nc (Ou h (λv b l=>?_) λ_ _ x=>x)
 obtain⟨e,f,vs,k,rfl,i,j,o,m⟩:=l;obtain⟨p,g,d,tk,os⟩:=b
 repeat (first|with_reducible show QE j ?_|with_reducible show QE i ?_|(with_reducible show TM i ?_;rw[c])|with_reducible show OH j rfl o ?_|wp_step)
 show wpAny_raiseNew_none n m
end
section
variable{prog:NM}{w:NU}{A:NY}{s:Nh}{E:Nd->Nh->Prop}{env:RX}{base:N6}{outer:Nb RX}{L e:Nl}{cls a0:Nd}{dd:Nf Nl}
def Gb {aO:Nb V8}(j:A.frames=aB (env::outer))(hl:s.heap.FunFrames base (env::outer))(B:env.frame=aB L)(x:Fly s.heap e cls dd a0 .none)
  (ht:∀h',Mv ((env::outer).filterMap (·.frame)) e s.heap h'->Fly h' e cls dd a0 .none->wpAny (model prog w) (A.mark (aB (.ref e))) (eval t env) (λc k=>wpAny (model prog w) (A.mark (aB (.ref e))) (excMatches (.ref e) c) (λb d=>b=true/\
   Fly d.heap e cls dd a0 .none/\∀g,Mv ((env::outer).filterMap (·.frame)) e d.heap g->Fly g e cls dd a0 .none->
    wpAny (model prog w) (A.mark (aB (.ref e))) (storeName env n (.ref e)) (λ_ i=>wpAny (model prog w) (A.mark (aB (.ref e))) (execs (b0::a) env)
     (λf l=>wpAny (model prog w) A (do bindName env n .none;unbindBehindTheSuite env n pos) (λ_ H=>Q f H) E l) (λ_ _=>Oo) i) (λ_ _=>Oo) {d with heap:=g}) (λ_ _=>Oo) k) (λ_ _=>Oo) {s with heap:=h'}) :
  wpAny (model prog w) A (noteFrame (.ref e) env) (λ_ d=>wpAny (model prog w) A (setFlight (.ref e) ba) (λ_ i=>wpAny (model prog w) A (handleBy (.ref e) env (.ExceptHandler (aB t) (aB n) (b0::a) pos::aO)) Q E i) E d) E s:=by
 show yu j hl B x λI C m _=>kW ((env::outer).filterMap (·.frame)) m λh2 D o=>?_
 show wpAny_handleBy_cons (codeAny_handlers_test ?_) (by intro q;cases q)
 show Ou (ht h2 (C.trans D) o) (λc k h=>?_) λ_ _ z=>z.elim
 show Ou h (λb d #[y,fl,g]=>?_) λ_ _ z=>z.elim
 subst y;show codeAny_handlers_suite_as (kW ((env::outer).filterMap (·.frame)) fl λr G p=>?_)
 show Ou (g r G p) (λ_ i u=>?_) λ_ _ z=>z.elim
 show Ou u (λf l v=>v) λ_ _ z=>z.elim
end
structure XK (K:Frag)(C:Nl)(cd:O8):Prop where
 cls:clsIn K C=aB cd
 mro:dR cd.mro=true
 dct:cd.hasDict=true
 ga:findIn K (.ref C) "__getattribute__" = aB (aB (.builtin "BaseException.__getattribute__"))
 hk:findIn K (.ref C) "__getattr__" = aB ba
 kl:findIn K (.ref C) "__class__" = aB (aB (.builtin "object.__class__"))
 gg:specialIn K (.builtin "object.__class__") "__get__" = aB (aB (.builtin "getset_descriptor.__get__"))
 tk:takesIn K (.builtin "object.__class__")=aB true
section
variable{prog:NM}{w:NU}{A:NY}{K:Frag}{C x:Nl}{s:Nh}{E:Nd->Nh->Prop}{cd:O8}{ox:OQ}{od:Nf OQ}
def XK.top (a:XK K C cd):mroIn K C (.type "object")=aB true:=by
 unfold mroIn;rw[a.cls,Pe,N1 (by rw[(cz a.mro).2];decide),(cz a.mro).1]
def XK.base (a:XK K C cd):mroIn K C (.type "BaseException")=aB true:=by
 unfold mroIn;rw[a.cls,Pe,N1 (by rw[(cz a.mro).2];decide),fF a.mro]
def Jg (c:XK K C cd)(X:K.In s.heap)(I:InstAt s.heap x ox C od)
  (h:wpAny (model prog w) A.in1 (QD.«object.__getattribute__» #[[.ref x,.str name tk],[]]) (λfin g=>match fin with|.done (.ret v)=>wpAny (model prog w) A (handedOut v) Q E g|_=>Oo) (λ_ _=>Oo) s) :
  wpAny (model prog w) A (getAttrBy (.ref x) (.str name tk) b a) Q E s:=by
 have sub:Looks (model prog w) s.heap (isInstance (.ref x) (.type "BaseException")) true:=I.type.andThen (looks_mroIn X c.base);have hk:builtinKind "BaseException.__getattribute__" = aB .slot:=by decide +kernel
 have d:splitId "BaseException.__getattribute__" = aB ("BaseException","__getattribute__"):=by decide +kernel
 unfold getAttrBy;show Ov (Nc (I.type.here (Nc (Looks.here (looks_findIn X c.ga) ?_))));have e:(onTheHeap (NR C)&&PB "BaseException.__getattribute__" == PB "object.__getattribute__")=false:=by
  rw[show(PB "BaseException.__getattribute__" == PB "object.__getattribute__")=false from by decide +kernel,OT]
 dsimp only;rw[e];change wpAny _ _ (getAttrByItsOwn _ _ _ _ _ _) _ _ _;unfold getAttrByItsOwn hookBefore;show Nc (Looks.here (looks_findIn X c.hk) ?_);have f:(a&&onTheHeap (PB "BaseException.__getattribute__"))=false:=by cases a<;>rfl
 unfold callGetattribute boundAndCalled;rw[f,uu];show Nc (PZ (Ov (Nc (Nm (Qu ?_)))));show Qf PySem.F.attr_ValueError.ga.plain F.entry_bexc_ga (@check_slot (model prog w) _ _ s "BaseException.__getattribute__" "BaseException" "__getattribute__" (.ref x) [.str name tk] [] _ hk d sub (F.args_bexc_ga (.ref x) (.str name tk)) ?_);show Ou h (λfin g z=>?_) λ_ _ z=>z.elim
 rcases fin with(_|_|_|_)|_<;>first|show z|show z.elim
def si (a:XK K C cd):findObj K C od "__class__" = aB (.bind (.builtin "getset_descriptor.__get__") (.builtin "object.__class__")):=by
 unfold findObj;rw[a.cls,Pe,a.kl,Pe];revert a.gg a.tk Pe Qv OD
def Gc (a:XK K C cd)(X:K.In s.heap)(I:InstAt s.heap x ox C od)(h:Q (aB (.ref C)) {s with toks:=s.toks+1}):wpAny (model prog w) A (getAttr? (.ref x) "__class__") Q E s:=by
 have d:InstAt ({s with toks:=s.toks+1}:Nh).heap x ox C od:=I
 have c:Looks (model prog w) s.heap _ _:=looks_find X I (si a);have b:Looks (model prog w) s.heap _ _:=I.type;unfold getAttr? getAttrBy?;show Nc (Wt (Nc (PZ (Jg (s:={s with toks:=s.toks+1}) a X I ?_))))
 show Nc (Nm (Nc (Nm (Nc (b.here (s:={s with toks:=s.toks+1}) (Nc (c.here (s:={s with toks:=s.toks+1}) ?_)))))))
 change wpAny _ _ (holding [.builtin "object.__class__"] (call (.builtin "getset_descriptor.__get__") [.builtin "object.__class__",.ref x,.ref C]) >>= ret) _ _ _;show Nc (Ov (Qu (class_get (s:={s with toks:=s.toks+1}) X I a.top ?_)))
 show Nm (handed_on rfl (Nm h))
structure XT (K:Frag)(C:Nl)(c:Nd)(b:ND):Prop where
 ty:∀(Mqa:Si) h',K.In h'->Looks Mqa h' (typeOf c) (.type "type")
 is:∀(Mqa:Si) h',K.In h'->Looks Mqa h' (isType c) true
 sub:subIn K (.ref C) c=aB b
 eq:(NR C==c)=true->b=true
def gS (hc:clsIn K D=aB cd)(a:Si)(h':N6)(X:K.In h'):Looks a h' (isType (.ref D)) true:=by
 unfold clsIn at hc;split at hc
 next h d' b d c=>intro e g f i k q;unfold isType loadHead;show Nc (Ti (k _ _ (X _ _ c)) (Nm q))
 ·cases hc
def jO (l:XK K C cd)(T:XT K C c b)(X:K.In s.heap)(I:InstAt s.heap x ox C od)(h:∀j,Q (.done (.ret (.bool b))) {s with toks:=j}) :
  wpAny (model prog w) A (QD.«isinstance.nested» #[[.ref x,c,.int dep tk],[]]) Q E s:=by
 have e:=gS l.cls (model prog w) s.heap X;have f:=T.is (model prog w) s.heap X;have i:Looks (model prog w) s.heap (typeOf c) (.type "type"):=T.ty (model prog w) s.heap X;have a:Looks (model prog w) s.heap (isSubtype (.ref C) c) b:=looks_subIn X T.sub;obtain⟨m,g,d,n,os⟩:=s;have k:Looks (model prog w) m _ _:=I.type;have o:Looks (model prog w) m (isInstance (.ref x) c) b:=k.andThen a;unfold QD.«isinstance.nested»;show Nc (k.at ?_)
 by_cases q:(NR C==c)=true
 ·rw[NK q];cases T.eq q;show Nc (Q8 (Nc (Nm (Nm (h n)))))
 ·rw[N1 q];show Nc (i.at ?_);rw[NK #v[]]
  k_delta "plainIsInstance"
  show Nc (Nc (f.at ?_));revert T0 Pw QX;show Nc (o.at ?_);cases b with
  |true=>
   revert Qv;show Nm (Nm (h n))
  |false=>
   revert Pw QX;show Nc (Gc l X I ?_);show Nc (e.at ?_);revert T0 Pw QX;show Nc (Q8 ?_);show a.at ?_;show Nm (h _)
def Jh (e:XK K C cd)(T:XT K C c b)(X:K.In s.heap)(I:InstAt s.heap x ox C od)(h:∀a,Q (.bool b) {s with toks:=a}):wpAny (model prog w) A (call (.builtin "isinstance") [.ref x,c]) Q E s:=
 Vs (S:=λ_ R s=>(K.In s.heap/\InstAt s.heap x ox C od)/\∀a,R (.ok (.ret (.bool b))) {s with toks:=a})
  (λ_ _ _ _ _ d=>U3 (jO e T d.1.1 d.1.2 d.2) (by intro q;cases q)) #[#[X,I],h]
inductive XTs (K:Frag)(C:Nl):Nb Nd->Nb ND->Prop
 |nil:XTs K C [] []
 |cons {c:Nd}{b:ND}{cs:Nb Nd}{bs:Nb ND}:XT K C c b->XTs K C cs bs->XTs K C (c::cs) (b::bs)
def XTs.all (c:XK K C cd)(T:XTs K C b bs):AnswersAll (λs=>K.In s.heap/\InstAt s.heap x ox C od) (.ref x) b bs:=by
 induction T with
 |nil=>trivial
 |cons t _ ih=>show#[λ_ _ _ _ _ _ _ a=>jO c t a.1.1 a.1.2 a.2,ih]
def km {st:N9 (Nf Nd)}(l:XK K C cd)(T:XTs K C c bs)(e:C≠b)(f:s.heap.get? b=aB {cls:=.type "tuple",dict:=m,data:=.seq c.toArray o,slots:=st})(X:K.In s.heap)(I:InstAt s.heap x ox C od)
  (i:∀a,Q (.done (.ret (.bool (bs.any id)))) {s with toks:=a}):wpAny (model prog w) A (QD.«isinstance.nested» #[[.ref x,.ref b,.int 0 tk],[]]) Q E s:=by
 obtain⟨h,g,d,t,os⟩:=s;have n:(#[h,g,d,t,os]:Nh).TypeIs (.ref b) "tuple":=#[_,f,rfl];have p:=F.isi_sub_tuple;have k:Looks (model prog w) h _ _:=I.type;have ne:(NR C==NR b)=false:=OU.mpr λq=>e (Xn (Pu.mp q))
 unfold QD.«isinstance.nested»;show Nc (k.at ?_);rw[N1 (λq=>by rw[ne]at q;show SA q)]
 repeat (any_goals (first|assumption|wp_step))
 show wpAny_arrayLoop ?_;revert U4 List.toList_toArray;show isinstance_items (dep:=0) (P:=λs=>K.In s.heap/\InstAt s.heap x ox C od) (λ_ _ z=>z) c bs _ _ (T.all l) #[X,I] λa=>?_
 cases j:bs.any id with
 |true=>
  revert Qv
  repeat (any_goals (first|assumption|wp_step))
  show j▸i a
 |false=>
  revert Pw QX
  repeat (any_goals (first|assumption|wp_step))
  show j▸i a
def yy {st:N9 (Nf Nd)}(j:XK K C cd)(T:XTs K C d bs)(e:C≠c)(f:s.heap.get? c=aB {cls:=.type "tuple",dict:=g,data:=.seq d.toArray i,slots:=st})(X:K.In s.heap)(I:InstAt s.heap x ox C od)
  (h:∀a,Q (.bool (bs.any id)) {s with toks:=a}):wpAny (model prog w) A (call (.builtin "isinstance") [.ref x,.ref c]) Q E s:=
 Vs (S:=λ_ R s=>(K.In s.heap/\InstAt s.heap x ox C od/\s.heap.get? c=aB {cls:=.type "tuple",dict:=g,data:=.seq d.toArray i,slots:=st})/\∀a,R (.ok (.ret (.bool (bs.any id)))) {s with toks:=a})
  (λ_ _ _ _ _ b=>U3 (km j T e b.1.2.2 b.1.1 b.1.2.1 b.2) (by intro q;cases q)) #[#[X,I,f],h]
end
end Xc
namespace Xc
open PySem PySem.Spec PySem.W PySem.Builtin.ObjectAttr L2 PyProof.Rows
noncomputable abbrev Mw:Nb Nd:=[.type "ValueError",.type "Exception",.type "BaseException",.type "object"]
abbrev Fx (e C:Nl)(dd:Nf Nl)(h:N6):Prop:=∃vs a b,h.get? e=aB #[.ref C,dd,.fields vs,a]/\vs[0]?=aB (.ref b)/\vs[1]?=aB .none
def Fx.ok (x:Fx e C dd h):ObjOk P w H h e (.ext (Fx e C dd)):=
 #[x,let ⟨_,_,_,q,_⟩:=x;#[_,q],λa h2 y k=>let ⟨vs,sl,t0,q,r⟩:=y;#[vs,sl,t0,k _ q,r]]
structure XC (K:Frag)(C:Nl)(cd:O8):Prop extends XK K C cd where
 obj:∃nm q N bs bm sn sub ab col dd k0 k1 k2 k3 k5,K.lookup C=aB (excClassObj nm q C N bs bm true sn sub ab col dd k0 k1 k2 k3 k5 "ValueError.__new__")/\tailIn K Mw bm=true/\bm.contains (.type "BaseException")=true
 sa:findIn K (.ref C) "__setattr__" = aB (aB (.builtin "object.__setattr__"))
section
variable{X:Cx}{x:Nu}{p pos apos:Pp}{a:NF}{es:Nb NF}{t:TA}{CL:Nl}{mc:Nd}
abbrev yz (K:Frag)(t:TA):TE:=λY H Q=>t Y H λvs a=>∃e C b dd aO,vs=.ref e::aO/\aO.length<=sizeLine/\XC K C b/\a e=aB (.ext (Fx e C dd))/\Q .non a
def yA {pl:VZ ND}(l:Gl X x)(m:X.mg x=aB (.ref CL))(T:specialIn X.K (.ref CL) "__getattribute__" = aB (aB (.builtin "type.__getattribute__")))(V:readsIn X.K CL mc=true)
  (S:findCls X.K (.ref CL) mc "__init__" = aB (.val (.builtin "ValueError.__init__"))) (P:PA X (a::es) t)
  (r:starEach (a::es) X.env=(false,eval a X.env)::starEach es X.env:=by rfl) (n:(backTo pos (starEach es X.env)).any (·.1)=false:=by rfl)
  (ht:eval (.Call (.Attribute (.Name x p) "__init__" apos) (a::es) [] pos) X.env=(do
   let ov <- eval (.Name x p) X.env
   standAt apos.atName
   let (f,first) <- holding [ov] (getMethod ov "__init__" pl)
   callWith pos f first (backTo pos (starEach (a::es) X.env)) (backToKw pos (keywordEach [] X.env))):=by rfl) (hdb:(x==("__debug__"))=false:=by decide) :
  PE X (.Call (.Attribute (.Name x p) "__init__" apos) (a::es) [] pos) (yz X.K t):=by
 intro J s Y H Q I h;show PySem.W.methodCall_KW (pl:=pl) (da I l m ?_ hdb) ht;show Jf I.kIn T V S (by decide +kernel) ?_
 have G:=I.tok (s.toks+1);show callWith_builtin1 (bd (P pos J _ Y H _ G h) λus s1 #[vs,H1,I1,r1,q1]=>?_) r n
 obtain⟨e,C,cd,dd,aO,rfl,W,L,k,U⟩:=q1;obtain⟨u,c,rfl,ru,rr⟩:∃u c,us=u::c/\RelV (.ref e) u/\Vals aO c:=by
  cases r1 with
  |cons a b=>show#[_,_,rfl,a,b]
 obtain rfl:u=NR e:=ru;obtain⟨nm,q,N,bs,bm,sn,sub,ab,col,M,k0,k1,k2,k3,k5,Z,tl,_⟩:=L.obj;obtain⟨⟨ws,E,t0,B,D,o3⟩,_,_⟩:=I1.hok e _ k;have A:=I1.kIn;obtain⟨j,g,d,tk,os⟩:=s1;show Je R4 (tail_of_in A tl) (A _ _ Z) B D ?_ (by rw[<- ↥rr];show W)
 have w:(j.push (gF c)).get? e=aB #[.ref C,dd,.fields ws,E]:=Ng _ B;have i:=OJ (PY (·.setIfInBounds 0 (.ref ⇑j.objs))) w rfl
 have nf:Fx e C dd ((j.push (gF c)).update e (PY (·.setIfInBounds 0 (.ref ⇑j.objs)))):=
  #[_,E,⇑j.objs,i,by simp[(Oi.mp D).1],by rw[Rm #v[]];show o3]
 have y:=I1.write (o:=.ext (Fx e C dd)) (t':=tk) (h':=(j.push (gF c)).update e (PY (·.setIfInBounds 0 (.ref ⇑j.objs)))) (x:=e) (e:=e) (by rw[k];trivial) (.inl rfl)
  (λb u R q=>by rw[N8 _ _ (Ne.symm R)];show Ng _ q) #[_,i] nf.ok
 have O:aT H1 e (.ext (Fx e C dd))=H1:=by
  funext b
  unfold aT;split
  next z=>rw[z,k]
  ·rfl
 rw[O]at y;show#[.non,H1,y,rfl,U]
end
abbrev Dx (b:Nl)(fs:Nb (Nu×V))(h:N6):Prop:=∃a,h.Ns1 b a/\(∀f,Fq (fs.lookup f) (a f))/\Within a (fs.map (·.1))
def Dx.ok (x:Dx a fs h):ObjOk P w H h a (.ext (Dx a fs)):=
 #[x,let ⟨_,⟨o,_,_,q,_⟩,_⟩:=x;#[o,q],λb h2 y k=>let ⟨mA,⟨o,es,ep,q,r⟩,z⟩:=y;#[mA,#[o,es,ep,k _ q,r],z]]
section
variable{X:Cx}{J:Nb (Nl×OQ)}{Y:L2.St}{H:Hp}{s:Nh}{h':N6}{e dx:Nl}{φ ψ χ:N6->Prop}{t':Np}
def Cg (I:L2.Inv X J Y H s)(d:H e=aB (.ext φ))(hd:⇑s.heap.objs<=dx)(k:∀b u,b≠e->s.heap.get? b=aB u->h'.get? b=aB u)
  (j:∀h,ObjOk X.prog X.w h h' e (.ext ψ)) (m:∀h,ObjOk X.prog X.w h h' dx (.ext χ)):L2.Inv X J Y (aT (aT H e (.ext ψ)) dx (.ext χ)) (xa s h' t'):=by
 have nd:H dx=ba:=I.hok.fresh hd;have ne:dx≠e:=λz=>by rw[z,d]at nd;cases nd
 have a:∀b,b≠e->b≠dx->aT (aT H e (.ext ψ)) dx (.ext χ) b=H b:=λb l h2=>by rw[ar h2,ar l]
 have lt:∀b o,s.heap.get? b=aB o->b≠dx:=λb o q z=>absurd (Nz q) (by rw[z];show QK.mpr hd)
 have f:∀b,H b=ba->b≠e:=λb q z=>by rw[z,d]at q;cases q
 have ind:∀b u,H b=aB u->b≠dx:=λb u q z=>by rw[z,nd]at q;cases q
 show I.un #[λb o q n _ _=>k b o (f b n) q,λb o q n _ _=>#[o.slots,k b o (f b n) q],λb o q n _=>by rw[a b (f b n) (lt b o q)];show n,λb o q _=>?_,λb xs q=>?_,λb o u q=>?_,λb ps q=>#[#[],?_]] λb u q=>?_
 ·by_cases z:b=e
  ·rw[z];show let ⟨_,w,_⟩:=j H;w
  ·show#[o,k b o z q]
 ·rw[a b (λz=>by rw[z,d]at q;cases q) (ind b _ q)];show q
 ·rw[a b (λz=>by rw[z,d]at q;cases q) (ind b _ q)];show q
 ·rw[a b (λz=>by rw[z,d]at q;cases q) (ind b _ q),q];simp
 ·by_cases i:b=dx
  ·rw[i,aA]at q;cases q;rw[i];show m _
  ·rw[ar i]at q
   by_cases g:b=e
   ·rw[g,aA]at q;cases q;rw[g];show j _
   ·rw[ar g]at q;show(I.hok b u q).stay (λc v hc r=>k c v ?_ r) (λc r=>?_) λc xs r=>?_
    ·rcases hc with z|z
     ·rw[z];show g
     ·show λp=>by rw[p,d]at z;cases z
    ·rw[a c (λz=>by rw[z,d]at r;cases r) (ind c _ r)];show r
    ·rw[a c (λz=>by rw[z,d]at r;cases r) (ind c _ r)];show r
end
section
variable{X:Cx}{o value:NF}{ta tv:TE}{f:Nu}{pos pos':Pp}
abbrev EG (K:Frag)(ta tv:TE)(f:Nu):TS:=λD Y H=>tv Y H λy c=>ta Y c λx b=>∃e C d,x=.ref e/\XC K C d/\findIn K (.ref C) f=aB ba/\
 ((b e=aB (.ext (Fx e C ba))/\∀a,b a=ba->D.nx Y (aT (aT b e (.ext (Fx e C (aB a)))) a (.ext (Dx a [(f,y)]))))\/
  (∃a fs,b e=aB (.ext (Fx e C (aB a)))/\a≠e/\↥fs<=100/\b a=aB (.ext (Dx a fs))/\D.nx Y (aT b a (.ext (Dx a (iw f y fs))))))
def Ch (E:PE X o ta)(M:PE X value tv)(L:swapsWith value (aB (.Attribute o f pos')) pos.line X.env=pure false):PS X (.Assign [.Attribute o f pos'] value pos) (EG X.K ta tv f):=by
 intro J s Y H D I h;show plainObj_wpAny_Assign_Attribute (bd (M J s Y H _ I h) λu Q #[y,H1,I1,ry,q]=>bd (E J Q Y H1 _ I1 q) λP t #[x,H2,I2,rx,e,C,cd,ex,Yj,hf,q2]=>?_) L
 subst ex;obtain rfl:P=NR e:=rx;rcases q2 with⟨c,l⟩|⟨a,fs,c,k,hl,hd,l⟩
 ·obtain⟨⟨ws,v,w,m,p,r⟩,_,_⟩:=I2.hok e _ c;show yw I2.kIn m Yj.sa Yj.cls Yj.mro Yj.dct hf λh' tk A d i B=>?_
  have fx:Fx e C (aB ⇑t.heap.objs) h':=#[ws,v,w,A,p,r];have dd:Dx ⇑t.heap.objs [(f,y)] h':=#[_,d,λg=>?_,?_]
  ·show#[Y,_,Cg I2 c (Ny _) i (λ_=>fx.ok) (λ_=>dd.ok),l _ (I2.hok.fresh (Ny _))]
  ·change Fq ((iw f y []).lookup g) (if g=f then aB u else ba)
   rw[fB]
   by_cases q:g=f
   ·rw[NK q,NK q];show ry
   ·rw[N1 q,N1 q];trivial
  ·intro g j
   by_cases q:g=f
   ·rw[q];show NH
   ·show absurd (show(if g=f then aB u else ba)=ba by rw[N1 q]) j
 ·obtain⟨⟨ws,v,w,m,p,r⟩,_,_⟩:=I2.hok e _ c;obtain⟨⟨n,N,O,n3⟩,_,_⟩:=I2.hok a _ hd;show wj I2.kIn m N n3 (by rw[Ni];show hl) k Yj.sa Yj.cls Yj.mro Yj.dct hf λh' tk d i B=>?_
  have dd:Dx a (iw f y fs) h':=#[_,d,λg=>?_,?_]
  ·show#[Y,_,I2.write (o:=.ext (Dx a (iw f y fs))) (x:=a) (e:=a) (by rw[hd];trivial) (.inl rfl) (λb u G q=>by rw[i b G];show q) (let ⟨_,⟨o,_,_,q,_⟩,_⟩:=dd;#[o,q]) dd.ok,l]
  ·change Fq ((iw f y fs).lookup g) (if g=f then aB u else n g)
   rw[fB]
   by_cases q:g=f
   ·rw[NK q,NK q];show ry
   ·rw[N1 q,N1 q];show O g
  ·intro g j
   by_cases q:g=f
   ·rw[q];show(jl f y fs).1
   ·show(jl f y fs).2 g (n3 g λz=>j ?_)
    show(if g=f then aB u else n g)=ba
    rw[N1 q];show z
end
structure XM (K:Frag)(C f:Nl)(cd:O8):Prop extends XC K C cd where
 init:findIn K (.ref C) "__init__" = aB (aB (.ref f))
 fn:typeIn K (.ref f)=aB (.type "function")
 kp:keepIn K (.ref C)=true
section
variable{X:Cx}{CX:rM}{k:Np}{f C:Nl}{cd:O8}{fd:OG}{ps:Nb Nu}{sp:Sp}{E:L2.XK}{x:Nu}{p pos:Pp}{a:NF}{es:Nb NF}{t:TA}
def mJ {Y:L2.St}(c:XM X.K C f cd)(F:FnOk X.prog X.w X.K X.mg X.base CX k f fd ps sp)(D:Room (k+1) X.A)(A:Binds X.K fd ps [])
  (G:gR CX X E) (I:L2.Inv X J Y H s) (r:Vals vs us) (L:↥us<=sizeLine)
  (h:∀e,H e=ba->⇑s.heap.objs<=e->sp (.ref e::vs) (aT H e (.ext (Fx e C ba))) (λv t=>v=.non/\Q (.ref e) t) E) :
  wi X (call (.ref C) us) (EP X J Y Q) X.xe s:=by
 have n:=h (⇑s.heap.objs+1) (I.hok.fresh (O6 _)) (O6 _);obtain⟨nm,q,N,bs,bm,sn,sub,ab,col,x,k0,k1,k2,k3,k5,M,S,_⟩:=c.obj;have j:L2.Inv X J Y (aT H (⇑s.heap.objs+1) (.ext (Fx (⇑s.heap.objs+1) C ba))) {s with heap:=(s.heap.push (gF us)).push (jm C ⇑s.heap.objs)}:=by
  show I.laid (t':=s.toks) (λb u e=>Ng _ (Ng _ e)) (O6 _) (Fx.ok #[[.ref ⇑s.heap.objs,.none,.none,.none,.bool false,.none].toArray,#[],⇑s.heap.objs,?_,rfl,rfl])
  show UI (by simp) rfl
 have o:Vals (V.ref (⇑s.heap.objs+1)::vs) (NR (⇑s.heap.objs+1)::us):=.cons rfl r;have hl:(NR (⇑s.heap.objs+1)::us++[]).length=↥ps:=by
  have e:=↥o;rw[F.len _ _ _ _ n]at e;rw[ON];show e.symm
 have l:=I.kIn;have i:=A _ (NR (⇑s.heap.objs+1)::us) j.kIn hl;rw[ON]at i;have m:=F.run _ X.stack _ _ #[NR (⇑s.heap.objs+1)::us,[]] (NR (⇑s.heap.objs+1)::us) _ _ E (D.make C us []) (j.env0.make C us []) i o n;obtain⟨B,g,d,tk,os⟩:=s;show yv R4 (tail_of_in l S) (l _ _ M) (looks_findIn l c.init) (λself=>bind_fn l self c.fn) (Py m λr R a=>?_) L
 cases r with
 |error e=>show G J Y _ _ e R j a
 |ok z=>
  cases z with
  |ret u=>
   obtain⟨v,p,w,P,y,O⟩:=j.after a;subst y;show#[P,#[V.ref (⇑B.objs+1),p,w,rfl,O]]
  |next=>show Oo.elim a
  |brk=>show Oo.elim a
  |cont=>show Oo.elim a
end
abbrev Ex (e C:Nl)(dd:Nf Nl)(h:N6):Prop:=∃vs a,h.get? e=aB #[.ref C,dd,.fields vs,a]
def Ex.ok (x:Ex e C dd h):ObjOk P w H h e (.ext (Ex e C dd)):=
 #[x,let ⟨_,_,q⟩:=x;#[_,q],λa h2 y k=>let ⟨vs,sl,q⟩:=y;#[vs,sl,k _ q]]
def Fly.ex (x:Fly h e (.ref C) dd a b):Ex e C dd h:=by
 cases x with
 |new q _ _=>show#[_,_,q]
 |on q _ _ _ _ _ _=>show#[_,_,q]
abbrev cR (h:N6)(b:Nl):ND:=match h.get? b with
 |some #[_,_,.fields _,_]=>true
 |_=>false
def d6 (q:h.get? b=aB o)(n:cR h b=false):∀vs,o.data≠.fields vs:=λvs e=>by
 obtain⟨c,d,a,f⟩:=o;cases e;simp[cR,q]at n
def wk (n:cR h b=true):∃o vs,h.get? b=aB o/\o.data=.fields vs:=by
 unfold cR at n;split at n
 next q=>show#[_,_,q,rfl]
 ·cases n
def yB (x:ObjOk P w H h a o):∃ob,h.get? a=aB ob:=by
 cases o with
 |lst xs=>obtain⟨_,_,_,_,e⟩:=x;show#[_,e]
 |tup xs=>obtain⟨⟨_,_,e,_⟩,_⟩:=x;show#[_,e]
 |dK U=>obtain⟨_,_,_,_,o,_,_,e,_⟩:=x;show#[_,e]
 |own y=>show x
 |rng lo hi=>obtain⟨_,_,_,e⟩:=x;show#[_,e]
 |frz ob u=>obtain⟨e,_⟩:=x;show#[_,e]
 |tbl ps=>show#[_,(show h.get? a=aB _ from x)]
 |ext φ=>obtain⟨_,e,_⟩:=x;show e
structure Air (X:Cx)(J:Nb (Nl×OQ))(Y:L2.St)(H:Hp)(s:Nh)(a C:Nl)(dd:Nf Nl)(a0:Nd):Prop where
 inv:L2.Inv X J Y H s
 fly:Fly s.heap a (.ref C) dd a0 .none
 new:⇑X.s₀.heap.objs<=a
 ext:H a=aB (.ext (Ex a C dd))
 low:∀b u,H b=aB u->a<b->cR s.heap b=false
 pin:∀p∈X.pn++J,a<p.1->cR s.heap p.1=false
section
variable{X:Cx}{J:Nb (Nl×OQ)}{Y:L2.St}{H:Hp}{s:Nh}{a C:Nl}{dd:Nf Nl}{a0:Nd}{h':N6}
def Air.mv (g:Air X J Y H s a C dd a0)(m:Mv (my X.stack) a s.heap h')(f:Fly h' a (.ref C) dd a0 .none):Air X J Y H {s with heap:=h'} a C dd a0:=by
 have I:=g.inv;have D:∀b∈my X.stack,∃o,s.heap.get? b=aB o/\∀vs,o.data≠.fields vs:=λb e=>(I.stack.mem e).2
 have i:∀b u o,H b=aB u->b≠a->s.heap.get? b=aB o->h'.get? b=aB o:=λb u o e ne q=>
  m.keep b o q (λz=>by rw[I.stkFree b z]at e;cases e) ne λlt=>d6 q (g.low b u e lt)
 have j:∀b o,s.heap.get? b=aB o->cR s.heap b=false->b≠a->cR h' b=false:=λb o q n ne=>by
  by_cases e:b∈my X.stack
  ·obtain⟨N,k⟩:=m.fram b o q e (d6 q n);unfold cR;rw[k];obtain⟨c,d,E,O⟩:=o;cases E<;>first|rfl|(simp[cR,q]at n)
  ·unfold cR at n ⊢;rw[m.keep b o q e ne λ_=>d6 q n]
   rw[q]at n;show n
 have P:L2.Inv X J Y H {s with heap:=h'}:=by
  show I.call (ch:=(N2 ⇑s.heap.objs).filter λb=>decide (a<b)&&cR s.heap b) (g':=s.gens) (t':=s.toks) (d':=s.drawn) #[λb o q n M nc=>?_,λb o q n e nc=>?_,λb o q n _=>n,λb o q nc=>?_,λ_ _ q=>q,λ_ _ _ q=>q,λb ps q=>#[#[],by rw[q];simp]] (λb u q=>?_) I.bare λb e=>?_
  ·show m.keep b o q M (λz=>by rw[z,g.ext]at n;cases n) λlt=>?_
   cases t:cR s.heap b with
   |false=>show d6 q t
   |true=>show absurd (OS.mpr #[Oh.mpr (Nz q),by simp[lt,t]]) nc
  ·obtain⟨o',k,A⟩:=D b e;rw[q]at k;cases k;show m.fram b o q e A
  ·by_cases e:b∈my X.stack
   ·obtain⟨o',k,A⟩:=D b e;rw[q]at k;cases k;show let ⟨N,z⟩:=m.fram b o q e A;#[_,z]
   ·by_cases z:b=a
    ·rw[z];show let ⟨_,_,w⟩:=f.ex;#[_,w]
    ·show#[o,m.keep b o q e z λlt=>?_]
     cases t:cR s.heap b with
     |false=>show d6 q t
     |true=>show absurd (OS.mpr #[Oh.mpr (Nz q),by simp[lt,t]]) nc
  ·by_cases z:b=a
   ·rw[z,g.ext]at q;cases q;rw[z];show f.ex.ok
   ·show(I.hok b u q).stay (λc v hc r=>?_) (λ_ r=>r) λ_ _ r=>r
    rcases hc with hc|hc
    ·rw[hc]at r ⊢;show i b u v q z r
    ·show i c _ v hc (λQ=>by rw[Q,g.ext]at hc;cases hc) r
  ·obtain⟨T,h2⟩:=OS.mp e;rw[Nj]at h2;have lt:=N3 h2.1;obtain⟨o,vs,q,hd⟩:=wk h2.2;show#[.inr (Px (Q9 g.new lt)),λz=>?_,λx c L z=>?_,λp y z=>?_]
   ·obtain⟨U,⟨o',S,R,l,h,_⟩,_⟩:=I.loc;rw[<- z,q]at l;cases l;rw[hd]at h;cases h
   ·obtain⟨v,o',l,h⟩:=I.cell x c L;rw[z,q]at l;cases l;rw[hd]at h;cases h
   ·have:=g.pin p y (by rw[z];show lt)
    rw[z,h2.2]at this;cases this
 show#[P,f,g.new,g.ext,λb u e lt=>?_,λp y lt=>?_]
 ·have G:=I.hok.lt e;cases q:s.heap.get? b with
  |none=>
   obtain⟨o,B⟩:=yB (I.hok b u e);rw[q]at B;cases B
  |some o=>show j b o q (g.low b u e lt) (On lt)
 ·show j p.1 p.2 (I.pin p y).1 (g.pin p y lt) (On lt)
end
inductive CXx (P:NM)(w:NU)(outer:Nb RX)(H:Hp)(s:Nh)(E:L2.XK)(e:Nd)(s':Nh):Prop
 |mk (a C:Nl) (dd:Nf Nl) (a0:Nd) (H':Hp) (he:e=.ref a) (new:⇑s.heap.objs<=a) (os:s'.os=s.os) (bare:RP s'.gens) (un:Un (my outer) [] H H' s.heap s'.heap) (hok:HOk P w H' s'.heap)
   (fly:Fly s'.heap a (.ref C) dd a0 .none) (ext:H' a=aB (.ext (Ex a C dd))) (low:∀b u,H' b=aB u->a<b->cR s'.heap b=false) (q:E (.ref C) dd H'):CXx P w outer H s E e s'
section
variable{X:Cx}{J:Nb (Nl×OQ)}{Y:L2.St}{H:Hp}{s s':Nh}{E:L2.XK}{e:Nd}
def Gd (I:L2.Inv X J Y H s)(h:CXx X.prog X.w X.stack H s E e s'):∃a C dd i f,e=.ref a/\Air X J Y f s' a C dd i/\E (.ref C) dd f:=by
 obtain⟨a,C,dd,i,f,n,new,os,c,un,k,j,ext,l,q⟩:=h;show#[a,C,dd,i,f,n,#[?_,j,NO I.sz new,ext,l,λp r lt=>?_],q]
 ·obtain⟨o,g,d,t,m⟩:=s';obtain rfl:m=s.os:=os;show I.call (h':=o) (g':=g) (d':=d) (t':=t) (ch:=[]) un k c (λb z=>absurd z (by simp))
 ·show absurd (Nz (I.pin p r).1) (QK.mpr (NO new (Px lt)))
end
section
variable{P:NM}{w:NU}{K:Nr}{mg:Nu->Nf Nd}{base:N6}{N:Nb Nu}{qual:Nu}{scope:PX}{f:Nl}{cd:Nd}{A:NY}{outer:Nb RX}{s0 s:Nh}{H0 H:Hp}{E:L2.XK}{J:Nb (Nl×OQ)}{Y:L2.St}{a C:Nl}{dd:Nf Nl}{a0:Nd}
def Ge (b:Air (eN (CXx P w) P w K mg base N qual scope f cd A outer s0 H0 E) J Y H s a C dd a0)(q:E (.ref C) dd H):(eN (CXx P w) P w K mg base N qual scope f cd A outer s0 H0 E).xe (.ref a) s:=by
 have I:=b.inv;show Cf (L:=s0.heap.objs.size) (base:=base) I.ok.frames I.stack rfl b.fly λh' m e=>?_
 have d:=b.mv m e;have c:=d.inv;show#[a,C,dd,a0,H,rfl,b.new,c.os,c.bare,c.base,c.hok,e,d.ext,d.low,q]
end
abbrev XQ (n:Np)(C:Nl)(d:Hp)(c:L2.XK):VK:=λv a=>∃e dd,v=.ref e/\n<=e/\a e=aB (.ext (Fx e C dd))/\(∀b u,a b=aB u->(∃f,d b=aB f)\/b=e\/∃fs,u=.ext (Dx b fs))/\c (.ref C) dd (aT a e (.ext (Ex e C dd)))
abbrev yC (C:Nl)(sp:Sp)(E b:L2.XK)(t:TA):TS:=λ_ Y H=>t Y H λvs a=>↥vs<=sizeLine/\∀n e,a e=ba->n<=e->
 sp (.ref e::vs) (aT a e (.ext (Fx e C ba))) (λv c=>v=.non/\XQ n C a b (.ref e) c) E
section
variable{X:Cx}{CX:rM}{k:Np}{f C:Nl}{cd:O8}{fd:OG}{ps:Nb Nu}{sp:Sp}{E Ew:L2.XK}{x:Nu}{p cpos pos:Pp}{a:NF}{es:Nb NF}{t:TA}
def pN {Y:L2.St}{ f:Hp}{ a:Nh}{e:Nl}(i:L2.Inv X J Y m r)(l:⇑r.heap.objs<=e)(j:L2.Inv X J Y f a)(h2:f e=aB (.ext (Fx e C dd)))
  (hl:∀b u,f b=aB u->(∃s,m b=aB s)\/b=e\/∃fs,u=.ext (Dx b fs)):∃ws h t,a.heap.get? e=aB #[.ref C,dd,.fields ws,h]/\ws[1]?=aB .none/\Air X J Y (aT f e (.ext (Ex e C dd))) a e C dd t:=by
 obtain⟨⟨ws,h,D,g,y,n⟩,_,_⟩:=j.hok e _ h2;show#[ws,h,.ref D,g,n,#[?_,.new g y n,NO i.sz l,aA,λb u k lt=>?_,λp w lt=>?_]]
 ·have E:=j.write (o:=.ext (Ex e C dd)) (t':=a.toks) (h':=a.heap) (x:=e) (e:=e) (by rw[h2];trivial) (.inl rfl) (λb u _ q=>q) #[_,g] (Ex.ok #[ws,h,g])
  show E
 ·rw[ar (On lt)]at k;rcases hl b u k with⟨s,z⟩|z|⟨fs,z⟩
  ·show absurd (i.hok.lt z) (QK.mpr (NO l (Px lt)))
  ·show absurd z (On lt)
  ·subst z;obtain⟨⟨I,⟨o,v,H,q,A,_⟩,_⟩,_⟩:=j.hok b _ k;unfold cR;rw[q];obtain⟨c,d,G,B⟩:=o;cases A;rfl
 ·show absurd (Nz (i.pin p w).1) (QK.mpr (NO l (Px lt)))
def yD (M:X.A.handled=ba)(b:XM X.K C f cd)(F:FnOk X.prog X.w X.K X.mg X.base CX k f fd ps sp)(P:Room (k+1) X.A)(L:Gl X x)(O:X.mg x=aB (.ref C))(B:Binds X.K fd ps [])(R:gR CX X E)
  (hw:∀J Y H s a C dd l,Air X J Y H s a C dd l->Ew (.ref C) dd H->X.xe (.ref a) s)
  (A:PA X (a::es) t) (hdb:(x==("__debug__"))=false:=by decide) (G:starEach (a::es) X.env=(false,eval a X.env)::starEach es X.env:=by rfl) (g:(backTo cpos (starEach es X.env)).any (·.1)=false:=by rfl) :
  PS X (.Raise (aB (.Call (.Name x p) (a::es) [] cpos)) ba pos) (yC C sp E Ew t):=by
 intro J s Y H D I h;obtain⟨nm,q,N,bs,bm,sn,sub,ab,col,d,k0,k1,k2,k3,k5,S,W,c⟩:=b.obj;rw[VN];show Nc (Qy (yx (C:=C) (nm:=nm) (q:=q) (N:=N) (bs:=bs) (bm:=bm) (hdct:=true) (sn:=sn) (sub:=sub) (ab:=ab) (col:=col) (dd:=d) (k0:=k0) (k1:=k1) (k2:=k2) (k3:=k3) (k5:=k5) (newId:="ValueError.__new__") c M (Nc ?_)));show Ou (Q:=λv i=>∃e o vs j,v=.ref e/\i.heap.get? C=aB (excClassObj nm q C N bs bm true sn sub ab col d k0 k1 k2 k3 k5 "ValueError.__new__")/\i.heap.get? e=aB #[.ref C,o,.fields vs,j]/\vs[1]?=aB .none/\X.xe (.ref e) i) ?_ (λv V y=>Nc (Qy (Nm y))) λ_ _ z=>z
 show Pc (da I L O ?_ hdb);show Q6 (h₀:=X.base) I.ok.mod.kin b.kp (bd (A cpos J s Y H _ I h) λus T #[vs,H1,I1,r,q]=>#[I1.kIn,?_]) G g
 show Ou (mJ (Q:=XQ ⇑T.heap.objs C H1 Ew) b F P B R I1 r (by have:=↥r;have:=q.1;revert Vr;omega) λe n le=>q.2 _ e n le) (λv U #[Z,H2,I2,rv,e,dd,ev,le,h2,hl,hE]=>?_) λ_ _ z=>z
 subst ev;obtain rfl:v=NR e:=rv;obtain⟨ws,j,l,u,w,m⟩:=pN I1 le I2 h2 hl;show#[e,dd,ws,j,rfl,I2.kIn _ _ S,u,w,hw _ _ _ _ _ _ _ _ m hE]
def wl (y:X.A.handled=ba)(b:XM X.K C f cd)(F:FnOk X.prog X.w X.K X.mg X.base CX k f fd ps sp)(B:Room (k+1) X.A)(w:Gl X x)(A:X.mg x=aB (.ref C))(u:Binds X.K fd ps [])(G:gR CX X E)
  (hw:∀J Y H s a C dd j,Air X J Y H s a C dd j->Ew (.ref C) dd H->X.xe (.ref a) s) (hdb:(x==("__debug__"))=false:=by decide) :
  PS X (.Raise (aB (.Call (.Name x p) [] [] cpos)) ba pos) (yC C sp E Ew B0):=by
 intro J s Y H D I h;obtain⟨nm,q,N,bs,bm,sn,sub,ab,col,d,k0,k1,k2,k3,k5,L,P,c⟩:=b.obj;rw[VN];show Nc (Qy (yx (C:=C) (nm:=nm) (q:=q) (N:=N) (bs:=bs) (bm:=bm) (hdct:=true) (sn:=sn) (sub:=sub) (ab:=ab) (col:=col) (dd:=d) (k0:=k0) (k1:=k1) (k2:=k2) (k3:=k3) (k5:=k5) (newId:="ValueError.__new__") c y (Nc ?_)));show Ou (Q:=λv g=>∃e m vs i,v=.ref e/\g.heap.get? C=aB (excClassObj nm q C N bs bm true sn sub ab col d k0 k1 k2 k3 k5 "ValueError.__new__")/\g.heap.get? e=aB #[.ref C,m,.fields vs,i]/\vs[1]?=aB .none/\X.xe (.ref e) g) ?_ (λv O t=>Nc (Qy (Nm t))) λ_ _ z=>z
 show Pc (da I w A ?_ hdb);show TH I.kIn b.kp ?_;show Ou (mJ (us:=[]) (Q:=XQ ⇑s.heap.objs C H Ew) b F B u G I .nil (OW _) λe n le=>h.2 _ e n le) (λv M #[R,H2,I2,rv,e,dd,ev,le,h2,hl,hE]=>?_) λ_ _ z=>z
 subst ev;obtain rfl:v=NR e:=rv;obtain⟨ws,i,j,o,r,l⟩:=pN I le I2 h2 hl;show#[e,dd,ws,i,rfl,I2.kIn _ _ L,o,r,hw _ _ _ _ _ _ _ _ l hE]
end
noncomputable abbrev sj (X:Cx)(a:Nl):Cx:={X with A:=X.A.mark (aB (.ref a)),calm:=false,xe:=λ_ _=>Oo}
section
variable{X:Cx}{J:Nb (Nl×OQ)}{Y:L2.St}{H:Hp}{s:Nh}{a C:Nl}{dd:Nf Nl}{a0:Nd}
def yE (I:L2.Inv X J Y H s):L2.Inv (sj X a) J Y H s:=by
 obtain⟨ok,d,e,f,g,h,i,j,k,b,c⟩:=I;show#[#[ok.mod,ok.kind,ok.glob,ok.blt,ok.above,ok.inj,ok.has,ok.cab,(λz=>nomatch z),ok.frames,ok.stk,ok.exf,ok.bs,ok.bsz,ok.noex,ok.exfs,ok.funs,ok.frf],d,e,f,g,h,i,j,k,b,c]
def Ci (ok:X.Ok)(I:L2.Inv (sj X a) J Y H s):L2.Inv X J Y H s:=by
 obtain⟨_,d,e,f,g,h,i,j,k,b,c⟩:=I;show#[ok,d,e,f,g,h,i,j,k,b,c]
def yF (I:L2.Inv X J Y H s)(M:X.N.Nodup)(hi:X.N[i]?=aB n)(a:X.env.scope.names.lookup n=aB .local)
  (h:∀O,L2.Inv X J (Y.set i ba) H O->Q () O):wpAny x A (do bindName X.env n .none;unbindBehindTheSuite X.env n pos) Q E s:=by
 unfold bindName unbindBehindTheSuite;show Nc (Nc (Ov (WF (Nc (iu (v:=.non) I M hi (.inl a) rfl (λs1 w=>WF ?_) (.inr a))))))
 show T4 ?_;obtain⟨m,N,hl⟩:=w.loc;have hiσ:i<↥Y:=by rw[I.len];show(NA.mp hi).1
 obtain⟨u,ru,lk⟩:=hl i n .non hi (by rw[Ph hiσ]) (.inl a)
 have U:m n=aB u:=by
  rcases lk with⟨_,z⟩|⟨z,_⟩
  ·show z
  ·have r:X.env.scope.names.lookup n=aB .cell\/X.env.scope.names.lookup n=aB .free:=z;rw[a]at r;rcases r with r|r<;>cases r
 show wpAny_unbindName_local a N U (by rw[show X.env.scope.kind=.function from I.ok.kind];rfl) λh' u' D f=>h _ ?_
 obtain⟨ok,W,Z,g,i5,i6,L,i8,i9,G,V⟩:=id w;obtain⟨oL,_,_,S,_⟩:=id N;have cne:=w.cne;show#[ok,W,Z,#[λb o e n B a=>?_,λb o e n B a=>?_,g.free,λb o e a=>?_,g.tups,g.frzs,g.tbls],#[_,D,λj y v' l t R=>?_],λy c e=>?_,L,i8,λp T=>?_,λb ob e=>?_,?_]
 ·show(f.2 b (NJ (NS (Nz e) ok.above))).trans (g.keep b o e n B a)
 ·obtain⟨sl,l⟩:=g.slot b o e n B a;show#[sl,(f.2 b (NJ (NS (Nz e) ok.above))).trans l]
 ·obtain⟨o',l⟩:=g.there b o e a;show#[o',(f.2 b (NJ (NS (Nz e) ok.above))).trans l]
 ·have C:j≠i:=λz=>by
   rw[z,Ph hiσ]at t;cases t
  rw[Qe (Ne.symm C)]at t;obtain⟨u2,r',q⟩:=hl j y v' l (by rw[Qe (Ne.symm C)];show t) R
  show#[u2,r',?_];rcases q with⟨k,e⟩|⟨k,c,e,z⟩
  ·show .inl #[k,?_];have:y≠n:=λe=>C (iq M l (e▸hi))
   simp[this,e]
  ·show .inr #[k,c,e,z.sameBut f (cne y c e)]
 ·obtain⟨P,z⟩:=i6 y c e;show#[P,z.sameBut f (cne y c e)]
 ·obtain⟨e,n,ne,nf,d⟩:=i9 p T;show#[(f.2 p.1 ne).trans e,n,ne,nf,d]
 ·show(G b ob e).stay (λc P hc q=>(f.2 c ?_).trans q) (λ_ q=>q) λ_ _ q=>q
  rintro rfl;rcases hc with hc|hc
  ·rw[<- hc,L]at e;cases e
  ·rw[L]at hc;cases hc
 ·rw[Qb];show I.len
end
structure XD (K:Frag)(D:Nl):Prop where
 tup:∀(Mqa:Si) h,K.In h->Looks Mqa h (isInstance (.ref D) (.type "tuple")) false
 exc:∀(Mqa:Si) h,K.In h->Looks Mqa h (isExcClass (.ref D)) true
def Gf {K:Frag}(X:K.In s.heap)(I:Looks a s.heap (typeOf (.ref e)) (.ref C))(T:XD K D)
  (d:subIn K (.ref C) (.ref D)=aB b) (c:Q b s):wpAny a A (excMatches (.ref e) (.ref D)) Q E s:=by
 unfold excMatches;show Nc ((T.tup a _ X).here (Nc (Nm ?_)));show Nc ?_;revert RH Tj;show Nc (Nc ((T.exc a _ X).here ?_));show Nm (Nm ?_);show Nc (I.here ?_);show Nc (Nc (Nc ((looks_subIn X d).here ?_)));cases b
 ·show Nm (Nm (Nm c))
 ·show Nm (Nm (Nm c))
section
variable{X:Cx}{J:Nb (Nl×OQ)}{Y:L2.St}{H:Hp}{s:Nh}
inductive Caught (X:Cx)(J:Nb (Nl×OQ))(D:Nl)(i:Np)(b0:OE)(suite:Nb OE)(Q:Xa->Nh->Prop)(e:Nd)(s1:Nh):Prop
 |mk (a C:Nl) (dd:Nf Nl) (a0:Nd) (Y':L2.St) (H':Hp) (he:e=.ref a) (air:Air X J Y' H' s1 a C dd a0) (sub:subIn X.K (.ref C) (.ref D)=aB true)
   (run:∀s2,L2.Inv (sj X a) J (Y'.set i (aB (.ref a))) H' s2->wpAny (model X.prog X.w) (sj X a).A (execs (b0::suite) X.env)
    (λf s3=>∃Y3 H3,L2.Inv (sj X a) J Y3 H3 s3/\∀s4,L2.Inv X J (Y3.set i ba) H3 s4->Q f s4) (λ_ _=>Oo) s2):Caught X J D i b0 suite Q e s1
def Ji (d:X.stack=X.env::X.outer)(j:X.env.frame=aB X.env.locals)(p:X.N.Nodup)(hi:X.N[i]?=aB n)
  (k:X.env.scope.names.lookup n=aB .local) (M:Gl X c) (N:X.mg c=aB (.ref D)) (T:XD X.K D)
  (L:wi X (execs body X.env) Q (Caught X J D i b0 b Q) s) (hdb:(c==("__debug__"))=false:=by decide) :
  wi X (exec (.Try body [.ExceptHandler (aB (.Name c O)) (aB n) (b0::b) g] [] [] pos) X.env) Q X.xe s:=by
 show wpAny_Try_except (Ou L (λf l q=>?_) λe l #[a,C,dd,a0,Y',H',he,Yj,sub,run]=>?_)
 ·cases f with
  |next=>show Nm q
  |_=>show q
 ·subst he;have I:=Yj.inv;have u:X.A.frames=aB (X.env::X.outer):=by rw[<- d];show I.ok.frames
  show Gb (base:=X.base) u (by rw[<- d];show I.stack) j Yj.fly λG r h=>?_
  rw[<- d]at r;have o:=Yj.mv r h;have m:L2.Inv (sj X a) J Y' H' {l with heap:=G}:=yE o.inv
  show da (X:=sj X a) m M N ?_ hdb;obtain⟨ws,V,E⟩:=h.ex;show Gf m.kIn ((Looks.ld E).andThen .now) T sub #[rfl,h,λH t B=>?_]
  rw[<- d]at t;have A:=o.mv t B;have w:L2.Inv (sj X a) J Y' H' {l with heap:=H}:=yE A.inv
  show iu (X:=sj X a) (v:=.ref a) w p hi (.inl k) rfl (λP x=>?_) (.inr k)
  show Ou (run P x) (λf U #[S,H3,I4,q]=>?_) λ_ _ z=>z
  show yF (Ci Yj.inv.ok I4) p hi k λR y=>q R y
end
abbrev Iu (H:Hp)(a C:Nl)(dd:Nf Nl):Prop:=(∃o,H a=aB (.frz o (.ext (Ex a C dd))))/\(dd=ba\/∃b fs o,dd=aB b/\H b=aB (.frz o (.ext (Dx b fs))))
def EH (x:Iu H a C dd)(k:HOk P w H h):∃c od,InstAt h a c C od:=by
 obtain⟨i,f⟩:=x.1;obtain⟨_,⟨ws,j,q⟩,_,_⟩:=k a _ f;rcases x.2 with rfl|⟨b,fs,_,rfl,e⟩
 ·show#[_,ba,#[q,rfl,rfl,trivial]]
 ·obtain⟨_,⟨g,⟨o,_,_,d,_⟩,_⟩,_⟩:=k b _ e;show#[_,aB o,#[q,rfl,rfl,d]]
section
variable{X:Cx}
def mK:CallR X (.builtin "isinstance") (λvs H Q=>∃a C f dd c b,vs=[.ref a,c]/\XK X.K C f/\Iu H a C dd/\((∃D,c=.ref D/\XT X.K C (.ref D) b)\/(∃T,c=.ty T/\XT X.K C (.type T) b))/\Q (.bl b) H):=by
 intro J s Y H vs us Q I r ⟨a,C,f,dd,c,b,j,e,x,hc,g⟩;subst j;obtain⟨u,v,rfl,n,h⟩:∃u v,us=[u,v]/\RelV (.ref a) u/\RelV c v:=by
  cases r with
  |cons l k=>cases k with
   |cons m d=>cases d;show#[_,_,rfl,l,m]
 obtain rfl:u=NR a:=n;obtain⟨o,od,i⟩:=EH x I.hok;rcases hc with⟨D,rfl,T⟩|⟨D,rfl,T⟩
 ·obtain rfl:v=NR D:=h;show Jh e T I.kIn i λtk=>#[.bl b,H,I.tok tk,rfl,g]
 ·obtain rfl:v=PL D:=h;show Jh e T I.kIn i λtk=>#[.bl b,H,I.tok tk,rfl,g]
def mL:∀{c:Nb Nl}{us:Nb Nd},Vals (c.map V.ref) us->us=c.map NR
 |[],_,r=>by cases r;rfl
 |d::c,_,r=>by
  cases r with
  |cons a b=>rw[mL b,show _=NR d from a];rfl
def sr:CallR X (.builtin "isinstance") (λvs H Q=>∃(a C:Nl) (g:O8) (dd:Nf Nl) (b:Nl) (d:Nb Nl) (bs:Nb ND),vs=[.ref a,.ref b]/\XK X.K C g/\Iu H a C dd/\H b=aB (.tup (d.map V.ref))/\X.base.get? C≠ba/\XTs X.K C (d.map NR) bs/\Q (.bl (bs.any id)) H):=by
 intro J s Y H vs us Q I r ⟨a,C,g,dd,b,d,bs,i,h,x,ht,j,T,k⟩;subst i;obtain⟨u,v,rfl,A,B⟩:∃u v,us=[u,v]/\RelV (.ref a) u/\RelV (.ref b) v:=by
  cases r with
  |cons t p=>cases p with
   |cons w f=>cases f;show#[_,_,rfl,t,w]
 obtain rfl:u=NR a:=A;obtain rfl:v=NR b:=B;obtain⟨G,od,D⟩:=EH x I.hok;obtain⟨_,its,y,o,q,l,n,m⟩:=I.hok b _ ht;obtain rfl:=mL y;have ne:C≠b:=λz=>by
  cases e:X.base.get? C with
  |none=>show j e
  |some o=>rw[z]at e;have:=(I.bs b o e).2;rw[ht]at this;cases this
 obtain⟨c,d',E,L⟩:=o;cases l;cases m;show yy h T ne q I.kIn D λtk=>#[.bl (bs.any id),H,I.tok tk,rfl,k]
def su (r:RelV y v):handedIn v=true:=by
 cases y with
 |non=>rw[show v=_ from r];rfl
 |bl b=>rw[show v=_ from r];rfl
 |int i=>obtain⟨t,rfl⟩:=r;rfl
 |str x=>obtain⟨t,rfl⟩:=r;rfl
 |byt b=>obtain⟨t,rfl⟩:=r;rfl
 |flt b=>obtain⟨t,rfl⟩:=r;rfl
 |ref a=>rw[show v=_ from r];rfl
 |ty n=>rw[show v=_ from r];rfl
abbrev Gg (K:Frag)(e:TE)(f:Nu):TE:=λY H Q=>e Y H λv b=>∃a C d c fs y o o',v=.ref a/\XK K C d/\findIn K (.ref C) f=aB ba/\b a=aB (.frz o (.ext (Ex a C (aB c))))/\b c=aB (.frz o' (.ext (Dx c fs)))/\fs.lookup f=aB y/\Q y b
def yG (g:PE X e c)(d:attributeBase e f X.env (eval e X.env)=eval e X.env):PE X (.Attribute e f pos) (Gg X.K c f):=by
 intro J s Y H Q I h;show BZ d (bd (g J s Y H _ I h) λu l #[x,H1,I1,rx,a,C,cd,dx,fs,y,o,o',ex,Yj,hf,e1,e2,hl,hq]=>?_)
 subst ex;obtain rfl:u=NR a:=rx;obtain⟨_,⟨ws,m,q⟩,_,_⟩:=I1.hok a _ e1;obtain⟨_,⟨i,j,k,_⟩,_,_⟩:=I1.hok dx _ e2;have z:=k f;rw[hl]at z;cases b:i f with
 |none=>rw[b]at z;show z.elim
 |some v=>
  rw[b]at z;show LB I1.kIn q j Yj.ga Yj.hk Yj.cls Yj.mro Yj.dct hf b (su z) #[y,H1,I1.tok _,z,hq]
end
structure XL (K:Frag)(CL:Nl)(mc:Nd):Prop where
 ga:specialIn K (.ref CL) "__getattribute__" = aB (aB (.builtin "type.__getattribute__"))
 rd:readsIn K CL mc=true
 fc:findCls K (.ref CL) mc "__init__" = aB (.val (.builtin "ValueError.__init__"))
abbrev yH (K:Frag)(g:Nu):Sp:=λvs H Q _=>∃e y C b,vs=[.ref e,y]/\XC K C b/\findIn K (.ref C) g=aB ba/\H e=aB (.ext (Fx e C ba))/\∀a,H a=ba->Q .non (aT (aT H e (.ext (Fx e C (aB a)))) a (.ext (Dx a [(g,y)])))
abbrev Cj (K:Frag):Sp:=λvs H Q _=>∃e C a,vs=[.ref e]/\XC K C a/\H e=aB (.ext (Fx e C ba))/\Q .non H
end Xc
namespace Mi
open PySem PySem.Spec PyProof.Rows L2
abbrev Jj (w:NU):ND:=w.params.followText "set-order"
abbrev MT (w:NU)(e:NI×Nd):Prop:=∃x tk,e=(hashStr w x,.str x tk)
structure Tabs (w:NU)(xs:Nb Nu)(es:N9 (NI×Nd))(t:Ri):Prop where
 el:∀e∈es.toList,MT w e
 pm:(es.toList.map λe=>strOf e.2).Perm xs
 nd:xs.Nodup
 few:↥xs<scanBound
 fit:t.fits ⇑es=true
 led:t.led = !Jj w
 pl:t.plain=true->⇑es=0
abbrev dS (w:NU)(xs:Nb Nu)(o:OQ):Prop:=o.ExactSet/\∃a b t,o.data=.set a b t/\Tabs w xs a t
variable{prog:NM}{A:NY}
section
variable{w:NU}{E:Nd->Nh->Prop}{s:Nh}{xs:Nb Nu}{es:N9 (NI×Nd)}{t:Ri}
def Ck :(Qz prog w).is x (.str y tk)=true↔y=x:=by
 show(y==x)=true↔y=x;show Pu
def Tabs.elems (h:Tabs w xs es t):ElemsOf (Qz prog w) es.toList:=λe a=>by
 obtain⟨x,tk,rfl⟩:=h.el e a;show#[#[x,Ck.mpr rfl,rfl],rfl]
def Tabs.size (h:Tabs w xs es t):⇑es=↥xs:=by rw[<- h.pm.length_eq,Ni,NP]
def Tabs.has (h:Tabs w xs es t)(x:Nu):(∃e∈es.toList,(Qz prog w).is x e.2=true)↔x∈xs:=by
 rw[<- h.pm.mem_iff,NN];constructor
 ·rintro⟨e,a,q⟩;obtain⟨y,tk,rfl⟩:=h.el e a;show#[_,a,Ck.mp q]
 ·rintro⟨e,a,q⟩;obtain⟨y,tk,rfl⟩:=h.el e a;show#[_,a,Ck.mpr q]
def sv (t:Ri)(es:N9 (NI×Nd))(h:NI)(x:Nd):(layNew t es h x).2.1.led=t.led:=by
 unfold layNew;split
 ·unfold WZ;dsimp only;split<;>rfl
 ·rfl
def wm (t:Ri)(es:N9 (NI×Nd))(n:Np):(relayAll t es n).2.1.led=t.led/\((relayAll t es n).2.1.plain=true->t.plain=true):=by
 unfold relayAll;split
 next t' a h=>
  dsimp only;split
  ·unfold Xg Xo at h;rw[Option.bind_eq_bind,Option.bind_eq_some_iff]at h;obtain⟨b,_,h⟩:=h;cases h;show#[rfl,λz=>z]
  ·show#[rfl,λz=>by cases z]
 ·show#[rfl,λz=>by cases z]
def uw (e:s.heap.get? a=aB o)(f:o.ExactSet)(hd:o.data=.set es d t)(T:Tabs w xs b c)
  (h:∀h',PR a s.heap h'->h'.get? a=aB {o with data:=.set b (d+1) c}->Q () {s with heap:=h'}):wh prog w A (storeSet a b c) Q E s:=by
 show wpAny_storeSet_of e hd (h _ (Qj ..) ?_) (by rw[T.size];show fits_of_scanBound T.few)
 have:=OJ (Obj.putSet b c) e (by rw[putSet_of b c hd];rfl)
 rw[putSet_of b c hd]at this;show this
def Cm (G:s.heap.get? a=aB o)(X:dS w xs o)(hr:↥xs+1<scanBound)
  (h:∀b h' o',PR a s.heap h'->h'.get? a=aB o'->dS w (if x∈xs then xs else xs++[x]) o'->Q b {s with heap:=h'}):wh prog w A (setAddHashed a (.str x tk) (hashStr w x)) Q E s:=by
 obtain⟨f,es,W,t,hd,T⟩:=X;have hk:(Qz prog w).is x (.str x tk)=true:=Ck.mpr rfl;have S:=T.has (prog:=prog) x;unfold setAddHashed setAddHashedIn;show Ov (Nc (wpAny_setState_of G hd T.fit ?_));dsimp only;rw[byScan_of (knd:=Qz prog w) rfl (by rw[T.size];show T.few) T.elems]
 simp -iota only[↓reduceIte];unfold setAddByScan;show Nc (Nc (Q8 (Nc (wpAny_setScan_of (knd:=Qz prog w) hk G hd T.fit T.elems ?_))));cases q:es.toList.findIdx? (λe=>(Qz prog w).is x e.2)with
 |some j=>
  obtain⟨Z,n,_⟩:=Rf.mp q;have D:x∈xs:=S.mp #[_,N7 Z,n];dsimp only;have:=h false s.heap o (UJ ..) G (by rw[NK D];show#[f,es,W,t,hd,T])
  show Nm (Nm this)
 |none=>
  have D:x∉xs:=λz=>by
   obtain⟨e,k,n⟩:=S.mpr z;rw[List.findIdx?_eq_none_iff.mp q e k]at n;cases n
  rw[N1 D]at h;dsimp only;have v:=layNew_perm t es (hashStr w x) (.str x tk);have J:=layNew_fits t es (hashStr w x) (.str x tk);have M:=sv t es (hashStr w x) (.str x tk);have i:∀(b:ND) {d:Nh}{m:VE->Nh->Prop},m () d->wh prog w A (match b with|true=>rule "set.scan.the-table-gave-way"|false=>pure ()) m E d:=λb d m u=>by cases b<;>first|show Nm u|show Q8 u
  generalize hL:layNew t es (hashStr w x) (.str x tk)=L at v J M ⊢;obtain⟨c,H,V,gv⟩:=L;dsimp only at v J M ⊢;rw[Array.toList_push]at v;have O:∀p,Tabs w (xs++[x]) c {H with plain:=p}\/p=true:=λp=>by
   cases p with
   |true=>show .inr rfl
   |false=>
    show .inl #[λe k=>?_,(v.map λe=>strOf e.2).trans ?_,?_,by simpa using hr,Wj J,M.trans T.led,λz=>by cases z]
    ·rcases Op.mp (v.mem_iff.mp k)with k|k
     ·show T.el e k
     ·rw[NX.mp k];show#[x,tk,rfl]
    ·rw[Oj];show T.pm.append_right _
    ·show PH.mpr #[T.nd,by simp,λy hy z hz e=>D (by rw[NX.mp hz]at e;show e▸hy)]
  have fin:∀(g:ND->VZ VE),(∀(b:ND) (d:Nh) (m:VE->Nh->Prop),m () d->wh prog w A (g b) m E d)->∀t2:Ri,Tabs w (xs++[x]) c t2->wh prog w A (do
    storeSet a c t2
    if (!V&&t2.tooFull)=true then do
      g (relayAll t2 c (Qo ⇑c)).2.2
      storeSet a (relayAll t2 c (Qo ⇑c)).1 (relayAll t2 c (Qo ⇑c)).2.1
      pure (aB true)
     else pure (aB true)) (λr s'=>wh prog w A (match r with|some b=>pure b|none=>setAddHashedIn a (.str x tk) (hashStr w x) 99999) Q E s') E s:=λg Y t2 l=>by
   show Nc (uw G f hd l λh1 C U=>?_)
   show wpAny_ite_split (λ_=>?_) (λ_=>Nm (Nm (h _ _ _ C U #[f,_,_,_,rfl,l])))
   have B:=relayAll_perm t2 c (Qo ⇑c);have rf:=relayAll_fits t2 c (Qo ⇑c);have rt:=wm t2 c (Qo ⇑c);generalize hR:relayAll t2 c (Qo ⇑c)=R at B rf rt ⊢;obtain⟨I,t3,g2⟩:=R;dsimp only at B rf rt ⊢;have P:Tabs w (xs++[x]) I t3:=#[λe k=>l.el e (B.mem_iff.mp k),(B.map _).trans l.pm,l.nd,l.few,rf,rt.1.trans l.led,λz=>by
    have:=l.pl (rt.2 z);rw[<- NP,B.length_eq,NP];show this]
   show Nc (Y _ _ _ ?_);show Nc (uw U f rfl P λh2 N o2=>?_)
   show Nm (Nm (h _ _ _ (C.trans N) o2 #[f,_,_,_,rfl,P]))
  show Nc (i _ ?_);split
  ·show Nc ?_;rw[hashByValue_scannable 8 rfl];show Nm ?_;show fin _ (λb _ _ u=>i b u) _ ((O false).resolve_right Oe)
  next n=>
   show Nc (Nm ?_);have e:({H with plain:=false}:Ri)=H:=by
    obtain⟨_,_,_,_,_,_,p⟩:=H;cases p with
    |false=>rfl
    |true=>show absurd rfl n
   simp -iota only[↓reduceIte];show fin _ (λb _ _ u=>i b u) _ (e▸(O false).resolve_right Oe)
end
inductive W where
 |non|bl (b:ND)|int (i:NI)|str (x:Nu)|tup (xs:Nb W)|ref (i:Np)
inductive T where
 |int (i:NI)|str (x:Nu)|tup (xs:Nb T)
mutual
def T.beq:T->T->ND
 |.int i,.int j=>i==j
 |.str x,.str y=>x==y
 |.tup xs,.tup ys=>T.beqs xs ys
 |_,_=>false
def T.beqs:Nb T->Nb T->ND
 |[],[]=>true
 |x::xs,y::ys=>T.beq x y&&T.beqs xs ys
 |_,_=>false
end
mutual
theorem T.beq_iff:∀x y:T,T.beq x y=true↔x=y
 |.int i,.int j=>#[λh=>congrArg T.int (eq_of_beq h),λh=>by cases h;show Ot i]
 |.str x,.str y=>#[λh=>congrArg T.str (eq_of_beq h),λh=>by cases h;show Ot x]
 |.tup xs,.tup ys=>#[λh=>congrArg T.tup ((T.beqs_iff xs ys).mp h),λh=>by cases h;show(T.beqs_iff xs xs).mpr rfl]
 |.int _,.str _|.int _,.tup _|.str _,.int _|.str _,.tup _|.tup _,.int _|.tup _,.str _=>#[λh=>SA h,λh=>T.noConfusion h]
theorem T.beqs_iff:∀xs ys:Nb T,T.beqs xs ys=true↔xs=ys
 |[],[]=>#[λ_=>rfl,λ_=>rfl]
 |x::xs,y::ys=>by
  show(T.beq x y&&T.beqs xs ys)=true↔_;rw[Nj,T.beq_iff x y,T.beqs_iff xs ys,Xh]
 |[],_::_|_::_,[]=>#[λh=>SA h,λh=>nomatch h]
end
noncomputable instance:QG T:=λx y=>decidable_of_iff (T.beq x y=true) (T.beq_iff x y)
mutual
def T.w:T->W
 |.int i=>.int i
 |.str x=>.str x
 |.tup xs=>.tup (T.ws xs)
def T.ws:Nb T->Nb W
 |[]=>[]
 |x::xs=>T.w x::T.ws xs
end
mutual
def W.t:W->Nf T
 |.int i=>aB (.int i)
 |.str x=>aB (.str x)
 |.tup xs=>(W.ts xs).map .tup
 |_=>ba
def W.ts:Nb W->Nf (Nb T)
 |[]=>aB []
 |x::xs=>match W.t x,W.ts xs with
  |some y,aB ys=>aB (y::ys)
  |_,_=>ba
end
mutual
theorem W.t_w:∀{w:W}{k:T},W.t w=aB k->k.w=w
 |.int i,_,h=>by cases h;rfl
 |.str x,_,h=>by cases h;rfl
 |.tup xs,_,h=>by
  obtain⟨ks,h1,h2⟩:=Nk.mp (show(W.ts xs).map T.tup=aB _ from h)
  subst h2;show congrArg W.tup (W.ts_w h1)
 |.non,_,h|.bl _,_,h|.ref _,_,h=>by cases h
theorem W.ts_w:∀{ws:Nb W}{ks:Nb T},W.ts ws=aB ks->T.ws ks=ws
 |[],_,h=>by cases h;rfl
 |w::ws,_,h=>by
  have h:(match W.t w,W.ts ws with
  |some y,aB ys=>aB (y::ys)
  |_,_=>ba)=aB _:=h
  cases h1:W.t w with
  |none=>rw[h1]at h;cases h
  |some y=>
   cases h2:W.ts ws with
   |none=>rw[h1,h2]at h;cases h
   |some ys=>
    rw[h1,h2]at h;cases h;change T.w y::T.ws ys=_;rw[W.t_w h1,W.ts_w h2]
end
mutual
theorem T.w_t:∀k:T,W.t k.w=aB k
 |.int _=>rfl
 |.str _=>rfl
 |.tup xs=>by show(W.ts (T.ws xs)).map T.tup=_;rw[T.ws_ts xs];rfl
theorem T.ws_ts:∀ks:Nb T,W.ts (T.ws ks)=aB ks
 |[]=>rfl
 |x::xs=>by
  show(match W.t x.w,W.ts (T.ws xs)with
  |some y,aB ys=>aB (y::ys)
  |_,_=>ba)=_
  rw[T.w_t x,T.ws_ts xs]
end
mutual
def T.depth:T->Np
 |.tup xs=>T.depths xs+1
 |_=>0
def T.depths:Nb T->Np
 |[]=>0
 |x::xs=>max (T.depth x) (T.depths xs)
end
mutual
def T.draws:T->Np
 |.tup xs=>T.drawss xs+1
 |_=>1
def T.drawss:Nb T->Np
 |[]=>0
 |x::xs=>T.draws x+T.drawss xs
end
mutual
def pP (wd:NU):T->NI
 |.int i=>hashInt i
 |.str x=>hashStr wd x
 |.tup xs=>reduceHash (Sf (kY wd xs))
def kY (wd:NU):Nb T->Nb NI
 |[]=>[]
 |x::xs=>pP wd x::kY wd xs
end
abbrev T.isTup:T->ND
 |.tup _=>true
 |_=>false
abbrev aX:Np:=6
inductive O where
 |lst (xs:Nb W)
 |fro (xs:Nb W)
 |sts (xs:Nb Nu)
 |rng (lo hi:NI)
 |dic (U:Nb (T×W))
 |frd (U:Nb (T×W))
 |exc (cn:Nu) (C:Nl) (gs:Nb Nu) (ws:Nb W)
noncomputable abbrev aa:=Nb O
noncomputable abbrev Fm:=Nb (Nf W)
section
variable (K:Nr) (A:Nb Nl) (H:Hp)
mutual
inductive Rel:W->V->Prop
 |non:Rel .non .non
 |bl {b:ND}:Rel (.bl b) (.bl b)
 |int {i:NI}:Rel (.int i) (.int i)
 |str {x:Nu}:Rel (.str x) (.str x)
 |tup {ws:Nb W}{a:Nl}{vs:Nb V}:SqT K H a vs->RelL ws vs->Rel (.tup ws) (.ref a)
 |ref {i:Np}{a:Nl}:A[i]?=aB a->Rel (.ref i) (.ref a)
inductive RelL:Nb W->Nb V->Prop
 |nil:RelL [] []
 |cons {w:W}{v:V}{ws:Nb W}{vs:Nb V}:Rel w v->RelL ws vs->RelL (w::ws) (v::vs)
end
end
section
variable{K:Nr}{A A' A'':Nb Nl}{H H' H'':Hp}
structure Ext (K:Nr)(A:Nb Nl)(H:Hp)(A':Nb Nl)(H':Hp):Prop where
 ad:∀(i:Np) (a:Nl),A[i]?=aB a->A'[i]?=aB a
 tp:∀(a:Nl) (vs:Nb V),SqT K H a vs->SqT K H' a vs
 fz:∀(a:Nl) (o:OQ) (u:HO),H a=aB (.frz o u)->H' a=aB (.frz o u)
def Ext.refl:Ext K A H A H:=#[λ_ _ h=>h,λ_ _ h=>h,λ_ _ _ h=>h]
def Ext.trans (e:Ext K A H A' H')(f:Ext K A' H' A'' H''):Ext K A H A'' H'':=#[λi a h=>f.ad i a (e.ad i a h),λa vs h=>f.tp a vs (e.tp a vs h),λa o u h=>f.fz a o u (e.fz a o u h)]
mutual
theorem Rel.mono (e:Ext K A H A' H'):∀{w:W}{v:V},Rel K A H w v->Rel K A' H' w v
 |_,_,.non=>.non
 |_,_,.bl=>.bl
 |_,_,.int=>.int
 |_,_,.str=>.str
 |_,_,.tup h r=>.tup (e.tp _ _ h) (RelL.mono e r)
 |_,_,.ref h=>.ref (e.ad _ _ h)
theorem RelL.mono (e:Ext K A H A' H'):∀{ws:Nb W}{vs:Nb V},RelL K A H ws vs->RelL K A' H' ws vs
 |_,_,.nil=>.nil
 |_,_,.cons r t=>.cons (Rel.mono e r) (RelL.mono e t)
end
def RelL.length:∀{ws:Nb W}{vs:Nb V},RelL K A H ws vs->↥ws=↥vs
 |_,_,.nil=>rfl
 |_,_,.cons _ t=>by simp[RelL.length t]
def RelL.get:∀{ws:Nb W}{vs:Nb V}{i:Np}{w:W},RelL K A H ws vs->ws[i]?=aB w->∃v,vs[i]?=aB v/\Rel K A H w v:=by
 intro ws
 induction ws with
 |nil=>intro vs i w r e;cases e
 |cons x ws ih=>
  intro vs i w r e;cases r with
  |cons r t=>
   cases i with
   |zero=>cases e;show#[_,rfl,r]
   |succ i=>obtain⟨u,a,h2⟩:=ih (i:=i) t e;show#[u,a,h2]
def RelL.append:∀{xs a:Nb W}{us ws:Nb V},RelL K A H xs us->RelL K A H a ws->RelL K A H (xs++a) (us++ws):=by
 intro xs
 induction xs with
 |nil=>intro a us ws r s;cases r;show s
 |cons x xs ih=>
  intro a us ws r s;cases r with
  |cons r t=>show .cons r (ih t s)
def RelL.take:∀{xs:Nb W}{us:Nb V} n,RelL K A H xs us->RelL K A H (xs.take n) (us.take n):=by
 intro xs
 induction xs with
 |nil=>intro us n r;cases r;cases n<;>show .nil
 |cons x xs ih=>
  intro us n r;cases r with
  |cons r t=>
   cases n with
   |zero=>show .nil
   |succ n=>show .cons r (ih n t)
def RelL.drop:∀{xs:Nb W}{us:Nb V} n,RelL K A H xs us->RelL K A H (xs.drop n) (us.drop n):=by
 intro xs
 induction xs with
 |nil=>intro us n r;cases r;cases n<;>show .nil
 |cons x xs ih=>
  intro us n r;cases n with
  |zero=>show r
  |succ n=>
   cases r with
   |cons r t=>show ih n t
def RelL.set (r:Rel K A H x u):∀{xs:Nb W}{us:Nb V} i,RelL K A H xs us->RelL K A H (xs.set i x) (us.set i u):=by
 intro xs
 induction xs with
 |nil=>intro us i q;cases q;show .nil
 |cons y xs ih=>
  intro us i q;cases q with
  |cons q t=>
   cases i with
   |zero=>show .cons r t
   |succ i=>show .cons q (ih i t)
def RelL.rep (h:RelL K A H xs us):∀k:Np,RelL K A H (Ox k xs).flatten (Ox k us).flatten
 |0=>.nil
 |k+1=>by
  show RelL.append h (RelL.rep h k)
def RelL.eraseIdx:∀{xs:Nb W}{us:Nb V} i,RelL K A H xs us->RelL K A H (xs.eraseIdx i) (us.eraseIdx i)
 |_,_,_,.nil=>.nil
 |_,_,0,.cons _ t=>t
 |_,_,i+1,.cons r t=>.cons r (RelL.eraseIdx i t)
abbrev FroL (K:Nr)(H:Hp)(a:Nl)(vs:Nb V):Prop:=
 (∃o,H a=aB (.frz o (.lst vs)))\/
  ∃(o:OQ) (its:N9 Nd) (n:Np),K.lookup a=aB o/\o.cls=.type "list"/\o.dict=ba/\o.data=.seq its n/\⇑its<=sizeLine/\Vals vs its.toList
def FroL.sq (h:FroL K H a vs):SqL K H a vs:=by
 rcases h with⟨o,h⟩|h
 ·show .inl (.inr #[o,h])
 ·show .inr h
abbrev yI (a:NU)(x:T×Nl×Nd):PF:=#[pP a x.1,.ref x.2.1,x.2.2]
abbrev DicAt (d:NU)(a:Nl)(xs:Nb (T×Nl×Nd))(h:N6):Prop:=
 ↥xs<=sizeLine/\(a==sysModules)=false/\(xs.map (·.1)).Nodup/\∃o b c,h.get? a=aB o/\o.ExactDict/\o.data=.dict b c/\b.toList=xs.map (yI d)
abbrev iB (b:NU)(a:Nl)(xs:Nb (T×Nl×Nd)):HO:=.ext (DicAt b a xs)
abbrev KRel (K:Nr)(A:Nb Nl)(H:Hp):Nb (T×W)->Nb (T×Nl×Nd)->Prop:=
 Th λ(p:T×W) (q:T×Nl×Nd)=>p.1=q.1/\p.1.isTup=true/\p.1.depth<=aX/\Rel K A H p.1.w (.ref q.2.1)/\∃v,Rel K A H p.2 v/\RelV v q.2.2
def KRel.mono (e:Ext K A H A' H')(h:KRel K A H U xs):KRel K A' H' U xs:=
 Paired.mapP h λ_ _ #[a,h2,h3,h4,v,h5,h6]=>#[a,h2,h3,h4.mono e,v,h5.mono e,h6]
variable{wd:NU}
abbrev ObjRel (wd:NU)(K:Nr)(A:Nb Nl)(H:Hp)(a:Nl):O->Prop
 |.lst ws=>∃vs,H a=aB (.lst vs)/\RelL K A H ws vs
 |.fro ws=>∃vs,FroL K H a vs/\RelL K A H ws vs
 |.sts xs=>∃o φ,H a=aB (.frz o (.ext φ))/\dS wd xs o
 |.rng lo hi=>H a=aB (.rng lo hi)
 |.dic U=>∃xs,H a=aB (iB wd a xs)/\KRel K A H U xs
 |.frd U=>∃o xs,H a=aB (.frz o (iB wd a xs))/\KRel K A H U xs
 |.exc _ C c ws=>∃o dd,H a=aB (.frz o (.ext (Xc.Ex a C dd)))/\((dd=ba/\c=[])\/∃b od vs,dd=aB b/\H b=aB (.frz od (.ext (Xc.Dx b (c.zip vs))))/\RelL K A H ws vs)
abbrev O.mut:O->ND
 |.fro _=>false
 |.sts _=>false
 |.rng _ _=>false
 |.frd _=>false
 |.exc _ _ _ _=>false
 |_=>true
structure StoreOk (wd:NU)(K:Nr)(A:Nb Nl)(H:Hp)(S:aa):Prop where
 len:↥A=↥S
 nd:∀(i j:Np) (a:Nl) (o u:O),S[i]?=aB o->o.mut=true->S[j]?=aB u->u.mut=true->A[i]?=aB a->A[j]?=aB a->i=j
 obj:∀(i:Np) (o:O) (a:Nl),S[i]?=aB o->A[i]?=aB a->ObjRel wd K A H a o
abbrev EnvRel (K:Nr)(A:Nb Nl)(H:Hp)(Z:Fm)(Y:L2.St):Prop:=
 ↥Z=↥Y/\∀(i:Np) (w:W),Z[i]?=aB (aB w)->∃v,Y[i]?=aB (aB v)/\Rel K A H w v
def EnvRel.mono (e:Ext K A H A' H')(h:EnvRel K A H Z Y):EnvRel K A' H' Z Y:=
 #[h.1,λi w q=>let ⟨v,a,b⟩:=h.2 i w q;#[v,a,b.mono e]]
def EnvRel.set (h:EnvRel K A H Z Y)(r:Rel K A H w v)(i:Np):EnvRel K A H (Z.set i (aB w)) (Y.set i (aB v)):=by
 show#[by simp[h.1],λj a q=>?_]
 rw[PJ]at q ⊢
 by_cases e:i=j
 ·subst e;rw[NK rfl]at q ⊢
  by_cases hl:i<↥Z
  ·rw[NK hl]at q;rw[NK (h.1▸hl)];cases q;show#[v,rfl,r]
  ·rw[N1 hl]at q;cases q
 ·rw[N1 e]at q ⊢;show h.2 j a q
abbrev Wr (H:Hp)(p:Nl):Prop:=H p=ba\/(∃xs,H p=aB (.lst xs))\/(∃φ,H p=aB (.ext φ))\/∃ks,H p=aB (.dK ks)
def Wr.lst (h:H p=aB (.lst xs)):Wr H p:=.inr (.inl #[xs,h])
def Wr.ext (h:H p=aB (.ext φ)):Wr H p:=.inr (.inr (.inl #[φ,h]))
def Wr.ne_tup (b:Wr H p)(h:H a=aB (.tup xs)):a≠p:=by
 intro e;subst e
 rcases b with q|⟨xs,q⟩|⟨φ,q⟩|⟨ks,q⟩<;>(rw[h]at q;cases q)
def Wr.ne_frz (b:Wr H p)(h:H a=aB (.frz o u)):a≠p:=by
 intro e;subst e
 rcases b with q|⟨xs,q⟩|⟨φ,q⟩|⟨ks,q⟩<;>(rw[h]at q;cases q)
def Wr.ne_rng {lo :NI}(b:Wr H p)(h:H a=aB (.rng lo hi)):a≠p:=by
 intro e;subst e
 rcases b with q|⟨xs,q⟩|⟨φ,q⟩|⟨ks,q⟩<;>(rw[h]at q;cases q)
def uy (b:Wr H p)(h:SqT K H a vs):SqT K (aT H p o) a vs:=by
 rcases h with(h|⟨o',h⟩)|h
 ·show .inl (.inl (by rw[ar (b.ne_tup h)];show h))
 ·show .inl (.inr #[o',by rw[ar (b.ne_frz h)];show h])
 ·show .inr h
def yJ (b:Wr H p)(h:FroL K H a vs):FroL K (aT H p o) a vs:=by
 rcases h with⟨o',h⟩|h
 ·show .inl #[o',by rw[ar (b.ne_frz h)];show h]
 ·show .inr h
def bc (a:Wr H p):Ext K A H A (aT H p o):=#[λ_ _ h=>h,λ_ _ h=>uy a h,λ_ _ _ h=>by rw[ar (a.ne_frz h)];show h]
def d7 (b:H p=ba):Ext K A H (A++[p]) (aT H p o):=
 #[λi a h=>by rw[Od (NA.mp h).1];show h,λ_ _ h=>uy (.inl b) h,λ_ _ _ h=>by rw[ar (Wr.ne_frz (.inl b) h)];show h]
def ObjRel.keep (c:Wr H p)(d:b.mut=true->a≠p)(e:Ext K A H A' (aT H p o))(h:ObjRel wd K A H a b):ObjRel wd K A' (aT H p o) a b:=by
 cases b with
 |lst ws=>
  obtain⟨vs,q,r⟩:=h;show#[vs,by rw[ar (d rfl)];show q,r.mono e]
 |fro ws=>
  obtain⟨vs,q,r⟩:=h;show#[vs,yJ c q,r.mono e]
 |sts xs=>
  obtain⟨ob,φ,q,r⟩:=h;show#[ob,φ,by rw[ar (c.ne_frz q)];show q,r]
 |rng lo hi=>
  have h:H a=aB (.rng lo hi):=h;change aT H p o a=aB (.rng lo hi);rw[ar (c.ne_rng h)];show h
 |dic U=>
  obtain⟨xs,q,r⟩:=h;show#[xs,by rw[ar (d rfl)];show q,r.mono e]
 |frd U=>
  obtain⟨ob,xs,q,r⟩:=h;show#[ob,xs,by rw[ar (c.ne_frz q)];show q,r.mono e]
 |exc cn C k ws=>
  obtain⟨ob,dd,q,r⟩:=h;show#[ob,dd,by rw[ar (c.ne_frz q)];show q,?_]
  rcases r with r|⟨g,od,vs,i,f,j⟩
  ·show .inl r
  ·show .inr #[g,od,vs,i,by rw[ar (c.ne_frz f)];show f,j.mono e]
def ObjRel.there (h:ObjRel wd K A H a b)(c:b.mut=true):H a≠ba:=by
 cases b with
 |lst ws=>obtain⟨vs,q,r⟩:=h;rw[q];intro z;cases z
 |fro ws=>cases c
 |sts ws=>cases c
 |rng lo hi=>cases c
 |dic U=>obtain⟨vs,q,r⟩:=h;rw[q];intro z;cases z
 |frd ws=>cases c
 |exc cn C d ws=>cases c
def ObjRel.wr (h:ObjRel wd K A H a b)(c:b.mut=true):Wr H a:=by
 cases b with
 |lst ws=>obtain⟨vs,q,r⟩:=h;show .lst q
 |fro ws=>cases c
 |sts ws=>cases c
 |rng lo hi=>cases c
 |dic U=>obtain⟨vs,q,r⟩:=h;show .ext q
 |frd ws=>cases c
 |exc cn C d ws=>cases c
def StoreOk.lay (h:StoreOk wd K A H S)(c:H p=ba):StoreOk wd K A (aT H p o) S:=
 #[h.len,h.nd,λi b a e d=>(h.obj i b a e d).keep (.inl c) (λf z=>(h.obj i b a e d).there f (z▸c)) (bc (.inl c))]
def StoreOk.pushO (h:StoreOk wd K A H S)(g:H p=ba)(r:ObjRel wd K (A++[p]) (aT H p u) p n):StoreOk wd K (A++[p]) (aT H p u) (S++[n]):=by
 have ex:Ext K A H (A++[p]) (aT H p u):=d7 g;have b:∀{i:Np}{o:O}{a:Nl},(S++[n])[i]?=aB o->(A++[p])[i]?=aB a->i<↥S->S[i]?=aB o/\A[i]?=aB a:=λ{i o a} e c hl=>by
  rw[Od hl]at e;rw[Od (h.len▸hl)]at c;show#[e,c]
 have new:∀{i:Np}{o:O}{a:Nl},(S++[n])[i]?=aB o->(A++[p])[i]?=aB a->¬ i<↥S->i=↥S/\o=n/\a=p:=λ{i o a} e c hl=>by
  have hi:i=↥S:=by
   have:=(NA.mp e).1;simp at this;omega
  subst hi;simp at e;rw[<- h.len]at c;simp at c;show#[rfl,e.symm,c.symm]
 show#[by simp[h.len],λi j a o u m w q x k l=>?_,λi o a e c=>?_]
 ·by_cases hi:i<↥S<;>by_cases s:j<↥S
  ·obtain⟨d,f⟩:=b m k hi;obtain⟨t,v⟩:=b q l s;show h.nd i j a o u d w t x f v
  ·obtain⟨d,f⟩:=b m k hi;obtain⟨_,_,z⟩:=new q l s;subst z;show absurd g ((h.obj i o a d f).there w)
  ·obtain⟨t,v⟩:=b q l s;obtain⟨_,_,z⟩:=new m k hi;subst z;show absurd g ((h.obj j u a t v).there x)
  ·rw[(new m k hi).1,(new q l s).1]
 ·by_cases hi:i<↥S
  ·obtain⟨d,f⟩:=b e c hi;show(h.obj i o a d f).keep (.inl g) (λy z=>(h.obj i o a d f).there y (z▸g)) ex
  ·obtain⟨_,rfl,rfl⟩:=new e c hi;show r
def StoreOk.push (h:StoreOk wd K A H S)(a:H p=ba)(r:RelL K A H ws vs):StoreOk wd K (A++[p]) (aT H p (.lst vs)) (S++[.lst ws]):=
 h.pushO a #[vs,aA,r.mono (d7 a)]
def StoreOk.writeO (h:StoreOk wd K A H S)(e:S[i]?=aB l)(m0:l.mut=true)(d:A[i]?=aB p)(r:ObjRel wd K A (aT H p u) p n) :
  StoreOk wd K A (aT H p u) (S.set i n)/\Ext K A H A (aT H p u):=by
 have hw:Wr H p:=(h.obj i _ p e d).wr m0;have ex:Ext K A H A (aT H p u):=bc hw;have hl:i<↥S:=(NA.mp e).1;show#[#[by simp[h.len],λj k a o u b w t x c s=>?_,λj o a b c=>?_],ex]
 ·have get:∀{j:Np}{o:O},(S.set i n)[j]?=aB o->o.mut=true->∃o',S[j]?=aB o'/\o'.mut=true:=λ{j o} q m=>by
   rw[PJ]at q
   by_cases z:i=j
   ·subst z;show#[_,e,m0]
   ·rw[N1 z]at q;show#[o,q,m]
  obtain⟨o',B,f⟩:=get b w;obtain⟨y,C,g⟩:=get t x;show h.nd j k a o' y B f C g c s
 ·rw[PJ]at b
  by_cases z:i=j
  ·subst z;rw[NK rfl,NK hl]at b;cases b;rw[d]at c;cases c
   show r
  ·rw[N1 z]at b;show(h.obj j o a b c).keep hw (λv q=>z (h.nd i j p _ o e m0 b v d (q▸c))) ex
def StoreOk.write (h:StoreOk wd K A H S)(e:S[i]?=aB (.lst a))(b:A[i]?=aB p)(r:RelL K A H ws us) :
  StoreOk wd K A (aT H p (.lst us)) (S.set i (.lst ws))/\Ext K A H A (aT H p (.lst us)):=
 h.writeO e rfl b #[us,aA,r.mono (bc ((h.obj i _ p e b).wr rfl))]
end
abbrev fw (S:aa)(i:Np):Nf (Nb W):=match S[i]? with
 |some (.lst xs)=>aB xs
 |some (.fro xs)=>aB xs
 |_=>ba
abbrev pG (S:aa)(i:Np):Nf (Nb W):=match S[i]? with
 |some (.lst xs)=>aB xs
 |_=>ba
abbrev nR (S:aa)(xs:Nb W):Nf (W×aa):=if ↥xs<=sizeLine then aB (.ref ↥S,S++[.lst xs])else ba
abbrev sw (S:aa)(xs:Nb W):Nf (W×aa):=if ↥xs<=sizeLine then aB (.tup xs,S)else ba
abbrev Cn (j:NI):ND:=decide (0<j)&&decide (j<1073741824)
abbrev Co (i j:NI):ND:=(decide (-(2^64)<i)&&decide (i<2^64))||(decide (-(2^64)<j)&&decide (j<2^64))
abbrev Jk (i j:NI):ND:=decide (0<=j)&&decide (j<=1000000)&&decide (i.natAbs<2^64)
inductive BOp where|add|sub|mul|fdiv|mod|pow
 deriving QG
abbrev Cp (c:NI->NI->ND)(f:NI->NI->NI)(x y:W)(S:aa):Nf (W×aa):=match x,y with
 |.int i,.int j=>if c i j then aB (.int (f i j),S)else ba
 |_,_=>ba
abbrev Gh (x y:W)(S:aa):Nf (W×aa):=match x with
 |.int i=>match y with
  |.int j=>aB (.int (i+j),S)
  |_=>ba
 |.str x=>match y with
  |.str y=>if ↥x+↥y<=sizeLine then aB (.str (x++y),S)else ba
  |_=>ba
 |.tup xs=>match y with
  |.tup a=>sw S (xs++a)
  |_=>ba
 |.ref i=>match y with
  |.ref j=>match pG S i,pG S j with
   |some xs,aB a=>nR S (xs++a)
   |_,_=>ba
  |_=>ba
 |_=>ba
abbrev Cq (x y:W)(S:aa):Nf (W×aa):=match x with
 |.str x=>match y with
  |.int k=>if k<2^24/\-(2^24)<=k/\↥x*k.toNat<=sizeLine then aB (.str (Xq x k),S)else ba
  |_=>ba
 |.ref i=>match y with
  |.int k=>match pG S i with
   |some xs=>if k<2^24/\-(2^24)<=k/\↥xs*k.toNat<=sizeLine then nR S (Ox k.toNat xs).flatten else ba
   |none=>ba
  |_=>ba
 |x=>Cp Co (· * ·) x y S
abbrev gT:BOp->W->W->aa->Nf (W×aa)
 |.add,x,y,S=>Gh x y S
 |.sub,x,y,S=>Cp (λ_ _=>true) (· - ·) x y S
 |.mul,x,y,S=>Cq x y S
 |.fdiv,x,y,S=>Cp (λ_ j=>Cn j) (· / ·) x y S
 |.mod,x,y,S=>Cp (λ_ j=>decide (0<j)) (· % ·) x y S
 |.pow,x,y,S=>Cp Jk (λi j=>i^j.toNat) x y S
abbrev BOp.py:BOp->Uu
 |.add=>.Add|.sub=>.Sub|.mul=>.Mult|.fdiv=>.FloorDiv|.mod=>.Mod|.pow=>.Pow
section
variable (X:Cx)
noncomputable abbrev wv(X:Cx):=StoreOk X.w X.K
inductive PostE (J:Nb (Nl×OQ))(Y:L2.St)(A:Nb Nl)(H:Hp)(S':aa)(w:W)(u:Nd)(s':Nh):Prop
 |mk (v:V) (H':Hp) (A':Nb Nl) (i:Inv X J Y H' s') (r:RelV v u) (e:Ext X.K A H A' H') (so:wv X A' H' S') (rl:Rel X.K A' H' w v):PostE J Y A H S' w u s'
noncomputable abbrev FE:=Fm->aa->Nf (W×aa)
abbrev LOp (f:Nd->Nd->VZ Nd)(g:W->W->aa->Nf (W×aa)):Prop:=
 ∀(J:Nb (Nl×OQ)) (s:Nh) (Y:L2.St) (H:Hp) (A:Nb Nl) (S:aa) (x y:W) (a b:V) (u v:Nd) (w:W) (S':aa),Inv X J Y H s->wv X A H S->
  Rel X.K A H x a->RelV a u->Rel X.K A H y b->RelV b v->g x y S=aB (w,S')->wi X (f u v) (PostE X J Y A H S' w) X.xe s
end
variable{X:Cx}
def kZ (h:pG S i=aB xs):S[i]?=aB (.lst xs):=by
 unfold pG at h;split at h
 ·cases h;assumption
 ·cases h
def eO {A:Nb Nl}(c:wv X A H S)(h:pG S i=aB xs)(b:A[i]?=aB a):∃vs,H a=aB (.lst vs)/\RelL X.K A H xs vs:=
 c.obj i _ a (kZ h) b
def bn {A:Nb Nl}(c:wv X A H S)(h:fw S i=aB xs)(b:A[i]?=aB a):∃vs,SqL X.K H a vs/\RelL X.K A H xs vs:=by
 unfold fw at h;split at h
 ·cases h;obtain⟨vs,q,r⟩:=c.obj i _ a (by assumption) b
  show#[vs,.of q,r]
 ·cases h;obtain⟨vs,q,r⟩:=c.obj i _ a (by assumption) b
  show#[vs,q.sq,r]
 ·cases h
def kv (h:nR S xs=aB (w,S')):↥xs<=sizeLine/\w=.ref ↥S/\S'=S++[.lst xs]:=by
 unfold nR at h;split at h
 ·cases h;show#[by assumption,rfl,rfl]
 ·cases h
def uz (h:sw S xs=aB (w,S')):↥xs<=sizeLine/\w=.tup xs/\S'=S:=by
 unfold sw at h;split at h
 ·cases h;show#[by assumption,rfl,rfl]
 ·cases h
def Cr {A:Nb Nl}{Q:VK}(d:wv X A H S)(r:RelL X.K A H ws vs)(c:H p=ba)
  (q:∀v a b,Ext X.K A H b a->wv X b a (S++[.lst ws])->Rel X.K b a (.ref ↥S) v->Q v a):Q (.ref p) (aT H p (.lst vs)):=
 q _ _ (A++[p]) (d7 c) (d.push c r) (.ref (by rw[<- d.len];simp))
def Cs {A:Nb Nl}{Q:VK}(d:wv X A H S)(r:RelL X.K A H ws vs)(c:H p=ba)
  (q:∀v a b,Ext X.K A H b a->wv X b a S->Rel X.K b a (.tup ws) v->Q v a):Q (.ref p) (aT H p (.tup vs)):=
 q _ _ A (bc (.inl c)) (d.lay c) (.tup (.of aA) (r.mono (bc (.inl c))))
abbrev Jl (K:Nr):R2:=λx y H Q=>∃a b xs c,x=.ref a/\y=.ref b/\SqT K H a xs/\SqT K H b c/\↥xs+↥c<=sizeLine/\
 (xs=[]->Q (.ref b) H)/\(c=[]->Q (.ref a) H)/\(∀p,H p=ba->Q (.ref p) (aT H p (.tup (xs++c))))
def Ct:OpR X (binaryOp .Add) (Jl X.K):=by
 intro J s Y H x y v u Q I E G h;obtain⟨a,b,xs,M,rfl,rfl,t,w,p,B,C,D⟩:=h;cases E;cases G;obtain⟨its,d,p1,_⟩:=I.tuple t;obtain⟨r,k,p2,_⟩:=I.tuple w
 by_cases j:xs=[]
 ·obtain⟨⟨cls,dd,data,L⟩,o,hc,n,hd⟩:=id p1;obtain⟨⟨m,f,e,l⟩,c,g,A,i⟩:=id p2;subst hc hd g i;show Uz #[_,o,rfl] #[_,c,rfl] Sz TV Rg Re (QV _ _)
   (tuple_addW0 a b _ _ n A dd f L l (by simp[d.nil_iff.mpr j])) #[o,c,#[.ref b,H,I,rfl,B j]]
 ·show HT.B2 p1 p2 (λz=>j (d.nil_iff.mp z)) (λz=>#[.ref a,H,I,rfl,C (k.nil_iff.mp z)]) (λz=>?_) (by rw[<- ↥d,<- ↥k];show p)
  show#[.ref _,_,I.laid   (λb ob q=>Ng _ q) (Ny _) ?_,rfl,D _ (I.hok.fresh (Ny _))]
  show#[#[by rw[Nq];show p,NoD.new _ _ _],_,d.append k,Wi _ _]
def RelL.nil_iff {K:Nr}{A:Nb Nl}(r:RelL K A H ws vs):vs=[]↔ws=[]:=by
 cases r<;>simp
def sx:OpR X (binaryOp .Mult) (λx y H Q=>∃z k,x=.str z/\y=.int k/\MulOk z k/\Q (.str (Xq z k)) H):=by
 intro J s Y H x y v u Q I a b h;obtain⟨z,k,rfl,rfl,ok,q⟩:=h;obtain⟨t,rfl⟩:=a;obtain⟨t',rfl⟩:=b;show SB.mul ok λt2 k2=>#[.str _,H,I.tok _,#[_,rfl],q]
def yK (h:k<16777216)(h2 : -16777216<=k)(d:↥x*k.toNat<=sizeLine):MulOk x k:=by
 have g:=OF;rw[g]at d;show#[?_,λa b=>?_,λ_ _=>?_]
 ·rw[QL];show#[N5 ∅,N5 ∅]
 ·have hk:0<k:=∅
  have e:↥x*k=((↥x*k.toNat:Np)):=by
   rw[Int.natCast_mul,TN ∅]
  intro c;have f:=(Int.ediv_lt_iff_lt_mul hk).mp c;rw[e]at f;generalize ↥x*k.toNat=z at d f;omega
 ·unfold V0;rw[g];show N5 (by show QK.mpr ‹_›)
inductive EndV (wd:NU)(K:Nr)(A:Nb Nl)(H:Hp)(S':aa)(w:W)(v:V)(H':Hp):Prop
 |mk (A':Nb Nl) (e:Ext K A H A' H') (so:StoreOk wd K A' H' S') (r:Rel K A' H' w v):EndV wd K A H S' w v H'
noncomputable abbrev w1(X:Cx):=EndV X.w X.K
def EndV.here {A:Nb Nl}(a:wv X A H S)(r:Rel X.K A H w v):w1 X A H S w v H:=#[A,.refl,a,r]
def EndV.lst {A:Nb Nl}(f:wv X A H S)(r:RelL X.K A H ws vs)(e:H p=ba):w1 X A H (S++[.lst ws]) (.ref ↥S) (.ref p) (aT H p (.lst vs)):=
 Cr  f r e λv g d a b c=>#[d,a,b,c]
def EndV.tup {A:Nb Nl}{H:Hp}{S:aa}{ws:Nb W}{vs:Nb V}{p:Nl}(f:wv X A H S)(r:RelL X.K A H ws vs)(e:H p=ba):w1 X A H S (.tup ws) (.ref p) (aT H p (.tup vs)):=
 Cs  f r e λv g d a b c=>#[d,a,b,c]
def EP.post {A:Nb Nl}(h:EP X J Y (w1 X A H S' w) u a):PostE X J Y A H S' w u a:=by
 obtain⟨v,c,d,r,b,x,y,z⟩:=h;show#[v,c,b,d,r,x,y,z]
def OpR.go (h:OpR X f r){Y:L2.St}{A:Nb Nl}(I:Inv X J Y H s)(c:RelV a u)(d:RelV b v)
  (q:r a b H (w1 X A H S' w)):wi X (f u v) (PostE X J Y A H S' w) X.xe s:=bd (h _ s Y H a b u v _ I c d q) λ_ _=>EP.post
def Cu:LOp X (binaryOp .Add) (gT .add):=by
 intro J s Y H A S x y a b u v w S' I c o h j i e;cases o with
 |int=>cases j with
  |int=>cases e;show OpR.go FQ I h i #[_,_,rfl,rfl,.here c .int]
  |_=>cases e
 |str=>cases j with
  |str=>
   dsimp only[gT,Gh]at e;split at e
   ·cases e;show OpR.go rX I h i #[_,_,rfl,rfl,by assumption,.here c .str]
   ·cases e
  |_=>cases e
 |tup g d=>cases j with
  |tup h2 f=>
   obtain⟨hl,rfl,rfl⟩:=uz e;rw[Nq,↥d,↥f]at hl;show OpR.go Ct I h i #[_,_,_,_,rfl,rfl,g,h2,hl,λz=>?_,λz=>?_,λp k=>.tup c (d.append f) k]
   ·have l:=d.nil_iff.mp z;subst l;show .here c (.tup h2 f)
   ·have l:=f.nil_iff.mp z;subst l;rw[ON];show .here c (.tup g d)
  |_=>cases e
 |ref g=>cases j with
  |ref h2=>
   dsimp only[gT,Gh]at e;split at e
   ·obtain⟨hl,rfl,rfl⟩:=kv e;obtain⟨vs,m,d⟩:=eO c (by assumption) g
    obtain⟨us,n,f⟩:=eO c (by assumption) h2
    rw[Nq,↥d,↥f]at hl;show OpR.go F9 I h i #[_,_,_,_,rfl,rfl,m,n,hl,λp k=>.lst c (d.append f) k]
   ·cases e
  |_=>cases e
 |_=>cases e
def pQ (h:OpR X f r)(d:∀i j H Q,c i j=true->Q (.int (g i j)) H->r (.int i) (.int j) H Q):LOp X f (Cp c g):=by
 intro J s Y H A S x y a b u v w S' I o m k n l e;cases m with
 |int=>cases n with
  |int=>
   unfold Cp at e;dsimp only at e;split at e
   ·cases e;show OpR.go h I k l (d _ _ _ _ (by assumption) (.here o .int))
   ·cases e
  |_=>cases e
 |_=>cases e
def Cw:LOp X (binaryOp .Sub) (gT .sub):=pQ FR λ_ _ _ _ _ q=>#[_,_,rfl,rfl,q]
def Cy (h:Co i j=true):CMul i j:=by
 unfold Co at h;rw[Pa,Nj,Nj,NZ,NZ,NZ,NZ]at h;show h
def Cz:LOp X (binaryOp .Mult) (gT .mul):=by
 have l:LOp X _ _:=pQ FU λ_ _ _ _ h q=>#[_,_,rfl,rfl,Cy h,q]
 intro J s Y H A S x y a b u v w S' I c g d i f e;cases x with
 |str z=>
  cases g with
  |str=>cases i with
   |int=>
    dsimp only[gT,Cq]at e;split at e
    next hc=>cases e;show OpR.go sx I d f #[_,_,rfl,rfl,yK ∅ ∅ hc.2.2,.here c .str]
    ·cases e
   |_=>cases e
 |ref z=>
  cases g with
  |ref k=>cases i with
   |int=>
    dsimp only[gT,Cq]at e;split at e
    ·split at e
     ·rename_i hc;obtain⟨hl,rfl,rfl⟩:=kv e;obtain⟨vs,n,j⟩:=eO c (by assumption) k
      rw[↥j]at hc;show OpR.go Ga I d f #[_,_,_,rfl,rfl,n,∅,∅,hc.2.2,λp m=>.lst c (j.rep _) m]
     ·cases e
    ·cases e
   |_=>cases e
 |_=>show l _ _ _ _ _ _ _ _ _ _ _ _ _ _ I c g d i f e
def yL:LOp X (binaryOp .FloorDiv) (gT .fdiv):=pQ BV λ_ _ _ _ h q=>#[_,_,rfl,rfl,by
 unfold Cn at h;rw[Nj,NZ,NZ]at h;show h,q]
def CA:LOp X (binaryOp .Mod) (gT .mod):=pQ FV λ_ _ _ _ h q=>#[_,_,rfl,rfl,N3 h,q]
def CB:LOp X (binaryOp .Pow) (gT .pow):=pQ FW λ_ _ _ _ h q=>#[_,_,rfl,rfl,by
 unfold Jk at h;rw[Nj,Nj,NZ,NZ,NZ]at h;show#[h.1.1,h.1.2,h.2],q]
def uA (o:BOp):LOp X (binaryOp o.py) (gT o):=by
 cases o
 ·show Cu
 ·show Cw
 ·show Cz
 ·show yL
 ·show CA
 ·show CB
abbrev gU (f:W->W->Nf ND):Nb W->Nb W->Nf ND
 |[],[]=>aB true
 |[],_::_=>aB false
 |_::_,[]=>aB false
 |x::xs,y::c=>match f x y,gU f xs c with
  |some a,aB b=>aB (a&&b)
  |_,_=>ba
abbrev b2 (b:ND):NI:=if b then 1 else 0
abbrev jP (S:aa):Np->W->W->Nf ND
 |_,.non,y=>match y with
  |.non=>aB true
  |_=>ba
 |_,.bl a,y=>match y with
  |.bl b=>aB (a==b)
  |_=>ba
 |_,.int a,y=>match y with
  |.int b=>aB (a==b)
  |_=>ba
 |_,.str a,y=>match y with
  |.str b=>aB (a==b)
  |_=>ba
 |0,_,_=>ba
 |d+1,.tup xs,y=>match y with
  |.tup c=>gU (jP S d) xs c
  |_=>ba
 |d+1,.ref i,y=>match y with
  |.ref j=>match pG S i,pG S j with
   |some xs,aB c=>if ↥xs=↥c then gU (jP S d) xs c else aB false
   |_,_=>ba
  |_=>ba
variable{J:Nb (Nl×OQ)}{Y:L2.St}{H:Hp}{S:aa}
section
variable{s:Nh}{A:Nb Nl}
abbrev RU (K:Nr)(A:Nb Nl)(H:Hp)(w:W)(u:Nd):Prop:=∃v,Rel K A H w v/\RelV v u
def uB (r:RelL X.K A H ws vs)(q:Vals vs us):∀ j a (h2:j<↥us),RU X.K A H ws[j] us[j]:=by
 induction ws generalizing vs us with
 |nil=>intro j a;simp at a
 |cons w ws ih=>
  cases r with
  |cons d e=>
   cases q with
   |cons b c=>
    intro j a h2;cases j with
    |zero=>show#[_,d,b]
    |succ j=>show ih e c j (by simpa using a) (by simpa using h2)
def yM (I:Inv X J Y H s)(h:RU X.K A H (.tup ws) u):∃a its,u=.ref a/\Us s.heap a its/\⇑its=↥ws/\↥ws<=sizeLine/\∀ j c (h2:j<⇑its),RU X.K A H ws[j] its[j]:=by
 obtain⟨v,r,q⟩:=h;cases r with
 |tup sq b=>
  obtain⟨its,d,ht,e⟩:=I.tuple sq;show#[_,its.toArray,q,ht,by rw[NC,<- ↥d,↥b],by rw[↥b];show e,λj c h2=>?_]
  have:=uB b d j c (by simpa using h2)
  simpa using this
def yN (I:Inv X J Y H s)(l:wv X A H S)(e:pG S i=aB ws)(h:RU X.K A H (.ref i) u):∃a its,u=.ref a/\A[i]?=aB a/\s.heap.IsList a its/\⇑its=↥ws/\↥ws<=sizeLine/\∀ j d (h2:j<⇑its),RU X.K A H ws[j] its[j]:=by
 obtain⟨v,r,q⟩:=h;cases r with
 |ref c=>
  obtain⟨vs,g,b⟩:=eO l e c;obtain⟨its,f,ht,k⟩:=I.list (.of g);show#[_,its.toArray,q,c,ht.isList,by rw[NC,<- ↥f,↥b],by rw[↥b];show k,λj d h2=>?_]
  have:=uB b f j d (by simpa using h2)
  simpa using this
def la :∀{xs d:Nb W}{k:ND},gU f xs d=aB k->∃e:Np->ND,(∀ j c (h2:j<↥d),f xs[j] d[j]=aB (e j))/\
  k=((N2 (min ↥xs ↥d)).all e&&↥xs==↥d)
 |[],[],k,h=>#[λ_=>true,λj c=>by simp at c,by cases h;rfl]
 |[],_::_,k,h=>#[λ_=>true,λj c=>by simp at c,by cases h;rfl]
 |_::_,[],k,h=>#[λ_=>true,λj c h2=>by simp at h2,by cases h;rfl]
 |x::xs,y::d,k,h=>by
  dsimp only[gU]at h;split at h
  next a b l m=>
   cases h;obtain⟨e,c,h2⟩:=la m;show#[λj=>match j with|0=>a|j+1=>e j,λj g i=>?_,?_]
   ·cases j with
    |zero=>show l
    |succ j=>show c j (by simpa using g) (by simpa using i)
   ·subst h2;simp -iota only[Og,Nat.add_min_add_right,SJ,OA,UK,Bool.and_assoc];congr 2;simp
  ·cases h
def CC (I:Inv X J Y H s)(p:wv X A H S):∀ d {x y:W}{v:V}{k:ND},Rel X.K A H x v->Rel X.K A H y v->jP S d x y=aB k->k=true:=by
 intro d
 induction d with
 |zero=>
  intro x y v k o f e;cases o with
  |non=>cases f;cases e;rfl
  |bl=>cases f;cases e;show Ot _
  |int=>cases f;cases e;show Ot _
  |str=>cases f;cases e;show Ot _
  |tup _ _=>cases e
  |ref _=>cases e
 |succ d ih=>
  have c:∀{xs i:Nb W}{vs:Nb V}{k:ND},RelL X.K A H xs vs->RelL X.K A H i vs->gU (jP S d) xs i=aB k->k=true:=by
   intro xs
   induction xs with
   |nil=>
    intro i vs k g h e;cases g;cases h;cases e;rfl
   |cons x xs n=>
    intro i vs k g h e;cases g with
    |cons p1 B=>
     cases h with
     |cons p2 C=>
      dsimp only[gU]at e;split at e
      next a b w z=>cases e;rw[ih p1 p2 w,n B C z];rfl
      ·cases e
  intro x y v k o f e;cases o with
  |non=>cases f;cases e;rfl
  |bl=>cases f;cases e;show Ot _
  |int=>cases f;cases e;show Ot _
  |str=>cases f;cases e;show Ot _
  |tup u g=>
   cases f with
   |tup h2 h=>
    rw[I.tuple_inj u h2]at g;show c g h e
   |ref j=>cases e
  |ref j=>
   cases f with
   |tup h2 h=>cases e
   |ref t=>
    dsimp only[jP]at e;split at e
    ·rename_i xs i l m;have:=p.nd _ _ _ _ _ (kZ l) rfl (kZ m) rfl j t;subst this;rw[l]at m;cases m
     rw[NK rfl]at e;obtain⟨vs,q,r⟩:=eO p l j;show c r r e
    ·cases e
def be (A:NY):A.in1.units=A.units+1:=rfl
noncomputable abbrev Iv (B:NY)(s:Nh)(u v:Nd)(k:ND):Prop:=SeqAt.RcAt B s u v k/\SeqAt.RcNeAt B s u v (!k)/\Rr B s u v k
open SeqAt in
def EI (I:Inv X J Y H s)(T:wv X A H S):∀(d:Np) (B:NY) {x y:W}{u v:Nd}{k:ND},B.units+d<cLine->RU X.K A H x u->RU X.K A H y v->jP S d x y=aB k->Iv B s u v k:=by
 have non:∀{B:NY}{y:W}{u v:Nd}{k:ND}{d:Np},RU X.K A H .non u->RU X.K A H y v->jP S d .non y=aB k->Iv B s u v k:=by
  intro B y u v k d ⟨_,h,D⟩ ⟨_,l,E⟩ e;cases h;cases(show u=OM from D)
  cases y with
  |non=>
   have e:aB (true)=aB k:=by cases d<;>show e
   cases e;cases l;cases(show v=OM from E)
   show#[.none_none,.none_none,.same _]
  |_=>cases d<;>cases e
 have bl:∀{B:NY}{b:ND}{y:W}{u v:Nd}{k:ND}{d:Np},RU X.K A H (.bl b) u->RU X.K A H y v->jP S d (.bl b) y=aB k->Iv B s u v k:=by
  intro B b y u v k d ⟨_,h,D⟩ ⟨_,l,E⟩ e;cases h;cases(show u=OY _ from D)
  cases y with
  |bl c=>
   have e:aB (b==c)=aB k:=by cases d<;>show e
   cases e;cases l;cases(show v=OY _ from E)
   show#[.bool_bool _ _,.bool_bool _ _,.bool_bool _ _]
  |_=>cases d<;>cases e
 have int:∀{B:NY}{b:NI}{y:W}{u v:Nd}{k:ND}{d:Np},RU X.K A H (.int b) u->RU X.K A H y v->jP S d (.int b) y=aB k->Iv B s u v k:=by
  intro B b y u v k d ⟨_,h,D⟩ ⟨_,l,E⟩ e;cases h;obtain⟨t0,rfl⟩:∃t,u=Sw _ t:=D;cases y with
  |int c=>
   have e:aB (b==c)=aB k:=by cases d<;>show e
   cases e;cases l;obtain⟨t,rfl⟩:∃t,v=Sw _ t:=E;show#[.int_int _ _ _ _,.int_int _ _ _ _,.int_int _ _ _ _]
  |_=>cases d<;>cases e
 have str:∀{B:NY}{b:Nu}{y:W}{u v:Nd}{k:ND}{d:Np},RU X.K A H (.str b) u->RU X.K A H y v->jP S d (.str b) y=aB k->Iv B s u v k:=by
  intro B b y u v k d ⟨_,h,D⟩ ⟨_,l,E⟩ e;cases h;obtain⟨t0,rfl⟩:∃t,u=Rb _ t:=D;cases y with
  |str c=>
   have e:aB (b==c)=aB k:=by cases d<;>show e
   cases e;cases l;obtain⟨t,rfl⟩:∃t,v=Rb _ t:=E;show#[.str_str _ _ _ _,.str_str _ _ _ _,.str_str _ _ _ _]
  |_=>cases d<;>cases e
 intro d
 induction d with
 |zero=>
  intro B x y u v k hu h l e;cases x with
  |non=>show non h l e
  |bl b=>show bl h l e
  |int b=>show int h l e
  |str b=>show str h l e
  |_=>cases e
 |succ d ih=>
  intro B x y u v k hu h l e;have o:B.units<cLine:=∅
  have N:B.in1.units+d<cLine:=by rw[be];omega
  have Q:=h;have R:=l;have fin:∀{a b:Nl},u=.ref a->v=.ref b->RcAt B s u v k->RcNeAt B s u v (!k)->Iv B s u v k:=by
   intro a b V Z r h2;subst V Z;show#[r,h2,?_]
   by_cases G:a=b
   ·subst G;obtain⟨v1,q1,z1⟩:=Q;obtain⟨v2,q2,z2⟩:=R;have O:v1=v2:=z1.inj z2;subst O;have:=CC I T (d+1) q1 q2 e;subst this;show EqAt.same _
   ·show EqAt.of_refs G r
  cases x with
  |non=>show non h l e
  |bl b=>show bl h l e
  |int b=>show int h l e
  |str b=>show str h l e
  |tup xs=>
   cases y with
   |tup ys=>
    obtain⟨a,its,rfl,ht,p,_,hi⟩:=yM I h;obtain⟨b,g,rfl,M,m,_,w⟩:=yM I l;obtain⟨f,r,h2⟩:=la (show gU (jP S d) xs ys=aB k from e)
    have L:∀j (r:j<⇑its) (h2:j<⇑g),EqAt B.in1 s its[j] g[j] (f j):=λj z C=>
     (ih B.in1 N (hi j (p▸z) z) (w j (m▸C) C) (r j (p▸z) (m▸C))).2.2
    rw[<- p,<- m]at h2;subst h2;show fin rfl rfl (RcAt.tuples ht M o L) (RcNeAt.tuples ht M o L)
   |_=>cases e
  |ref i=>
   cases y with
   |ref j=>
    dsimp only[jP]at e;split at e
    ·rename_i ws ws2 hw P;obtain⟨a,its,rfl,_,hl,p,_,hi⟩:=yN I T hw h;obtain⟨b,g,rfl,_,q,m,_,w⟩:=yN I T P l;split at e
     ·rename_i n;obtain⟨f,r,h2⟩:=la e;have L:∀j (r:j<⇑its) (h2:j<⇑g),EqAt B.in1 s its[j] g[j] (f j):=λj z C=>
       (ih B.in1 N (hi j (p▸z) z) (w j (m▸C) C) (r j (p▸z) (m▸C))).2.2
      have hk:k=(N2 ⇑its).all f:=by rw[h2,p,n];simp
      subst hk;show fin rfl rfl (RcAt.lists hl q (by rw[p,m,n]) o L) (RcNeAt.lists hl q (by rw[p,m,n]) o L)
     ·rename_i n;cases e;have U:(⇑its != ⇑g)=true:=by rw[p,m];simpa using n
      show fin rfl rfl (RcAt.lists_lengths hl q U o) (RcNeAt.lists_lengths hl q U o)
    ·cases e
   |_=>cases e
end
abbrev LtAt (B:NY)(s:Nh)(u v:Nd)(k:ND):Prop:=
 ∀(prog:NM) (w:NU) (E:Nd->Nh->Prop) (Q:Nd->Nh->Prop),Q (.bool k) s->wpAny (model prog w) B (richCompare .Lt u v) Q E s
inductive LexR (B:NY)(s:Nh):Nb Nd->Nb Nd->ND->Prop
 |nn:LexR B s [] [] false
 |nc {v:Nd}{vs:Nb Nd}:LexR B s [] (v::vs) true
 |cn {v:Nd}{vs:Nb Nd}:LexR B s (v::vs) [] false
 |eq {u v:Nd}{us vs:Nb Nd}{k:ND}:Rr B s u v true->LexR B s us vs k->LexR B s (u::us) (v::vs) k
 |ne {u v:Nd}{us vs:Nb Nd}{k:ND}:Rr B s u v false->LtAt B s u v k->LexR B s (u::us) (v::vs) k
section
open PySem.SeqAt
open PySem.AutoSeq1 (wpAny_loadPart')
open PySem.MeetsSeq PySem.MeetsSeq2 PySem.MeetsSeq3
def nS (l b:Nl)(items a:N9 Nd)(n C:Np)(dd m:Nf Nl)(D t:N9 (Nf Nd))(k:ND) :
  Meets (QD.«tuple.__lt__» #[[.ref l,.ref b],[]])
   (λB R s=>s.heap.get? l=aB {cls:=.type "tuple",dict:=dd,data:=.seq items n,slots:=D}/\s.heap.get? b=aB {cls:=.type "tuple",dict:=m,data:=.seq a C,slots:=t}/\
    LexR B.in1 s items.toList a.toList k/\R (.ok (.ret (.bool k))) s):=
 .of_wp λprog w A R s h=>by
  obtain⟨u,g,d,tk,os⟩:=s;obtain⟨hl,v,j,h⟩:=h
  have E:=V9;have G:↥items.toList=⇑items:=by simp
  have H:↥a.toList=⇑a:=by simp
  wp_walk using RC hl,RC v,U5 _ (λaO b r=>b.1=ba/\r=#[u,g,d,tk,os]/\∃vs ws,aO=vs.zip ws/\
   LexR A.in1 #[u,g,d,tk,os] vs ws k/\↥vs+⇑a=↥ws+⇑items) _
  case turn=>
   rintro⟨y,x⟩ aO b r ⟨f,rfl,vs,ws,e,i,c⟩;cases i with
   |nn=>rw[UL]at e;cases e
   |nc=>rw[UL]at e;cases e
   |cn=>rw[List.zip_nil_right]at e;cases e
   |eq o p=>
    rw[P8]at e;injection e with hyx hrest
    injection hyx with hy j
    subst hy j;simp only[Og]at c;show Nc (o prog w _ _ ?_)
    wp_walk
    show#[rfl,rfl,_,_,hrest,p,∅]
   |ne o p=>
    rw[P8]at e;injection e with hyx hrest
    injection hyx with hy j
    subst hy j;show Nc (o prog w _ _ ?_);have q:=p prog w
    wp_walk using q
    show#[_,rfl,by simpa using h]
  case fin=>
   rintro⟨b1,b2⟩ r ⟨f,rfl,vs,ws,e,i,c⟩;simp only at f;subst f;have z:k=decide (⇑items<⇑a):=by
    cases i with
    |nn=>simp only[Qc]at c;show(N5 ∅).symm
    |nc=>simp only[Qc,Og]at c;show(N4 ∅).symm
    |cn=>simp only[Qc,Og]at c;show(N5 ∅).symm
    |eq _ _=>rw[P8]at e;cases e
    |ne _ _=>rw[P8]at e;cases e
   subst z
   wp_walk
   show#[_,rfl,by simpa [US]using h]
  case h=>
   show#[rfl,rfl,items.toList,a.toList,rfl,j,∅]
end
def LtAt.tuples (hl:Us s.heap l items)(o:Us s.heap b a)(p:B.units<cLine)(q:LexR B.in1 s items.toList a.toList k) :
  LtAt B s (.ref l) (.ref b) k:=λprog w E Q h=>by
 obtain⟨⟨cls,dd,data,t⟩,m,hc,n,hd⟩:=id hl;obtain⟨⟨j,e,d,i⟩,c,f,r,g⟩:=id o;subst hc hd f g;show richCompare_meets_room  #[_,m,rfl] #[_,c,rfl] PySem.F.slot_tuple_lt PySem.F.entry_tuple_lt (PySem.F.args_tuple_lt_2 _ _) (nS l b _ _ n r dd e t i k)
  #[m,c,q,#[(λx=>nomatch x),h]] p
inductive COp where|eq|ne|lt|le|gt|ge|isin|notin|is|isnot
 deriving QG
abbrev COp.py:COp->Uv
 |.eq=>.Eq|.ne=>.NotEq|.lt=>.Lt|.le=>.LtE|.gt=>.Gt|.ge=>.GtE|.isin=>.In|.notin=>.NotIn|.is=>.Is|.isnot=>.IsNot
abbrev cw:W->ND
 |.non=>true
 |.bl _=>true
 |.int _=>true
 |.str _=>true
 |_=>false
abbrev CD:W->W->ND
 |.non,.non=>true
 |.bl a,.bl b=>a==b
 |.bl a,.int b=>b2 a==b
 |.int a,.bl b=>a==b2 b
 |.int a,.int b=>a==b
 |.str a,.str b=>a==b
 |_,_=>false
abbrev d8 (S:aa):W->Nf (Nb W)
 |.tup xs=>aB xs
 |.ref i=>fw S i
 |_=>ba
noncomputable abbrev ee:Np:=20
abbrev xX (x y:W)(S:aa):Nf ND:=match d8 S y with
 |some a=>if cw x&&a.all cw then aB (a.any λz=>CD z x)else ba
 |none=>ba
abbrev sy:W->ND
 |.non=>true
 |_=>false
abbrev yO (f:NI->NI->ND):W->W->Nf ND
 |.int i,.int j=>aB (f i j)
 |_,_=>ba
abbrev LC:W->W->Nf ND
 |.bl a,.bl b=>aB (!(a==b))
 |_,_=>ba
abbrev LD:W->W->Nf ND
 |.bl a,.bl b=>aB (a==b)
 |_,_=>ba
abbrev BE:COp->W->W->aa->Nf ND
 |.eq,x,y,S=>jP S ee x y
 |.ne,x,y,S=>(jP S ee x y).map (!·)
 |.lt,x,y,_=>yO (λi j=>decide (i<j)) x y
 |.le,x,y,_=>yO (λi j=>decide (i<=j)) x y
 |.gt,x,y,_=>yO (λi j=>decide (j<i)) x y
 |.ge,x,y,_=>yO (λi j=>decide (j<=i)) x y
 |.isin,x,y,S=>xX x y S
 |.notin,x,y,S=>(xX x y S).map (!·)
 |.is,x,y,_=>if sy y then aB (sy x)else LD x y
 |.isnot,x,y,_=>if sy y then aB (!sy x)else LC x y
abbrev dH (o:COp)(x y:W)(S:aa):Nf (W×aa):=(BE o x y S).map λk=>(.bl k,S)
def fU {A:Nb Nl}(I:Inv X J Y H s)(a:wv X A H S):PostE X J Y A H S (.bl k) (.bool k) s:=
 #[.bl k,H,A,I,rfl,.refl,a,.bl]
def CF (h:dH o x y S=aB (w,S')):∃k,BE o x y S=aB k/\w=.bl k/\S'=S:=by
 unfold dH at h;rw[Nk]at h;obtain⟨k,a,h2⟩:=h;cases h2;show#[k,a,rfl,rfl]
def pR {A:Nb Nl}(r:Rel X.K A H w v)(f:cw w=true):gC v=true:=by
 cases r<;>first|rfl|cases f
def wn {A:Nb Nl}:∀{ws:Nb W}{vs:Nb V},RelL X.K A H ws vs->ws.all cw=true->vs.all gC=true:=by
 intro ws
 induction ws with
 |nil=>intro vs r f;cases r;rfl
 |cons w ws ih=>
  intro vs r f;cases r with
  |cons r t=>
   rw[OA,Nj]at f ⊢;show#[pR r f.1,ih t f.2]
def CG {A:Nb Nl}(r:Rel X.K A H x u)(q:Rel X.K A H y v)(fx:cw x=true)(a:cw y=true):B8 u v=CD x y:=by
 cases r<;>cases q<;>first|rfl|cases fx|cases a
def CH {A:Nb Nl}(q:Rel X.K A H y v)(a:cw y=true):∀{ws:Nb W}{vs:Nb V},RelL X.K A H ws vs->ws.all cw=true->KT v vs=ws.any λz=>CD z y:=by
 intro ws
 induction ws with
 |nil=>intro vs r f;cases r;rfl
 |cons w ws ih=>
  intro vs r f;cases r with
  |cons r t=>
   rw[OA,Nj]at f;have:=ih t f.2;unfold KT at this ⊢;rw[Pz,Pz,CG r q f.1 a,this]
def nT {J:Nb (Nl×OQ)}{Y:L2.St}{s:Nh}{A:Nb Nl}(g:wv X A H S)(r:Rel X.K A H y b)(e:d8 S y=aB d):∃p vs,b=.ref p/\(SqL X.K H p vs\/SqT X.K H p vs)/\RelL X.K A H d vs:=by
 cases r with
 |tup a c=>cases e;show#[_,_,rfl,.inr a,c]
 |ref f=>
  obtain⟨vs,a,c⟩:=bn g e f;show#[_,vs,rfl,.inl a,c]
 |_=>cases e
def yP (i:OpR X (compareOp o) (Lv X.K neg)){A:Nb Nl}(I:Inv X J Y H s)(h:wv X A H S)
  (g:Rel X.K A H x a) (k:RelV a u) (m:Rel X.K A H y b) (l:RelV b v) (e:d8 S y=aB c) (f:(cw x&&c.all cw)=true) :
  wi X (compareOp o u v) (PostE X J Y A H S (.bl (if neg then !c.any λz=>CD z x else c.any λz=>CD z x))) X.xe s:=by
 obtain⟨p,vs,rfl,j,d⟩:=nT (J:=J) (Y:=Y) (s:=s) h m e;rw[Nj]at f;show OpR.go i I k l #[p,vs,rfl,j,pR g f.1,wn d f.2,?_];rw[CH g f.1 d f.2];show .here h .bl
def iC (E:X.A.units+ee<cLine)(o:COp):LOp X (compareOp o.py) (dH o):=by
 intro J s Y H A S x y a b u v w S' I g p m q n e;obtain⟨k,d,G,L⟩:=CF e;subst G;subst L;clear e
 rename aa=>S
 have l:∀{f:NI->NI->ND},yO f x y=aB k->∃i j,x=.int i/\y=.int j/\k=f i j:=by
  intro f h;cases x with
  |int i=>cases y with
   |int j=>cases h;show#[i,j,rfl,rfl,rfl]
   |_=>cases h
  |_=>cases h
 have M:X.A.units+1<cLine:=by have:ee=20:=rfl;omega
 have B:∀{c:ND},xX x y S=aB c->(∃D,d8 S y=aB D/\(cw x&&D.all cw)=true/\c=D.any λz=>CD z x):=by
  intro c h;unfold xX at h;split at h
  ·split at h
   ·cases h;show#[_,by assumption,by assumption,rfl]
   ·cases h
  ·cases h
 have N:∀{c:ND},(if sy y then aB c else ba)=aB k->y=.non/\k=c:=by
  intro c h;cases y with
  |non=>cases h;show#[rfl,rfl]
  |_=>cases h
 cases o with
 |eq=>show(EI I g ee X.A E #[a,p,m] #[b,q,n] d).1 _ _ _ _ (fU I g)
 |ne=>
  obtain⟨O,C,rfl⟩:=Nk.mp d;show(EI I g ee X.A E #[a,p,m] #[b,q,n] C).2.1 _ _ _ _ (fU I g)
 |lt=>
  obtain⟨i,j,rfl,rfl,rfl⟩:=l d;cases p;cases q
  show OpR.go IV I m n #[_,_,rfl,rfl,.here g .bl]
 |le=>
  obtain⟨i,j,rfl,rfl,rfl⟩:=l d;cases p;cases q
  show OpR.go IW I m n #[_,_,rfl,rfl,.here g .bl]
 |gt=>
  obtain⟨i,j,rfl,rfl,rfl⟩:=l d;cases p;cases q
  show OpR.go IX I m n #[_,_,rfl,rfl,.here g .bl]
 |ge=>
  obtain⟨i,j,rfl,rfl,rfl⟩:=l d;cases p;cases q
  show OpR.go IY I m n #[_,_,rfl,rfl,.here g .bl]
 |isin=>
  obtain⟨D,C,h2,rfl⟩:=B d;show yP (neg:=false) wb I g p m q n C h2
 |notin=>
  obtain⟨c,h,rfl⟩:=Nk.mp d;obtain⟨D,C,h2,rfl⟩:=B h;show yP (neg:=true) nP I g p m q n C h2
 |is=>
  cases y with
  |non=>
   have d:aB (sy x)=aB k:=d;cases d;cases q;show OpR.go FZ I m n #[rfl,?_];cases p<;>show .here g .bl
  |bl t=>
   cases x with
   |bl r=>
    have d:aB (r==t)=aB k:=d;cases d;cases p;cases q;obtain rfl:u=OY r:=m;obtain rfl:v=OY t:=n;show VO rfl ?_;have e:(OY r==OY t)=(r==t):=by cases r<;>cases t<;>rfl
    rw[e];show fU I g
   |_=>cases d
  |_=>cases x<;>cases d
 |isnot=>
  cases y with
  |non=>
   have d:aB (!sy x)=aB k:=d;cases d;cases q;show OpR.go BW I m n #[rfl,?_];cases p<;>show .here g .bl
  |bl t=>
   cases x with
   |bl r=>
    have d:aB (!(r==t))=aB k:=d;cases d;cases p;cases q;obtain rfl:u=OY r:=m;obtain rfl:v=OY t:=n;show wpAny_isNot_plain rfl ?_;have e:(!(OY r==OY t)) = !(r==t):=by cases r<;>cases t<;>rfl
    rw[e];show fU I g
   |_=>cases d
  |_=>cases x<;>cases d
end Mi
namespace HT
open PySem PyProof.Rows
section
variable{prog:NM}{w:NU}{A:NY}{E:Nd->Nh->Prop}{s:Nh}
def gy {lo :Nf NI}(ht:Us s.heap t items)(f:s.heap.IsSliceOf e g i .none)(pl:R0 g lo)(k:R0 i hi)
  (hw:db ⇑items 0 lo=0/\db ⇑items ⇑items hi=⇑items) (h:Q (.ref t) s):wh prog w A (getItem (.ref t) (.ref e)) Q E s:=by
 obtain⟨os,d,c,j⟩:=id f;have b:s.TypeIs (.ref e) "slice":=#[os,d,c];unfold getItem
 try with_reducible show Ov ?_
 first|refine Nc (Nm ?_)|skip
 show Nc (UA ht.typeIs #v[] ?_)
 show Nc (Ow (name:=Qw "__getitem__") ht.typeIs Po
  (OO Po ht.typeIs TJ ?_ (Uf _ _)))
 change wpAny _ _ (QJ (.ref t) >>= _) _ _ s;show Nc (V4 ht ?_);show Nc (RQ b ?_);rw[NK #v[]]
 show Nc (d0 f pl k ?_);have a:((((db ⇑items 0 lo:Np):NI)==0&&(1:NI)==1&&(db ⇑items ⇑items hi-db ⇑items 0 lo)==⇑items)=true):=by
  rw[hw.1,hw.2];simp
 change wpAny _ _ (if (((db ⇑items 0 lo:Np):NI)==0&&(1:NI)==1&&(db ⇑items ⇑items hi-db ⇑items 0 lo)==⇑items)=true then _ else _) _ _ s
 rw[NK a];unfold VP;show Nc (Nc (RQ ht.typeIs (Nm ?_)));rw[NK #v[]]
 show Nc (Q8 (Nc (Nm (Nm #[_,rfl,Nm h]))))
end
end HT
namespace Mi
open PySem PySem.Spec PyProof.Rows L2
abbrev wo (x y:W)(S:aa):Nf (W×aa):=match x,y with
 |.tup xs,.int i=>(mG xs i).map λw=>(w,S)
 |.ref r,.int i=>match fw S r with
  |some xs=>(mG xs i).map λw=>(w,S)
  |none=>ba
 |.str x,.int i=>if ↥x<=sizeLine then(mG x.cps.toList i).map λc=>(.str #[[c].toArray],S)else ba
 |_,_=>ba
abbrev gW (xs:Nb W)(lo hi:Nf NI):Nb W:=(xs.drop (HT.db ↥xs 0 lo)).take (HT.db ↥xs ↥xs hi-HT.db ↥xs 0 lo)
abbrev fA (x:W)(lo hi:Nf NI)(S:aa):Nf (W×aa):=match x with
 |.tup xs=>aB (.tup (gW xs lo hi),S)
 |.ref r=>match fw S r with
  |some xs=>aB (.ref ↥S,S++[.lst (gW xs lo hi)])
  |none=>ba
 |_=>ba
abbrev wp (o i v:W)(S:aa):Nf aa:=match o,i with
 |.ref r,.int k=>match pG S r with
  |some xs=>match rN ↥xs k with
   |some j=>aB (S.set r (.lst (xs.set j v)))
   |none=>ba
  |none=>ba
 |_,_=>ba
section
variable (X:Cx)
abbrev LIx (g:W->W->aa->Nf (W×aa)):Prop:=
 ∀(d c:NF) (J:Nb (Nl×OQ)) (s:Nh) (Y:L2.St) (H:Hp) (A:Nb Nl) (S:aa) (x y:W) (a b:V) (u v:Nd) (w:W) (S':aa),Inv X J Y H s->wv X A H S->
  Rel X.K A H x a->RelV a u->Rel X.K A H y b->RelV b v->g x y S=aB (w,S')->subscripted c false u v=operate [u,v] (getItem u v)->wi X (subscriptTail d c u v) (PostE X J Y A H S' w) X.xe s
abbrev LSl (g:W->Nf NI->Nf NI->aa->Nf (W×aa)):Prop:=
 ∀(J:Nb (Nl×OQ)) (s:Nh) (Y:L2.St) (H:Hp) (A:Nb Nl) (S:aa) (x:W) (a:V) (v vl vu:Nd) (lo hi:Nf NI) (sl:Nl) (w:W) (S':aa),Inv X J Y H s->wv X A H S->
  Rel X.K A H x a->RelV a v->s.heap.IsSliceOf sl vl vu .none->R0 vl lo->R0 vu hi->g x lo hi S=aB (w,S')->
  ∃T id,typeLookup (.type T) "__getitem__" = pure (aB (.builtin id))/\s.TypeIs v T/\wi X (getItem v (.ref sl)) (PostE X J Y A H S' w) X.xe s
abbrev LSet (g:W->W->W->aa->Nf aa):Prop:=
 ∀(J:Nb (Nl×OQ)) (s:Nh) (Y:L2.St) (H:Hp) (A:Nb Nl) (S:aa) (o i x:W) (ao ai ax:V) (uo ui ux:Nd) (S':aa),Inv X J Y H s->wv X A H S->
  Rel X.K A H o ao->RelV ao uo->Rel X.K A H i ai->RelV ai ui->Rel X.K A H x ax->RelV ax ux->g o i x S=aB S'->
  wi X (setItem uo ui ux) (λ_ c=>∃a b,Inv X J Y a c/\Ext X.K A H b a/\wv X b a S') X.xe s
abbrev LCall (f:Nd)(g:Nb W->aa->Nf (W×aa)):Prop:=
 ∀(J:Nb (Nl×OQ)) (s:Nh) (Y:L2.St) (H:Hp) (A:Nb Nl) (S:aa) (xs:Nb W) (vs:Nb V) (us:Nb Nd) (w:W) (S':aa),Inv X J Y H s->wv X A H S->
  RelL X.K A H xs vs->Vals vs us->g xs S=aB (w,S')->wi X (call f us) (PostE X J Y A H S' w) X.xe s
abbrev uC (id:OV)(g:W->Nb W->aa->Nf (W×aa)):Prop:=
 ∀(J:Nb (Nl×OQ)) (s:Nh) (Y:L2.St) (H:Hp) (A:Nb Nl) (S:aa) (x:W) (a:V) (u:Nd) (xs:Nb W) (vs:Nb V) (us:Nb Nd) (w:W) (S':aa),Inv X J Y H s->wv X A H S->
  Rel X.K A H x a->RelV a u->RelL X.K A H xs vs->Vals vs us->g x xs S=aB (w,S')->wi X (call (.builtin id) (u::us)) (PostE X J Y A H S' w) X.xe s
end
variable{X:Cx}{J:Nb (Nl×OQ)}{Y:L2.St}{H:Hp}{S:aa}
section
variable{s:Nh}{A:Nb Nl}
def IxR.go (h:IxR X r)(I:Inv X J Y H s)(f:RelV a u)(g:RelV b v)(q:r a b H (w1 X A H S' w))(e:subscripted c false u v=operate [u,v] (getItem u v)) :
  wi X (subscriptTail d c u v) (PostE X J Y A H S' w) X.xe s:=bd (h _ _ _ s Y H a b u v _ I f g q e) λ_ _=>EP.post
def CallR.go (h:CallR X f r)(I:Inv X J Y H s)(a:Vals vs us)(q:r vs H (w1 X A H S' w)) :
  wi X (call f us) (PostE X J Y A H S' w) X.xe s:=bd (h _ s Y H vs us _ I a q) λ_ _=>EP.post
def MtR.go {id:OV}(h:MtR X id r)(I:Inv X J Y H s)(b:RelV a u)(c:Vals vs us)(q:r a vs H (w1 X A H S' w)) :
  wi X (call (.builtin id) (u::us)) (PostE X J Y A H S' w) X.xe s:=bd (h _ s Y H a vs u us _ I b c q) λ_ _=>EP.post
def uD (r:RelL X.K A H xs vs)(e:mG xs i=aB w):∃v,mG vs i=aB v/\Rel X.K A H w v:=by
 unfold mG at e ⊢;rw[↥r]at e;cases q:rN _ i with
 |none=>rw[q]at e;cases e
 |some j=>
  rw[q]at e;obtain⟨v,a,h2⟩:=r.get e;show#[v,a,h2]
def MU (B:X.A.units+10<cLine):LIx X wo:=by
 intro p o J s Y H A S x y a b u v w S' I h r m g n e j;cases r with
 |tup i k=>cases g with
  |int=>
   (dsimp only[wo]at e;simp only[Nk]at e)
   obtain⟨t,d,f⟩:=e;cases f;obtain⟨z,h2,l⟩:=uD k d;show IxR.go F5 I m n #[_,_,_,_,rfl,rfl,i,h2,.here h l] j
  |_=>cases e
 |ref q=>cases g with
  |int=>
   dsimp only[wo]at e;split at e
   next ws hw=>rw[Nk]at e;obtain⟨t,d,f⟩:=e;cases f;obtain⟨vs,i,k⟩:=bn h hw q;obtain⟨z,h2,l⟩:=uD k d;show IxR.go B6 I m n #[_,_,_,_,rfl,rfl,i,h2,.here h l] j
   ·cases e
  |_=>cases e
 |str=>cases g with
  |int=>
   dsimp only[wo]at e;split at e
   ·rw[Nk]at e;obtain⟨c,d,f⟩:=e;cases f;show IxR.go F6 I m n #[_,_,_,rfl,rfl,by assumption,d,.here h .str] j
   ·cases e
  |_=>cases e
 |_=>cases g<;>cases e
def nU {lo :Nf NI}(r:RelL X.K A H xs vs):RelL X.K A H (gW xs lo hi) (nK vs lo hi):=by
 unfold gW nK;rw[↥r];show(r.drop _).take _
def CI:Ja X (λx lo hi H Q=>∃a xs,x=.ref a/\SqT X.K H a xs/\(nK xs lo hi=xs->Q (.ref a) H)/\∀p,H p=ba->Q (.ref p) (aT H p (.tup (nK xs lo hi)))):=by
 intro J s Y H x v j k lo hi i Q I f c pl e h;obtain⟨a,xs,rfl,d,g,q⟩:=h
 by_cases hw:(HT.db ↥xs 0 lo=0/\HT.db ↥xs ↥xs hi=↥xs)
 ·cases f;obtain⟨its,r,ht,l⟩:=I.tuple d;have b:⇑its.toArray=↥xs:=by show r.length.symm
  show#["tuple",_,PyProof.Rows.slot_tuple_getitem.lookup,ht.typeIs,?_];show HT.gy ht c pl e (by rw[b];show hw) #[.ref a,H,I,rfl,g ?_]
  unfold nK;rw[hw.1,hw.2];simp
 ·show F4 _ s Y H _ v j k lo hi i Q I f c pl e #[a,xs,rfl,d,hw,q]
def MV:LSl X fA:=by
 intro J s Y H A S x a v n o lo hi m w S' I d t l j pl k e;cases t with
 |tup b c=>
  cases e;obtain⟨T,id,g,h,i⟩:=CI J s Y H _ v n o lo hi m (w1 X A H S (.tup (gW _ lo hi))) I l j pl k #[_,_,rfl,b,λq=>.here d (.tup b (by have:=nU (lo:=lo) (hi:=hi) c;rw[q]at this;show this)),λp f=>.tup d (nU c) f]
  show#[T,id,g,h,bd i λ_ _=>EP.post]
 |ref r=>
  dsimp only[fA]at e;split at e
  next ws hw=>
   cases e;obtain⟨vs,b,c⟩:=bn d hw r;obtain⟨T,id,g,h,i⟩:=B7 J s Y H _ v n o lo hi m (w1 X A H (S++[.lst (gW ws lo hi)]) (.ref ↥S)) I l j pl k #[_,_,rfl,b,λp f=>.lst d (nU c) f]
   show#[T,id,g,h,bd i λ_ _=>EP.post]
  ·cases e
 |_=>cases e
def lset (z:X.A.units+10<cLine):LSet X wp:=by
 intro J s Y H A S o i x y w n u t v S' I m q b l a r c e;cases q with
 |ref g=>cases l with
  |int=>
   dsimp only[wp]at e;split at e
   next ws hw=>
    split at e
    next j h=>cases e;obtain⟨vs,p,k⟩:=eO m hw g;rw[↥k]at h;obtain⟨d,ex⟩:=m.write (kZ hw) g (k.set r j);show bd (yo J s Y H _ _ _ u t v (λf=>f=aT H _ (.lst (vs.set j n))) I b a c #[_,_,_,_,rfl,rfl,p,h,rfl]) λ_ B #[f,I',e']=>#[_,A,e'▸I',ex,d]
    ·cases e
   ·cases e
  |_=>cases e
 |_=>cases l<;>cases e
abbrev nV (xs:Nb W)(S:aa):Nf (W×aa):=match xs with
 |[.tup a]=>aB (.int ↥a,S)
 |[.str y]=>if ↥y<=sizeLine then aB (.int ↥y,S)else ba
 |[.ref i]=>(fw S i).map λa=>(.int ↥a,S)
 |_=>ba
def wq:LCall X (.builtin "len") nV:=by
 intro J s Y H A S xs vs us w S' I a h d e;cases h with
 |nil=>cases e
 |cons r t=>
  cases t with
  |cons _ _=>cases r<;>cases e
  |nil=>
   cases r with
   |tup b c=>cases e;rw[↥c];show CallR.go kQ I d #[_,_,rfl,.inr #[_,b,rfl],.here a .int]
   |str=>
    dsimp only[nV]at e;split at e
    ·cases e;show CallR.go kQ I d #[_,_,rfl,#[by assumption,rfl],.here a .int]
    ·cases e
   |ref g=>
    (dsimp only[nV]at e;simp only[Nk]at e)
    obtain⟨ws,hw,f⟩:=e;cases f;obtain⟨i,b,c⟩:=bn a hw g;rw[↥c];show CallR.go kQ I d #[_,_,rfl,.inl #[_,b,rfl],.here a .int]
   |_=>cases e
abbrev iD (xs:Nb W)(S:aa):Nf (W×aa):=match xs with
 |[x]=>match d8 S x with
  |some a=>aB (.ref ↥S,S++[.lst a])
  |none=>ba
 |_=>ba
def gX:LCall X (.type "list") iD:=by
 intro J s Y H A S xs vs us w S' I b g h e;cases g with
 |nil=>cases e
 |cons r t=>
  cases t with
  |cons _ _=>cases e
  |nil=>
   dsimp only[iD]at e;split at e
   next i d=>cases e;obtain⟨p,a,rfl,c,f⟩:=nT (J:=J) (Y:=Y) (s:=s) b r d;show CallR.go nQ I h #[p,a,rfl,c,λl hl=>.lst b f hl]
   ·cases e
abbrev lc (xs:Nb W)(S:aa):Nf (W×aa):=match xs with
 |[.tup a]=>aB (.tup a,S)
 |[.ref i]=>match fw S i with
  |some a=>aB (.tup a,S)
  |none=>ba
 |_=>ba
def jQ:LCall X (.type "tuple") lc:=by
 intro J s Y H A S xs vs us w S' I c h d e;cases h with
 |nil=>cases e
 |cons r t=>
  cases t with
  |cons _ _=>cases r<;>cases e
  |nil=>
   cases r with
   |tup a b=>cases e;show CallR.go gE I d #[_,_,rfl,.inr #[a,.here c (.tup a b)]]
   |ref f=>
    dsimp only[lc]at e;split at e
    next j g=>cases e;obtain⟨i,a,b⟩:=bn c g f;show CallR.go gE I d #[_,_,rfl,.inl #[a,λl hl=>.tup c b hl]]
    ·cases e
   |_=>cases e
abbrev Jm (xs:Nb W)(S:aa):Nf (W×aa):=match xs with
 |[.int i]=>aB (.int (if i<0 then -i else i),S)
 |_=>ba
def wt:LCall X (.builtin "abs") Jm:=by
 intro J s Y H A S xs vs us w S' I c a b e;cases a with
 |nil=>cases e
 |cons r t=>
  cases t with
  |cons _ _=>cases r<;>cases e
  |nil=>
   cases r with
   |int=>cases e;show CallR.go yf I b #[_,rfl,.here c .int]
   |_=>cases e
abbrev Jn (xs:Nb W)(S:aa):Nf (W×aa):=match xs with
 |[.int i]=>aB (.int i,S)
 |[.bl b]=>aB (.int (if b then 1 else 0),S)
 |_=>ba
def wu:LCall X (.type "int") Jn:=by
 intro J s Y H A S xs vs us w S' I b c a e;cases c with
 |nil=>cases e
 |cons r t=>
  cases t with
  |cons _ _=>cases r<;>cases e
  |nil=>
   cases r with
   |int=>cases e;show CallR.go mz I a (.inl #[_,rfl,.here b .int])
   |bl=>cases e;show CallR.go mz I a (.inr #[_,rfl,.here b .int])
   |_=>cases e
abbrev iE (x:W)(xs:Nb W)(S:aa):Nf (W×aa):=match x,xs with
 |.ref i,[y]=>match pG S i with
  |some a=>if ↥a<sizeLine then aB (.non,S.set i (.lst (a++[y])))else ba
  |none=>ba
 |_,_=>ba
def mM (f:wv X A H S)(e:pG S i=aB c)(d:A[i]?=aB p)(r:RelL X.K A H ws us)(a:Rel X.K A H w v) :
  w1 X A H (S.set i (.lst ws)) w v (aT H p (.lst us)):=by
 obtain⟨b,ex⟩:=f.write (kZ e) d r;show#[A,ex,b,a.mono ex]
def nW:uC X "list.append" iE:=by
 intro J s Y H A S x a u xs vs us w S' I f k i h j e;cases k with
 |ref b=>
  cases h with
  |nil=>cases e
  |cons r t=>
   cases t with
   |cons _ _=>cases e
   |nil=>
    dsimp only[iE]at e;split at e
    ·rename_i m c;split at e
     next hl=>cases e;obtain⟨l,g,d⟩:=eO f c b;rw[↥d]at hl;show MtR.go wc I i j #[_,_,_,rfl,rfl,g,hl,mM f c b (d.append #v[r]) .non]
     ·cases e
    ·cases e
 |_=>cases e
abbrev ky (x:W)(xs:Nb W)(S:aa):Nf (W×aa):=match x,xs with
 |.ref i,[.ref j]=>match pG S i,pG S j with
  |some a,aB b=>if ↥a+↥b<=sizeLine then aB (.non,S.set i (.lst (a++b)))else ba
  |_,_=>ba
 |_,_=>ba
def nX:uC X "list.extend" ky:=by
 intro J s Y H A S x a u xs vs us w S' I b n l k m e;cases n with
 |ref c=>
  cases k with
  |nil=>cases e
  |cons r t=>
   cases t with
   |cons _ _=>cases r<;>cases e
   |nil=>
    cases r with
    |ref h=>
     dsimp only[ky]at e;split at e
     ·rename_i q v d j;split at e
      next hl=>cases e;obtain⟨o,i,f⟩:=eO b d c;obtain⟨p,h2,g⟩:=eO b j h;rw[↥f,↥g]at hl;show MtR.go we I l m #[_,_,_,_,rfl,rfl,i,h2,hl,mM b d c (f.append g) .non]
      ·cases e
     ·cases e
    |_=>cases e
 |_=>cases e
abbrev jn:Nb W->Nf (Nb Nu)
 |[]=>aB []
 |.str x::xs=>(jn xs).map (x :: ·)
 |_::_=>ba
abbrev uE (x:W)(xs:Nb W)(S:aa):Nf (W×aa):=match x,xs with
 |.str x,[y]=>match d8 S y with
  |some b=>match jn b with
   |some a=>if (a.map (·.length)).sum+↥a*↥x<=16777216 then aB (.str (Xk x a),S)else ba
   |none=>ba
  |none=>ba
 |_,_=>ba
def lg:∀{ws:Nb W}{vs:Nb V}{us:Nb Nd}{a:Nb Nu},RelL X.K A H ws vs->Vals vs us->jn ws=aB a->W5 us a
 |_,_,_,a,.nil,.nil,e=>by cases e;show .nil
 |_,_,_,a,.cons r t,.cons q p,e=>by
  cases r with
  |str=>
   (dsimp only[jn]at e;simp only[Nk]at e)
   obtain⟨z,b,c⟩:=e;subst c;obtain⟨tk,rfl⟩:∃t,_=Rb _ t:=q;show .cons _ tk (lg t p b)
  |_=>cases e
def sA:uC X "str.join" uE:=by
 intro J s Y H A S x a u xs vs us w S' I h q n m o e;cases q with
 |str=>
  cases m with
  |nil=>cases e
  |cons r t=>
   cases t with
   |cons _ _=>cases e
   |nil=>
    simp only[uE]at e;split at e
    ·rename_i B l;split at e
     ·rename_i C i;split at e
      ·rename_i hl;cases e;obtain⟨p,y,rfl,b,j⟩:=nT (J:=J) (Y:=Y) (s:=s) h r l;obtain⟨z,rfl⟩:∃t,u=Rb _ t:=n;obtain⟨v,rfl,g⟩:=jM o;have c:v=NR p:=g;subst c;rcases b with b|b
       ·obtain⟨its,f,pl,d⟩:=I.list b;show join_list pl.isList (by simpa using lg j f i) hl λt' k=>#[.str _,H,A,I.tok _,#[_,rfl],.refl,h,.str]
       ·obtain⟨its,f,pl,d⟩:=I.tuple b;show join_tuple pl (by simpa using lg j f i) hl λt' k=>#[.str _,H,A,I.tok _,#[_,rfl],.refl,h,.str]
      ·cases e
     ·cases e
    ·cases e
 |_=>cases e
abbrev dI (S:aa):W->Nf ND
 |.non=>aB false
 |.bl b=>aB b
 |.int i=>aB (i != 0)
 |.str y=>if ↥y<=sizeLine then aB ((↥y:NI) != 0)else ba
 |.tup xs=>aB (!xs.isEmpty)
 |.ref i=>(fw S i).map λxs=>!xs.isEmpty
def jR (r:RelL X.K A H ws vs):(!ws.isEmpty) = !vs.isEmpty:=by cases r<;>rfl
def LF (I:Inv X J Y H s)(n:wv X A H S)(m:Rel X.K A H x a)(l:RelV a u)(e:dI S x=aB k)(j:∀c,Inv X J Y H c->Q k c) :
  wi X (truthy u) Q X.xe s:=by
 show bd (F1 _ s Y H a u (λb h=>b=k/\h=H) I l #[k,?_,rfl,rfl]) λb c #[h,I',e1,d]=>?_
 ·cases m with
  |non=>cases e;rfl
  |bl=>cases e;rfl
  |int=>cases e;rfl
  |str=>
   simp only[dI]at e;split at e
   ·cases e;show#[by assumption,rfl]
   ·cases e
  |tup f g=>cases e;show .inr (.inl #[_,f,jR g])
  |ref i=>
   simp only[dI,Nk]at e;obtain⟨ws,hw,d⟩:=e;subst d;obtain⟨vs,f,g⟩:=bn n hw i;show .inl #[_,f,jR g]
 ·subst e1 d;show j c I'
end
abbrev fG (xs:Nb Nu)(x:Nu):Nb Nu:=if x∈xs then xs else xs++[x]
abbrev ft (ss:Nb Nu):Nb Nu:=ss.foldl fG []
def ww :ft (ss++[x])=fG (ft ss) x:=by unfold ft;rw[List.foldl_append];rfl
def yQ :(fG xs x).length<=↥xs+1:=by
 unfold fG;split
 ·show O6 _
 ·simp
def yR:∀ss:Nb Nu,(ft ss).length<=↥ss:=λss=>by
 unfold ft
 suffices h:∀(ss a:Nb Nu),(ss.foldl fG a).length<=↥a+↥ss by simpa using h ss []
 intro ss
 induction ss with
 |nil=>intro a;simp
 |cons x ss ih=>
  intro a;have b:=ih (fG a x);have h2:=yQ (xs:=a) (x:=x);revert RD Og;omega
abbrev cm (w:NU):OQ:={cls:=.type "set",dict:=ba,data:=.set #[] 0 (.fresh 0 0 (!Jj w))}
def wx :dS w [] (cm w):=#[#[rfl,rfl,rfl],#[],0,_,rfl,#[λe a=>by simp at a,by simp,.nil,#v[],rfl,rfl,λ_=>rfl]]
variable{prog:NM}{A:NY}{R:SG->Nh->Prop}
section
variable{w:NU}{E:Nd->Nh->Prop}{s:Nh}{I:Nl}{fp wr:Nb Nl}{G:N9 RY->N9 RY->Prop}{n:Np}{P:Np->Nd->Prop}{St:Np->Nh->Prop}
def yS (W:WalksS prog w A.in1 I fp wr G n P St)(B:D∉fp)(hl:↥ss=n)(H:∀i v,P i v->∃x tk,ss[i]?=aB x/\v=.str x tk)(O:n+1<scanBound) :
  ∀ k i s o,n-i=k->i<=n->St i s->s.heap.get? D=aB o->dS w (ft (ss.take i)) o->
   (∀f o',Moved (D::wr) G s f->f.heap.get? D=aB o'->dS w (ft ss) o'->R (.ok (.ret .none)) f)->codeAny (model prog w) A (.builtin "set.update.loop" #[[.ref D,.ref I],[]]) R s:=by
 have hw:D∉wr:=λz=>B (W.sub _ z)
 have E:∀b∈wr,b∈D::wr:=λb z=>NL _ z
 intro k
 induction k with
 |zero=>
  intro i s o hk hi st m g h;obtain rfl:i=n:=∅
  show OP F.entry_set_update_loop ?_;rw[Pf F.plain_set_update_loop _];change wpAny _ A.in1 (pyNext (.ref I) >>= _) _ _ s;show Nc (W.done s _ _ st λf mv=>?_)
  show Nm (h f o (mv.mono E) (mv.heap D _ hw m) (by rw[Pj ∅]at g;show g))
 |succ k ih=>
  intro i s o hk hi st m g h;have e:i<n:=∅
  show OP F.entry_set_update_loop ?_;rw[Pf F.plain_set_update_loop _];change wpAny _ A.in1 (pyNext (.ref I) >>= _) _ _ s;show Nc (W.item i s _ _ e st λv a pv y mv=>?_)
  obtain⟨x,tk,J,rfl⟩:=H i v pv;change wpAny _ A.in1 (holding [Rb x tk] (setAdd D (.str x tk)) >>= _) _ _ a;show Nc (Ov ?_);unfold setAdd;show Ov (Nc (Sy ?_));have d:(ft (ss.take i)).length+1<scanBound:=by
   have:=yR (ss.take i);rw[Os]at this;omega
  have L:a.heap.get? D=aB o:=mv.heap D _ hw m;show Cm (s:={a with toks:=a.toks+1}) L g d λb h' o' C p j=>?_
  show Nm #[P0 F.plain_set_update_loop _,ih (i+1) {a with heap:=h',toks:=a.toks+1} o' ∅ e (W.frame _ a _ _ y (O6 _) λc hc u q=>?_) p ?_ λN M t r l=>?_]
  ·rw[C.2 c λz=>B (z▸hc)];show q
  ·rw[List.take_succ,J];change dS w (ft (ss.take i++[x])) o';rw[ww];show j
  ·show h N M (Moved.trans W.gtrans ((mv.mono E).then_heap (O6 _) λc u hc q=>?_) t) r l
   rw[C.2 c λz=>hc (z▸NH)]
   show q
def yT (a:Nd)(h:Q₁ (.ref ⇑s.heap.objs) {s with heap:=s.heap.push (cm w)}):codeAny (model prog w) A (.call (.builtin "set.__new__") #[[.type "set",a],[]]) (wants Q₁ E) s:=by
 show RE ?_;show Nc (Sj (F.newCall_set_1 a) (Nm #[P0 F.plain_set_new _,OP F.entry_set_new ?_]));unfold QD.«set.__new__» VQ;have b:=PySem.sub_set_self;obtain⟨c,g,d,tk,os⟩:=s
 wp_walk
 show wpAny_askSetting (Nm ?_);show Nc (WG (Nm (Nm h)))
set_option maxHeartbeats 4000000 in
def yU {l:Nl}{its:N9 Nd}{ss:Nb Nu}{Q:Nd->Nh->Prop}(T:A.handled=ba)(hl:s.heap.IsList l its)(hi:W5 its.toList ss)(m:↥ss+1<scanBound)
  (h:∀h' tk o,h'.get? ⇑s.heap.objs=aB o->dS w (ft ss) o->(∀b u,s.heap.get? b=aB u->h'.get? b=aB u)->Q (.ref ⇑s.heap.objs) (xa s h' tk)):wh prog w A (call (.type "set") [.ref l]) Q E s:=by
 obtain⟨c,tl,z⟩:=F.called_set.mro;have t:=F.called_set.made;have B:=F.called_set.sub;have V:=F.called_set.notType;have W:=F.called_set.canCreate;have S:=F.typeCall_set_1 (.ref l);show Qu (RE ?_);change wpAny _ _ (callAny (.type "set") _) _ _ _;show Nm #[Q7 _ (by decide +kernel),OP F.entry_type_call ?_]
 rw[Around.under_plain (weight_type_call_type "set" [.ref l] []) rfl]
 repeat (any_goals (first|assumption|wp_step))
 show Py (yT (w:=w) (.ref l) (E:=E) (Q₁:=λobj I=>obj=.ref ⇑s.heap.objs/\I={s with heap:=s.heap.push (cm w)}) #[rfl,rfl]) λr I d=>?_
 match r,d with
 |.ok (.ret obj),d=>
  obtain⟨rfl,rfl⟩:=d;have H:(s.heap.push (cm w)).get? ⇑s.heap.objs=aB (cm w):=Nx _ rfl;have tS:Shared.TypeIs {s with heap:=s.heap.push (cm w)} (.ref ⇑s.heap.objs) "set":=#[_,H,rfl]
  have U:=F.called_set.init.lookup;have P:=F.called_set.init.bind (.ref ⇑s.heap.objs)
  repeat (any_goals (first|assumption|wp_step))
  show Py (Qf (R:=wants (λr J=>r=.none/\∃h' tk o,J=(xa s h' tk)/\h'.get? ⇑s.heap.objs=aB o/\dS w (ft ss) o/\∀b u,s.heap.get? b=aB u->h'.get? b=aB u) E) F.called_set.init.plain F.entry_set_init (check_set_init_1 tS ?_)) λr2 J a=>?_
  ·obtain⟨⟨oc,od,ot,osl⟩,j,f,Y,g⟩:=id hl;simp only at f g;subst f g;have k:=Ng (cm w) j;have C:(s.heap.push (cm w)).IsList l its:=#[_,k,rfl,Y,rfl];have e1:=F.sub_list_set;have e2:=F.sub_list_frozenset;have e3:(PL "list" == PL "dict")=false:=by decide
   unfold QD.«set.__init__» noKeywords Vt;generalize n:pyIter=PI
   wp_walk
   subst n;show QF C (Nc (R5 ?_));have G:l<⇑s.heap.objs:=Nz j;have sz:(s.heap.push (cm w)).objs.size=⇑s.heap.objs+1:=O9 ..;have ne:l≠(s.heap.push (cm w)).objs.size:=by rw[sz];show NJ (PK G)
   show yS ((VR (A:=A.in1.in1.in1) (by simp[T]) _ l ne its).toS) (D:=⇑s.heap.objs) (ss:=ss) (by rw[sz];revert NE Oc Pk U6;show#[NJ (P3 _),On G]) (by rw[<- ↥hi,NP]) (λi v q=>?_) (by rw[<- NP,↥hi];show m) _ 0 _ (cm w) rfl (OW _)
    #[#[_,Nx _ rfl,rfl,rfl],C.push _] (Ng _ H) wx λL Z mv y p=>?_
   ·obtain⟨x,tk,e,X⟩:=hi.item i v (by rw[OR];show q)
    show#[x,tk,X,e]
   ·rw[Moved.eq_with mv];show Nm (Nm #[rfl,L.heap,L.toks,Z,rfl,y,p,λb u q=>?_])
    have m:=Nz q;show mv.heap b u (by rw[sz];revert NE Oc Pk U6;show#[NJ m,NJ (PK m)]) (Ng _ (Ng _ q))
  ·match r2,a with
   |.ok (.ret r),a=>
    obtain⟨rfl,h',tk,o,rfl,M,N,O⟩:=a
    repeat (any_goals (first|assumption|wp_step))
    show h h' tk o M N O
   |.ok .next,a=>show a.elim
   |.ok .brk,a=>show a.elim
   |.ok .cont,a=>show a.elim
   |.error e,a=>show a
 |.ok .next,d=>show d.elim
 |.ok .brk,d=>show d.elim
 |.ok .cont,d=>show d.elim
 |.error e,d=>show d
end
abbrev pS:Nb W->Nf (Nb Nu)
 |[]=>aB []
 |.str x::ws=>(pS ws).map (x :: ·)
 |_::_=>ba
def pT:∀{ws:Nb W}{ss:Nb Nu},pS ws=aB ss->ws=ss.map .str
 |[],_,h=>by cases h;rfl
 |.str x::ws,_,h=>by
  obtain⟨ss,a,rfl⟩:=Nk.mp h;rw[pT a];rfl
 |.non::_,_,h|.bl _::_,_,h|.int _::_,_,h|.tup _::_,_,h|.ref _::_,_,h=>by cases h
def mN:∀{ss:Nb Nu},pS (ss.map .str)=aB ss
 |[]=>rfl
 |x::ss=>by revert Ol pS mN OD
abbrev Jo (S:aa)(i:Np):Nf (Nb Nu):=match S[i]? with
 |some (.sts xs)=>aB xs
 |_=>ba
abbrev Gi (S:aa)(i:Np):Nf (NI×NI):=match S[i]? with
 |some (.rng lo hi)=>aB (lo,hi)
 |_=>ba
abbrev nY (xs:Nb W)(S:aa):Nf (W×aa):=match xs with
 |[.ref i]=>match fw S i with
  |some ws=>match pS ws with
   |some ss=>if ↥ss+1<scanBound then aB (.ref ↥S,S++[.sts (ft ss)])else ba
   |none=>ba
  |none=>ba
 |_=>ba
abbrev Jp (lo:NI)(n:Np):Nb W:=(N2 n).map λ(k:Np)=>.int (lo+(k:NI))
abbrev mO (xs:Nb W)(S:aa):Nf (W×aa):=match xs with
 |[.ref i]=>match Gi S i with
  |some (lo,hi)=>if -(2^62)<=lo/\lo<2^62/\-(2^62)<=hi/\hi<2^62/\(hi-lo).toNat<=sizeLine then aB (.ref ↥S,S++[.lst (Jp lo (hi-lo).toNat)])else ba
  |none=>iD [.ref i] S
 |xs=>iD xs S
section
variable{s:Nh}{A:Nb Nl}
def Inv.drawn (I:Inv X J Y H s)(d:Wy):Inv X J Y H {s with drawn:=d}:=#[I.ok,I.os,I.bare,I.base,I.loc,I.cell,I.free,I.freeC,I.pin,I.hok,I.len]
def pU {D:Nl}(I:Inv X J Y H s)(e:wv X A H S)(hk:∀b o,s.heap.get? b=aB o->h'.get? b=aB o)(d:⇑s.heap.objs<=D)(new:ObjOk X.prog X.w (aT H D u) h' D u)
  (r:H D=ba->ObjRel X.w X.K (A++[D]) (aT H D u) D n):PostE X J Y A H (S++[n]) (.ref ↥S) (.ref D) {s with heap:=h',toks:=tk,drawn:=dr}:=by
 have c:H D=ba:=I.hok.fresh d;show#[.ref D,_,A++[D],Mi.Inv.drawn (I.laid (a:=D) (o:=u) (t':=tk) hk d new) dr,rfl,d7 c,e.pushO c (r c),.ref ?_];rw[<- e.len];simp
def mP:∀{ss:Nb Nu}{vs:Nb V}{us:Nb Nd},RelL X.K A H (ss.map .str) vs->Vals vs us->W5 us ss
 |[],_,_,.nil,a=>by cases a;show .nil
 |x::ss,_,_,.cons r t,a=>by
  cases a with
  |cons b a=>
   cases r;obtain⟨tk,rfl⟩:=b;show .cons x tk (mP t a)
def nZ:∀{vs:Nb V}{us:Nb Nd},↥vs=↥us->(∀(i:Np) v u,vs[i]?=aB v->us[i]?=aB u->L2.RelV v u)->Vals vs us
 |[],[],_,_=>.nil
 |v::vs,u::us,hl,h=>.cons (h 0 v u rfl rfl) (nZ (by simpa using hl) λi v u a b=>h (i+1) v u (by simpa using a) (by simpa using b))
 |[],_::_,hl,_=>by cases hl
 |_::_,[],hl,_=>by cases hl
def n4 {K:Nr}{lo:NI}:∀(l:Nb Np),RelL K A H (l.map λ(k:Np)=>W.int (lo+k)) (l.map λ(k:Np)=>V.int (lo+k))
 |[]=>.nil
 |_::l=>.cons .int (n4 l)
def kz {xs:Nb W}(d:RelL X.K A H [.ref i] vs)(b:Vals vs us):∃a,A[i]?=aB a/\us=[.ref a]:=by
 cases d with
 |cons r t=>
  cases t;cases r with
  |@ref _ a c=>
   cases b with
   |cons e b=>
    cases b;obtain rfl:_=NR a:=e;show#[a,c,rfl]
def wy (n:X.A.handled=ba):LCall X (.type "set") nY:=by
 intro J s Y H A S xs vs us w S' I g t v e;unfold nY at e;split at e
 next i=>
  obtain⟨a,j,rfl⟩:=kz (xs:=[]) t v;split at e
  next ws hw=>
   split at e
   next ss r=>
    split at e
    ·rename_i m;cases e;obtain⟨x,d,f⟩:=bn g hw j;obtain⟨its,c,p,_⟩:=I.list d;rw[pT r]at f;show yU n p.isList (by simpa using mP f c) m λh' tk o b l hk=>?_
     show pU (dr:=s.drawn) (u:=.frz o (.ext λh=>h.get? ⇑s.heap.objs=aB o)) I g hk (Ny _) #[b,b,#[o,b],λd h2 q k=>k _ q] λ_=>#[o,_,aA,l]
    ·cases e
   ·cases e
  ·cases e
 ·cases e
def Gj (I:Inv X J Y H s)(d:wv X A H S)(h:Jo S i=aB ss)(b:A[i]?=aB a):∃o,s.heap.get? a=aB o/\dS X.w ss o:=by
 unfold Jo at h;split at h
 next xs c=>cases h;obtain⟨o,φ,q,r⟩:=d.obj i _ a c b;show#[o,(show ObjOk X.prog X.w H s.heap a (.frz o (.ext φ))from I.hok a _ q).1,r]
 ·cases h
def pV (x:X.A.handled=ba):LCall X (.type "list") mO:=by
 intro J s Y H A S xs vs us w S' I h j l e;unfold mO at e;split at e
 next i=>
  split at e
  next lo hi g=>
   split at e
   next r=>
    cases e;obtain⟨a,o,rfl⟩:=kz (xs:=[]) j l;obtain⟨b1,b2,b3,b4,b5⟩:=r;have q:H a=aB (.rng lo hi):=by
     unfold Gi at g;split at g
     next B=>cases g;show h.obj i _ a B o
     ·cases g
    obtain⟨t,u,v,y⟩:=I.hok a _ q;have m:Pd lo hi 1=((hi-lo).toNat):=by rw[TU];split<;>omega
    show call_list_range x y (Wg b1 b2 b3 b4) m b5 λh' tk d c hk p b=>?_
    have z:Vals ((N2 (hi-lo).toNat).map λ(k:Np)=>V.int (lo+k)) d.toList:=by
     show nZ (by rw[Ni,Oz,NP,b.1]) λi v u f n=>?_
     rw[Nw,Nk]at f;obtain⟨k,f,rfl⟩:=f;obtain⟨hk,rfl⟩:=NA.mp f;obtain⟨t,rfl⟩:=b.2 i u (by rw[<- OR];show n)
     show#[t,by simp]
    show pU  (u:=.lst _) I h hk (Ny _) #[by simpa using b5,d.toList,c,z,by simpa using p] λm=>#[_,aA,?_]
    show n4 _
   ·cases e
  ·show gX _ s Y H A S _ vs us w S' I h j l e
 ·show gX _ s Y H A S _ vs us w S' I h j l e
end
mutual
inductive IsT (h:N6):T->Nd->Prop
 |int {i:NI}{t:WL}:IsT h (.int i) (.int i t)
 |str {x:Nu}{t:WL}:IsT h (.str x) (.str x t)
 |tup {ks:Nb T}{a:Nl}{o:OQ}{items:N9 Nd}{n:Np}:h.get? a=aB o->o.cls=.type "tuple"->o.data=.seq items n->IsTs h ks items.toList->IsT h (.tup ks) (.ref a)
inductive IsTs (h:N6):Nb T->Nb Nd->Prop
 |nil:IsTs h [] []
 |cons {k:T}{v:Nd}{ks:Nb T}{vs:Nb Nd}:IsT h k v->IsTs h ks vs->IsTs h (k::ks) (v::vs)
end
def IsT.inj (g:IsT h x v):IsT h y v->x=y:=by
 show IsT.rec (motive_1:=λx v _=>∀y,IsT h y v->x=y) (motive_2:=λx v _=>∀y,IsTs h y v->x=y) ?_ ?_ ?_ ?_ ?_ g y
 ·intro _ _ _ h2;cases h2;rfl
 ·intro _ _ _ h2;cases h2;rfl
 ·intro _ _ _ _ _ e _ f _ ih _ h2;cases h2 with
  |tup a _ b t2=>
   rw[e]at a;cases a
   rw[f]at b;cases b
   rw[ih _ t2]
 ·intro _ h2;cases h2;rfl
 ·intro _ _ _ _ _ _ i1 i _ h2;cases h2 with
  |cons c d=>rw[i1 _ c,i _ d]
def IsT.keeps (f:h.get? d=aB o)(hd:o.data=.dict j i)(l:PR d h h')(k:IsT h x v):IsT h' x v:=by
 show IsT.rec (motive_1:=λx v _=>IsT h' x v) (motive_2:=λx v _=>IsTs h' x v) .int .str ?_ .nil (λ_ _ a b=>.cons a b) k
 intro _ _ _ _ _ c g e _ ih;show .tup ((l.2 _ λz=>by subst z;rw[c]at f;cases f;rw[e]at hd;cases hd).trans c) g e ih
def IsTs.length :∀{x:Nb T}{v:Nb Nd},IsTs h x v->↥x=↥v
 |_,_,.nil=>rfl
 |_,_,.cons _ b=>by simp[IsTs.length b]
def IsTs.get :∀{x:Nb T}{v:Nb Nd},IsTs h x v->∀ j c (h2:j<↥v),IsT h x[j] v[j]:=by
 intro x
 induction x with
 |nil=>intro v r j c;show absurd c (Vu _)
 |cons x xs ih=>
  intro v r j c h2;cases r with
  |cons a b=>
   cases j with
   |zero=>show a
   |succ j=>show ih b j (SL c) (SL h2)
def dv:∀{ks:Nb T} j (h:j<↥ks),(ks[j]).depth<=T.depths ks
 |k::ks,0,_=>by revert T.depths List.getElem_cons_zero;omega
 |k::ks,j+1,h=>by
  have:=dv  j (by simpa using h)
  delta T.depths List.getElem_cons_succ;omega
section
variable{w:NU}{E:Nd->Nh->Prop}
mutual
theorem pW:∀(k:T) (v:Nd) (A:NY) (s:Nh) (Q:NI->Nh->Prop),IsT s.heap k v->A.units+k.depth<cLine->Q (pP w k) {s with toks:=s.toks+k.draws}->wh prog w A (pyHash v) Q E s
 |.int i,_,A,s,Q,x,_,h=>by cases x;show UT h
 |.str y,_,A,s,Q,x,_,h=>by cases x;show Sy h
 |.tup ks,_,A,s,Q,x,hu,h=>by
  cases x with
  |@tup _ a o items n hg hc hd hw=>
   simp only[T.depth]at hu;show PySem.W.pyHash_slot (T:="tuple") #[_,hg,hc] F.slot_tuple_hash F.entry_tuple_hash (F.args_tuple_hash_1 _) (beq_builtin_none _) (.inr ∅) ?_
   change wpAny _ _ (QJ (.ref a) >>= _) _ _ s;show Nc (wpAny_tupleItemsOf hg hd ?_);show Nc ?_;rw[<- Uh];show lh ks items.toList A.in1 s #[] _ hw (by rw[be];omega) λb hb=>?_
   change wpAny _ _ (retInt (Sf b.toList)) _ _ _;rw[hb];show Nc (Vn (Nm #[_,_,rfl,?_]))
   simpa [T.draws,Wa,pP]using h
theorem lh:∀(ks:Nb T) (vs:Nb Nd) (A:NY) (s:Nh) (b:N9 NI) (Q:N9 NI->Nh->Prop),IsTs s.heap ks vs->A.units+T.depths ks<cLine->
  (∀b',b'.toList=b.toList++kY w ks->Q b' {s with toks:=s.toks+T.drawss ks})->
  wh prog w A (forIn vs b λx r=>do let h <- pyHash x;pure PUnit.unit;pure (Pn (r.push h))) Q E s
 |[],_,A,s,b,Q,x,_,h=>by cases x;show Nm (h b (by simp[kY]))
 |k::ks,_,A,s,b,Q,x,hu,h=>by
  cases x with
  |cons x1 x2=>
   simp only[T.depths]at hu;rw[RH];show Nc (Nc (pW k _ A s _ x1 ∅ ?_))
   show Nc (Nm (Nm ?_));show lh ks _ A _ _ Q x2 ∅ λb' hb=>?_
   have:=h b' (by simp[hb,kY])
   simpa [T.drawss,Wa]using this
end
open SeqAt in
def wz:∀(d:Np) (x y:T) (u v:Nd) (B:NY) (s:Nh),x.depth<=d->IsT s.heap x u->IsT s.heap y v->B.units+d<cLine->B.units+y.depth<cLine->EqAt B s u v (decide (x=y))
 |d,.int i,y,_,_,B,s,_,k,h2,I,m=>by
  cases k;cases h2 with
  |int=>
   rename_i j t2;have:decide (T.int i=T.int j)=(i==j):=by by_cases e:i=j<;>simp[e]
   rw[this];show .int_int _ _ _ _
  |str=>rw[N5 (by simp)];show .int_str _ _ _ _
  |tup a c dd t=>rw[N5 (by simp)];show .int_tuple _ _ #[_,a,c,_,dd] (by simp only[T.depth]at m;omega)
 |d,.str z,y,_,_,B,s,_,k,h2,I,m=>by
  cases k;cases h2 with
  |int=>rw[N5 (by simp)];show .str_int _ _ _ _
  |str=>
   rename_i J t2;have:decide (T.str z=T.str J)=(z==J):=by by_cases e:z=J<;>simp[e]
   rw[this];show .str_str _ _ _ _
  |tup a c dd t=>rw[N5 (by simp)];show .str_tuple _ _ #[_,a,c,_,dd] (by simp only[T.depth]at m;omega)
 |0,.tup ks,y,_,_,B,s,hd,k,h2,I,m=>by simp[T.depth]at hd
 |d+1,.tup ks,y,_,_,B,s,hd,k,h2,I,m=>by
  have C:=k;cases k with
  |@tup _ a o items n P Q R O=>
   have D:s.heap.IsTuple a items:=#[_,P,Q,_,R];simp only[T.depth]at hd;cases h2 with
   |int=>rw[N5 (by simp)];show .tuple_int _ _ D ∅
   |str=>rw[N5 (by simp)];show .tuple_str _ _ D ∅
   |@tup g b Y f X L M N t2=>
    have E:s.heap.IsTuple b f:=#[_,L,M,_,N]
    by_cases p:a=b
    ·subst p;have:T.tup ks=T.tup g:=C.inj (.tup L M N t2);rw[N4 this];show EqAt.same _
    ·show EqAt.of_refs p ?_;simp only[T.depth]at m;have w:⇑items=↥ks:=by rw[<- NP,↥O]
     have A:⇑f=↥g:=by rw[<- NP,t2.length]
     let e:Np->ND:=λj=>if h:j<↥ks/\j<↥g then decide (ks[j]'h.1=g[j]'h.2)else true
     have V:∀j (k:j<⇑items) (h2:j<⇑f),EqAt B.in1 s items[j] f[j] (e j):=λj q r=>by
      have S:=O.get j (w▸q) (by simpa using q)
      have U:=t2.get j (A▸r) (by simpa using r)
      have Z:=dv (ks:=ks) j (w▸q);have q2:=dv (ks:=g) j (A▸r);have:=wz d _ _ _ _ B.in1 s ∅ S U (by rw[be];omega) (by rw[be];omega)
      change EqAt B.in1 s items[j] f[j] (if h:j<↥ks/\j<↥g then decide (ks[j]'h.1=g[j]'h.2)else true)
      rw[W6 #[w▸q,A▸r]]
      simpa using this
     have:=RcAt.tuples D E ∅ V
     have hk:((N2 (min ⇑items ⇑f)).all e&&⇑items==⇑f)=decide (T.tup ks=T.tup g):=by
      rw[w,A]
      by_cases hl:↥ks=↥g
      ·by_cases H:ks=g
       ·subst H;revert Wu Ot Wb decide_true NB Oh;intro j l;show(if h:j<↥ks/\j<↥ks then decide (ks[j]'h.1=ks[j]'h.2)else true)=true
        rw[W6 #[l,l]];simp
       ·rw[N5 (by simpa using H)]
        have:∃j,∃h:j<↥ks,ks[j]≠g[j]'(hl▸h):=by
         apply Sg;intro W;show H (Qp hl λj k h2=>Sg λz=>W #[j,k,z])
        obtain⟨j,l,G⟩:=this;rw[Ta];apply Or.inl;rw[List.all_eq_false];show#[j,by rw[Oh,<- hl,Wu];show l,?_]
        show ¬ (if h:j<↥ks/\j<↥g then decide (ks[j]'h.1=g[j]'h.2)else true)=true
        rw[W6 #[l,hl▸l]]
        simpa using G
      ·rw[N5 (by simp;intro z;show hl (by rw[z])),Ta]
       right
       simpa using hl
     rw[hk]at this;show this
def mQ (h:∀a,v≠.ref a):eqIsQuiet n v=pure true:=by
 cases v with
 |ref a=>show absurd rfl (h a)
 |_=>first|rfl|simp[eqIsQuiet]|(rfl)
def uF:∀ d k v A s Q,k.depth<=d->IsT s.heap k v->Q true s->wh prog w A (eqIsQuiet d v) Q E s
 |d,.int i,_,A,s,Q,_,x,h=>by cases x;rw[mQ (λa=>by simp)];show Nm h
 |d,.str i,_,A,s,Q,_,x,h=>by cases x;rw[mQ (λa=>by simp)];show Nm h
 |0,.tup ks,_,A,s,Q,hd,x,h=>by simp[T.depth]at hd
 |d+1,.tup ks,_,A,s,Q,hd,x,h=>by
  cases x with
  |@tup _ a o items n l hc e hi=>
   simp only[T.depth]at hd;have j:s.TypeIs (.ref a) _:=#[_,l,hc];unfold eqIsQuiet;show Nc (wpAny_specialOf j F.slot_tuple_eq.lookup ?_);show Nc (Rt j isSubtype_tuple_tuple ?_);show Nc (Pl l e ?_);show Nc ?_;rw[<- Uh];show U5 _ (λaO r g=>r.1=ba/\g=s/\∃f,IsTs _ f aO/\T.depths f<=d) _ ?_ ?_ _ _ #[rfl,rfl,ks,hi,∅]
   ·rintro v aO r g ⟨m,rfl,f,b,c⟩;cases b with
    |cons p q=>
     simp only[T.depths]at c;show Nc (uF d _ v _ _ _ ∅ p ?_)
     show Nm #[rfl,rfl,_,q,∅]
   ·rintro⟨t,u⟩ g ⟨m,rfl,_⟩;subst m;show Nm h
end
abbrev dw (prog:NM)(w:NU):HeapKind prog w T where
 is:=λh k a=>IsT h k (.ref a)/\k.depth<=aX
 hash:=pP w
 draws:=T.draws
 room:=λA=>A.units+aX<cLine
 inj:=λb c=>b.1.inj c.1
 keeps:=λx e hd f=>#[x.1.keeps e hd f,x.2]
 pyHash:=λd hk h=>pW _ _ _ _ _ hk.1 (by have:=hk.2;omega) h
 eqBool:=λd b c h=>wz aX _ _ _ _ _ _ b.2 b.1 c.1 d (by have:=c.2;omega) _ _ _ _ h
 quiet:=λhk h=>uF 8 _ _ _ _ _ (by have:=hk.2;unfold aX at this;omega) hk.1 h
mutual
def jo:T->ND
 |.int _=>true
 |.str _=>false
 |.tup xs=>dL xs
def dL:Nb T->ND
 |[]=>true
 |x::xs=>jo x&&dL xs
end
abbrev lj (S:aa)(i:Np):Nf (Nb (T×W)):=match S[i]? with
 |some (.dic U)=>aB U
 |some (.frd U)=>aB U
 |_=>ba
abbrev yV (S:aa)(i:Np):Nf (Nb (T×W)):=match S[i]? with
 |some (.dic U)=>aB U
 |_=>ba
abbrev eP (U:Nb (T×W))(k:T):Nf W:=(U.find? λp=>decide (p.1=k)).map (·.2)
abbrev mo (U:Nb (T×W))(k:T)(v:W):Nb (T×W):=
 if (U.any λp=>decide (p.1=k))=true then U.map (λp=>if p.1=k then(p.1,v)else p)else U++[(k,v)]
abbrev mq (w:W):Nf T:=match W.t w with
 |some k=>if k.isTup=true/\k.depth<=aX then aB k else ba
 |none=>ba
def fX (h:mq w=aB k):k.w=w/\k.isTup=true/\k.depth<=aX:=by
 unfold mq at h;split at h
 next a hk=>
  split at h
  next hc=>cases h;show#[W.t_w hk,hc.1,hc.2]
  ·cases h
 ·cases h
def pX (U:Nb (T×W))(k:T)(v:W):(mo U k v).length<=↥U+1:=by
 unfold mo;split
 ·rw[Ni];show P4 _ _
 ·rw[Nq,Og,Qc];show Ny _
section
variable{s:Nh}{A:Nb Nl}
mutual
theorem jp (I:Inv X J Y H s):∀(k:T) {v:V}{u:Nd},Rel X.K A H k.w v->RelV v u->IsT s.heap k u
 |.int i,_,_,r,q=>by
  cases r;obtain⟨t,rfl⟩:∃t,_=Sw _ t:=q;show .int
 |.str x,_,_,r,q=>by
  cases r;obtain⟨t,rfl⟩:∃t,_=Rb _ t:=q;show .str
 |.tup ks,_,_,r,q=>by
  simp only[T.w]at r;cases r with
  |tup sq rl=>
   obtain⟨its,rv,⟨o,h1,h2,n,h3⟩,hz⟩:=I.tuple sq;obtain rfl:_=NR _:=q;show .tup h1 h2 h3 (fY I ks rl (by simpa using rv))
theorem fY (I:Inv X J Y H s):∀(ks:Nb T) {vs:Nb V}{us:Nb Nd},RelL X.K A H (T.ws ks) vs->Vals vs us->IsTs s.heap ks us
 |[],_,_,r,q=>by
  simp only[T.ws]at r;cases r;cases q;show .nil
 |k::ks,_,_,r,q=>by
  simp only[T.ws]at r;cases r with
  |cons r1 r2=>
   cases q with
   |cons q1 q2=>show .cons (jp I k r1 q1) (fY I ks r2 q2)
end
def n6 (I:Inv X J Y H s)(r:Rel X.K A H k.w (.ref b))(hd:k.depth<=aX):(dw X.prog X.w).is s.heap k b:=#[jp I k r rfl,hd]
def og (hk:mq w=aB k)(r:Rel X.K A H w v)(q:RelV v u):∃b,v=.ref b/\u=.ref b/\Rel X.K A H k.w (.ref b):=by
 obtain⟨c,h2,d⟩:=fX hk;subst c;cases k with
 |tup ks=>
  cases r with
  |tup a b=>show#[_,rfl,q,by show .tup a b]
 |_=>cases h2
def KRel.is (I:Inv X J Y H s)(r:KRel X.K A H U xs):∀x∈xs,(dw X.prog X.w).is s.heap x.1 x.2.1:=by
 induction r with
 |nil=>intro x a;show nomatch a
 |@cons p q ps f h t ih=>
  intro x a;rcases NE.mp a with e|a
  ·subst e;obtain⟨d,h2,b,c,_⟩:=h;rw[d]at b c;show n6 I c b
  ·show ih x a
def KRel.length (r:KRel X.K A H U xs):↥U=↥xs:=Sn r
def KRel.val (r:KRel X.K A H U xs)(k:T) :
  (∀w,eP U k=aB w->∃p v,atKey xs k=aB p/\Rel X.K A H w v/\RelV v p.2)/\(eP U k=ba->atKey xs k=ba):=by
 induction r with
 |nil=>show#[λw h=>(nomatch h),λ_=>rfl]
 |@cons p q ps d h t ih=>
  obtain⟨f,_,_,_,v,g,i⟩:=h
  by_cases e:p.1=k
  ·have c:=f.symm.trans e;have a:eP (p::ps) k=aB p.2:=by simp[eP,e]
   have b:atKey (q::d) k=aB q.2:=by simp[atKey,c]
   rw[a,b];show#[λw hw=>(by cases hw;show#[_,v,rfl,g,i]),λh=>nomatch h]
  ·have c:¬ q.1=k:=λz=>e (f.trans z)
   have a:eP (p::ps) k=eP ps k:=by simp[eP,e]
   have b:atKey (q::d) k=atKey d k:=by simp[atKey,c]
   rw[a,b];show ih
def KRel.repl (r:KRel X.K A H U xs)(k:T)(b:Rel X.K A H w v)(g:RelV v u) :
  KRel X.K A H (U.map λp=>if p.1=k then(p.1,w)else p) (xs.map (putAt k u)):=by
 induction r with
 |nil=>show .nil
 |@cons p q ps i h t ih=>
  rw[Ol,Ol];show .cons ?_ ih;obtain⟨a,h2,c,d,f⟩:=h;unfold putAt
  by_cases e:p.1=k
  ·rw[NK e,NK (a.symm.trans e)];show#[a,h2,c,d,v,b,g]
  ·rw[N1 e,N1 (λz=>e (a.trans z))];show#[a,h2,c,d,f]
def pY (k:T):∀U:Nb (T×W),(U.any λp=>decide (p.1=k))=(eP U k).isSome
 |[]=>rfl
 |p::r=>by
  rw[Pz]
  by_cases e:p.1=k
  ·have a:eP (p::r) k=aB p.2:=by simp[eP,e]
   rw[a,N4 e];rfl
  ·have a:eP (p::r) k=eP r k:=by simp[eP,e]
   rw[a,N5 e,Sq];show pY k r
def KRel.put (r:KRel X.K A H U xs)(d:k.isTup=true)(h2:k.depth<=aX)(f:Rel X.K A H k.w (.ref b))(a:Rel X.K A H w v)(c:RelV v u) :
  KRel X.K A H (mo U k w) (storedH xs k b u):=by
 have e:(U.any λp=>decide (p.1=k))=(atKey xs k).isSome:=by
  rw[pY];cases q:eP U k with
  |none=>rw[(r.val k).2 q];rfl
  |some x=>obtain⟨p,_,h,_⟩:=(r.val k).1 x q;rw[h];rfl
 unfold mo storedH;rw[e]
 by_cases q:(atKey xs k).isSome=true
 ·rw[NK q,NK q];show r.repl k a c
 ·rw[N1 q,N1 q];show Paired.snoc r #[rfl,d,h2,f,v,a,c]
def DicAt.of (c:↥xs<=sizeLine)(b:(a==sysModules)=false)(d:h.DictOfH (dw X.prog X.w) a xs):DicAt X.w a xs h:=
 let ⟨o,es,ep,h1,h2,h3,h4,_,h6⟩:=d;#[c,b,h6,o,es,ep,h1,h2,h3,h4]
def DicAt.stay (d:DicAt wd a xs h)(k:∀o,h.get? a=aB o->h'.get? a=aB o):DicAt wd a xs h':=
 let ⟨h0,hs,hn,o,es,ep,h1,h2⟩:=d;#[h0,hs,hn,o,es,ep,k _ h1,h2]
def DicAt.ok (d:DicAt wd a xs h):ObjOk P wd H h a (iB wd a xs):=
 #[d,let ⟨_,_,_,o,_,_,h1,_⟩:=d;#[o,h1],λ_ _ p k=>p.stay k]
def cH (I:Inv X J Y H s)(e:Rd H a (iB X.w a xs)):DicAt X.w a xs s.heap:=(e.ok I.hok).1
def DicAt.dict (d:DicAt X.w a xs s.heap)(I:Inv X J Y H s)(r:KRel X.K A H U xs):s.heap.DictOfH (dw X.prog X.w) a xs:=
 let ⟨_,_,hn,o,es,ep,h1,h2,h3,h4⟩:=d;#[o,es,ep,h1,h2,h3,h4,r.is I,hn]
def gY (c:wv X A H S)(e:lj S i=aB U)(b:A[i]?=aB a):∃xs,Rd H a (iB X.w a xs)/\KRel X.K A H U xs:=by
 unfold lj at e;split at e
 next k h=>cases e;obtain⟨xs,q,r⟩:=c.obj i _ a h b;show#[xs,.inl q,r]
 next k h=>cases e;obtain⟨o,xs,q,r⟩:=c.obj i _ a h b;show#[xs,.inr #[o,q],r]
 ·cases e
def uG (e:yV S i=aB U):S[i]?=aB (.dic U):=by
 unfold yV at e;split at e
 next h=>cases e;show h
 ·cases e
def CJ (c:wv X A H S)(e:yV S i=aB U)(b:A[i]?=aB a):∃xs,H a=aB (iB X.w a xs)/\KRel X.K A H U xs:=
 c.obj i _ a (uG e) b
def uH {B:NY}(a:B.units+10<cLine):(dw X.prog X.w).room B.in1:=by
 change B.in1.units+aX<cLine;rw[be];unfold aX;omega
abbrev mR (x y:W)(S:aa):Nf (W×aa):=match x,y with
 |.ref r,.tup ks=>match lj S r,mq (.tup ks)with
  |some U,aB k=>(eP U k).map λw=>(w,S)
  |_,_=>ba
 |x,y=>wo x y S
def LG (m:X.A.units+10<cLine):LIx X mR:=by
 intro j h J s Y H A S x y a b u v w S' I i t o z q e l
 by_cases f:∃r ks,x=.ref r/\y=.tup ks
 ·obtain⟨r,ks,rfl,rfl⟩:=f;dsimp only[mR]at e;split at e
  next U k g c=>
   rw[Nk]at e;obtain⟨N,B,C⟩:=e;cases C;cases t with
   |ref D=>
    obtain⟨xs,L,n⟩:=gY i g D;have d:=cH I L;have dd:=d.dict I n;obtain⟨bk,rfl,rfl,rk⟩:=og c z q;obtain⟨p,M,E,h2,G⟩:=(n.val k).1 _ B;obtain rfl:u=NR _:=o;show Rh  dd.typeIs slot_dict_getitem.lookup
     (wpAny_getItem_heap  (uH m) (n6 I rk (fX c).2.2) dd E #[rfl,M,H,A,I.tok _,G,.refl,i,h2]) l
  ·cases e
 ·have:mR x y S=wo x y S:=by
   cases x<;>cases y<;>first|rfl|show absurd #[_,_,rfl,rfl] f
  rw[this]at e;show MU m _ _ _ s Y H A S x y a b u v w S' I i t o z q e l
abbrev kn (o i v:W)(S:aa):Nf aa:=match o,i with
 |.ref r,.tup ks=>match yV S r,mq (.tup ks)with
  |some U,aB k=>if ↥U<sizeLine then aB (S.set r (.dic (mo U k v)))else ba
  |_,_=>ba
 |o,i=>wp o i v S
def Jq (B:X.A.units+10<cLine):LSet X kn:=by
 intro J s Y H A S o i x N M O L V m S' I w E j D h G l e
 by_cases f:∃r ks,o=.ref r/\i=.tup ks
 ·obtain⟨r,ks,rfl,rfl⟩:=f;dsimp only[kn]at e;split at e
  next U k b c=>
   split at e
   next hl=>
    cases e;cases E with
    |ref z=>
     obtain⟨xs,p,v⟩:=CJ w b z;have d:=cH I (.inl p);have dd:=d.dict I v;obtain⟨bk,rfl,rfl,rk⟩:=og c D h;obtain⟨W,T,C⟩:=fX c;obtain rfl:L=NR _:=j;have R:↥xs<=sizeLine:=by rw[<- ↥v];omega
     show wpAny_setItem_heap (hsz:=R) (uH B) (n6 I rk C) dd λh' a Q=>?_
     have g:=v.put T C rk G l;have t:(storedH xs k bk m).length<=sizeLine:=by
      rw[<- ↥g];have:=pX U k x;omega
     have P:DicAt X.w _ (storedH xs k bk m) h':=.of t d.2.1 a;obtain⟨y,ex⟩:=w.writeO (uG b) rfl z (u:=iB X.w _ (storedH xs k bk m)) (n:=.dic (mo U k x)) #[_,aA,g.mono (bc (.ext p))];show#[_,A,uq I (by rw[p];show R6) Q (let ⟨q,_,_,hq,_⟩:=a;#[q,hq]) P.ok,ex,y]
   ·cases e
  ·cases e
 ·have:kn o i x S=wp o i x S:=by
   cases o<;>cases i<;>first|rfl|show absurd #[_,_,rfl,rfl] f
  rw[this]at e;show lset B J s Y H A S o i x N M O L V m S' I w E j D h G l e
abbrev KU (x:W)(i:Np)(S:aa):Nf ND:=match W.t x,fw S i with
 |some k,aB a=>match W.ts a with
  |some ks=>if k.depth<=aX/\T.depths ks<=aX then aB (decide (k∈ks))else ba
  |none=>ba
 |_,_=>ba
abbrev Gk (x:W)(a:Nb W):Nf ND:=match W.t x,W.ts a with
 |some k,aB ks=>if k.depth<=aX/\T.depths ks<=aX then aB (decide (k∈ks))else ba
 |_,_=>ba
def uI :∀{ks:Nb T}{vs:Nb Nd},IsTs h ks vs->∀v∈vs,∃k∈ks,IsT h k v:=by
 intro ks
 induction ks with
 |nil=>intro vs r v c;cases r;cases c
 |cons k ks ih=>
  intro vs r v c;cases r with
  |cons a b=>
   rcases NE.mp c with rfl|c
   ·show#[_,.head _,a]
   ·obtain⟨k,hk,q⟩:=ih b v c;show#[k,.tail _ hk,q]
abbrev BG (h:N6)(k:T)(v:Nd):ND:=@decide (IsT h k v) (Wk _)
def sB (x:IsT h a v):BG h k v=decide (a=k):=by
 unfold BG
 by_cases e:a=k
 ·subst e;revert x
 ·have:¬ IsT h k v:=λy=>e (x.inj y)
  revert e this
def oh :∀{ks:Nb T}{vs:Nb Nd},IsTs h ks vs->vs.any (BG h k)=decide (k∈ks)
 |_,_,.nil=>by rfl
 |_,_,.cons (k:=c) a b=>by
  rw[Pz,sB a,oh b]
  by_cases e:c=k
  ·simp[e]
  ·have:¬ k=c:=λz=>e z.symm
   simp[e,this]
def lq:∀{ks:Nb T}{k:T},k∈ks->k.depth<=T.depths ks
 |x::ks,k,h=>by
  revert T.depths;rcases NE.mp h with rfl|h
  ·omega
  ·have:=lq h;omega
def yW (E:X.A.units+10<cLine)(I:Inv X J Y H s)(D:wv X A H S)(B:Rel X.K A H x a)(w:RelV a u)(C:Rel X.K A H (.ref i) b)(z:RelV b v)(e:KU x i S=aB c) :
  ∃l its k ks,v=.ref l/\s.heap.IsList l its/\(∀y,y∈its->Rr X.A.in1 s y u (BG s.heap k y))/\its.any (BG s.heap k)=c/\c=decide (k∈(ks:Nb T)):=by
 unfold KU at e;split at e
 next k G n h2=>
  split at e
  next ks o=>
   split at e
   ·cases e;cases C with
    |ref h=>
     obtain⟨vs,j,m⟩:=bn D h2 h;obtain⟨its,f,p,_⟩:=I.list j;obtain rfl:v=NR _:=z;have g:=fY I ks ((W.ts_w o).symm▸m) f;have hk:=jp I k ((W.t_w n).symm▸B) w;show#[_,its.toArray,k,ks,rfl,p.isList,λy r=>?_,by rw[U7];show oh g,rfl]
     obtain⟨t,d,q⟩:=uI g y (by simpa using r)
     rw[sB q];have:=lq d;have kl:aX=6:=rfl;show wz _ t k _ _ _ _ ∅ q hk (by rw[be];omega) (by rw[be];omega)
   ·cases e
  ·cases e
 ·cases e
def CM (C:X.A.units+10<cLine)(I:Inv X J Y H s)(z:Rel X.K A H x a)(t:RelV a u)(B:Rel X.K A H (.tup h) b)(w:RelV b v)(e:Gk x h=aB c) :
  ∃l its k,v=.ref l/\s.heap.IsTuple l its/\(∀y,y∈its->Rr X.A.in1 s y u (BG s.heap k y))/\its.any (BG s.heap k)=c:=by
 unfold Gk at e;split at e
 next k ks m n=>
  split at e
  ·cases e;cases B with
   |@tup _ l vs i j=>
    obtain⟨its,f,p,_⟩:=I.tuple i;obtain rfl:v=NR _:=w;have g:=fY I ks ((W.ts_w n).symm▸j) f;have hk:=jp I k ((W.t_w m).symm▸z) t;show#[_,its.toArray,k,rfl,p,λy o=>?_,by rw[U7];show oh g]
    obtain⟨r,d,q⟩:=uI g y (by simpa using o)
    rw[sB q];have:=lq d;have kl:aX=6:=rfl;show wz aX r k _ _ _ _ ∅ q hk (by rw[be];omega) (by rw[be];omega)
  ·cases e
 ·cases e
abbrev yX (o:COp)(x y:W)(S:aa):Nf (W×aa):=match o,y with
 |.isin,.ref i=>match lj S i with
  |some U=>(mq x).map λk=>(.bl (eP U k).isSome,S)
  |none=>match x with
   |.tup xs=>(KU (.tup xs) i S).map λb=>(.bl (b),S)
   |x=>dH .isin x (.ref i) S
 |.notin,.ref i=>match lj S i with
  |some U=>(mq x).map λk=>(.bl (!(eP U k).isSome),S)
  |none=>match x with
   |.tup xs=>(KU (.tup xs) i S).map λb=>(.bl (!b),S)
   |x=>dH .notin x (.ref i) S
 |.isin,.tup a=>match x with
  |.tup xs=>(Gk (.tup xs) a).map λb=>(.bl b,S)
  |x=>dH .isin x (.tup a) S
 |o,y=>dH o x y S
def yY (Q:X.A.units+ee<cLine)(o:COp):LOp X (compareOp o.py) (yX o):=by
 intro J s Y H A S x y a b u v w S' I n B t C z e;have get:∀{i:Np}{U:Nb (T×W)}{k:T},y=.ref i->lj S i=aB U->mq x=aB k->∃d c xs,v=.ref d/\u=.ref c/\(d==sysModules)=false/\(dw X.prog X.w).is s.heap k c/\s.heap.DictOfH (dw X.prog X.w) d xs/\(eP U k).isSome=(atKey xs k).isSome:=by
  intro i U k R g f;subst R;cases C with
  |ref O=>
   obtain⟨xs,V,E⟩:=gY n g O;have d:=cH I V;obtain⟨bk,rfl,rfl,rk⟩:=og f B t;obtain rfl:v=NR _:=z;show#[_,bk,xs,rfl,rfl,d.2.1,n6 I rk (fX f).2.2,d.dict I E,?_];cases q:eP U k with
   |none=>rw[(E.val k).2 q];rfl
   |some Z=>obtain⟨p,_,P,_⟩:=(E.val k).1 _ q;rw[P];rfl
 have m:dH o x y S=aB (w,S')->wi X (compareOp o.py u v) (PostE X J Y A H S' w) X.xe s:=λh=>iC Q o J s Y H A S x y a b u v w S' I n B t C z h
 have j:X.A.units+10<cLine:=by have:ee=20:=rfl;omega
 unfold yX at e;split at e
 ·split at e
  next U g=>rw[Nk]at e;obtain⟨k,f,D⟩:=e;cases D;obtain⟨d,c,xs,rfl,rfl,G,L,M,N⟩:=get rfl g f;rw[N];show wpAny_in_heap (uH j) L G M #[.bl _,H,A,I.tok _,rfl,.refl,n,.bl]
  ·split at e
   ·rw[Nk]at e;obtain⟨c,hc,e⟩:=e;cases e;obtain⟨l,its,k,ks,rfl,p1,p2,r,_⟩:=yW j I n B t C z hc;show Vq (BG s.heap k) p1 p2 ?_;rw[r];show#[.bl _,H,A,I,rfl,.refl,n,.bl]
   ·show m e
 ·split at e
  next U g=>rw[Nk]at e;obtain⟨k,f,D⟩:=e;cases D;obtain⟨d,c,xs,rfl,rfl,G,L,M,N⟩:=get rfl g f;rw[N];show wpAny_notIn_heap (uH j) L G M #[.bl _,H,A,I.tok _,rfl,.refl,n,.bl]
  ·split at e
   ·rw[Nk]at e;obtain⟨c,hc,e⟩:=e;cases e;obtain⟨l,its,k,ks,rfl,p1,p2,r,_⟩:=yW j I n B t C z hc;show Ug (BG s.heap k) p1 p2 ?_;rw[r];show#[.bl _,H,A,I,rfl,.refl,n,.bl]
   ·show m e
 ·split at e
  ·rw[Nk]at e;obtain⟨c,hc,e⟩:=e;cases e;obtain⟨l,its,k,rfl,p1,p2,r⟩:=CM j I B t C z hc;show UX (BG s.heap k) p1 p2 ?_;rw[r];show#[.bl _,H,A,I,rfl,.refl,n,.bl]
  ·show m e
 ·show m e
end
abbrev RawD (d:Nl)(b:N9 PF)(a:Np)(h:N6):Prop:=∃o,h.get? d=aB o/\o.ExactDict/\o.data=.dict b a
def RawD.at (x:RawD d b a h)(e:∀o,h.get? d=aB o->h'.get? d=aB o):RawD d b a h':=let ⟨o,ho,r⟩:=x;#[o,e _ ho,r]
def RawD.lt (x:RawD d b a h):d<⇑h.objs:=let ⟨_,ho,_⟩:=x;Nz ho
def RawD.type {s:Nh}(x:RawD d b a s.heap):s.TypeIs (.ref d) "dict":=let ⟨o,ho,hc,_⟩:=x;#[o,ho,hc.1]
section
variable{w:NU}{E:Nd->Nh->Prop}{s:Nh}{it d:Nl}{i ep:Np}{es:N9 PF}
def pZ (hd:(d==sysModules)=false)(c:RawD d es ep s.heap)
  (f:Q (.ref ⇑s.heap.objs) {s with heap:=s.heap.push {cls:=.type "dict_keyiterator",data:=.fields [.ref d,.int 0 0,.int ⇑es 0,.int ep 0].toArray}}):wh prog w A (pyIter (.ref d)) Q E s:=by
 have b:=c.type;obtain⟨o,e,hc,a⟩:=id c;show wpAny_pyIter_slot b F.slot_dict_iter (OO F.slot_dict_iter b F.entry_dict_iter ?_ (F.args_dict_iter_1 _));show Nc (Nc (wpAny_notOrdered_dict b ?_));show Nm ?_;change wpAny _ _ (Tb d >>= _) _ _ s;unfold Tb;rw[N1 (by rw[hd];show Oe)]
 show Nc (Nm (Nc (Rj e a (Nc (SV e a ?_)))));show Nc (Oy (Nm #[_,rfl,"dict_keyiterator",_,#[_,Nx _ rfl,rfl],F.slot_dict_keyiterator_next.lookup,?_]))
 simpa [rawInt]using f
def p0 (a:s.heap.IsKeyIter it d i ⇑es ep)(j:RawD d es ep s.heap)(hi:i<⇑es)
  (g:∀h',h'.IsKeyIter it d (i+1) ⇑es ep->PR it s.heap h'->Q (aB es[i].key) {s with heap:=h'}):wh prog w A (pyNext (.ref it)) Q E s:=by
 obtain⟨o,f,hc,hd⟩:=id a;obtain⟨od,e,h,c⟩:=id j;show Nc (PZ (Ow  a.typeIs F.slot_dict_keyiterator_next
  (OO F.slot_dict_keyiterator_next a.typeIs F.entry_dict_keyiterator_next ?_ (F.args_dict_keyiterator_next_1 _))))
 show Nc (Nm (Nc (Nc ?_)))
 first|refine Nc (PC a.typeIs (Nm ?_))|refine Nc (Qg _ (Nm ?_))
 show Nc (VS f hd ?_);change wpAny _ _ _ _ _ s;show Nc (Nm (Nc (Rj e c ?_)));rw[N1 (by simp)]
 show Nc (Nm (Nc (SV e c ?_)));rw[N1 (by simp)]
 show Nm ?_;simp only[QX,NQ,QR hi];show Nc ?_
 first|refine Nc (PC a.typeIs (Nm ?_))|refine Nc (Qg _ (Nm ?_))
 show Nc (Tc a.typeIs ?_);change wpAny _ _ (setField _ 1 _ >>= _) _ _ s;show Nc (Qn f hd (by simp) ?_)
 have b:(s.heap.update it (PY (·.setIfInBounds 1 (rawInt (i+1))))).IsKeyIter it d (i+1) ⇑es ep:=
  #[_,OJ _ f (Ro (P7 hd _)),(UM ..).trans hc,by rw[P7 hd];simp[rawInt]]
 show Nc (Ov ?_);show Nc (Tc  b.typeIs ?_);show Nm (Nm #[_,rfl,Nm (g _ b (Qj ..))])
def uJ (j:A.handled=ba)(a:s.heap.IsKeyIter it d i ⇑es ep)(k:RawD d es ep s.heap)(e:⇑es<=i)
  (g:∀h',Tk it s.heap h'->Q ba {s with heap:=h'}):wh prog w A (pyNext (.ref it)) Q E s:=by
 obtain⟨o,f,hc,hd⟩:=id a;obtain⟨od,c,h,b⟩:=id k;show Nc (PZ (Ow  a.typeIs F.slot_dict_keyiterator_next
  (OO F.slot_dict_keyiterator_next a.typeIs F.entry_dict_keyiterator_next ?_ (F.args_dict_keyiterator_next_1 _))))
 show Nc (Nm (Nc (Nc ?_)))
 first|refine Nc (PC a.typeIs (Nm ?_))|refine Nc (Qg _ (Nm ?_))
 show Nc (VS f hd ?_);change wpAny _ _ _ _ _ s;show Nc (Nm (Nc (Rj c b ?_)));rw[N1 (by simp)]
 show Nc (Nm (Nc (SV c b ?_)));rw[N1 (by simp)]
 show Nm ?_;simp only[QX,NQ,SM e];show Nc ?_
 first|refine Nc (PC a.typeIs (Nm ?_))|refine Nc (Qg _ (Nm ?_))
 change wpAny _ _ (setField _ 0 _ >>= _) _ _ s;show Nc (Qn f hd (by simp) ?_)
 show Nc ?_;show Nc (Oy ?_ (by size_fits))
 show Nc  (Sj  (by first|rfl|(rfl)) ?_)
 show Oy ?_ (by size_fits)
 show Nc (Wc ?_);rw[j];show Nc (Nm (WH ?_));show Nc (Rt   #[_,Nx _ rfl,rfl] Tl ?_);show Nm (g _ (((Qj ..).extBut.push _).push _))
def wD (l:A.handled=ba)(I d:Nl)(k:d≠I)(es:N9 PF)(ep:Np) :
  Xl prog w A I [I,d] [I] ⇑es (λi v=>∃e,es[i]?=aB e/\e.key=v) (λi h=>h.IsKeyIter I d i ⇑es ep/\RawD d es ep h) where
 sub:=λb a=>by simp at a;simp[a]
 frame:=λ_ _ _ st hk=>#[st.1.at λo e=>hk I (by simp) o e,st.2.at λo e=>hk d (by simp) o e]
 item:=λi s Q E hi st c=>
  p0 st.1 st.2 hi λh' f g=>c _ h' _ #[es[i],by simp[hi],rfl] #[f,st.2.at λo e=>(g.2 d k).trans e] λb o a e=>g.extBut b o (λh=>a (by simp[h])) e
 done:=λs Q E st c=>uJ l st.1 st.2 (Ny _) λh' j=>c h' _ λb o a e=>j b o (λh=>a (by simp[h])) e
 self:=λ_ _ _ _ st c=>Tn st.1 c
def uK (lo:(d==sysModules)=false):To prog w "dict" d d ⇑es (λi v=>∃e,es[i]?=aB e/\e.key=v) (RawD d es ep) where
 type:=λ_ a=>a.type
 there:=λ_ a=>#[a.lt,a.lt]
 keep:=λ_ _ a hk=>a.at λo e=>hk d (.inl rfl) o e
 notList:=by decide
 notTuple:=by decide
 hint:=λ_ _ _ _ a b=>PySem.W.kdl_hint_dict a.type b
 iter:=λ_ _ c a=>#[_,_,(λ_ _ b=>pZ lo a b),wD c _ d (NJ a.lt) es ep,#[#[_,Nx _ rfl,rfl,rfl],a.at λo e=>Ng _ e]]
def yZ {T:OV}{  S:Nl}(K:To prog w T r d n P g)(k:A.handled=ba)(f:g s.heap)(l:n<=sizeLine)(e:S≠r)(c:S≠d)
  (j:s.heap.get? S=aB {cls:=.type "list",data:=.seq #[] 0})
  (i:∀h' tk a h,(∀b o,b≠S->s.heap.get? b=aB o->h'.get? b=aB o)->h'.get? S=aB {cls:=.type "list",dict:=ba,data:=.seq a h,slots:=#[]}->SN P a n->R (.ok (.ret (.ref S))) (xa s h' tk)) :
  codeAny (model prog w) A (.builtin "list.__iadd__" #[[.ref S,.ref r],[]]) R s:=by
 show OP F.entry_list_iadd ?_;rw[Pf F.plain_list_iadd _];show PySem.W.kdl_extend K k f S e c _ 0 j i l
def qa {T:OV}(K:To prog w T r d n P j)(m:A.handled=ba)(i:j s.heap)(p:n<=sizeLine)
  (k:∀h' tk a,(∀b o,s.heap.get? b=aB o->h'.get? b=aB o)->⇑s.heap.objs<=⇑h'.objs->SN P a n->Q a.toList (xa s h' tk)):wh prog w A (collect (.ref r)) Q E s:=by
 unfold collect;show Nc (R5 (OP F.entry_proto_collect ?_));rw[Pf F.plain_proto_collect _];change wpAny _ A.in1 (newList [] >>= λl=>again (.builtin "list.__iadd__" #[[l,.ref r],[]])) _ _ s
 show Nc (Oy ?_);have h:=K.there _ i;show Nm #[P0 F.plain_list_iadd _,yZ (s:={s with heap:=s.heap.push {cls:=.type "list",data:=.seq ([]:Nb Nd).toArray}}) K m (K.keep _ _ i λb _ o e=>Ng _ e) p (On h.1) (On h.2) (Nx _ rfl) λh' tk c q hk f g=>?_]
 change wh prog w A (do
   let o <- load ⇑s.heap.objs
   match o.data with
   |.seq xs _=>pure xs.toList
   |_=>unsupported "internal:collect") Q E (xa s h' tk)
 show Nc (Ud f ?_);show Nm (k h' tk c (λb o e=>hk b o (NJ (Nz e)) (Ng _ e)) (Px (Nz f)) g)
end
mutual
def dU:T->T->Nf ND
 |.int a,.int b=>aB (decide (a<b))
 |.str a,.str b=>aB (decide (a.cps.toList<b.cps.toList))
 |.tup xs,.tup ys=>bR xs ys
 |_,_=>ba
def bR:Nb T->Nb T->Nf ND
 |[],[]=>aB false
 |[],_::_=>aB true
 |_::_,[]=>aB false
 |x::xs,y::ys=>if x=y then bR xs ys else dU x y
end
mutual
theorem IsT.kept {h h':N6}(hk:∀b o,o.cls=.type "tuple"->h.get? b=aB o->h'.get? b=aB o):∀{x:T}{v:Nd},IsT h x v->IsT h' x v
 |_,_,.int=>.int
 |_,_,.str=>.str
 |_,_,.tup a1 c1 d1 t1=>.tup (hk _ _ c1 a1) c1 d1 (IsTs.kept hk t1)
theorem IsTs.kept {h h':N6}(hk:∀b o,o.cls=.type "tuple"->h.get? b=aB o->h'.get? b=aB o):∀{x:Nb T}{v:Nb Nd},IsTs h x v->IsTs h' x v
 |_,_,.nil=>.nil
 |_,_,.cons a b=>.cons (IsT.kept hk a) (IsTs.kept hk b)
end
def Jr (g:B.units+d<cLine)(hl:∀ x y u v k,x.depth<=d->y.depth<=d->IsT s.heap x u->IsT s.heap y v->dU x y=aB k->LtAt B s u v k) :
  ∀ xs c us vs k,T.depths xs<=d->T.depths c<=d->IsTs s.heap xs us->IsTs s.heap c vs->bR xs c=aB k->LexR B s us vs k
 |[],[],_,_,k,_,_,b,h2,e=>by cases b;cases h2;cases e;show .nn
 |[],y::c,_,_,k,_,_,b,h2,e=>by cases b;cases h2;cases e;show .nc
 |x::xs,[],_,_,k,_,_,b,h2,e=>by cases b;cases h2;cases e;show .cn
 |x::xs,y::c,_,_,k,h,i,b,h2,e=>by
  simp only[T.depths]at h i;cases b with
  |cons p1 j=>
   cases h2 with
   |cons p2 l=>
    have f:=wz d x y _ _ B s ∅ p1 p2 g ∅
    dsimp only[bR]at e
    by_cases a:x=y
    ·rw[NK a]at e;rw[N4 a]at f;show .eq f (Jr g hl xs c _ _ k ∅ ∅ j l e)
    ·rw[N1 a]at e;rw[N5 a]at f;show .ne f (hl x y _ _ k ∅ ∅ p1 p2 e)
def Gm:∀ d x y u v B s k,x.depth<=d->y.depth<=d->IsT s.heap x u->IsT s.heap y v->B.units+d<cLine->dU x y=aB k->LtAt B s u v k:=by
 intro d
 induction d with
 |zero=>
  intro x y u v B s k b f c h2 o e;cases c with
  |int=>cases h2 with
   |int=>cases e;show λprog w E Q h=>(TQ h)
   |_=>cases e
  |str=>cases h2 with
   |str=>cases e;show λprog w E Q h=>(lt_str h)
   |_=>cases e
  |tup _ _ _ _=>simp[T.depth]at b
 |succ d ih=>
  intro x y u v B s k b f c h2 o e;cases c with
  |int=>cases h2 with
   |int=>cases e;show λprog w E Q h=>(TQ h)
   |_=>cases e
  |str=>cases h2 with
   |str=>cases e;show λprog w E Q h=>(lt_str h)
   |_=>cases e
  |tup g j m A=>cases h2 with
   |tup i l n t2=>
    simp only[T.depth]at b f;have a:B.in1.units+d<cLine:=by rw[be];omega
    show LtAt.tuples #[_,g,j,_,m] #[_,i,l,_,n] ∅ (Jr a (λx y u v k p q r t z=>ih x y u v _ s k p q r t a z) _ _ _ _ k ∅ ∅ A t2 e)
   |_=>cases e
section
variable{w:NU}{I S:Nl}{fp wr:Nb Nl}{n:Np}{P:Np->Nd->Prop}{St:Np->N6->Prop}{Ok:N6->Prop}{bt:Np->Np->ND}
abbrev y6 (prog:NM)(w:NU)(A:NY)(P:Np->Nd->Prop)(Ok:N6->Prop)(bt:Np->Np->ND):Prop:=
 ∀i j a b (s:Nh) (Q:Nd->Nh->Prop) (E:Nd->Nh->Prop),Ok s.heap->P i a->P j b->Q (.bool (bt i j)) s->wh prog w A (richCompare .Lt a b) Q E s
def y8 (W:Xl prog w A.in1 I fp wr n P St)(E:y6 prog w A.in1 P Ok bt)(C:S∉fp)(G:∀h h',Ok h->(∀b o,b∉wr->b≠S->h.get? b=aB o->h'.get? b=aB o)->Ok h') :
  ∀ k j s q c,n-(j+1)=k->j<n->St (j+1) s.heap->P (argBest bt j) q->Ok s.heap->s.heap.get? S=aB {cls:=.type "list",dict:=ba,data:=.seq [q,q].toArray c,slots:=#[]}->
  (∀v h' tk,P (argBest bt (n-1)) v->(∀b o,b∉wr->b≠S->s.heap.get? b=aB o->h'.get? b=aB o)->R (.ok (.ret v)) (xa s h' tk))->
  codeAny (model prog w) A (.builtin "min.loop" #[[.ref I,.none,.ref S],[]]) R s:=by
 have D:=λh=>C (W.sub _ h)
 have l:(toString "min" ++ toString ".loop")="min.loop":=by decide
 intro k
 induction k with
 |zero=>
  intro j s q c hk T z p O B H;have M:j+1=n:=∅
  show OP F.entry_min_loop ?_;show Nc (Pl B rfl ?_);show Nc (R7 (W.done s _ _ (M▸z) λh' tk f=>?_))
  have g:=f S _ D B;show Nc (SW g rfl (Nc (QM (Nm ?_))));have e:j=n-1:=∅
  show H q _ tk (e▸p) λb o d a e=>(N8 _ _ (Ne.symm a)).trans (f b o d e)
 |succ k ih=>
  intro j s q c hk T z p O B H;have y:j+1<n:=∅
  show OP F.entry_min_loop ?_;show Nc (Pl B rfl ?_);change wpAny _ A.in1 (tryCatch (pyNext (.ref I)) _ >>= _) _ _ s;show Nc (R7 (W.item (j+1) s _ _ y z λv h' tk Q r f=>?_))
  have g:=f S _ D B;have u:=G _ _ O λb o J _ e=>f b o J e
  change wpAny _ A.in1 (tryCatch (holding [v,v] (richCompare .Lt v q >>= _)) _ >>= _) _ _ _;show Nc (R7 (Ov (Nc (E (j+1) (argBest bt j) v q _ _ _ u Q p ?_))));show Nc (Ov (OZ ?_));show Nc (QM (Nm ?_));cases J:bt (j+1) (argBest bt j)with
  |true=>
   delta Qv;show Nc (SW g rfl (Nc (QM ?_)));rw[l];show Nm #[P0 F.plain_min_loop _,ih (j+1) _ v _ ∅ y (W.frame _ _ _ r λb L o e=>?_) (by revert argBest J;show Q) (G _ _ u λb o _ a e=>(N8 _ _ (Ne.symm a)).trans e) (OJ _ g rfl)
    λN t m x i=>?_]
   ·show(N8 _ _ (λh=>C (by rw[h];show L))).trans e
   ·show H N t m x λb o d a e=>i b o d a ((N8 _ _ (Ne.symm a)).trans (f b o d e))
  |false=>
   dsimp only[];show Nc (QM ?_);rw[l];show Nm #[P0 F.plain_min_loop _,ih (j+1) _ q c ∅ y r (by revert argBest J;show p) u g λN t m x i=>?_]
   show H N t m x λb o d a e=>i b o d a (f b o d e)
def wF (W:Xl prog w A.in1 I fp wr n P St)(k:y6 prog w A.in1 P Ok bt)(d:S∉fp)(g:∀h h',Ok h->(∀b o,b∉wr->b≠S->h.get? b=aB o->h'.get? b=aB o)->Ok h')(C:0<n)(z:St 0 s.heap)(D:Ok s.heap)
  (B:s.heap.get? S=aB {cls:=.type "list",dict:=ba,data:=.seq #[] c,slots:=#[]})
  (G:∀v h' tk,P (argBest bt (n-1)) v->(∀b o,b∉wr->b≠S->s.heap.get? b=aB o->h'.get? b=aB o)->R (.ok (.ret v)) (xa s h' tk)) :
  codeAny (model prog w) A (.builtin "min.loop" #[[.ref I,.none,.ref S],[]]) R s:=by
 have u:=λh=>d (W.sub _ h)
 have y:(toString "min" ++ toString ".loop")="min.loop":=by decide
 show OP F.entry_min_loop ?_;show Nc (Pl B rfl ?_);show Nc (R7 (W.item 0 s _ _ C z λv h' tk E m f=>?_))
 have i:=f S _ u B;change wpAny _ A.in1 (updateSeq S (λ_=>[v,v].toArray) >>= _) _ _ _
 show Nc (SW i rfl ?_);have r:=g _ _ D λb o H _ e=>f b o H e
 show Nm #[P0 F.plain_min_loop _,y8 W k d g _ 0 _ v _ rfl C (W.frame _ _ _ m λb x o e=>?_) E (g _ _ r λb o _ a e=>(N8 _ _ (Ne.symm a)).trans e) (OJ _ i rfl) λJ q p t l=>?_]
 ·show(N8 _ _ (λh=>d (by rw[h];show x))).trans e
 ·show G J q p t λb o j a e=>l b o j a ((N8 _ _ (Ne.symm a)).trans (f b o j e))
end
section
variable{w:NU}{E:Nd->Nh->Prop}{s:Nh}
def y9 (p:A.handled=ba)(hl:s.heap.IsList l items)(q:0<⇑items)
  (d:y6 prog w A.in1 (λi v=>items[i]?=aB v) (λh=>∀b o,s.heap.get? b=aB o->h.get? b=aB o) bt)
  (n:∀v h' tk,items[argBest bt (⇑items-1)]?=aB v->(∀b o,s.heap.get? b=aB o->h'.get? b=aB o)->Q v (xa s h' tk)) :
  wh prog w A (call (.builtin "min") [.ref l]) Q E s:=by
 have c:(toString "min" ++ toString ".loop": OV)="min.loop":=by decide
 show call_function_tree F.kind_min F.plain_min F.entry_min (F.args_min1 _) ?_;change wpAny _ A.in1 (RS "min" ["key","default"] 0 #[[],[]] >>= _) _ _ s;show Nc (Sj (show RS "min" ["key","default"] 0 #[[],[]]=pure [ba,ba]from rfl) ?_)
 show Nc (Nm ?_);show Nc (QF hl ?_);show Nc (Oy ?_);rw[c];have f:l<⇑s.heap.objs:=let ⟨_,g,_⟩:=hl;Nz g
 have m:l≠⇑s.heap.objs:=NJ f;have W:=VR (prog:=prog) (w:=w) (A:=A.in1) p ⇑s.heap.objs l m items;have hsz:∀o:OQ,(s.heap.push o).objs.size=⇑s.heap.objs+1:=λo=>by simp[Heap.push]
 show Nm #[P0 F.plain_min_loop _,wF (A:=A) (Ok:=λh=>∀b o,s.heap.get? b=aB o->h.get? b=aB o) W d (λk=>?_) (λh h' g hk b o e=>?_) q #[?_,?_] (λb o e=>Ng _ (Ng _ e)) (Nx _ rfl) λv h' tk r hk=>?_]
 ·rcases NE.mp k with e|k
  ·show absurd (show(s.heap.push _).objs.size=⇑s.heap.objs from e) (by rw[hsz];show Nat.succ_ne_self _)
  ·have e:(s.heap.push _).objs.size=l:=NX.mp k;rw[hsz]at e;show absurd f (by rw[<- e];show QK.mpr (O6 _))
 ·have a:=Nz e;show hk b o (λz=>?_) (λz=>?_) (g b o e)
  ·rw[NX.mp z]at a;show OL _ a
  ·have j:b=(s.heap.push _).objs.size:=z;rw[hsz]at j;rw[j]at a;show absurd a (QK.mpr (O6 _))
 ·show#[_,Ng _ (Nx _ rfl),rfl,rfl]
 ·obtain⟨o,g,hc⟩:=hl;show#[o,Ng _ (Ng _ g),hc]
 ·show n v h' tk r λb o e=>hk b o (λz=>?_) (λz=>?_) (Ng _ (Ng _ e))
  ·have a:=Nz e;rw[NX.mp z]at a;show OL _ a
  ·have a:=Nz e;have j:b=(s.heap.push _).objs.size:=z;rw[hsz]at j;rw[j]at a;show absurd a (QK.mpr (O6 _))
end
abbrev ci (o:COp)(x y:W)(S:aa):Nf (W×aa):=match o,y with
 |.isin,.str j=>match x with
  |.str i=>aB (.bl (!(Rc j i 0 ↥j 1).isEmpty),S)
  |_=>ba
 |.lt,.tup c=>match W.t x,W.t (.tup c)with
  |some a,aB b=>if a.depth<=aX/\b.depth<=aX then(dU a b).map λk=>(.bl k,S)else ba
  |_,_=>ba
 |.is,.bl b=>match x with
  |.bl a=>aB (.bl (a==b),S)
  |_=>ba
 |o,y=>yX o x y S
def qb (m:X.A.units+ee<cLine)(o:COp):LOp X (compareOp o.py) (ci o):=by
 intro J s Y H A S x y a b u v w S' I j h f i g e;unfold ci at e;split at e
 ·split at e
  ·cases e;cases h;cases i
   show OpR.go v6 I f g #[_,_,rfl,rfl,.here j .bl]
  ·cases e
 ·split at e
  next p k1 k2 l h2=>
   split at e
   next hd=>
    rw[Nk]at e;obtain⟨k,hk,e⟩:=e;cases e;have n:=jp I k1 (by rw[W.t_w l];show h) f
    have t2:=jp I k2 (by rw[W.t_w h2];show i) g
    show Gm aX k1 k2 u v X.A s k hd.1 hd.2 n t2 (by have:ee=20:=rfl;have:aX=6:=rfl;omega) hk _ _ _ _ (fU I j)
   ·cases e
  ·cases e
 ·split at e
  next d _ c=>
   cases e;cases h;cases i;obtain rfl:u=OY c:=f;obtain rfl:v=OY d:=g;show VO rfl ?_;have e:(OY c==OY d)=(c==d):=by cases c<;>cases d<;>rfl
   rw[e];show fU I j
  ·cases e
 ·show yY m _ J s Y H A S x y a b u v w S' I j h f i g e
abbrev Mx (x:Nu):It:=#[λi _=>i<⇑x.cps,λi H v a=>a=H/\∃c,x.cps[i]?=aB c/\v=.str #[[c].toArray],λi _=>⇑x.cps<=i]
def zd {K:Nr}(x:Nu)(t:WL)(it:Nl):Turn P w K tg (Mx x) [it] it (λi h=>h.IsStrIter it "str_ascii_iterator" x t i) where
 mem:=by simp
 obj:=λi h st b a=>by
  have e:b=it:=by simpa using a
  subst e;obtain⟨o,e,c,d⟩:=st;show#[o,e,λv z=>by rw[d]at z;cases z]
 keep:=λi h h' #[o,e,c] k=>#[o,k it (by simp) o e,c]
 item:=by
  intro X q hw hK hc i J s Y H E I g st r;subst q hw hK;obtain⟨j,l,C,m,n,p⟩:=g it (by simp)
  obtain⟨A,u⟩:∃c,x.cps[i]?=aB c:=#[_,QR r];show wpAny_pyNext_ascii_item st u λh' f D=>?_
  have y:Inv X J Y H {s with heap:=h',toks:=s.toks+1}:=I.turned (t':=s.toks+1) (λb o a e=>(D.2 b a).trans e) j l m n p
  obtain⟨o,e,c,d⟩:=id f;show#[_,rfl,pJ (s:={s with heap:=h',toks:=s.toks+1}) e c d #v[] #[.str #[[A].toArray],H,y,#[_,rfl],#[rfl,_,u,rfl],f,λb a=>(g b a).1]]
 done:=by
  intro X q hw hK hc i J s Y H E I g st r;subst q hw hK;obtain⟨j,l,C,m,n,p⟩:=g it (by simp)
  show wpAny_pyNext_ascii_end (I.ok.hd hc) st (SM r) λh' B=>#[rfl,I.turned (t':=s.toks) (λb o a e=>B b o a e) j l m n p]
 self:=λ_ _ _ _ _ st h=>wpAny_pyIter_striter_ascii st h
open PySem.W (KasT kas_sort kas_ask kas_cmp kas_item kas_asc kas_desc kas_tail3 kas_descPart kas_count kas_place kas_bin kas_rev)
abbrev bK {α:Type}(lt:Np->Np->ND):KasT α->α
 |.ret a=>a
 |.ask i j k=>bK lt (k (lt i j))
abbrev OkK {α:Type}(n:Np)(P:α->Prop):KasT α->Prop
 |.ret a=>P a
 |.ask i j k=>i<n/\j<n/\∀b,OkK n P (k b)
def qe :∀ t,OkK n P t->P (bK lt t)
 |.ret _,h=>h
 |.ask i j k,h=>qe (k _) (h.2.2 _)
def ol (h:OkK n P t):P (bK lt t):=qe t h
def OkK.bind {f:α->KasT β}:∀{t:KasT α},OkK n P t->(∀a,P a->OkK n d (f a))->OkK n d (t.bind f)
 |.ret a,h,c=>c a h
 |.ask _ _ _,h,c=>#[h.1,h.2.1,λb=>OkK.bind (h.2.2 b) c]
def mS (hc:∀i j,i<n->j<n->∀C:ND->Nh->Prop,C (lt i j) s->a i j C s) :
  ∀{t:KasT α},OkK n P t->Q (bK lt t) s->t.kasWp a Q s
 |.ret _,_,h=>h
 |.ask i j k,h,b=>hc i j h.1 h.2.1 _ (mS hc (h.2.2 _) b)
abbrev Pm (n:Np)(p:N9 Np):Prop:=p.toList.Perm (N2 n)
def Pm.size (h:Pm n p):⇑p=n:=by rw[<- NP,h.length_eq,Oz]
def Pm.lt (h:Pm n p)(a:0<n)(i:Np):p.getD i 0<n:=by
 by_cases hi:i<⇑p
 ·have e:p.getD i 0=p[i]:=by simp[SO,hi]
  rw[e];have:p[i]∈p.toList:=by simp
  show Oh.mp (h.mem_iff.mp this)
 ·have e:p.getD i 0=0:=by simp[SO,hi]
  rw[e];show a
def Pm.rev (h:Pm n p)(i j:Np):Pm n (kas_rev p i j):=(R8.mp (mirror_perm p i j _)).trans h
def Pm.bub (h:Pm n p)(i j:Np):Pm n (bubble p i j):=(R8.mp (bubble_perm p i j)).trans h
section
variable{n:Np}(hn:0<n)
include hn
def sC (h:Pm n p):∀ f m,OkK n (λ_=>Wl) (kas_asc p f m)
 |0,_=>trivial
 |f+1,m=>#[h.lt hn _,h.lt hn _,λb=>by
  change OkK n _ (if b=true then _ else _)
  split
  ·trivial
  ·show sC h f _]
def kA:∀ f p m q,Pm n p->OkK n (λr=>Pm n r.1) (kas_desc f p m q)
 |0,p,m,q,h=>h
 |f+1,p,m,q,h=>#[h.lt hn _,h.lt hn _,λb=>by
  change OkK n _ (if b=true then _ else _)
  split
  ·split
   ·show kA f _ _ _ (h.rev _ _)
   ·show kA f _ _ _ h
  ·show#[h.lt hn _,h.lt hn _,λc=>?_]
   change OkK n _ (if c=true then _ else _)
   split
   ·show h
   ·show kA f _ _ _ h]
def uL (h:Pm n p)(m k:Np):OkK n (λr=>Pm n r.2) (kas_tail3 m k p):=by
 show OkK.bind (sC hn (h.rev 0 m) _ _) λa _=>h.rev 0 m
def jS (h:Pm n p)(m k:Np):OkK n (λr=>Pm n r.2) (kas_descPart m k p):=by
 show OkK.bind (kA hn _ _ _ _ h) λr a=>?_
 split
 ·show uL hn (a.rev _ _) _ _
 ·show uL hn a _ _
def ze (h:Pm n p)(k:Np):OkK n (λr=>Pm n r.2) (kas_count k p):=by
 show OkK.bind (sC hn h _ _) λm _=>?_
 split
 ·show h
 ·split
  ·show#[h.lt hn _,h.lt hn _,λc=>?_]
   change OkK n _ (if c=true then _ else _)
   split
   ·show h
   ·show jS hn (h.rev _ _) _ _
  ·show jS hn h _ _
def lr (h:Pm n p)(k:Np):∀ f l r,OkK n (λ_=>Wl) (kas_place p k f l r)
 |0,_,_=>trivial
 |f+1,l,r=>by
  delta kas_place;split
  ·trivial
  ·show#[h.lt hn _,h.lt hn _,λc=>?_]
   change OkK n _ (if c=true then _ else _)
   split
   ·show lr h k f _ _
   ·show lr h k f _ _
def zf:∀ f p k,Pm n p->OkK n (Pm n) (kas_bin f p k)
 |0,p,k,h=>h
 |f+1,p,k,h=>by
  show OkK.bind (lr hn h k _ _ _) λl _=>zf f _ _ (h.bub _ _)
def kB:OkK n (Pm n) (kas_sort n):=by
 show OkK.bind (ze hn (by unfold Pm;rfl) _) λr a=>?_
 split
 ·show zf hn _ _ _ a
 ·show a
end
section
variable{w:NU}{E:Nd->Nh->Prop}{s:Nh}{vs:Nb Nd}
abbrev dJ (lt:Np->Np->ND){β:Type}(d:β)(vs:Nb β):Nb β:=if ↥vs<2 then vs else(bK lt (kas_sort ↥vs)).toList.map λi=>vs.getD i d
def qf {vs:Nb β}:(dJ lt d vs).length=↥vs:=by
 unfold dJ;split
 ·rfl
 ·rw[Ni,NP,(ol  (kB  ∅)).size]
def wH (y:s.heap.get? a=aB (seqObj "list" vs.toArray n))(D:↥vs<64)
  (l:2<=↥vs->∀h',(∀b o,b≠a->s.heap.get? b=aB o->h'.get? b=aB o)->∀Q:Tp->Nh->Prop,Q κ {s with heap:=h'}->wh prog w A (keyKind' vs.toArray) Q (λ_ _=>Oo) {s with heap:=h'})
  (I:2<=↥vs->∀h',(∀b o,b≠a->s.heap.get? b=aB o->h'.get? b=aB o)->∀i j,i<↥vs->j<↥vs->∀Q:ND->Nh->Prop,Q (lt i j) {s with heap:=h'}->
   wh prog w A (keyLt' κ (vs.getD i OM) (vs.getD j OM)) Q (λ_ _=>Oo) {s with heap:=h'})
  (h:∀h' c,(∀b o,b≠a->s.heap.get? b=aB o->h'.get? b=aB o)->h'.get? a=aB (seqObj "list" (dJ lt OM vs).toArray c)->P (.done (.ret .none)) {s with heap:=h'}) :
  wh prog w A (QD.«list.sort» #[[.ref a],[]]) P E s:=by
 have X:=Nz y;obtain⟨B,r⟩:∃B,(s.heap.update a (Pi λ_=>(#[]))).get? a=aB (seqObj "list" #[] B):=#[_,SX y λ_=>#[]]
 have keep:∀b o,b≠a->s.heap.get? b=aB o->(((s.heap.update a (Pi λ_=>(#[]))).push (seqObj "tuple" vs.toArray 0)).push (seqObj "list" #[] 0)).get? b=aB o:=λb o v e=>
  Ng _ (Ng _ ((PQ _ _ _ _ v).trans e))
 have d:(((s.heap.update a (Pi λ_=>(#[]))).push (seqObj "tuple" vs.toArray 0)).push (seqObj "list" #[] 0)).get? a=aB (seqObj "list" #[] B):=Ng _ (Ng _ r)
 have fin:∀out,↥out=↥vs->out=dJ lt OM vs->P (.done (.ret .none)) {s with heap:=(((s.heap.update a (Pi λ_=>(#[]))).push (seqObj "tuple" vs.toArray 0)).push (seqObj "list" #[] 0)).update a (Pi λ_=>out.toArray)}:=λout hl e=>by
  obtain⟨z,H⟩:∃z,((((s.heap.update a (Pi λ_=>(#[]))).push (seqObj "tuple" vs.toArray 0)).push (seqObj "list" #[] 0)).update a (Pi λ_=>out.toArray)).get? a=aB (seqObj "list" out.toArray z):=#[_,SX d λ_=>out.toArray]
  show h _ z (λb o v q=>(PQ _ _ _ _ v).trans (keep b o v q)) (e▸H)
 rw[list_sort_plain];show Nc (UN y rfl ?_);show Nc (Sr y rfl ?_ (by rw[NC,OF];omega) (OW _))
 show Nc (Vo r rfl ?_);show Nc (Tq ?_ (by change ↥vs<=_;rw[OF];omega))
 show Nc (T5 ?_ (OW _));show Ov ?_;change wh prog w A _ P E {s with heap:=((s.heap.update a (Pi λ_=>(#[]))).push (seqObj "tuple" vs.toArray 0)).push (seqObj "list" #[] 0)}
 dsimp only
 by_cases h2:↥vs<2
 ·rw[NK (by rw[NC];show h2),NK (by rw[NC];show h2)]
  show Nc (Nm (Nc ?_));rw[StateT.run_pure];show Nm ?_;dsimp only;show Nc (Vo d rfl ?_);have V:((arrOf (SortSt.mk' general' (vs.toArray.zip vs.toArray) #[] 7 ba)).map (·.2))=vs.toArray:=by
   show(vs.toArray.zip vs.toArray).map (·.2)=vs.toArray
   apply Array.toList_inj.mp;rw[Array.toList_map,Array.toList_zip];show U8 (Ny _)
  rw[V];show Nc (Sr d rfl ?_ (OW _) (by rw[NC,OF];omega))
  revert UO;show Nm (fin vs rfl (by unfold dJ;rw[NK h2]))
 ·have m:¬ ⇑vs.toArray<2:=by rw[NC];show h2
  have g:2<=↥vs:=∅
  rw[N1 m,N1 m];show Nc (Ou (l g _ keep (λk u=>k=κ/\u={s with heap:=((s.heap.update a (Pi λ_=>(#[]))).push (seqObj "tuple" vs.toArray 0)).push (seqObj "list" #[] 0)}) #[rfl,rfl]) ?_ λ_ _ x=>x.elim)
  rintro _ _ ⟨rfl,rfl⟩;show Nc (Ou (PySem.W.kat_run (Q:=λf u=>∃p:N9 Np,⇑p=↥vs/\arrOf f=p.map (kas_item (vs.toArray.zip vs.toArray))/\failedOf f=ba/\p=bK lt (kas_sort ↥vs)/\u={s with heap:=((s.heap.update a (Pi λ_=>(#[]))).push (seqObj "tuple" vs.toArray 0)).push (seqObj "list" #[] 0)})
    rfl g D (λW f u J L M N=>#[W,J,L,M,N])
   (mS  (λi j hi T C R=>I g _ keep i j hi T C R) (kB  ∅) #[rfl,rfl])) ?_ λ_ _ e=>e)
  rintro⟨⟨⟩,f⟩ u ⟨p,U,G,S,O,rfl⟩;dsimp only;have t:=PySem.W.kat_snds rfl G;have hsz:(p.toList.map λi=>vs.getD i OM).length=↥vs:=by rw[Ni,NP,U]
  rw[t];show Nc (Vo d rfl ?_);show Nc (Sr d rfl ?_ (OW _) (by rw[NC,hsz,OF];omega))
  rw[S];revert UO Pw QX;show Nm (fin _ hsz (by unfold dJ;rw[N1 h2,O]))
def wI (p:↥vs<64)
  (k:∀u:Nb Nd->Nh->Prop,(∀h' tk,(∀b o,s.heap.get? b=aB o->h'.get? b=aB o)->⇑s.heap.objs<=⇑h'.objs->u vs (xa s h' tk))->wpAny (model prog w) A.in1 (collect x) u E s)
  (d:2<=↥vs->∀h' tk,(∀b o,s.heap.get? b=aB o->h'.get? b=aB o)->∀Q:Tp->Nh->Prop,Q κ (xa s h' tk)->wpAny (model prog w) A.in1.in1 (keyKind' vs.toArray) Q (λ_ _=>Oo) (xa s h' tk))
  (r:2<=↥vs->∀h' tk,(∀b o,s.heap.get? b=aB o->h'.get? b=aB o)->∀i j,i<↥vs->j<↥vs->∀Q:ND->Nh->Prop,Q (lt i j) (xa s h' tk)->
   wpAny (model prog w) A.in1.in1 (keyLt' κ (vs.getD i OM) (vs.getD j OM)) Q (λ_ _=>Oo) (xa s h' tk))
  (h:∀D h' tk c,(∀b o,s.heap.get? b=aB o->h'.get? b=aB o)->⇑s.heap.objs<=D->h'.get? D=aB (seqObj "list" (dJ lt OM vs).toArray c)->Q (.ref D) (xa s h' tk)) :
  wh prog w A (call (.builtin "sorted") [x]) Q E s:=by
 show Sh kind_sorted plain_sorted entry_sorted (args_sorted1 _) ?_;unfold QD.«sorted»;show Nc (m:=checkCount "sorted" 1 1 _) (Nm ?_);show Nc (k _ λg a q l=>?_)
 show Nc (T5 ?_ (by rw[OF];omega))
 have n:(g.push (seqObj "list" vs.toArray 0)).get? ⇑g.objs=aB (seqObj "list" vs.toArray 0):=Nx _ rfl;have kp:∀b o,s.heap.get? b=aB o->(g.push (seqObj "list" vs.toArray 0)).get? b=aB o:=λb o e=>Ng _ (q b o e)
 have f:∀b o,s.heap.get? b=aB o->b≠⇑g.objs:=λb o e=>NJ (NS (Nz e) l)
 change wpAny _ _ _ _ _ {s with heap:=g.push (seqObj "list" vs.toArray 0),toks:=a}
 show Nc (Ov (OO slot_list_sort #[_,n,rfl] entry_list_sort ?_ (args_list_sort _)));show wH (s:={s with heap:=g.push (seqObj "list" vs.toArray 0),toks:=a}) (lt:=lt) (κ:=κ) n p (λh2 h' hk Q t=>d h2 h' a (λb o e=>hk b o (f b o e) (kp b o e)) Q t)
  (λh2 h' hk i j hi y Q t=>r h2 h' a (λb o e=>hk b o (f b o e) (kp b o e)) i j hi y Q t) λh' c hk v=>?_
 show#[_,rfl,Nm #[_,rfl,h _ h' a c (λb o e=>hk b o (f b o e) (kp b o e)) l v]]
end
abbrev ff:T->OV
 |.int _=>"int"|.str _=>"str"|.tup _=>"tuple"
abbrev bp:T->Nf T
 |.tup (x::_)=>aB x
 |_=>ba
abbrev CN (ks:Nb T):Nf Np:=
 if ks.all (λk=>ff k == "int")then aB 0
 else if ks.all (λk=>ff k == "str")then aB 1
 else if ks.all (λk=>(bp k).any λf=>ff f == "int")then aB 2
 else if ks.all (λk=>(bp k).any λf=>ff f == "str")then aB 3
 else if ks.all (λk=>(bp k).any λf=>ff f == "tuple")then aB 4
 else ba
abbrev zh:Np->Tp
 |0=>oneType'|1=>oneType'|2=>tuples' true|3=>tuples' true|_=>tuples' false
abbrev fg (ks:Nb T):ND:=ks.all λx=>ks.all λy=>(dU x y).isSome
abbrev om (ks:Nb T)(i j:Np):ND:=(dU (ks.getD i (.int 0)) (ks.getD j (.int 0))).getD false
def dy (h:fg ks=true)(hi:i<↥ks)(c:j<↥ks):dU (ks[i]) (ks[j])=aB (om ks i j):=by
 unfold fg at h;rw[NB]at h;have a:=h _ (N7 hi);rw[NB]at a;have h2:=a _ (N7 c);unfold om;rw[show ks.getD i _=ks[i] by simp[hi],show ks.getD j _=ks[j] by simp[c]]
 obtain⟨b,d⟩:=Oq.mp h2;rw[d];rfl
abbrev My (c:Np)(x y:T):Prop:=match c with|0=>ff x="int"/\ff y="int"|1=>ff x="str"/\ff y="str"|2=>∃f g,bp x=aB f/\bp y=aB g/\ff f="int"/\ff g="int"|3=>∃f g,bp x=aB f/\bp y=aB g/\ff f="str"/\ff g="str"|_=>∃f g,bp x=aB f/\bp y=aB g
section
variable{w:NU}{E:Nd->Nh->Prop}{s:Nh}
def uM (x:IsT h k v):PySem.W.Looks (model prog w) h (typeOf v) (.type (ff k)):=by
 cases x with
 |int=>show .now
 |str=>show .now
 |tup a c d t=>show c▸((Xd a).andThen .now)
def IsTs.mem :∀{ks:Nb T}{vs:Nb Nd},IsTs h ks vs->∀v∈vs,∃k∈ks,IsT h k v:=by
 intro ks
 induction ks with
 |nil=>intro vs r v c;cases r;cases c
 |cons k ks ih=>
  intro vs r v c;cases r with
  |cons a b=>
   rcases NE.mp c with rfl|c
   ·show#[_,.head _,a]
   ·obtain⟨k,hk,q⟩:=ih b v c;show#[k,.tail _ hk,q]
def mT :∀{ks:Nb T}{vs:Nb Nd},IsTs h ks vs->ks.all (λk=>(bp k).any p)=true->∃fs,PySem.W.KatTups h vs fs/\↥fs=↥vs/\∀v∈fs,∃k,p k=true/\IsT h k v
 |_,_,.nil,_=>#[[],.nil,rfl,λv d=>nomatch d]
 |k::ks,_,.cons a b,c=>by
  rw[OA,Nj]at c;obtain⟨fs,l,h2,m⟩:=mT b c.2;cases a with
  |int=>simp[bp]at c
  |str=>simp[bp]at c
  |@tup r t o items n g i j f=>
   cases r with
   |nil=>simp[bp]at c
   |cons x xs=>
    have q:p x=true:=by simpa [bp]using c.1
    generalize e:items.toList=its at f;cases f with
    |@cons _ u _ us s w=>
     show#[u::fs,.cons g i j (by rw[<- OR,e];rfl) l,by simp[h2],λv d=>?_]
     rcases NE.mp d with rfl|d
     ·show#[x,q,s]
     ·show m v d
def Gn (h:IsTs s.heap ks vs)(h2:2<=↥vs)(hc:CN ks=aB c)(b:Q (zh c) s):wh prog w A (keyKind' vs.toArray) Q E s:=by
 have one:∀ty ,(PL ty != PL _)=true->ks.all (λk=>ff k==ty)=true->Q _ s->wh prog w A _ Q E s:=λty d a b=>
  PySem.W.kas_kind  h2 (λv e=>by
   obtain⟨k,hk,x⟩:=h.mem v e;have:=eq_of_beq (NB.mp a k hk);show this▸uM x) d (by simp) b
 have tup:∀ty ,ks.all (λk=>(bp k).any λf=>ff f==ty)=true->Q _ s->wh prog w A _ Q E s:=λty a b=>by
  obtain⟨fs,g,j,i⟩:=mT h a;show PySem.W.kat_kind  g ∅ (λv e=>by
   obtain⟨k,hk,x⟩:=i v e;have:=eq_of_beq hk;show this▸uM x) (by simp) b
 unfold CN at hc;split at hc
 ·cases hc;show one "int" #v[] (by assumption) b
 ·split at hc
  ·cases hc;show one "str" #v[] (by assumption) b
  ·split at hc
   ·cases hc;show tup "int" (by assumption) b
   ·split at hc
    ·cases hc;show tup "str" (by assumption) b
    ·split at hc
     ·cases hc;show tup "tuple" (by assumption) b
     ·cases hc
def qh (m:A.units+d<cLine):∀ xs g us vs i k,T.depths xs<=d->T.depths g<=d->IsTs s.heap xs us->IsTs s.heap g vs->bR xs g=aB k->
  (b=true->i=0->∀x y,xs.head?=aB x->g.head?=aB y->(ff x="int"/\ff y="int")\/(ff x="str"/\ff y="str"))->Q k s->PySem.W.KatLex prog w A b (decide (↥us<↥vs)) Q (us.zip vs) i s
 |[],[],_,_,i,k,_,_,f,h2,e,l,a=>by cases f;cases h2;cases e;show SY (by simpa using a)
 |[],y::g,_,_,i,k,_,_,f,h2,e,l,a=>by cases f;cases h2;cases e;show SY (by simpa using a)
 |x::xs,[],_,_,i,k,_,_,f,h2,e,l,a=>by cases f;cases h2;cases e;show SY (by simpa using a)
 |x::xs,y::g,_,_,i,k,p,q,f,h2,e,l,a=>by
  simp only[T.depths]at p q;cases f with
  |@cons _ u _ us p1 B=>
   cases h2 with
   |@cons _ v _ vs p2 C=>
    have r:=wz d x y _ _ A s ∅ p1 p2 m ∅
    show PySem.W.kat_cons (r _ w _ _ ?_);simp only[bR]at e;have j:decide ((u::us).length<(v::vs).length)=decide (↥us<↥vs):=by simp
    rw[j]
    by_cases c:x=y
    ·rw[NK c]at e;rw[N4 c];show PySem.W.kat_yes (qh m xs g us vs _ k ∅ ∅ B C e (λ_ z=>absurd z (Nat.succ_ne_zero _)) a)
    ·rw[N1 c]at e;rw[N5 c];show PySem.W.kat_no ?_
     by_cases h:b=true/\i=0
     ·obtain⟨rfl,rfl⟩:=h;rcases l rfl rfl x y rfl rfl with⟨n,o⟩|⟨n,o⟩
      ·cases p1 with
       |int=>cases p2 with
        |int=>cases e;show oneLt_int a
        |_=>show absurd o (by simp[ff])
       |_=>show absurd n (by simp[ff])
      ·cases p1 with
       |str=>cases p2 with
        |str=>cases e;show oneLt_str a
        |_=>show absurd o (by simp[ff])
       |_=>show absurd n (by simp[ff])
     ·have t:(b&&i==0)=false:=by
       cases b with
       |false=>rfl
       |true=>
        have:=λz=>h #[rfl,z]
        simpa using this
      rw[t];show PySem.W.kat_one _ _ ((Gm d x y _ _ A s k ∅ ∅ p1 p2 m e) _ w _ _ a)
def CO (V:A.units+d<cLine)(O:x.depth<=d)(P:y.depth<=d)(m:IsT s.heap x u)(h2:IsT s.heap y v)(e:dU x y=aB k)
  (hc:My c x y)
  (G:Q k s):wh prog w A (keyLt' (zh c) u v) Q E s:=by
 have tup:∀b:ND,(∃f g,bp x=aB f/\bp y=aB g/\(b=true->(ff f="int"/\ff g="int")\/(ff f="str"/\ff g="str")))->wh prog w A (keyLt' (tuples' b) u v) Q E s:=by
  rintro b ⟨f,g,C,D,U⟩;cases m with
  |int=>cases C
  |str=>cases C
  |@tup xs a o items n M Y R W=>
   cases h2 with
   |int=>cases D
   |str=>cases D
   |@tup J X o' l n' N Z S t2=>
    simp only[T.depth]at O P;show PySem.W.kat_lt M R N S ?_;have:=qh (prog:=prog) (w:=w) (b:=b)  V xs J _ _ 0 k ∅ ∅ W t2 e (λB _ p q L j=>by
     cases xs with
     |nil=>cases L
     |cons x0 xs=>cases J with
      |nil=>cases j
      |cons y0 J=>cases L;cases j;cases C;cases D;show U B) G
    simpa using this
 match c,hc with
 |0,#[H,I]=>
  cases m with
  |int=>cases h2 with
   |int=>cases e;show PySem.W.kat_lt_int G
   |_=>show absurd I (by simp[ff])
  |_=>show absurd H (by simp[ff])
 |1,#[H,I]=>
  cases m with
  |str=>cases h2 with
   |str=>cases e;show PySem.W.kas_lt_str G
   |_=>show absurd I (by simp[ff])
  |_=>show absurd H (by simp[ff])
 |2,#[f,g,h,i,r,t]=>show tup _ #[f,g,h,i,λ_=>.inl #[r,t]]
 |3,#[f,g,h,i,r,t]=>show tup _ #[f,g,h,i,λ_=>.inr #[r,t]]
 |n+4,#[f,g,h,i]=>show tup _ #[f,g,h,i,λz=>nomatch z]
end
def CP (h:CN ks=aB c)(j:x∈ks)(l:y∈ks) :
  My c x y:=by
 have one:∀{ty:OV},ks.all (λk=>ff k==ty)=true->ff x=ty/\ff y=ty:=λd=>#[eq_of_beq (NB.mp d x j),eq_of_beq (NB.mp d y l)]
 have a:∀{ty:OV},ks.all (λk=>(bp k).any λf=>ff f==ty)=true->∃f g,bp x=aB f/\bp y=aB g/\ff f=ty/\ff g=ty:=λ{ty} d=>by
  have b:=NB.mp d x j;have h2:=NB.mp d y l;cases e:bp x with
  |none=>rw[e]at b;cases b
  |some f=>
   cases i:bp y with
   |none=>rw[i]at h2;cases h2
   |some g=>
    rw[e]at b;rw[i]at h2
    show#[f,g,rfl,rfl,eq_of_beq (by simpa using b),eq_of_beq (by simpa using h2)]
 unfold CN at h;split at h
 ·cases h;show one (by assumption)
 ·split at h
  ·cases h;show one (by assumption)
  ·split at h
   ·cases h;show a (by assumption)
   ·split at h
    ·cases h;show a (by assumption)
    ·split at h
     ·cases h;obtain⟨f,g,b,h2,_⟩:=a (by assumption)
      show#[f,g,b,h2]
     ·cases h
abbrev eQ (S:aa):W->Nf (Nb W)
 |.tup xs=>aB xs
 |.ref i=>match fw S i with
  |some xs=>aB xs
  |none=>(lj S i).map λU=>U.map λp=>p.1.w
 |_=>ba
abbrev dc:Np:=8
abbrev oo (ks:Nb T):ND:=decide (↥ks<64)&&decide (T.depths ks<=dc)&&(decide (↥ks<2)||((CN ks).isSome&&fg ks))
abbrev iF (xs:Nb W)(S:aa):Nf (W×aa):=match xs with
 |[x]=>match eQ S x with
  |some ws=>match W.ts ws with
   |some ks=>if oo ks then aB (.ref ↥S,S++[.lst (dJ (om ks) .non ws)])else ba
   |none=>ba
  |none=>ba
 |_=>ba
abbrev mU (xs:Nb W)(S:aa):Nf (W×aa):=match xs with
 |[.ref i]=>match lj S i with
  |some U=>aB (.ref ↥S,S++[.lst (U.map λp=>p.1.w)])
  |none=>iD [.ref i] S
 |xs=>iD xs S
abbrev qk (xs:Nb W)(S:aa):Nf (W×aa):=match xs with
 |[.ref i]=>match lj S i with
  |some U=>aB (.int ↥U,S)
  |none=>nV [.ref i] S
 |xs=>nV xs S
abbrev jq (ks:Nb T):Np:=argBest (om ks) (↥ks-1)
abbrev zj (xs:Nb W)(S:aa):Nf (W×aa):=match xs with
 |[.ref i]=>match fw S i with
  |some ws=>match W.ts ws with
   |some ks=>if T.depths ks<=dc/\fg ks=true then(ws[jq ks]?).map λw=>(w,S)else ba
   |none=>ba
  |none=>ba
 |_=>ba
abbrev gZ:Nb W->Nf (Nb ND)
 |[]=>aB []
 |.bl b::ws=>(gZ ws).map (b :: ·)
 |_::_=>ba
abbrev Go (xs:Nb W)(S:aa):Nf (W×aa):=match xs with
 |[.ref i]=>match fw S i with
  |some ws=>(gZ ws).map λbs=>(.bl (bs.all id),S)
  |none=>ba
 |_=>ba
section
variable{s:Nh}{A:Nb Nl}
def RelL.pick {K:Nr}(r:RelL K A H ws vs)(d:W)(d':V):∀(is:Nb Np),(∀i∈is,i<↥ws)->RelL K A H (is.map λi=>ws.getD i d) (is.map λi=>vs.getD i d')
 |[],_=>.nil
 |i::is,h=>by
  have hi:=h i (.head _);obtain⟨v,c,h2⟩:=r.get (Nt hi);show .cons ?_ (RelL.pick r d d' is λj e=>h j (.tail _ e))
  have a:ws.getD i d=ws[i]:=by simp[hi]
  have b:vs.getD i d'=v:=by simp[c]
  change Rel K A H (ws.getD i d) (vs.getD i d');rw[a,b];show h2
def Vals.pick (r:Vals vs us)(d:V)(d':Nd):∀(is:Nb Np),(∀i∈is,i<↥vs)->Vals (is.map λi=>vs.getD i d) (is.map λi=>us.getD i d')
 |[],_=>.nil
 |i::is,h=>by
  have hi:=h i (.head _);obtain⟨v,c,h2⟩:=L2.Vals.get r (Nt hi);show .cons ?_ (Vals.pick r d d' is λj e=>h j (.tail _ e))
  have a:vs.getD i d=vs[i]:=by simp[hi]
  have b:us.getD i d'=v:=by simp[c]
  change L2.RelV (vs.getD i d) (us.getD i d');rw[a,b];show h2
def oq (a:0<n):∀i∈(bK lt (Qq n)).toList,i<n:=λi hi=>Oh.mp ((ol  (kB a)).mem_iff.mp hi)
def zm {K:Nr}(r:RelL K A H ws vs):RelL K A H (dJ lt .non ws) (dJ lt .non vs):=by
 unfold dJ;rw[↥r];split
 ·show r
 ·show r.pick _ _ _ λi hi=>by rw[↥r];show oq ∅ i hi
def wJ (r:Vals vs us):Vals (dJ lt .non vs) (dJ lt .none us):=by
 unfold dJ;rw[L2.Vals.length r];split
 ·show r
 ·show Vals.pick r _ _ _ λi hi=>by rw[L2.Vals.length r];show oq ∅ i hi
def ql (hl:Us s.heap l vs.toArray)(hsz:↥vs<=sizeLine)
  (h:∀h' tk,(∀b o,s.heap.get? b=aB o->h'.get? b=aB o)->⇑s.heap.objs<=⇑h'.objs->Q vs (xa s h' tk)):wpAny (model prog w) B (collect (.ref l)) Q E s:=by
 obtain⟨o,c,hc,n,hd⟩:=id hl;unfold collect;show Nc (R5 (OP entry_proto_collect' ?_));change wpAny _ _ (do again (.builtin "list.__iadd__" #[[<- newList [],.ref l],[]])) _ _ s
 show Nc (T5 (Nm #[Q7 _ (by decide +kernel),OP entry_list_iadd' ?_]))
 change wpAny _ _ (RV (.ref ⇑s.heap.objs) (.ref l) (.ref ⇑s.heap.objs)) _ _ {s with heap:=s.heap.push (seqObj "list" #[] 0)}
 unfold RV;have a:(s.heap.push (seqObj "list" #[] 0)).get? l=aB o:=Ng _ c;show Nc (RQ (T:="tuple") #[o,a,hc] ?_);have ht:(PL "tuple" == PL "tuple")=true:=by rfl
 rw[NK (by rw[ht];simp)]
 show Nc (UN a hd ?_);show Nc (UN (xs:=#[]) (n:=0) (Nx _ rfl) rfl ?_);rw[N1 (by simp)]
 show Nc (Sr (xs:=#[]) (n:=0) (Nx _ rfl) rfl ?_ (OW _) (by show(#[]++vs.toArray).size<=sizeLine+1;revert Array.size_append NC Qc;omega))
 show Nm ?_;change wpAny (model prog w) B (do
   let o <- load ⇑s.heap.objs
   match o.data with
   |.seq xs _=>pure xs.toList
   |_=>unsupported "internal:collect") Q E {s with heap:=(s.heap.push (seqObj "list" #[] 0)).update ⇑s.heap.objs (Pi (· ++ vs.toArray))}
 show Nc (Ud (SX (Nx _ rfl) _) ?_);change wpAny _ _ (pure ((#[]:N9 Nd)++vs.toArray).toList) Q E _;rw[show((#[]:N9 Nd)++vs.toArray).toList=vs by simp]
 show Nm (h _ s.toks (λb o' e=>(PQ _ _ _ _ (NJ (Nz e))).trans (Ng _ e)) ?_)
 rw[U9,size_push'];show O6 _
def DicAt.raw (d:DicAt wd a xs h):∃b c,RawD a b c h/\b.toList=xs.map (yI wd):=
 let ⟨_,_,_,o,b,c,h1,h2,h3,h4⟩:=d;#[b,c,#[o,h1,h2,h3],h4]
def KRel.keysL (r:KRel X.K A H U xs):RelL X.K A H (U.map λp=>p.1.w) (xs.map λq=>V.ref q.2.1):=by
 induction r with
 |nil=>show .nil
 |cons h t ih=>show .cons h.2.2.2.1 ih
def mV (xs:Nb (T×Nl×Nd)):Vals (xs.map λq=>V.ref q.2.1) (xs.map λq=>NR q.2.1):=by
 induction xs with
 |nil=>show .nil
 |cons x xs ih=>show .cons rfl ih
def lu {b:N9 PF}{xs:Nb (T×Nl×Nd)}(f:b.toList=xs.map (yI wd))(d:SN (λi v=>∃e,b[i]?=aB e/\e.key=v) a ⇑b):a.toList=xs.map λq=>NR q.2.1:=by
 have hl:⇑b=↥xs:=by rw[<- NP,f,Ni]
 apply Qp
 ·rw[NP,d.1,Ni,hl]
 ·intro i g h2;obtain⟨e,c,h⟩:=d.2 i a[i] (by simp[g])
  rw[<- OR,f,Nw]at c;rw[Ni]at h2;rw[Nt h2]at c;simp only[OD,NV]at c;subst c;rw[Ru,Array.getElem_toList];show h.symm
def wK (M:X.A.handled=ba)(I:Inv X J Y H s)(t:wv X A H S)(G:Rel X.K A H x a)(n:RelV a u)(e:eQ S x=aB ws):∃vs us,RelL X.K A H ws vs/\Vals vs us/\↥us<=sizeLine/\
  ∀ B (i:B.handled=ba) E f,(∀h' tk,(∀b o,s.heap.get? b=aB o->h'.get? b=aB o)->⇑s.heap.objs<=⇑h'.objs->f us (xa s h' tk))->wpAny (model X.prog X.w) B (collect u) f E s:=by
 cases G with
 |tup j m=>
  cases e;obtain⟨its,c,ht,g⟩:=I.tuple j;obtain rfl:u=NR _:=n;show#[_,its,m,c,by rw[<- L2.Vals.length c];show g,λB i E f h=>ql ht (by rw[<- L2.Vals.length c];show g) h]
 |ref q=>
  dsimp only[eQ]at e;split at e
  next xs z=>
   cases e;obtain⟨vs,j,m⟩:=bn t z q;obtain⟨its,c,p,g⟩:=I.list j;obtain rfl:u=NR _:=n;show#[_,its,m,c,by rw[<- L2.Vals.length c];show g,λB i E f h=>collect_list p.isList (h _ s.toks (λb o' e=>(PQ _ _ _ _ (NJ (Nz e))).trans (Ng _ e)) ?_) (by rw[<- L2.Vals.length c];show g)]
   rw[U9,size_push'];show O6 _
  ·rw[Nk]at e;obtain⟨U,hk,rfl⟩:=e;obtain⟨xs,D,C⟩:=gY t hk q;have d:=cH I D;obtain⟨w,L,raw,r⟩:=d.raw;obtain rfl:u=NR _:=n;have hl:⇑w=↥xs:=by rw[<- NP,r,Ni]
   show#[_,_,C.keysL,mV xs,by rw[Ni];show d.1,λB i E f h=>qa (uK d.2.1) i raw (by rw[hl];show d.1) λh' tk v k l y=>?_]
   rw[lu r y];show h h' tk k l
 |_=>cases e
def mW {D:Nl}(I:Inv X J Y H s)(g:wv X A H S)(r:RelL X.K A H ws vs)(f:Vals vs us)(i:↥us<=sizeLine)(hk:∀b o,s.heap.get? b=aB o->h'.get? b=aB o)(d:⇑s.heap.objs<=D)
  (h:h'.get? D=aB (xi us.toArray c)):PostE X J Y A H (S++[.lst ws]) (.ref ↥S) (.ref D) (xa s h' tk):=by
 have e:H D=ba:=I.hok.fresh d;show#[.ref D,_,A++[D],I.laid (a:=D) (o:=.lst vs) (t':=tk) hk d #[by rw[L2.Vals.length f];show i,us,c,f,h],rfl,d7 e,g.push e r,.ref ?_]
 rw[<- g.len];simp
def ou (B:X.A.handled=ba)(hu:X.A.units+12<cLine):LCall X (.builtin "sorted") iF:=by
 intro J s Y H A S xs vs us w S' I M rl rv e;cases rl with
 |nil=>cases e
 |cons r t=>
  cases t with
  |cons _ _=>cases e
  |nil=>
   cases rv with
   |cons ru z=>
    cases z;dsimp only[iF]at e;split at e
    ·rename_i ws hw;split at e
     ·rename_i ks hk;split at e
      ·rename_i k;cases e;obtain⟨vs',a,G,p,Z,n⟩:=wK B I M r ru hw
       (dsimp only[oo]at k;simp only[Nj,NZ]at k)
       obtain⟨⟨R,hd⟩,k⟩:=k;have x:T.ws ks=ws:=W.ts_w hk;have v:IsTs s.heap ks a:=fY I ks (x▸G) p;have hl:↥a=↥ks:=v.length.symm;have L:2<=↥a->(CN ks).isSome=true/\fg ks=true:=λh2=>by
        rcases Pa _ _▸k with h|h
        ·simp only[NZ]at h;omega
        ·simpa using h
       show wI (vs:=a) (lt:=om ks) (κ:=zh ((CN ks).getD 0)) ∅ (λN u=>n X.A.in1 B _ N u) (λh2 h' tk f Q q=>?_) (λh2 h' tk f i j hi C Q q=>?_) λD h' tk c f U V=>?_
       ·obtain⟨y,E⟩:=L h2;obtain⟨c,hc⟩:=Oq.mp y;rw[hc]at q;show Gn (s:=(xa s h' tk)) (v.kept λb o _ e=>f b o e) h2 hc q
       ·obtain⟨y,E⟩:=L h2;obtain⟨c,hc⟩:=Oq.mp y;rw[hc];have l:i<↥ks:=∅
        have m:j<↥ks:=∅
        have g:=(v.kept (h':=h') λb o _ e=>f b o e)
        have O:a.getD i OM=a[i]:=by simp[hi]
        have P:a.getD j OM=a[j]:=by simp[C]
        rw[O,P];have b1:=dv (ks:=ks) i l;have b2:=dv (ks:=ks) j m;show CO (s:=(xa s h' tk)) (d:=dc) (c:=c) (by rw[be,be];unfold dc;omega) ∅ ∅ (g.get i l hi) (g.get j m C) (dy E l m) (CP hc (N7 l) (N7 m)) q
       ·show mW I M (zm G) (wJ p) (by rw[qf];show Z) f U V
      ·cases e
     ·cases e
    ·cases e
def qm (u:X.A.handled=ba):LCall X (.type "list") mU:=by
 intro J s Y H A S xs vs us w S' I h k l e
 by_cases hd:∃i U,xs=[.ref i]/\lj S i=aB U
 ·obtain⟨i,U,rfl,hk⟩:=hd
  (dsimp only[mU]at e;simp only[hk]at e)
  cases e;cases k with
  |cons r t=>
   cases t;cases l with
   |cons y g=>
    cases g;cases r with
    |ref n=>
     obtain⟨xs,x,v⟩:=gY h hk n;have d:=cH I x;obtain⟨o,z,raw,j⟩:=d.raw;obtain rfl:_=NR _:=y;have hl:⇑o=↥xs:=by rw[<- NP,j,Ni]
     show PySem.W.kdl_call (uK d.2.1) u raw (by rw[hl];show d.1) λh' tk a m f p q=>?_
     have b:=lu j q;show mW (us:=a.toList) I h v.keysL (b▸mV xs) (by rw[b,Ni];show d.1) f (Ny _) (c:=m) ?_
     simpa using p
 ·have:mU xs S=iD xs S:=by
   unfold mU;split
   next i=>
    split
    next U hk=>show absurd #[i,U,rfl,hk] hd
    ·rfl
   ·rfl
  rw[this]at e;show gX J s Y H A S xs vs us w S' I h k l e
end
open PySem.W (KasT kas_sort kas_asc kas_desc kas_tail3 kas_descPart kas_count kas_place kas_bin kas_rev)
def dq {f:α->KasT β}:∀t:KasT α,bK lt (t.bind f)=bK lt (f (bK lt t))
 |.ret _=>rfl
 |.ask i j k=>dq (k (lt i j))
structure Lin (n:Np)(lt:Np->Np->ND):Prop where
 tr:∀i j k,i<n->j<n->k<n->lt i j=true->lt j k=true->lt i k=true
 as:∀i j,i<n->j<n->lt i j=true->lt j i=false
 to:∀i j,i<n->j<n->i≠j->lt j i=false->lt i j=true
abbrev gt (p:N9 Np)(i:Np):Np:=p.getD i 0
def jr :gt p i=(p[i]?).getD 0:=by unfold gt;simp[Array.getD_eq_getD_getElem?]
def Pm.inj (h:Pm n p)(hi:i<n)(d:j<n)(c:i≠j):gt p i≠gt p j:=by
 have nd:p.toList.Nodup:=h.nodup_iff.mpr Va;have a:i<↥p.toList:=by rw[NP,⇑h];show hi
 have b:j<↥p.toList:=by rw[NP,⇑h];show d
 intro e;have f:gt p i=p.toList[i]:=by unfold gt;simp[SO,⇑h,hi]
 have g:gt p j=p.toList[j]:=by unfold gt;simp[SO,⇑h,d]
 rw[f,g]at e;have pw:=QS.mp nd;rcases Ui c with h|h
 ·show pw i j a b h e
 ·show pw j i b a h e.symm
abbrev Up (lt:Np->Np->ND)(p:N9 Np)(m:Np):Prop:=∀i j,i<j->j<m->lt (gt p i) (gt p j)=true
section
variable{n:Np}{lt:Np->Np->ND}(L:Lin n lt)
include L
def Up.more (d:Pm n p)(k:1<=a)(g:a<n)(h:Up lt p a)(hl:lt (gt p (a-1)) (gt p a)=true):Up lt p (a+1):=by
 have c:0<n:=∅
 intro i j b l
 by_cases e:j=a
 ·subst e
  by_cases f:i=j-1
  ·subst f;show hl
  ·show L.tr _ _ _ (d.lt c _) (d.lt c _) (d.lt c _) (h i (j-1) ∅ ∅) hl
 ·show h i j b ∅
def sD (b:Pm n p):∀ f a,1<=a->a+f=n->Up lt p a->Up lt p (bK lt (kas_asc p f a))/\a<=bK lt (kas_asc p f a)/\bK lt (kas_asc p f a)<=n/\(bK lt (kas_asc p f a)<n->lt (gt p (bK lt (kas_asc p f a))) (gt p (bK lt (kas_asc p f a)-1))=true)
 |0,a,d,h2,h=>#[h,Ny _,by change a<=n;omega,λz=>by have:a<n:=z;omega]
 |f+1,a,d,h2,h=>by
  have g:0<n:=∅
  have e:bK lt (kas_asc p (f+1) a)=bK lt (if lt (gt p a) (gt p (a-1))=true then .ret a else kas_asc p f (a+1)):=rfl
  rw[e];cases c:lt (gt p a) (gt p (a-1))with
  |true=>show#[h,Ny _,by change a<=n;omega,λ_=>c]
  |false=>
   have l:lt (gt p (a-1)) (gt p a)=true:=L.to _ _ (b.lt g (a-1)) (b.lt g a) (b.inj ∅ ∅ ∅) c
   obtain⟨i,m,j,k⟩:=sD b f (a+1) ∅ ∅ (Up.more L b d ∅ h l)
   show#[i,by change a<=bK lt (kas_asc p f (a+1));omega,j,k]
abbrev Dn (lt:Np->Np->ND)(p:N9 Np)(m:Np):Prop:=∀i j,i<j->j<m->lt (gt p j) (gt p i)=true
def uN (b:Pm n p):∀ f a,1<=a->a+f=n->Dn lt p a->∃m,bK lt (kas_desc f p a 0)=(p,m,0)/\a<=m/\m<=n/\Dn lt p m
 |0,a,q,h2,h=>#[a,rfl,Ny _,∅,h]
 |f+1,a,q,h2,h=>by
  have g:0<n:=∅
  have e:bK lt (kas_desc (f+1) p a 0)=bK lt (if lt (gt p a) (gt p (a-1))=true then(if 0 > 0 then kas_desc f (kas_rev p (a-(0+1)) a) (a+1) 0 else kas_desc f p (a+1) 0)else .ask (gt p (a-1)) (gt p a) λd=>if d=true then .ret (p,a,0)else kas_desc f p (a+1) (0+1)):=rfl
  rw[e];cases c:lt (gt p a) (gt p (a-1))with
  |true=>
   obtain⟨m,r,v,s,t⟩:=uN b f (a+1) ∅ ∅ λi j k u=>by
    by_cases e:j=a
    ·subst e
     by_cases o:i=j-1
     ·subst o;show c
     ·show L.tr _ _ _ (b.lt g _) (b.lt g _) (b.lt g _) c (h i (j-1) ∅ ∅)
    ·show h i j k ∅
   show#[m,r,∅,s,t]
  |false=>
   have l:lt (gt p (a-1)) (gt p a)=true:=L.to _ _ (b.lt g (a-1)) (b.lt g a) (b.inj ∅ ∅ ∅) c
   show#[a,?_,Ny _,∅,h]
   change bK lt (if lt (gt p (a-1)) (gt p a)=true then .ret (p,a,0)else kas_desc f p (a+1) (0+1))=_
   rw[l];rfl
omit L in
def Gp {p:N9 Np}{m:Np}(d:Pm n p)(c:m<=n)(h:Dn lt p m):Up lt (kas_rev p 0 m) m:=by
 intro i j a b;have g:∀k,k<m->gt (kas_rev p 0 m) k=gt p (m-1-k):=λk hk=>by
  rw[jr,jr];show((mirror p 0 m ((m-0)/2))[k]?).getD 0=_;rw[getElem?_mirror_all (by rw[⇑d];show c),NK #[OW _,hk],Nat.zero_add]
 rw[g i ∅,g j b]
 show h _ _ ∅ ∅
def zo (a:Pm n p)(w:1<=n):∃m f,bK lt (kas_count n p)=(m,f)/\Pm n f/\1<=m/\m<=n/\Up lt f m:=by
 unfold kas_count;rw[dq];obtain⟨c,g,o,q⟩:=sD L a (n-1) 1 (Ny _) ∅ λi j d r=>∅
 generalize bK lt (kas_asc p (n-1) 1)=m at c g o q
 by_cases k:m=n
 ·subst k;rw[NK (Ot _)];show#[m,p,rfl,a,g,Ny _,c]
 ·rw[N1 (by simp[k])]
  by_cases h:m > 1
  ·rw[NK h];have l:=c 0 (m-1) ∅ ∅
   show#[m,p,?_,a,g,o,c];change bK lt (if lt (gt p 0) (gt p (m-1))=true then .ret (m,p)else kas_descPart m n (kas_rev p 0 m))=_
   rw[l];rfl
  ·rw[N1 h];obtain rfl:m=1:=∅
   unfold kas_descPart;rw[dq];have l:=q ∅
   obtain⟨m,e,x,s,t⟩:=uN L a (n-(1+1)) (1+1) ∅ ∅ λi j d r=>by
    obtain rfl:j=1:=∅
    obtain rfl:i=0:=∅
    show l
   rw[e];dsimp only;rw[N1 ∅]
   unfold kas_tail3;rw[dq];have b:Pm n (kas_rev p 0 m):=a.rev 0 m;obtain⟨u,y,v,z⟩:=sD L b (n-m) m ∅ ∅ (Gp a s t)
   show#[_,_,rfl,b,∅,v,u]
def lv (a:Pm n p)(hk:k<n)(j:Up lt p k):∀ f l r,l<=r->r<=k->r-l<=f->(∀i,i<l->lt (gt p i) (gt p k)=true)->(∀i,r<=i->i<k->lt (gt p k) (gt p i)=true)->
  ∃m,bK lt (kas_place p k f l r)=m/\m<=k/\(∀i,i<m->lt (gt p i) (gt p k)=true)/\(∀i,m<=i->i<k->lt (gt p k) (gt p i)=true)
 |0,l,r,s,h2,t,g,h=>#[l,rfl,∅,g,λi hi=>h i ∅]
 |f+1,l,r,s,h2,t,g,h=>by
  have b:0<n:=∅
  unfold kas_place
  by_cases d:l>=r
  ·rw[NK d];show#[l,rfl,∅,g,λi hi=>h i ∅]
  ·rw[N1 d];change ∃m,bK lt (if lt (gt p k) (gt p ((l+r)/2))=true then kas_place p k f l ((l+r)/2)else kas_place p k f ((l+r)/2+1) r)=m/\_
   cases c:lt (gt p k) (gt p ((l+r)/2))with
   |true=>
    rw[NK rfl];show lv a hk j f l ((l+r)/2) ∅ ∅ ∅ g λi hi o=>?_
    by_cases e:i=(l+r)/2
    ·rw[e];show c
    ·show L.tr _ _ _ (a.lt b _) (a.lt b _) (a.lt b _) c (j _ _ ∅ o)
   |false=>
    rw[N1 Oe];have q:=L.to _ _ (a.lt b ((l+r)/2)) (a.lt b k) (a.inj ∅ ∅ ∅) c
    show lv a hk j f ((l+r)/2+1) r ∅ h2 ∅ (λi hi=>?_) h
    by_cases e:i=(l+r)/2
    ·rw[e];show q
    ·show L.tr _ _ _ (a.lt b _) (a.lt b _) (a.lt b _) (j i ((l+r)/2) ∅ ∅) q
def zp:∀ f p k,Pm n p->k+f=n->Up lt p k->Pm n (bK lt (kas_bin f p k))/\Up lt (bK lt (kas_bin f p k)) n
 |0,p,k,a,h,b=>by
  have:k=n:=∅
  show#[a,this▸b]
 |f+1,p,k,a,h,b=>by
  unfold kas_bin;rw[dq];obtain⟨m,e,c,d,l⟩:=lv L a ∅ b k 0 k (OW _) (Ny _) ∅ (λi hi=>∅) λi c h2=>∅
  rw[e];show zp f _ (k+1) (a.bub _ _) ∅ λi j o q=>?_
  have g:∀i,gt (bubble p k (k-m)) i=if i=m then gt p k else if m<i/\i<=k then gt p (i-1)else gt p i:=λi=>by
   rw[jr,jr,jr,jr,getElem?_bubble (by rw[⇑a];omega) _ ∅,show k-(k-m)=m by omega]
   split
   ·rfl
   ·split<;>rfl
  rw[g,g]
  repeat' split
  all_goals first
   |(exfalso;omega)
   |show d _ ∅
   |show l _ ∅ ∅
   |show b _ _ ∅ ∅
def CQ (d:1<=n):Pm n (bK lt (kas_sort n))/\Up lt (bK lt (kas_sort n)) n:=by
 unfold kas_sort;rw[dq];obtain⟨m,g,e,a,h2,f,b⟩:=zo L (p:=(N2 n).toArray) (by unfold Pm;simp) d
 rw[e];dsimp only
 by_cases c:m<n
 ·rw[NK c];have:max m 1=m:=∅
  rw[this];show zp L _ _ _ a ∅ b
 ·rw[N1 c];have:m=n:=∅
  show#[a,this▸b]
end
mutual
theorem js:∀x y:T,jo x=true->dU x y=aB true->dU y x=aB false
 |.int a,.int b,_,h=>by
  dsimp only[dU]at h;simp only[NV,NZ]at h
  delta dU;revert NV SC
  omega
 |.str _,_,h,_=>by cases h
 |.tup xs,.tup ys,hn,h=>oy xs ys hn h
 |.int _,.str _,_,h|.int _,.tup _,_,h|.tup _,.int _,_,h|.tup _,.str _,_,h=>by cases h
theorem oy:∀xs ys:Nb T,dL xs=true->bR xs ys=aB true->bR ys xs=aB false
 |[],[],_,h=>by cases h
 |[],_::_,_,_=>rfl
 |_::_,[],_,h=>by cases h
 |x::xs,y::ys,hn,h=>by
  simp only[dL,Nj]at hn;dsimp only[bR]at h ⊢
  by_cases e:x=y
  ·rw[NK e]at h;rw[NK e.symm];show oy xs ys hn.2 h
  ·rw[N1 e]at h;rw[N1 (Ne.symm e)];show js x y hn.1 h
end
mutual
theorem oz:∀x y:T,jo x=true->x≠y->dU y x=aB false->dU x y=aB true
 |.int a,.int b,_,hne,h=>by
  dsimp only[dU]at h;simp only[NV,SC]at h
  delta dU;revert NV NZ
  have:a≠b:=λe=>hne (e▸rfl)
  omega
 |.str _,_,h,_,_=>by cases h
 |.tup xs,.tup ys,hn,hne,h=>uO xs ys hn (λe=>hne (e▸rfl)) h
 |.int _,.str _,_,_,h|.int _,.tup _,_,_,h|.tup _,.int _,_,_,h|.tup _,.str _,_,_,h=>by cases h
theorem uO:∀xs ys:Nb T,dL xs=true->xs≠ys->bR ys xs=aB false->bR xs ys=aB true
 |[],[],_,h,_=>absurd rfl h
 |[],_::_,_,_,_=>rfl
 |_::_,[],_,_,h=>by cases h
 |x::xs,y::ys,hn,hne,h=>by
  simp only[dL,Nj]at hn;dsimp only[bR]at h ⊢
  by_cases e:x=y
  ·rw[NK e.symm]at h;rw[NK e];show uO xs ys hn.2 (λz=>hne (by rw[e,z])) h
  ·rw[N1 (Ne.symm e)]at h;rw[N1 e];show oz x y hn.1 e h
end
mutual
theorem sE:∀x y z:T,jo x=true->jo y=true->dU x y=aB true->dU y z=aB true->dU x z=aB true
 |.int a,.int b,.int c,_,_,h,h'=>by
  dsimp only[dU]at h h' ⊢;simp only[NV,NZ]at h h' ⊢
  omega
 |.tup xs,.tup ys,.tup zs,hn,hn',h,h'=>uP xs ys zs hn hn' h h'
 |.str _,_,_,h,_,_,_=>by cases h
 |.int _,.str _,_,_,_,h,_|.int _,.tup _,_,_,_,h,_|.tup _,.int _,_,_,_,h,_|.tup _,.str _,_,_,_,h,_=>by cases h
 |.int _,.int _,.str _,_,_,_,h|.int _,.int _,.tup _,_,_,_,h|.tup _,.tup _,.int _,_,_,_,h|.tup _,.tup _,.str _,_,_,_,h=>by cases h
theorem uP:∀xs ys zs:Nb T,dL xs=true->dL ys=true->bR xs ys=aB true->bR ys zs=aB true->bR xs zs=aB true
 |[],[],_,_,_,h,_=>by cases h
 |_::_,[],_,_,_,h,_=>by cases h
 |_,_::_,[],_,_,_,h=>by cases h
 |[],_::_,_::_,_,_,_,_=>rfl
 |x::xs,y::ys,z::zs,hn,hn',h,h'=>by
  simp only[dL,Nj]at hn hn';dsimp only[bR]at h h' ⊢
  by_cases e:x=y
  ·subst e;rw[NK rfl]at h
   by_cases e':x=z
   ·rw[NK e']at h' ⊢;show uP xs ys zs hn.2 hn'.2 h h'
   ·rw[N1 e']at h' ⊢;show h'
  ·rw[N1 e]at h
   by_cases e':y=z
   ·subst e';rw[N1 e];show h
   ·rw[N1 e']at h';have t:=sE x y z hn.1 hn'.1 h h';have e2:x≠z:=λe2=>by
     subst e2;have:=js x x hn.1 t;rw[t]at this;cases this
    rw[N1 e2];show t
end
abbrev Iw (ks:Nb T):Prop:=ks.Pairwise λx y=>dU x y=aB true
abbrev uQ (ks:Nb T):Nb T:=dJ (om ks) (.int 0) ks
structure Nice (ks:Nb T):Prop where
 num:∀x∈ks,jo x=true
 lt:fg ks=true
 nd:ks.Nodup
def Nice.lin (h:Nice ks):Lin ↥ks (om ks):=by
 have nm:∀i (hi:i<↥ks),jo ks[i]=true:=λi hi=>h.num _ (N7 hi)
 show#[λi j k hi c hk a b=>?_,λi j hi c a=>?_,λi j hi c l a=>?_]
 ·have d:=dy h.lt hi c;have f:=dy h.lt c hk;have m:=dy h.lt hi hk;rw[a]at d;rw[b]at f
  rw[sE _ _ _ (nm i hi) (nm j c) d f]at m;show(OC m).symm
 ·have d:=dy h.lt hi c;have f:=dy h.lt c hi;rw[a]at d;rw[js _ _ (nm i hi) d]at f;show(OC f).symm
 ·have d:=dy h.lt c hi;have f:=dy h.lt hi c;rw[a]at d;have g:ks[i]≠ks[j]:=λe=>by
   have pw:=QS.mp h.nd;rcases Ui l with q|q
   ·show pw i j hi c q e
   ·show pw j i c hi q e.symm
  rw[oz _ _ (nm i hi) g d]at f;show(OC f).symm
def qo :(dJ lt d xs).Perm xs:=by
 unfold dJ;split
 ·show .refl _
 ·have p:Pm _ (bK lt (Qq ↥xs)):=ol (kB ∅)
  show(Xp _ p).trans ?_;have:(N2 ↥xs).map (λi=>xs.getD i d)=xs:=by
   apply Qp
   ·simp
   ·intro k a h2;simp[h2]
  rw[this]
def zq (h:Nice ks):Iw (uQ ks):=by
 unfold uQ dJ Iw;split
 next hl=>
  match ks,hl with
  |[],_=>show .nil
  |[x],_=>simp
  |_::_::_,hl=>simp only[Og]at hl;omega
 next hl=>
  obtain⟨p,u⟩:=CQ h.lin ∅
  rw[QS];intro i j hi c b;rw[Ni,NP,⇑p]at hi c;have a:0<↥ks:=∅
  have l:=u i j b c;have d:=dy h.lt (p.lt a i) (p.lt a j);have g:∀k (hk:k<↥ks),(bK (om ks) (Qq ↥ks)).getD k 0=(bK (om ks) (Qq ↥ks)).toList[k]'(by rw[NP,⇑p];show hk):=λk hk=>by simp[SO,⇑p,hk]
  have e:om ks ((bK (om ks) (Qq ↥ks)).getD i 0) ((bK (om ks) (Qq ↥ks)).getD j 0)=true:=l;rw[e]at d;have gd:∀k (hk:k<↥ks),ks.getD k (.int 0)=ks[k]:=λk hk=>by simp[hk]
  revert Ru;rw[<- g i hi,<- g j c,gd _ (p.lt a i),gd _ (p.lt a j)];show d
abbrev lw (xs:Nb W)(S:aa):Nf (W×aa):=match xs with
 |[.ref i]=>match Gi S i with
  |some (lo,hi)=>if -(2^62)<=lo/\lo<2^62/\-(2^62)<=hi/\hi<2^62/\(hi-lo).toNat<=sizeLine then aB (.tup (Jp lo (hi-lo).toNat),S)else ba
  |none=>lc [.ref i] S
 |xs=>lc xs S
section
variable{w:NU}{E:Nd->Nh->Prop}{s:Nh}
def mr {n:Np}(D:A.handled=ba)(y:W7 s.heap r a b c t u v)(k:RO a b c=true)
  (G:Pd a b c=n) (x:n<=2^24)
  (B:∀h' tk d,(∀b o,s.heap.get? b=aB o->h'.get? b=aB o)->⇑s.heap.objs<=⇑h'.objs->SN (λi v=>∃t,v=.int (a+i*c) t) d n->Q d.toList (xa s h' tk)):wh prog w A (collect (.ref r)) Q E s:=by
 show Nc (R5 (OP F.entry_proto_collect ?_));rw[Pf F.plain_proto_collect _];show Nc (Oy ?_);show Nm #[P0 F.plain_list_iadd _,OP F.entry_list_iadd ?_];rw[Pf F.plain_list_iadd _];have C:(s.heap.push _).get? _=aB {cls:=.type "list",data:=.seq #[] 0}:=Nx _ rfl;have l:∀m,(∃h' tk d p,m=(xa s h' tk)/\(∀b o,s.heap.get? b=aB o->h'.get? b=aB o)/\h'.get? ⇑s.heap.objs=aB {cls:=.type "list",dict:=ba,data:=.seq d p,slots:=#[]}/\SN (λi v=>∃t,v=.int (a+i*c) t) d n)->wh prog w A (do
   let o <- load ⇑s.heap.objs
   match o.data with
   |.seq xs _=>pure xs.toList
   |_=>unsupported "internal:collect") Q E m:=by
  rintro m ⟨h',tk,d,p,rfl,hk,j,g⟩;show Nc (Ud j (Nm (B h' tk d hk (Px (Nz j)) g)))
 show Ou (wpAny_extend_range   (R:=λr m=>r=.ok (.ret (.ref ⇑s.heap.objs))/\∃h' tk d p,m=(xa s h' tk)/\(∀b o,s.heap.get? b=aB o->h'.get? b=aB o)/\h'.get? ⇑s.heap.objs=aB {cls:=.type "list",dict:=ba,data:=.seq d p,slots:=#[]}/\SN (λi v=>∃t,v=.int (a+i*c) t) d n) D (Ng _ y) k G x _ _ 0 C λh' tk q p hk j g=>#[rfl,h',tk,q,p,rfl,λb o e=>hk b o (NJ (Nz e)) (Ng _ e),j,g]) (λfin m h=>?_) (λe m h=>?_)
 ·cases fin with
  |done f=>
   obtain⟨e,h⟩:=h;cases e;show l m h
  |again p=>show#[h.1,Py h.2 λr z y=>by obtain⟨rfl,y⟩:=y;show l z y]
 ·show absurd h.1 (by simp)
def jt {n:Np}(q:A.handled=ba)(z:W7 s.heap r a b c t u v)(f:RO a b c=true)
  (y:Pd a b c=n) (j:n<=2^24)
  (h:∀(h':N6) tk d,(∀b o,s.heap.get? b=aB o->h'.get? b=aB o)->⇑s.heap.objs<=⇑h'.objs->SN (λi v=>∃t,v=.int (a+i*c) t) d n->Q₁ (.ref ⇑h'.objs) {s with heap:=h'.push {cls:=.type "tuple",data:=.seq d},toks:=tk}) :
  codeAny (model prog w) A (.call (.builtin "tuple.__new__") #[[.type "tuple",.ref r],[]]) (wants Q₁ E) s:=by
 show RE ?_;show Nc (Sj (F.newCall_tuple_1 _) (Nm #[P0 F.plain_tuple_new _,OP F.entry_tuple_new ?_]));rw[Pf F.plain_tuple_new _];have p:=PySem.sub_tuple_self;have l:=PySem.init_tuple_lookup;have x:=PySem.madeHere_tuple;have k:A.in1.handled=ba:=by simp[q]
 wp_walk using RQ hTI,mr  k z f y j
 intro h' tk d hk m g;change wpAny _ _ (Su d.toList.toArray >>= λv=>ret v) _ _ _
 unfold Su;show Nc (Oy ?_ (by change ⇑d.toList.toArray<=sizeLine;revert Array.toArray_toList;rw[g.1,OF];omega))
 show Nm ?_;have e:d.toList.toArray=d:=by rfl
 rw[e];show h h' tk d hk m g
def ju {n:Np}(m:A.handled=ba)(q:W7 s.heap r a b c t u v)(g:RO a b c=true)
  (p:Pd a b c=n) (j:n<=2^24)
  (l:∀(h':N6) tk f,(∀b o,s.heap.get? b=aB o->h'.get? b=aB o)->⇑s.heap.objs<=⇑h'.objs->SN (λi v=>∃t,v=.int (a+i*c) t) f n->Q (.ref ⇑h'.objs) {s with heap:=h'.push {cls:=.type "tuple",data:=.seq f},toks:=tk}) :
  wh prog w A (call (.type "tuple") [.ref r]) Q E s:=by
 show callType_codes (Q₁:=λobj e=>e.TypeIs obj _/\Q obj e) F.called_tuple (F.typeCall_tuple_1 _) F.entry_object_init
  (jt (by simp[m]) q g p j λh' tk f hk k h=>#[#[_,Nx _ rfl,rfl],l h' tk f hk k h]) λobj e d=>?_
 show#[d.1,F.args_object_init_2 obj _,object_init_meets F.called_tuple.init.lookup F.called_tuple.made #v[] _ w _ _ _ #[d.1,rfl,d.2]]
end
section
variable{s:Nh}{A:Nb Nl}
def oB (y:X.A.handled=ba):LCall X (.type "tuple") lw:=by
 intro J s Y H A S xs vs us w S' I l m n e;unfold lw at e;split at e
 next i=>
  split at e
  next lo hi j=>
   split at e
   next x=>
    cases e;obtain⟨a,q,rfl⟩:=kz (xs:=[]) m n;obtain⟨b1,b2,b3,b4,b5⟩:=x;have r:H a=aB (.rng lo hi):=by
     unfold Gi at j;split at j
     next D=>cases j;show l.obj i _ a D q
     ·cases j
    obtain⟨t,u,v,B⟩:=I.hok a _ r;have z:Pd lo hi 1=((hi-lo).toNat):=by rw[TU];split<;>omega
    show ju y B (Wg b1 b2 b3 b4) z b5 λh' tk d hk f c=>?_
    have C:Vals ((N2 (hi-lo).toNat).map λ(k:Np)=>V.int (lo+k)) d.toList:=by
     show nZ (by rw[Ni,Oz,NP,c.1]) λi v u h p=>?_
     rw[Nw,Nk]at h;obtain⟨k,h,rfl⟩:=h;obtain⟨hk,rfl⟩:=NA.mp h;obtain⟨t,rfl⟩:=c.2 i u (by rw[<- OR];show p)
     show#[t,by simp]
    have g:=I.hok.fresh f;show#[.ref _,_,A,I.laid  (o:=.tup _)  (λb o e=>Ng _ (hk b o e)) f #[#[by simpa using b5,NoD.new _ _ _],d.toList,C,?_],rfl,bc (.inl g),l.lay g,.tup (.inl (.inl aA)) (n4 _)]
    show#[_,Nx _ rfl,rfl,0,by rfl]
   ·cases e
  ·show jQ _ s Y H A S _ vs us w S' I l m n e
 ·show jQ _ s Y H A S _ vs us w S' I l m n e
def wL (L:X.A.handled=ba)(hu:X.A.units+12<cLine):LCall X (.builtin "min") zj:=by
 intro J s Y H A S xs vs us w S' I C V rv e;cases V with
 |nil=>cases e
 |cons r t=>
  cases t with
  |cons _ _=>cases r<;>cases e
  |nil=>
   cases rv with
   |cons Z q=>
    cases q;cases r with
    |ref D=>
     dsimp only[zj]at e;split at e
     ·rename_i ws hw;split at e
      ·rename_i ks hk;split at e
       ·rename_i hc;rw[Nk]at e;obtain⟨w',h,k⟩:=e;cases k;obtain⟨vs',G,n⟩:=bn C hw D;obtain⟨its,f,p,hz⟩:=I.list G;obtain rfl:_=NR _:=Z;have m:T.ws ks=ws:=W.ts_w hk;have u:IsTs s.heap ks its:=fY I ks (m▸n) f;have hl:↥its=↥ks:=u.length.symm;have M:↥ws=↥ks:=by rw[↥n,L2.Vals.length f,hl]
        have N:0<↥ks:=by
         have:=(NA.mp h).1;omega
        show y9 (items:=its.toArray) (bt:=om ks) L p.isList (by simpa [hl]using N) (λi j vi vj B Q E d hi x O=>?_) λv h' tk y d=>?_
        ·have a:i<↥ks:=by
          have:=(Oi.mp hi).1
          simpa [hl]using this
         have c:j<↥ks:=by
          have:=(Oi.mp x).1
          simpa [hl]using this
         have g:=u.kept (h':=B.heap) λb o _ e=>d b o e
         have h:vi=its[i]'∅:=by
          have:=(Oi.mp hi).2
          simpa using this.symm
         have k:vj=its[j]'∅:=by
          have:=(Oi.mp x).2
          simpa using this.symm
         subst h k;have b1:=dv (ks:=ks) i a;have b2:=dv (ks:=ks) j c;show Gm dc _ _ _ _ X.A.in1 B _ ∅ ∅ (g.get i a ∅) (g.get j c ∅) (by rw[be];unfold dc;omega) (dy hc.2 a c) X.prog X.w _ _ O
        ·have l:its[jq ks]?=aB v:=by
          have:⇑its.toArray=↥ks:=by simpa using hl
          rw[this]at y
          simpa [jq]using y
         obtain⟨v',P,R⟩:=n.get h;obtain⟨u',z,U⟩:=L2.Vals.get f P;rw[l]at z;cases z;show#[v',H,A,I.kept d,U,.refl,C,R]
       ·cases e
      ·cases e
     ·cases e
    |_=>cases e
def mX:∀{ws:Nb W}{bs:Nb ND},gZ ws=aB bs->ws=bs.map W.bl
 |[],bs,h=>by cases h;rfl
 |.bl b::ws,bs,h=>by
  (dsimp only[gZ]at h;simp only[Nk]at h)
  obtain⟨r,a,h2⟩:=h;subst h2;rw[mX a];rfl
 |.non::_,_,h|.int _::_,_,h|.str _::_,_,h|.tup _::_,_,h|.ref _::_,_,h=>by cases h
def sF {bs:Nb ND}(r:RelL X.K A H (bs.map W.bl) vs)(a:Vals vs us):us=bs.map OY:=by
 induction bs generalizing vs us with
 |nil=>cases r;cases a;rfl
 |cons b bs ih=>
  cases r with
  |cons c d=>
   cases a with
   |cons e f=>
    cases c;obtain rfl:_=OY b:=e;rw[ih d f];rfl
def wM (bs:Nb ND):(N2 ↥bs).all (λi=>bs.getD i false)=bs.all id:=by
 induction bs with
 |nil=>rfl
 |cons b bs ih=>simp[SJ,UP]at ih ⊢;rw[ih]
def Gq {id:OV}{y:Nb ND->ND}(R:∀xs S,g xs S=match xs with|[.ref i]=>(match fw S i with|some ws=>(gZ ws).map λbs=>(.bl (y bs),S)|none=>ba)|_=>ba)
  (f:∀{s:Nh}{x:Nd}{Q:Nd->Nh->Prop}{E:Nd->Nh->Prop}{bs:Nb ND},wpAny (model X.prog X.w) X.A.in1 (pyIter x) (λit a=>∃I N wr P n,it=.ref I/\Xl X.prog X.w X.A.in1 I N wr ↥bs P n/\n 0 a.heap/\TruthOf X.prog X.w X.A.in1 P (λi=>bs.getD i false)/\
   ∀h' tk,(∀b o,b∉wr->a.heap.get? b=aB o->h'.get? b=aB o)->Q (.bool (y bs)) {a with heap:=h',toks:=tk}) E s->wi X (call (.builtin id) [x]) Q E s)
  (T:X.A.handled=ba):LCall X (.builtin id) g:=by
 intro J s Y H A S xs vs us w S' I C U Z e;rw[R]at e;cases U with
 |nil=>cases e
 |cons r t=>
  cases t with
  |cons _ _=>cases r<;>cases e
  |nil=>
   cases Z with
   |cons V m=>
    cases m;cases r with
    |@ref ri u L=>
     simp only at e;split at e
     ·rename_i ws hw;rw[Nk]at e;obtain⟨bs,D,G⟩:=e;cases G;obtain⟨vs',O,B⟩:=bn C hw L;obtain⟨its,l,p,hz⟩:=I.list O;obtain rfl:_=NR _:=V;rw[mX D]at B;have c:=sF B l;show f (bs:=bs) ?_;show QF p.isList ?_;have j:u<⇑s.heap.objs:=by obtain⟨_,k,_⟩:=p.isList;show Nz k
      have W:=VR (prog:=X.prog) (w:=X.w) (A:=X.A.in1) T _ u (NJ j) its.toArray;have hsz:⇑its.toArray=↥bs:=by rw[NC,c,Ni]
      rw[hsz]at W;show#[_,_,_,_,_,rfl,W,#[#[_,Nx _ rfl,rfl,rfl],?_],λi v s' Q E hi h=>?_,λh' tk hk=>?_]
      ·obtain⟨o,k,hc⟩:=p.isList;show#[o,Ng _ k,hc]
      ·have d:bs[i]?.map OY=aB v:=by rw[<- Nw,<- c];simpa using hi
       cases q:bs[i]? with
       |none=>rw[q]at d;cases d
       |some b=>
        rw[q]at d;cases d;have M:bs.getD i false=b:=by simp[q]
        have h:Q (bs.getD i _) s':=h;rw[M]at h;show OZ h
      ·show#[.bl _,H,A,I.kept (λb o e=>hk b o (λz=>?_) (Ng _ e)),rfl,.refl,C,.bl]
       have d:=Nz e;rw[NX.mp z]at d;show OL _ d
     ·cases e
    |_=>cases e
def wQ (i:X.A.handled=ba):LCall X (.builtin "all") Go:=
 Gq  (λxs S=>rfl) (λ{s x Q E bs} h=>call_all_walk (Ou h (λit g #[I,fp,wr,P,St',a,b,c,d,f]=>#[I,fp,wr,_,P,St',_,a,b,c,d,λh' tk hk=>by rw[wM];show f h' tk hk]) λ_ _ e=>e)) i
end
noncomputable abbrev FA:=Fm->aa->Nf (Nb W×aa)
noncomputable abbrev FT:=Fm->aa->Nf (ND×aa)
inductive Out where
 |nx (Z:Fm)|rt (w:W)|bk (Z:Fm)|ct (Z:Fm)
noncomputable abbrev FS:=Fm->aa->Nf (Out×aa)
section
variable (X:Cx)
inductive tE (f:FE)(Y:L2.St)(H:Hp)(Q:VK):Prop
 |mk (A:Nb Nl) (Z:Fm) (S:aa) (w:W) (S':aa) (er:EnvRel X.K A H Z Y) (so:wv X A H S) (e:f Z S=aB (w,S')) (q:∀v H',w1 X A H S' w v H'->Q v H'):tE f Y H Q
abbrev EndB (A:Nb Nl)(H:Hp)(S':aa)(k:ND):ND->Hp->Prop:=λb c=>b=k/\∃a,Ext X.K A H a c/\wv X a c S'
inductive tT (f:FT)(Y:L2.St)(H:Hp)(Q:ND->Hp->Prop):Prop
 |mk (A:Nb Nl) (Z:Fm) (S:aa) (k:ND) (S':aa) (er:EnvRel X.K A H Z Y) (so:wv X A H S) (e:f Z S=aB (k,S')) (q:∀b H',EndB X A H S' k b H'->Q b H'):tT f Y H Q
inductive EndA (A:Nb Nl)(H:Hp)(S':aa)(ws:Nb W)(vs:Nb V)(H':Hp):Prop
 |mk (A':Nb Nl) (e:Ext X.K A H A' H') (so:wv X A' H' S') (r:RelL X.K A' H' ws vs):EndA A H S' ws vs H'
inductive tA (f:FA)(Y:L2.St)(H:Hp)(Q:Nb V->Hp->Prop):Prop
 |mk (A:Nb Nl) (Z:Fm) (S:aa) (ws:Nb W) (S':aa) (er:EnvRel X.K A H Z Y) (so:wv X A H S) (e:f Z S=aB (ws,S')) (q:∀vs H',EndA X A H S' ws vs H'->Q vs H'):tA f Y H Q
inductive EndF (A:Nb Nl)(H:Hp)(o:Out)(S':aa)(c:Fm->Out)(Y':L2.St)(H':Hp):Prop
 |mk (Z':Fm) (A':Nb Nl) (eo:o=c Z') (e:Ext X.K A H A' H') (so:wv X A' H' S') (er:EnvRel X.K A' H' Z' Y'):EndF A H o S' c Y' H'
inductive EndR (A:Nb Nl)(H:Hp)(o:Out)(S':aa)(v:V)(H':Hp):Prop
 |mk (w:W) (A':Nb Nl) (eo:o=.rt w) (e:Ext X.K A H A' H') (so:wv X A' H' S') (r:Rel X.K A' H' w v):EndR A H o S' v H'
abbrev EndS (A:Nb Nl)(H:Hp)(o:Out)(S':aa):Ends where
 nx:=EndF X A H o S' .nx
 rt:=EndR X A H o S'
 bk:=EndF X A H o S' .bk
 ct:=EndF X A H o S' .ct
structure Imp (E D:Ends):Prop where
 nx:∀Y H,E.nx Y H->D.nx Y H
 rt:∀v H,E.rt v H->D.rt v H
 bk:∀Y H,E.bk Y H->D.bk Y H
 ct:∀Y H,E.ct Y H->D.ct Y H
inductive tS (f:FS)(D:Ends)(Y:L2.St)(H:Hp):Prop
 |mk (A:Nb Nl) (Z:Fm) (S:aa) (o:Out) (S':aa) (er:EnvRel X.K A H Z Y) (so:wv X A H S) (e:f Z S=aB (o,S')) (d:Imp (EndS X A H o S') D):tS f D Y H
noncomputable abbrev GE (e:NF)(f:FE):Prop:=PE X e (tE X f)
noncomputable abbrev GT (e:NF)(f:FT):Prop:=PT X e (tT X f)
noncomputable abbrev GW (e:NF)(f:FT):Prop:=PW X e (tT X f)
noncomputable abbrev GA (es:Nb NF)(f:FA):Prop:=PA X es (tA X f)
noncomputable abbrev GS (st:OE)(f:FS):Prop:=PS X st (tS X f)
noncomputable abbrev GSs (sts:Nb OE)(f:FS):Prop:=PSs X sts (tS X f)
end
def Imp.trans (a:Imp E D)(b:Imp D F):Imp E F:=#[λ_ _ h=>b.nx _ _ (a.nx _ _ h),λ_ _ h=>b.rt _ _ (a.rt _ _ h),λ_ _ h=>b.bk _ _ (a.bk _ _ h),λ_ _ h=>b.ct _ _ (a.ct _ _ h)]
def GE.of (h:PE X e t)(b:∀ Y H A Z S w S',EnvRel X.K A H Z Y->wv X A H S->f Z S=aB (w,S')->∀Q:VK,(∀v a,w1 X A H S' w v a->Q v a)->t Y H Q):GE X e f:=
 λJ s Y H Q I #[A,Z,S,w,S',er,so,e1,hq]=>h J s Y H Q I (b Y H A Z S w S' er so e1 Q hq)
def GT.of (h:PT X e t)(c:∀ Y H A Z S k S',EnvRel X.K A H Z Y->wv X A H S->f Z S=aB (k,S')->∀Q:ND->Hp->Prop,(∀b a,EndB X A H S' k b a->Q b a)->t Y H Q):GT X e f:=
 λJ s Y H Q I #[A,Z,S,w,S',er,so,e1,hq]=>h _ s Y H Q I (c Y H A Z S w S' er so e1 Q hq)
def GW.of (h:PW X e t)(c:∀ Y H A Z S k S',EnvRel X.K A H Z Y->wv X A H S->f Z S=aB (k,S')->∀Q:ND->Hp->Prop,(∀b a,EndB X A H S' k b a->Q b a)->t Y H Q):GW X e f:=
 λd J s Y H Q I #[A,Z,S,w,S',er,so,e1,hq]=>h d _ s Y H Q I (c Y H A Z S w S' er so e1 Q hq)
def GA.of (h:PA X b t)(c:∀ Y H A Z S ws S',EnvRel X.K A H Z Y->wv X A H S->f Z S=aB (ws,S')->∀Q:Nb V->Hp->Prop,(∀vs a,EndA X A H S' ws vs a->Q vs a)->t Y H Q):GA X b f:=
 λpos J s Y H Q I #[A,Z,S,w,S',er,so,e1,hq]=>h pos _ s Y H Q I (c Y H A Z S w S' er so e1 Q hq)
def GS.of {st:OE}(h:PS X st t)(a:∀ Y H A Z S o S',EnvRel X.K A H Z Y->wv X A H S->f Z S=aB (o,S')->∀D:Ends,Imp (EndS X A H o S') D->t D Y H):GS X st f:=
 λJ s Y H D I #[A,Z,S,o,S',er,so,e1,hq]=>h _ s Y H D I (a Y H A Z S o S' er so e1 D hq)
def GSs.of {st:Nb OE}(h:PSs X st t)(a:∀ Y H A Z S o S',EnvRel X.K A H Z Y->wv X A H S->f Z S=aB (o,S')->∀D:Ends,Imp (EndS X A H o S') D->t D Y H):GSs X st f:=
 λJ s Y H D I #[A,Z,S,o,S',er,so,e1,hq]=>h _ s Y H D I (a Y H A Z S o S' er so e1 D hq)
def EndV.after {A :Nb Nl}(e:Ext X.K A H a c)(h:w1 X a c S' w v b):w1 X A H S' w v b:=by
 obtain⟨d,x,y,z⟩:=h;show#[d,e.trans x,y,z]
def EndB.after {A :Nb Nl}(e:Ext X.K A H a d)(h:EndB X a d S' k b c):EndB X A H S' k b c:=by
 obtain⟨g,f,x,y⟩:=h;show#[g,f,e.trans x,y]
def EndS.after {A :Nb Nl}(e:Ext X.K A H g h):Imp (EndS X g h o S') (EndS X A H o S'):=
 #[λ_ _ #[f,A',a,b,c,d]=>#[f,A',a,e.trans b,c,d],λ_ _ #[f,A',a,b,c,d]=>#[f,A',a,e.trans b,c,d],λ_ _ #[f,A',a,b,c,d]=>#[f,A',a,e.trans b,c,d],λ_ _ #[f,A',a,b,c,d]=>#[f,A',a,e.trans b,c,d]]
abbrev fC (w:W):FE:=λ_ S=>aB (w,S)
abbrev fV (i:Np):FE:=λZ S=>match Z[i]? with
 |some (aB w)=>aB (w,S)
 |_=>ba
def eR (h:PE X e (tC v))(r:∀A H,Rel X.K A H w v):GE X e (fC w):=
 GE.of h λY H A Z S d S' c b e Q a=>by cases e;show a _ _ (.here b (r A H))
def wR (h:PE X e (pI i)):GE X e (fV i):=GE.of h λY H A Z S w S' a d e Q c=>by
 unfold fV at e;split at e
 next f hw=>cases e;obtain⟨v,b,h2⟩:=a.2 i _ hw;show#[v,b,c _ _ (.here d h2)]
 ·cases e
abbrev CS (g:W->W->aa->Nf (W×aa))(fa a:FE):FE:=λZ S=>match fa Z S with
 |some (x,S1)=>match a Z S1 with
  |some (y,S2)=>g x y S2
  |none=>ba
 |none=>ba
def KW (e:CS g fa a Z S=aB r):∃x S1 y S2,fa Z S=aB (x,S1)/\a Z S1=aB (y,S2)/\g x y S2=aB r:=by
 unfold CS at e;split at e
 next x S1 b=>
  split at e
  next y S2 h2=>show#[x,S1,y,S2,b,h2,e]
  ·cases e
 ·cases e
def fH {A:Nb Nl}{R:V->V->Hp->Prop}(f:EnvRel X.K A H Z Y)(k:wv X A H S)(j:fa Z S=aB (x,S1))(h2:g Z S1=aB (y,S2))
  (h:∀a b c d,Ext X.K A H d c->wv X d c S2->Rel X.K d c x a->Rel X.K d c y b->R a b c):tE X fa Y H λa e=>tE X g Y e λb c=>R a b c:=by
 show#[A,Z,S,x,S1,f,k,j,λa e #[i,e1,o1,r1]=>?_]
 show#[i,Z,S1,y,S2,f.mono e1,o1,h2,λb c #[d,e2,o2,r2]=>?_]
 show h a b c d (e1.trans e2) o2 (r1.mono e2) r2
inductive rOp (X:Cx)(g:W->W->aa->Nf (W×aa))(a b:V)(H:Hp)(Q:VK):Prop
 |mk (A:Nb Nl) (S:aa) (x y w:W) (S':aa) (so:wv X A H S) (rx:Rel X.K A H x a) (ry:Rel X.K A H y b) (e:g x y S=aB (w,S')) (q:∀v H',w1 X A H S' w v H'->Q v H'):rOp X g a b H Q
inductive rCall (X:Cx)(g:Nb W->aa->Nf (W×aa))(vs:Nb V)(H:Hp)(Q:VK):Prop
 |mk (A:Nb Nl) (S:aa) (ws:Nb W) (w:W) (S':aa) (so:wv X A H S) (rl:RelL X.K A H ws vs) (e:g ws S=aB (w,S')) (q:∀v H',w1 X A H S' w v H'->Q v H'):rCall X g vs H Q
def LOp.opr (h:LOp X f g):OpR X f (rOp X g):=by
 intro J s Y H a b u v Q I i j ⟨A,S,x,y,w,S',m,k,l,e,d⟩;show bd (h _ s Y H A S x y a b u v w S' I m k i l j e) λo n #[c,H',A',I',r',e1,o1,z1]=>#[c,H',I',r',d c H' #[A',e1,o1,z1]]
def EJ (o:LOp X (binaryOp d) g)(m:GE X a fa)(n:GE X b c):GE X (.BinOp a d b pos) (CS g fa c):=
 GE.of (IS o.opr m n) λY H A Z S w S' j t e Q p=>by
  obtain⟨x,S1,y,S2,k,h2,l⟩:=KW e;show fH j t k h2 λa b u f i q r s=>#[f,S2,x,y,w,S',q,r,s,l,λv h z=>p v h (z.after i)]
abbrev zr (fa:FE):FE:=λZ S=>match fa Z S with
 |some (.int i,S1)=>aB (.int (-i),S1)
 |_=>ba
def zt (f:GE X a fa):GE X (.UnaryOp .USub a pos) (zr fa):=
 GE.of (IT FY f) λY H A Z S w S' c h e Q g=>by
  unfold zr at e;split at e
  next i S1 d=>
   cases e;show#[A,Z,S,_,_,c,h,d,λv j #[b,e1,o1,r1]=>?_]
   cases r1;show#[_,rfl,g _ _ #[b,e1,o1,.int]]
  ·cases e
abbrev CT (o:COp)(fa a:FE):FE:=CS (ci o) fa a
def zu (p:X.A.units+ee<cLine)(k:GE X a fa)(l:GE X b c)(m:behindInMarks o.py b=false):GE X (.Compare a [o.py] [b] pos) (CT o fa c):=
 GE.of (BX (qb p o).opr k l m) λY H A Z S w S' h t e Q n=>by
  obtain⟨x,S1,y,S2,i,h2,j⟩:=KW e;show fH h t i h2 λa b u d g q r s=>#[d,S2,x,y,w,S',q,r,s,j,λv f z=>n v f (z.after g)]
abbrev qp (f:FE):FT:=λZ S=>match f Z S with
 |some (.bl k,S')=>aB (k,S')
 |_=>ba
def zv (s:X.A.units+ee<cLine)(n:GE X a fa)(p:GE X b c)(q:behindInMarks o.py b=false):GT X (.Compare a [o.py] [b] pos) (qp (CT o fa c)):=
 GT.of (BY (qb s o).opr n p q) λY H A Z S k S' i z e Q r=>by
  unfold qp at e;split at e
  next D g j=>
   cases e;obtain⟨x,S1,y,S2,l,h2,m⟩:=KW j;show fH i z l h2 λa b C f h t u w=>#[f,S2,x,y,_,_,t,u,w,m,λv B #[d,z1,z2,z3]=>?_]
   cases z3;show#[k,rfl,r _ _ #[rfl,d,h.trans z1,z2]]
  ·cases e
abbrev fI (o o':COp)(fa b fc:FE):FE:=λZ S=>match fa Z S with
 |some (x,S1)=>match b Z S1 with
  |some (y,S2)=>match BE o x y S2 with
   |some true=>match fc Z S2 with
    |some (z,a)=>dH o' y z a
    |none=>ba
   |some false=>aB (.bl false,S2)
   |none=>ba
  |none=>ba
 |none=>ba
def lx {A:Nb Nl}(k:EnvRel X.K A H Z Y)(B:wv X A H S)(e:fI o o' fa l fc Z S=aB (w,S'))(Q:VK)(m:∀v d,w1 X A H S' w v d->Q v d) :
  rV (rOp X (dH o))
   (rOp X (dH o')) (tE X fa) (tE X l) (tE X fc) Y H Q:=by
 unfold fI at e;split at e
 next x S1 t=>
  split at e
  next y S2 h2=>
   show fH k B t h2 λa b C i g n p h=>?_
   split at e
   next hc=>
    split at e
    ·rename_i z j u;show#[i,S2,x,y,.bl true,S2,n,p,h,by simp[dH,hc],λv s #[f,z1,z2,z3]=>?_]
     cases z3;show#[true,rfl,?_];show#[f,Z,S2,z,j,k.mono (g.trans z1),z2,u,λc D #[r,y1,y2,y3]=>?_]
     show#[r,j,y,z,w,S',y2,(h.mono z1).mono y1,y3,e,λv d q=>m v d (q.after ((g.trans z1).trans y1))]
    ·cases e
   next hc=>
    cases e;show#[i,S',x,y,.bl false,S',n,p,h,by simp[dH,hc],λv s #[f,z1,z2,z3]=>?_]
    cases z3;show#[false,rfl,?_];show m _ _ #[f,g.trans z1,z2,.bl]
   ·cases e
  ·cases e
 ·cases e
def zw (f:X.A.units+ee<cLine)(h:GE X a fa)(i:GE X b d)(hc:GE X c fc)(j:lastMarks [o.py,o'.py] [b,c]=false):GE X (.Compare a [o.py,o'.py] [b,c] pos) (fI o o' fa d fc):=
 GE.of (yd (iC f o).opr (iC f o').opr h i hc j) λY H A Z S w S' g l e Q k=>lx g l e Q k
def zx (g:X.A.units+ee<cLine)(m:GE X a fa)(n:GE X b f)(hc:GE X c fc)(p:lastMarks [o.py,o'.py] [b,c]=false):GT X (.Compare a [o.py,o'.py] [b,c] pos) (qp (fI o o' fa f fc)):=
 GT.of (ye (iC g o).opr (iC g o').opr m n hc p) λY H A Z S k S' j r e Q q=>by
  unfold qp at e;split at e
  next s i l=>
   cases e;show lx j r l (λx d=>∃k,x=.bl k/\Q k d) λv d #[h,z1,z2,z3]=>?_
   cases z3;show#[_,rfl,q _ _ #[rfl,h,z1,z2]]
  ·cases e
abbrev eS (f:FE):FT:=λZ S=>match f Z S with
 |some (w,S')=>(dI S' w).map λk=>(k,S')
 |none=>ba
def aQ (h:GE X e f)(l:∀a,isTrue e X.env a=(do let v <- a;standAt e.pos;holding [v] (truthy v))):GT X e (eS f):=by
 intro J s Y H Q I ⟨A,Z,S,k,S',i,n,b,m⟩;unfold eS at b;split at b
 next w S1 j=>
  rw[Nk]at b;obtain⟨o,g,d⟩:=b;cases d;show isTrue_plain (bd (h _ s Y H _ I #[A,Z,S,w,_,i,n,j,λ_ _ z=>z]) λv q #[x,H1,I1,r1,A1,b,o1,z1]=>?_) (l _)
  show LF I1 o1 z1 r1 g λp c=>#[H1,c,m _ _ #[rfl,A1,b,o1]]
 ·cases b
abbrev zy (f g:FT):FT:=λZ S=>match f Z S with
 |some (true,S1)=>g Z S1
 |some (false,S1)=>aB (false,S1)
 |none=>ba
abbrev Js (f g:FT):FT:=λZ S=>match f Z S with
 |some (true,S1)=>aB (true,S1)
 |some (false,S1)=>g Z S1
 |none=>ba
abbrev CU (f:FT):FT:=λZ S=>match f Z S with
 |some (k,S1)=>aB (!k,S1)
 |none=>ba
def zz {A:Nb Nl}(c:EnvRel X.K A H Z Y)(j:wv X A H S)(e:zy f g Z S=aB (k,S'))(Q:ND->Hp->Prop)(i:∀b a,EndB X A H S' k b a->Q b a) :
  IF (tT X f) (tT X g) Y H Q:=by
 unfold zy at e;split at e
 next S1 d=>
  show#[A,Z,S,true,S1,c,j,d,λb l #[h,A1,z1,z2]=>?_]
  subst h;show#[A1,Z,S1,k,S',c.mono z1,z2,e,λb a q=>i b a (q.after z1)]
 next S1 d=>
  cases e;show#[A,Z,S,false,_,c,j,d,λb l #[h,A1,z1,z2]=>?_]
  subst h;show i _ _ #[rfl,A1,z1,z2]
 ·cases e
def CV {A:Nb Nl}(c:EnvRel X.K A H Z Y)(j:wv X A H S)(e:Js f g Z S=aB (k,S'))(Q:ND->Hp->Prop)(i:∀b a,EndB X A H S' k b a->Q b a) :
  Mr (tT X f) (tT X g) Y H Q:=by
 unfold Js at e;split at e
 next S1 d=>
  cases e;show#[A,Z,S,true,_,c,j,d,λb l #[h,A1,z1,z2]=>?_]
  subst h;show i _ _ #[rfl,A1,z1,z2]
 next S1 d=>
  show#[A,Z,S,false,S1,c,j,d,λb l #[h,A1,z1,z2]=>?_]
  subst h;show#[A1,Z,S1,k,S',c.mono z1,z2,e,λb a q=>i b a (q.after z1)]
 ·cases e
def uR (h:GT X a f):GW X (.BoolOp .And [a] pos) f:=BN h
def zA (h:GT X a f):GW X (.BoolOp .Or [a] pos) f:=Fs h
def zB (h:GT X a f)(h2:GW X (.BoolOp .And (b::r) pos) g):GW X (.BoolOp .And (a::b::r) pos) (zy f g):=
 GW.of (Ft h h2) λY H A Z S k S' c i e Q d=>zz c i e Q d
def EK (h:GT X a f)(h2:GW X (.BoolOp .Or (b::r) pos) g):GW X (.BoolOp .Or (a::b::r) pos) (Js f g):=
 GW.of (IG h h2) λY H A Z S k S' c i e Q d=>CV c i e Q d
def zC (h:GT X a f):GT X (.UnaryOp .Not a pos) (CU f):=
 GT.of (Fu h) λY H A Z S k S' c i e Q g=>by
  unfold CU at e;split at e
  next k1 S1 d=>
   cases e;show#[A,Z,S,k1,_,c,i,d,λb l #[j,A1,z1,z2]=>?_]
   subst j;show g _ _ #[rfl,A1,z1,z2]
  ·cases e
abbrev uS (f g:FE):FE:=λZ S=>match f Z S with
 |some (.bl true,S1)=>g Z S1
 |some (.bl false,S1)=>aB (.bl false,S1)
 |_=>ba
abbrev CW (f g:FE):FE:=λZ S=>match f Z S with
 |some (.bl true,S1)=>aB (.bl true,S1)
 |some (.bl false,S1)=>g Z S1
 |_=>ba
abbrev uT (f:FE):FE:=λZ S=>match f Z S with
 |some (.bl k,S1)=>aB (.bl (!k),S1)
 |_=>ba
def zD (h:GE X a f):GE X (.BoolOp b [a] pos) f:=Fv h
def zE (h:GE X a f)(h2:GE X (.BoolOp .And (b::r) pos) g):GE X (.BoolOp .And (a::b::r) pos) (uS f g):=
 GE.of (Fw h h2) λY H A Z S w S' d k e Q j=>by
  unfold uS at e;split at e
  next S1 i=>
   show#[A,Z,S,_,S1,d,k,i,λv m #[c,z1,z2,z3]=>?_]
   cases z3;show#[true,rfl,?_];show#[c,Z,S1,w,S',d.mono z1,z2,e,λb l q=>j b l (q.after z1)]
  next S1 i=>
   cases e;show#[A,Z,S,_,_,d,k,i,λv m #[c,z1,z2,z3]=>?_]
   cases z3;show#[false,rfl,?_];show j _ _ #[c,z1,z2,.bl]
  ·cases e
def EM (h:GE X a f)(h2:GE X (.BoolOp .Or (b::r) pos) g):GE X (.BoolOp .Or (a::b::r) pos) (CW f g):=
 GE.of (IJ h h2) λY H A Z S w S' d k e Q j=>by
  unfold CW at e;split at e
  next S1 i=>
   cases e;show#[A,Z,S,_,_,d,k,i,λv m #[c,z1,z2,z3]=>?_]
   cases z3;show#[true,rfl,?_];show j _ _ #[c,z1,z2,.bl]
  next S1 i=>
   show#[A,Z,S,_,S1,d,k,i,λv m #[c,z1,z2,z3]=>?_]
   cases z3;show#[false,rfl,?_];show#[c,Z,S1,w,S',d.mono z1,z2,e,λb l q=>j b l (q.after z1)]
  ·cases e
def zF (h:GE X a f):GE X (.UnaryOp .Not a pos) (uT f):=
 GE.of (Fy h) λY H A Z S w S' d j e Q i=>by
  unfold uT at e;split at e
  next k1 S1 g=>
   cases e;show#[A,Z,S,_,_,d,j,g,λb k #[c,z1,z2,z3]=>?_]
   cases z3;show#[_,rfl,i _ _ #[c,z1,z2,.bl]]
  ·cases e
abbrev CY (c:FT)(f g:FE):FE:=λZ S=>match c Z S with
 |some (true,S1)=>f Z S1
 |some (false,S1)=>g Z S1
 |none=>ba
def Gr (hc:GT X c fc)(n:GE X a f)(o:GE X b g):GE X (.IfExp c a b pos) (CY fc f g):=
 GE.of (x8 hc n o) λY H A Z S w S' d l e Q k=>by
  unfold CY at e;split at e
  next S1 i=>
   show#[A,Z,S,_,S1,d,l,i,λb m #[j,A1,z1,z2]=>?_]
   subst j;show#[A1,Z,S1,w,S',d.mono z1,z2,e,λb h q=>k b h (q.after z1)]
  next S1 i=>
   show#[A,Z,S,_,S1,d,l,i,λb m #[j,A1,z1,z2]=>?_]
   subst j;show#[A1,Z,S1,w,S',d.mono z1,z2,e,λb h q=>k b h (q.after z1)]
  ·cases e
abbrev gA:FA:=λ_ S=>aB ([],S)
abbrev b6 (f:FE)(g:FA):FA:=λZ S=>match f Z S with
 |some (w,S1)=>match g Z S1 with
  |some (ws,S2)=>aB (w::ws,S2)
  |none=>ba
 |none=>ba
def sG:GA X [] gA:=GA.of gQ λY H A Z S ws S' c b e Q a=>by cases e;show a _ _ #[A,.refl,b,.nil]
def kC (h:GE X e f)(h2:GA X a g)(l:starEach (e::a) X.env=(false,eval e X.env)::starEach a X.env):GA X (e::a) (b6 f g):=
 GA.of (bU h h2 l) λY H A Z S ws S' c m e Q k=>by
  unfold b6 at e;split at e
  next w S1 j=>
   split at e
   next b S2 h2=>
    cases e;show#[A,Z,S,w,S1,c,m,j,λv n #[d,z1,z2,z3]=>?_]
    show#[d,Z,S1,b,_,c.mono z1,z2,h2,λvs o #[i,y1,y2,y3]=>?_]
    show k _ _ #[i,z1.trans y1,y2,.cons (z3.mono y1) y3]
   ·cases e
  ·cases e
abbrev wW (f:FA):FE:=λZ S=>match f Z S with
 |some (ws,S1)=>sw S1 ws
 |none=>ba
abbrev zG (f:FA):FE:=λZ S=>match f Z S with
 |some (ws,S1)=>nR S1 ws
 |none=>ba
def sH (h:GA X a f):GE X (.Tuple a k pos) (wW f):=
 GE.of (yh h) λY H A Z S w S' b i e Q g=>by
  unfold wW at e;split at e
  next ws S1 c=>
   obtain⟨hl,rfl,rfl⟩:=uz e;show#[A,Z,S,ws,_,b,i,c,λvs l #[j,z1,z2,z3]=>#[by rw[<- ↥z3];show hl,λp d=>?_]]
   show g _ _ (EndV.after z1 (.tup z2 z3 d))
  ·cases e
def zH (h:GA X a f):GE X (.List a pos) (zG f):=
 GE.of (F3 h) λY H A Z S w S' b i e Q g=>by
  unfold zG at e;split at e
  next ws S1 c=>
   obtain⟨hl,rfl,rfl⟩:=kv e;show#[A,Z,S,ws,_,b,i,c,λvs k #[j,z1,z2,z3]=>#[by rw[<- ↥z3];show hl,λp d=>?_]]
   show g _ _ (EndV.after z1 (.lst z2 z3 d))
  ·cases e
abbrev jT (g:Nb W->aa->Nf (W×aa))(f:FA):FE:=λZ S=>match f Z S with
 |some (ws,S1)=>g ws S1
 |none=>ba
def LCall.callr (h:LCall X v g):CallR X v (rCall X g):=by
 intro J s Y H vs us Q I d ⟨A,S,ws,w,S',f,c,e,b⟩;show bd (h _ s Y H A S ws vs us w S' I f c d e) λj i #[a,H',A',I',r',e1,o1,z1]=>#[a,H',I',r',b a H' #[A',e1,o1,z1]]
def mY {A:Nb Nl}(d:EnvRel X.K A H Z Y)(j:wv X A H S)(e:jT g f Z S=aB (w,S'))(Q:VK)(i:∀v a,w1 X A H S' w v a->Q v a) :
  tA X f Y H λvs b=>rCall X g vs b Q:=by
 unfold jT at e;split at e
 next ws S1 h=>show#[A,Z,S,ws,S1,d,j,h,λvs b #[c,z1,z2,z3]=>#[c,S1,ws,w,S',z2,z3,e,λv a q=>i v a (q.after z1)]]
 ·cases e
def qr {id:OV}(hc:LCall X (.builtin id) g)(h:Gl X x)(i:X.mg x=ba)(m:bootBuiltins x=aB (.builtin id))(d:GA X (e::a) f)
  (j:x≠"__name__") (hdb:(x==("__debug__"))=false) (l:starEach (e::a) X.env=(false,eval e X.env)::starEach a X.env) (b:(backTo pos (starEach a X.env)).any (·.1)=false):GE X (.Call (.Name x p) (e::a) [] pos) (jT g f):=
 GE.of (fD hc.callr h i m d j hdb l b) λY H A Z S w S' c n e Q k=>mY c n e Q k
def qt {id:OV}(hc:LCall X (.type id) g)(h:Gl X x)(i:X.mg x=ba)(m:bootBuiltins x=aB (.type id))(d:GA X (e::a) f)
  (j:x≠"__name__") (hdb:(x==("__debug__"))=false) (l:starEach (e::a) X.env=(false,eval e X.env)::starEach a X.env) (b:(backTo pos (starEach a X.env)).any (·.1)=false):GE X (.Call (.Name x p) (e::a) [] pos) (jT g f):=
 GE.of (wa hc.callr h i m d j hdb l b) λY H A Z S w S' c n e Q k=>mY c n e Q k
open PySem PySem.Spec PyProof.Rows L2 Xc
inductive EndX (wd:NU)(K:Nr)(A:Nb Nl)(H:Hp)(S':aa)(C:Nl)(gs:Nb Nu)(ws:Nb W)(cls:Nd)(dd:Nf Nl)(H':Hp):Prop
 |no (A':Nb Nl) (ec:cls=.ref C) (eg:gs=[]) (ed:dd=ba) (e:Ext K A H A' H') (so:StoreOk wd K A' H' S'):EndX wd K A H S' C gs ws cls dd H'
 |at(A':Nb Nl) (dx:Nl) (vs:Nb V) (ec:cls=.ref C) (ed:dd=aB dx) (hd:H' dx=aB (.ext (Dx dx (gs.zip vs)))) (nd:∀(j:Np) (o:O),S'[j]?=aB o->o.mut=true->A'[j]?≠aB dx) (e:Ext K A H A' H') (so:StoreOk wd K A' H' S') (r:RelL K A' H' ws vs):EndX wd K A H S' C gs ws cls dd H'
variable{C:Nl}{cd:O8}{Ew:L2.XK}{g:Nu}{e:Nl}
section
variable{A:Nb Nl}{H1:Hp}{S':aa}{ws:Nb W}{vs:Nb V}{g2:Nu}{n:Np}
def Gs (x:XC X.K C cd)(D:Qr X.K (.ref C) g=aB ba)(h:EndA X A H S' ws vs H1)(hl:↥ws=1)(p:H1 e=ba)(E:n<=e)(G:∀cls dd k,EndX X.w X.K A H S' C [g] ws cls dd k->Ew cls dd k) :
  yH X.K g (.ref e::vs) (aT H1 e (.ext (Fx e C ba))) (λv w=>v=.non/\XQ n C H1 Ew (.ref e) w) E0:=by
 obtain⟨f,ex,t,r⟩:=h;obtain⟨v,rfl⟩:∃v,vs=[v]:=by
  have:=↥r
  match vs,this with
  |[v],_=>show#[v,rfl]
  |[],q=>rw[hl]at q;cases q
  |_::_::_,q=>rw[hl]at q;cases q
 show#[e,v,C,cd,rfl,x,D,aA,λa nd=>#[rfl,e,aB a,rfl,E,?_,λb u q=>?_,?_]]
 ·have ne:a≠e:=λz=>by rw[z,aA]at nd;cases nd
  rw[ar (Ne.symm ne),aA]
 ·by_cases d:b=a
  ·rw[d,aA]at q;cases q;show .inr (.inr #[_,by rw[d]])
  ·rw[ar d]at q
   by_cases c:b=e
   ·show .inr (.inl c)
   ·rw[ar c,ar c]at q;show .inl #[u,q]
 ·have ne:a≠e:=λz=>by rw[z,aA]at nd;cases nd
  have i:H1 a=ba:=by rw[ar ne]at nd;show nd
  have eq:aT (aT (aT (aT H1 e (.ext (Fx e C ba))) e (.ext (Fx e C (aB a)))) a (.ext (Dx a [(g,v)]))) e (.ext (Ex e C (aB a)))=aT (aT H1 e (.ext (Ex e C (aB a)))) a (.ext (Dx a [(g,v)])):=by
   funext b
   by_cases c:b=e
   ·rw[c,aA,ar (Ne.symm ne),aA]
   ·rw[ar c]
    by_cases d:b=a
    ·rw[d,aA,aA]
    ·rw[ar d,ar d,ar c,ar c,ar c]
  rw[eq];have l:Ext X.K f H1 f (aT H1 e (.ext (Ex e C (aB a)))):=bc (.inl p);have s:aT H1 e (.ext (Ex e C (aB a))) a=ba:=by rw[ar ne];show i
  have m:Ext X.K f (aT H1 e (.ext (Ex e C (aB a)))) f (aT (aT H1 e (.ext (Ex e C (aB a)))) a (.ext (Dx a [(g,v)]))):=bc (.inl s);show G _ _ _ (.at f a [v] rfl rfl aA (λj o B I y=>(t.obj j o a B y).there I i) (ex.trans (l.trans m)) ((t.lay p).lay s) (r.mono (l.trans m)))
def Gu (i:XC X.K C cd)(h:EndA X A H S' ws vs H1)(hl:↥ws=0)(c:H1 e=ba)(j:n<=e)(k:∀cls dd a,EndX X.w X.K A H S' C [] ws cls dd a->Ew cls dd a) :
  Cj X.K (.ref e::vs) (aT H1 e (.ext (Fx e C ba))) (λv g=>v=.non/\XQ n C H1 Ew (.ref e) g) E0:=by
 obtain⟨f,ex,l,r⟩:=h;obtain rfl:vs=[]:=by
  have:=↥r
  match vs,this with
  |[],_=>rfl
  |_::_,q=>rw[hl]at q;cases q
 show#[e,C,cd,rfl,i,aA,rfl,e,ba,rfl,j,aA,λb u q=>?_,?_]
 ·by_cases d:b=e
  ·show .inr (.inl d)
  ·rw[ar d]at q;show .inl #[u,q]
 ·rw[BI];show k _ _ _ (.no f rfl rfl rfl (ex.trans (bc (.inl c))) (l.lay c))
end
abbrev tyOk (T:OV)(S:aa):W->ND
 |.str _=>T == "str"
 |.ref i=>(T == "list" && (fw S i).isSome)||(T == "dict" && (lj S i).isSome)
 |_=>false
abbrev Ix (T:OV)(g:W->Nb W->aa->Nf (W×aa))(a:FE)(f:FA):FE:=λZ S=>match a Z S with
 |some (x,S1)=>if tyOk T S1 x then match f Z S1 with
  |some (ws,S2)=>g x ws S2
  |none=>ba
  else ba
 |none=>ba
abbrev LH (fa a:FE):FE:=CS mR fa a
noncomputable abbrev FO:=Fm->aa->Nf (Nf NI×aa)
abbrev Gv:FO:=λ_ S=>aB (ba,S)
abbrev uU (f:FE):FO:=λZ S=>match f Z S with
 |some (.int i,S1)=>aB (aB i,S1)
 |_=>ba
abbrev Jt (fa:FE)(c b:FO):FE:=λZ S=>match fa Z S with
 |some (x,S1)=>match c Z S1 with
  |some (lo,S2)=>match b Z S2 with
   |some (hi,a)=>fA x lo hi a
   |none=>ba
  |none=>ba
 |none=>ba
inductive rMeth (X:Cx)(g:W->Nb W->aa->Nf (W×aa))(a:V)(vs:Nb V)(H:Hp)(Q:VK):Prop
 |mk (A:Nb Nl) (S:aa) (x:W) (ws:Nb W) (w:W) (S':aa) (so:wv X A H S) (rx:Rel X.K A H x a) (rl:RelL X.K A H ws vs) (e:g x ws S=aB (w,S')) (q:∀v H',w1 X A H S' w v H'->Q v H'):rMeth X g a vs H Q
def tyOk.is {A:Nb Nl}{T:OV}(I:Inv X J Y H s)(k:wv X A H S)(r:Rel X.K A H x a)(f:RelV a v)(h:tyOk T S x=true) :
  s.TypeIs v T/\∀b,v=.ref b->∃ob,s.heap.get? b=aB ob/\ob.dict=ba:=by
 cases r with
 |str=>show yq I f (show Lw X.K T (.str _) H from eq_of_beq h)
 |ref g=>
  simp only[tyOk,Pa,Nj]at h;rcases h with⟨c,h2⟩|⟨c,h2⟩
  ·obtain⟨xs,d⟩:=Oq.mp h2;obtain⟨vs,l,_⟩:=bn k d g;show yq I f (show Lw X.K T (.ref _) H from .inl #[eq_of_beq c,vs,l])
  ·obtain⟨U,d⟩:=Oq.mp h2;obtain⟨xs,m,_⟩:=gY k d g;obtain⟨_,_,_,o,p,n,i,j,q,t⟩:=cH I m;have e:=eq_of_beq c;subst e;obtain rfl:v=NR _:=f;show#[#[o,i,j.1],λb e=>by cases e;show#[o,i,j.2.1]]
 |_=>cases h
def zI { e:NF}{T id:OV}{g:W->Nb W->aa->Nf (W×aa)}(B:PlainAttrs T)(slot:Slot T name id)(j:typeOf (.builtin id)=pure (.type "method_descriptor"))(r:uC X id g)
  (t:GE X o l) (q:GA X (e::c) f) (d:attributeBase o name X.env (eval o X.env)=eval o X.env)
  (i:((backTo cpos (starEach (e::c) X.env)).all (λx=>!x.1)&&(backToKw cpos (keywordEach [] X.env)).all (λx=>x.1.isSome)
   && decide ((e::c).length+([]:Nb Uy).length+(if ([]:Nb Uy).isEmpty then 0 else 1)<30))=true)
  (h:(apos.endLine==cpos.line)=true) (y:starEach (e::c) X.env=(false,eval e X.env)::starEach c X.env) (b:(backTo cpos (starEach c X.env)).any (·.1)=false) :
  GE X (.Call (.Attribute o name apos) (e::c) [] cpos) (Ix T g l f):=by
 intro J s Y H Q I ⟨A,Z,S,w,S',k,E,e,u⟩;unfold Ix at e;split at e
 next x S1 p=>
  split at e
  next ht=>
   split at e
   next ws S2 h2=>
    show wpAny_Call_method_late d i h rfl (bd (t J s Y H (w1 X A H S1 x) I #[A,Z,S,_,_,k,E,p,λ_ _ z=>z]) λv C #[a,H1,I1,r1,A1,e1,o1,z1]=>?_)
    obtain⟨G,t2⟩:=tyOk.is I1 o1 z1 r1 ht;show#[T,id,B,slot,j,G,t2,?_];have m:=q cpos J C Y H1 (EndA X A1 H1 S2 ws) I1 #[A1,Z,S1,ws,S2,k.mono e1,o1,h2,λ_ _ z=>z]
    rw[y]at m ⊢;show Calls.callWith_builtin (by show(false||(backTo cpos (starEach c X.env)).any (·.1))=false;rw[b]<;>rfl) (Calls.evalArgs_plain ?_)
    show bd m λus D #[vs,H2,I2,r2,A2,e2,o2,z2]=>?_
    show bd (r J D Y H2 A2 S2 x a v ws vs us w S' I2 o2 (z1.mono e2) r1 z2 r2 e) λM L #[n,H',A',I',r',e3,o3,z3]=>?_
    show#[n,H',I',r',u n H' #[A',(e1.trans e2).trans e3,o3,z3]]
   ·cases e
  ·cases e
 ·cases e
def LIx.ixr {g:W->W->aa->Nf (W×aa)}(h:LIx X g):IxR X (rOp X g):=by
 intro d c J s Y H a b u v Q I k l ⟨A,S,x,y,w,S',o,m,n,e,i⟩ j;show bd (h _ _ _ s Y H A S x y a b u v w S' I o m k n l e j) λq p #[f,H',A',I',r',e1,o1,z1]=>#[f,H',I',r',i f H' #[A',e1,o1,z1]]
def Ju (o:X.A.units+10<cLine)(k:GE X a fa)(l:GE X b c)(n:nM b):GE X (.Subscript a b pos) (LH fa c):=
 GE.of (Jb (LG o).ixr k l n) λY H A Z S w S' h s e Q m=>by
  obtain⟨x,S1,y,S2,i,h2,j⟩:=KW e;show fH h s i h2 λa b t d g p q r=>#[d,S2,x,y,w,S',p,q,r,j,λv f z=>m v f (z.after g)]
inductive tO (X:Cx)(f:FO)(Y:L2.St)(H:Hp)(Q:Nf NI->Hp->Prop):Prop
 |mk (A:Nb Nl) (Z:Fm) (S:aa) (k:Nf NI) (S':aa) (er:EnvRel X.K A H Z Y) (so:wv X A H S) (e:f Z S=aB (k,S')) (q:∀H' A',Ext X.K A H A' H'->wv X A' H' S'->Q k H'):tO X f Y H Q
noncomputable abbrev GO (X:Cx)(e:Nf NF)(f:FO):Prop:=PO X e (tO X f)
def CZ:GO X ba Gv:=λJ s Y H Q I #[A,Z,S,k,S',er,so,e,hq]=>by
 cases e;show B4 _ s Y H Q I (hq H A .refl so)
def C0 {e:NF}(h:GE X e f):GO X (aB e) (uU f):=λJ s Y H Q I #[A,Z,S,k,S',er,so,e,hq]=>by
 unfold uU at e;split at e
 next i S1 c=>
  cases e;show B5 h _ s Y H Q I #[A,Z,S,_,_,er,so,c,λv b #[a,z1,z2,z3]=>?_]
  cases z3;show#[i,rfl,hq b a z1 z2]
 ·cases e
inductive rSl (X:Cx)(g:W->Nf NI->Nf NI->aa->Nf (W×aa))(a:V)(lo hi:Nf NI)(H:Hp)(Q:VK):Prop
 |mk (A:Nb Nl) (S:aa) (x w:W) (S':aa) (so:wv X A H S) (rx:Rel X.K A H x a) (e:g x lo hi S=aB (w,S')) (q:∀v H',w1 X A H S' w v H'->Q v H'):rSl X g a lo hi H Q
def LSl.slr {g:W->Nf NI->Nf NI->aa->Nf (W×aa)}(h:LSl X g):Ja X (rSl X g):=by
 intro J s Y H a v o p lo hi m Q I k i pl j ⟨A,S,x,w,S',n,l,e,f⟩;obtain⟨T,id,c,h2,d⟩:=h _ s Y H A S x a v o p lo hi m w S' I n l k i pl j e;show#[T,id,c,h2,bd d λr q #[b,H',A',I',r',e1,o1,z1]=>#[b,H',I',r',f b H' #[A',e1,o1,z1]]]
def Jv {lo :Nf NF}{g :FO}(r:GE X a fa)(hl:GO X lo g)(s:GO X hi f):GE X (.Subscript a (.Slice lo hi ba p2) pos) (Jt fa g f):=
 GE.of (yn MV.slr r hl s) λY H A Z S w S' b u e Q t=>by
  unfold Jt at e;split at e
  next x S1 o=>
   split at e
   next l S2 h2=>
    split at e
    ·rename_i h d p;show#[A,Z,S,x,S1,b,u,o,λv B #[j,z1,z2,z3]=>?_]
     show#[j,Z,S1,l,S2,b.mono z1,z2,h2,λC k c z=>?_]
     show#[k,Z,S2,h,d,b.mono (z1.trans c),z,p,λD m i y=>?_]
     show#[m,d,x,w,S',y,(z3.mono c).mono i,e,λv n q=>t v n (q.after ((z1.trans c).trans i))]
    ·cases e
   ·cases e
  ·cases e
noncomputable abbrev FF:=Nb W->aa->Nf (W×aa)
inductive spF (wd:NU)(K:Nr)(n:Np)(g:FF)(vs:Nb V)(H:Hp)(Q:VK)(E:XK):Prop
 |mk (A:Nb Nl) (S:aa) (ws:Nb W) (w:W) (S':aa) (so:StoreOk wd K A H S) (rl:RelL K A H ws vs) (hl:↥ws=n) (e:g ws S=aB (w,S')) (q:∀v H',EndV wd K A H S' w v H'->Q v H'):spF wd K n g vs H Q E
abbrev iG (n:Np)(g:FF)(f:FA):FE:=λZ S=>match f Z S with
 |some (ws,S1)=>if ↥ws=n then g ws S1 else ba
 |none=>ba
def qu {g:FF}{A:Nb Nl}(c:EnvRel X.K A H Z Y)(i:wv X A H S)(e:iG n g f Z S=aB (w,S'))(Q:VK)(h:∀v a,w1 X A H S' w v a->Q v a) :
  yi (spF X.w X.K n g) [] E (tA X f) Y H Q:=by
 unfold iG at e;split at e
 next ws S1 d=>
  split at e
  next hl=>
   show#[A,Z,S,ws,S1,c,i,d,λvs j #[b,z1,z2,z3]=>?_]
   rw[ON];show#[b,S1,ws,w,S',z2,z3,hl,e,λv a q=>h v a (q.after z1)]
  ·cases e
 ·cases e
def Gw {g:FF}{e:NF}(F:FnOk X.prog X.w X.K X.mg X.base kj k fa fd ps (spF X.w X.K n g))(o:Room k X.A)(j:Gl X x)(l:X.mg x=aB (.ref fa))(hk:OI X.K (.ref fa)=true)
  (h:Binds X.K fd ps []) (d:GA X (e::a) f) (hdb:(x==("__debug__"))=false) (i:starEach (e::a) X.env=(false,eval e X.env)::starEach a X.env) (b:(backTo pos (starEach a X.env)).any (·.1)=false) :
  GE X (.Call (.Name x p) (e::a) [] pos) (iG n g f):=
 GE.of (B1 F o j l hk h .nil ur d hdb i b) λY H A Z S w S' c q e Q m=>qu c q e Q m
def C3 {g:FF}(F:FnOk X.prog X.w X.K X.mg X.base kj k fa fd ps (spF X.w X.K n g))(r:Room k X.A)(m:Gl X x)(o:X.mg x=aB (.ref fa))(hk:OI X.K (.ref fa)=true)
  (l:Binds X.K fd ps []) (hdb:(x==("__debug__"))=false):GE X (.Call (.Name x p) [] [] pos) (iG n g gA):=
 GE.of (yk F r m o hk l .nil ur hdb) λY H A Z S w S' j s e Q q=>by
  obtain⟨b,S1,ws,t,a,c,d,f,h,i⟩:=qu  (E:=E0) j s e Q q |> λ#[A,Z,S,ws,S',b1,b2,b3,b4]=>b4 [] H (by cases b3;show#[A,.refl,b2,.nil])
  show#[b,S1,ws,t,a,c,d,f,h,i]
def eT:GSs X [] (λZ S=>aB (.nx Z,S)):=GSs.of BP λY H A Z S o S' a b e D hd=>by cases e;show hd.nx _ _ #[Z,A,rfl,.refl,b,a]
abbrev ko (f g:FS):FS:=λZ S=>match f Z S with
 |some (.nx a,S1)=>g a S1
 |some (.rt w,S1)=>aB (.rt w,S1)
 |some (.bk a,S1)=>aB (.bk a,S1)
 |some (.ct a,S1)=>aB (.ct a,S1)
 |none=>ba
def fJ {st:OE}{ g:FS}(h:GS X st f)(h2:GSs X sts g):GSs X (st::sts) (ko f g):=GSs.of (kN h h2) λY H A Z S o S' c d e D hd=>by
 unfold ko at e;split at e
 next k S1 a=>
  show#[A,Z,S,_,_,c,d,a,#[λi b #[j,A',e1,e2,e3,e4]=>?_,λv b #[w,A',e1,_,_,_]=>(by cases e1),λv b #[w,A',e1,_,_,_]=>(by cases e1),λv b #[w,A',e1,_,_,_]=>(by cases e1)]]
  cases e1;show#[A',_,S1,o,S',e4,e3,e,(EndS.after e2).trans hd]
 next w S1 a=>cases e;show#[A,Z,S,_,_,c,d,a,#[λi b #[w,A',e1,_,_,_]=>(by cases e1),hd.rt,hd.bk,hd.ct]]
 next w S1 a=>cases e;show#[A,Z,S,_,_,c,d,a,#[λi b #[w,A',e1,_,_,_]=>(by cases e1),hd.rt,hd.bk,hd.ct]]
 next w S1 a=>cases e;show#[A,Z,S,_,_,c,d,a,#[λi b #[w,A',e1,_,_,_]=>(by cases e1),hd.rt,hd.bk,hd.ct]]
 ·cases e
abbrev oE (f:FE):FS:=λZ S=>match f Z S with
 |some (_,S1)=>aB (.nx Z,S1)
 |none=>ba
def Jw {e:NF}(h:GE X e f)(d:swapsWith e ba pos.line X.env=pure false):GS X (.Expr e pos) (oE f):=GS.of (nI h d) λY H A Z S o S' a g e D hd=>by
 unfold oE at e;split at e
 next w S1 c=>cases e;show#[A,Z,S,w,_,a,g,c,λv i #[b,z1,z2,z3]=>hd.nx _ _ #[Z,b,rfl,z1,z2,a.mono z1]]
 ·cases e
abbrev zJ:FS:=λZ S=>aB (.nx Z,S)
def Gx :GS X (.Expr (.Constant (.str x) j pos) a) zJ:=GS.of Fz λY H A Z S o S' b c e D hd=>by cases e;show hd.nx _ _ #[Z,A,rfl,.refl,c,b]
def C4 :GS X (.Pass pos) zJ:=GS.of BQ λY H A Z S o S' a b e D hd=>by cases e;show hd.nx _ _ #[Z,A,rfl,.refl,b,a]
abbrev qv (f:FE):FS:=λZ S=>match f Z S with
 |some (w,S1)=>aB (.rt w,S1)
 |none=>ba
def oF {e:NF}(h:GE X e f):GS X (.Return (aB e) pos) (qv f):=GS.of (FB h) λY H A Z S o S' b d e D hd=>by
 unfold qv at e;split at e
 next w S1 c=>cases e;show#[A,Z,S,w,_,b,d,c,λv g #[a,z1,z2,z3]=>hd.rt _ _ #[w,a,rfl,z1,z2,z3]]
 ·cases e
abbrev ly (c:FT)(f g:FS):FS:=λZ S=>match c Z S with
 |some (true,S1)=>f Z S1
 |some (false,S1)=>g Z S1
 |none=>ba
def zK { g:FS}(hc:GT X c fc)(l:GSs X a f)(m:GSs X b g):GS X (.If c a b pos) (ly fc f g):=GS.of (EA hc l m) λY H A Z S o S' d j e D hd=>by
 unfold ly at e;split at e
 next S1 h=>
  show#[A,Z,S,_,S1,d,j,h,λb k #[i,A1,z1,z2]=>?_]
  subst i;show#[A1,Z,S1,o,S',d.mono z1,z2,e,(EndS.after z1).trans hd]
 next S1 h=>
  show#[A,Z,S,_,S1,d,j,h,λb k #[i,A1,z1,z2]=>?_]
  subst i;show#[A1,Z,S1,o,S',d.mono z1,z2,e,(EndS.after z1).trans hd]
 ·cases e
noncomputable abbrev FG:=W->Fm->aa->Nf (Fm×aa)
inductive tG (X:Cx)(f:FG)(v:V)(Y:L2.St)(H:Hp)(Q:L2.St->Hp->Prop):Prop
 |mk (A:Nb Nl) (Z:Fm) (S:aa) (w:W) (Z':Fm) (S':aa) (er:EnvRel X.K A H Z Y) (so:wv X A H S) (r:Rel X.K A H w v) (e:f w Z S=aB (Z',S')) (q:∀Y' H' A',Ext X.K A H A' H'->wv X A' H' S'->EnvRel X.K A' H' Z' Y'->Q Y' H'):tG X f v Y H Q
noncomputable abbrev GG (X:Cx)(tg:NF)(f:FG):Prop:=PG X tg (tG X f)
abbrev EN (i:Np):FG:=λw Z S=>aB (Z.set i (aB w),S)
def oG (c:X.N.Nodup)(hi:X.N[i]?=aB x)(g:x6 X.env.scope x)(d:X.fn x=true\/X.env.scope.names.lookup x=aB .local):GG X (.Name x pos) (EN i):=by
 intro J s Y H v u Q I r ⟨A,Z,S,w,j,S',b,h,a,e,f⟩;cases e;show ug c hi g d _ s Y H v u Q I r (f _ _ A .refl h (b.set a i))
abbrev bQ:Nb Np->Nb W->Fm->Nf Fm
 |[],[],Z=>aB Z
 |i::is,w::ws,Z=>bQ is ws (Z.set i (aB w))
 |_,_,_=>ba
abbrev Iy (is:Nb Np):FG:=λw Z S=>match w with
 |.tup ws=>(bQ is ws Z).map λa=>(a,S)
 |_=>ba
def wX:∀{ts:Nb NF}{is:Nb Np},(∀x∈ts,∃y p,x=.Name y p)->Th (λ t i=>∃x p,t=TF x p/\X.N[i]?=aB x/\x6 X.env.scope x/\(X.fn x=true\/X.env.scope.names.lookup x=aB .local)) ts is->X.N.Nodup->
  IL X ts (λvs Y H Q=>∃A Z ws a S,EnvRel X.K A H Z Y/\wv X A H S/\RelL X.K A H ws vs/\bQ is ws Z=aB a/\∀g,EnvRel X.K A H a g->Q g H):=by
 intro ts
 induction ts with
 |nil=>
  intro is _ h c;cases h;intro J s Y H vs us Q I r ⟨A,Z,ws,a,S,b,j,f,e,d⟩;cases f with
  |nil=>cases e;show BS J s Y H [] us Q I r #[rfl,d _ b]
  |cons _ _=>cases e
 |cons t ts ih=>
  intro is m h c;cases h with
  |cons k h2=>
   obtain⟨x,p,rfl,hi,hl,l⟩:=k;have:=ih (λy n=>m y (NL _ n)) h2 c
   intro J s Y H vs us Q I r ⟨A,Z,ws,a,S,b,j,f,e,d⟩;cases f with
   |nil=>cases e
   |cons o q=>
    show ya (ug c hi hl l) this rfl J s Y H _ us Q I r #[_,_,rfl,?_];show#[A,_,_,a,S,b.set o _,j,q,e,d]
def Gy (hc:X.calm=true)(B:∀x∈ts,∃y p,x=.Name y p)(h:Th (λ t i=>∃x p,t=TF x p/\X.N[i]?=aB x/\x6 X.env.scope x/\(X.fn x=true\/X.env.scope.names.lookup x=aB .local)) ts is)(n:X.N.Nodup)
  (o:(assignEach ts X.env).length=↥ts) (b:(assignEach ts X.env).findIdx? (·.1)=ba):GG X (.Tuple ts k pos) (Iy is):=by
 intro J s Y H v u Q I r ⟨A,Z,S,w,a,S',l,g,c,e,q⟩;unfold Iy at e;split at e
 ·rw[Nk]at e;obtain⟨D,d,j⟩:=e;cases j;cases c with
  |tup m f=>
   have hl:∀is ws Z a,bQ is ws Z=aB a->↥is=↥ws:=by
    intro is
    induction is with
    |nil=>intro ws Z a e;cases ws<;>first|rfl|cases e
    |cons i is ih=>intro ws Z a e;cases ws<;>first|cases e|(simp;show ih _ _ _ e)
   show FJ hc (wX B h n) o b _ s Y H _ u Q I r #[_,_,rfl,m,by rw[<- ↥f,<- hl _ _ _ _ d,<- Sn h],A,Z,_,_,_,l,g,f,d,λC z=>q _ _ A .refl g z]
 ·cases e
abbrev C5 (c b:FE):FG:=λw Z S=>match c Z S with
 |some (o,S1)=>match b Z S1 with
  |some (i,S2)=>match kn o i w S2 with
   |some a=>aB (Z,a)
   |none=>ba
  |none=>ba
 |none=>ba
inductive rSet (X:Cx)(g:W->W->W->aa->Nf aa)(ao ai av:V)(H:Hp)(Q:Hp->Prop):Prop
 |mk (A:Nb Nl) (S:aa) (o i w:W) (S':aa) (so:wv X A H S) (r1:Rel X.K A H o ao) (r2:Rel X.K A H i ai) (r3:Rel X.K A H w av) (e:g o i w S=aB S') (q:∀H' A',Ext X.K A H A' H'->wv X A' H' S'->Q H'):rSet X g ao ai av H Q
def LSet.pset {g:W->W->W->aa->Nf aa}(h:LSet X g):FH X (rSet X g):=by
 intro J s Y H c b d t r u Q I n m p ⟨A,S,o,i,w,S',q,j,k,l,e,f⟩;show bd (h _ s Y H A S o i w c b d t r u S' I q j n k m l p e) λ_ v #[a,A',I',e1,o1]=>#[a,I',f a A' e1 o1]
def Gz {g :FE}(z:X.A.units+10<cLine)(x:GE X o g)(hi:GE X i f)(t:∀v,assign (.Subscript o i pos) X.env v=(do
   let ov <- holding [v] (eval o X.env)
   let iv <- holding [v,ov] (eval i X.env)
   standAt pos
   holding [v,ov,iv] (setItem ov iv v)
   release [v,ov,iv] [])):GG X (.Subscript o i pos) (C5 g f):=by
 intro J s Y H v u Q I r ⟨A,Z,S,w,L,S',c,B,d,e,y⟩;unfold C5 at e;split at e
 next o' S1 p=>
  split at e
  next h S2 h2=>
   split at e
   next G q=>
    cases e;show FK x hi (Jq z).pset t _ s Y H v u Q I r ?_;show#[A,Z,S,o',S1,c,B,p,λa D #[l,e1,o1,r1]=>?_]
    show#[l,Z,S1,h,S2,c.mono e1,o1,h2,λb E #[m,e2,o2,r2]=>?_]
    show#[m,S2,o',h,w,_,o2,r1.mono e2,r2,d.mono (e1.trans e2),q,λn k j C=>y Y n k ((e1.trans e2).trans j) C (c.mono ((e1.trans e2).trans j))]
   ·cases e
  ·cases e
 ·cases e
abbrev jv (f:FE)(g:FG):FS:=λZ S=>match f Z S with
 |some (w,S1)=>match g w Z S1 with
  |some (a,S2)=>aB (.nx a,S2)
  |none=>ba
 |none=>ba
def lz { e:NF}{g:FG}(h:GE X e f)(j:GG X tg g)(k:swapsWithSole [tg] e pos.line X.env=pure false)(hw:swappedStores [tg] e X.env=pure ba)(a:(assignEach [tg] X.env).map (·.2)=[assign tg X.env]) :
  GS X (.Assign [tg] e pos) (jv f g):=GS.of (FL h j k hw a) λY H A Z S o S' c l e D hd=>by
 unfold jv at e;split at e
 next w S1 a=>
  split at e
  next b S2 h2=>
   cases e;show#[A,Z,S,w,S1,c,l,a,λv r #[i,z1,z2,z3]=>?_]
   show#[i,Z,S1,w,b,_,c.mono z1,z2,z3,h2,λs q d m n p=>hd.nx _ _ #[b,d,rfl,z1.trans m,n,p]]
  ·cases e
 ·cases e
abbrev lA (c:FT)(b:FS):Np->FS
 |0,_,_=>ba
 |n+1,Z,S=>match c Z S with
  |some (true,S1)=>match b Z S1 with
   |some (.nx a,S2)=>lA c b n a S2
   |some (.ct a,S2)=>lA c b n a S2
   |some (.bk a,S2)=>aB (.nx a,S2)
   |some (.rt w,S2)=>aB (.rt w,S2)
   |none=>ba
  |some (false,S1)=>aB (.nx Z,S1)
  |none=>ba
def zL (n:Np)(L:RW (model X.prog X.w) X.A X.env X.xe)(hc:GT X c fc)(J:GSs X body s):GS X (.While c body [] pos) (lA fc s n):=GS.of (yb L hc J) λY H A Z S o S' I M e D hd=>by
 show#[λm B r=>∃k i S1,Ext X.K A H k r/\EnvRel X.K k r i B/\wv X k r S1/\lA fc s m i S1=aB (o,S'),#[n,A,Z,S,.refl,I,M,e],?_]
 rintro m B r ⟨k,i,S1,p,d,q,f⟩;cases m with
 |zero=>cases f
 |succ m=>
  dsimp only[lA]at f;split at f
  next S2 y=>
   show#[k,i,S1,_,S2,d,q,y,λb E #[z,A2,z1,z2]=>?_]
   subst z;rw[NK rfl];show#[λG u=>∃t l g,Ext X.K A H t u/\EnvRel X.K t u l G/\wv X t u g/\lA fc s m l g=aB (o,S'),λx a h=>#[m,P3 _,h],?_]
   split at f
   next l g j=>
    show#[A2,i,S2,_,g,d.mono z1,z2,j,#[λx a #[C,A',y0,y1,y2,y3]=>?_,λv a #[w,A',y0,_,_,_]=>(by cases y0),λv a #[w,A',y0,_,_,_]=>(by cases y0),λv a #[w,A',y0,_,_,_]=>(by cases y0)]]
    cases y0;show#[A',_,g,(p.trans z1).trans y1,y3,y2,f]
   next l g j=>
    show#[A2,i,S2,_,g,d.mono z1,z2,j,#[λv a #[w,A',y0,_,_,_]=>(by cases y0),λv a #[w,A',y0,_,_,_]=>(by cases y0),λv a #[w,A',y0,_,_,_]=>(by cases y0),λx a #[C,A',y0,y1,y2,y3]=>?_]]
    cases y0;show#[A',_,g,(p.trans z1).trans y1,y3,y2,f]
   next l g j=>
    cases f;show#[A2,i,S2,_,_,d.mono z1,z2,j,#[λv a #[w,A',y0,_,_,_]=>(by cases y0),λv a #[w,A',y0,_,_,_]=>(by cases y0),λx a #[C,A',y0,y1,y2,y3]=>?_,λv a #[w,A',y0,_,_,_]=>(by cases y0)]]
    cases y0;show hd.nx _ _ #[_,A',rfl,(p.trans z1).trans y1,y2,y3]
   next w3 g j=>
    cases f;show#[A2,i,S2,_,_,d.mono z1,z2,j,#[λv a #[w,A',y0,_,_,_]=>(by cases y0),λv a #[w,A',y0,y1,y2,y3]=>?_,λv a #[w,A',y0,_,_,_]=>(by cases y0),λv a #[w,A',y0,_,_,_]=>(by cases y0)]]
    cases y0;show hd.rt _ _ #[_,A',rfl,(p.trans z1).trans y1,y2,y3]
   ·cases f
  next S2 y=>
   cases f;show#[k,i,S1,_,_,d,q,y,λb E #[z,A2,z1,z2]=>?_]
   subst z;rw[N1 Oe];show hd.nx _ _ #[_,A2,rfl,p.trans z1,z2,d.mono z1]
  ·cases f
open PySem PySem.Spec PyProof.Rows L2 Xc
noncomputable abbrev FX:=Fm->aa->Nf (Nu×Nb W×aa)
noncomputable abbrev Cl:=Nu->Nf (Nl×Nb Nu)
inductive tX (X:Cx)(cl:Cl)(Ew:L2.XK)(fx:FX)(Y:L2.St)(H:Hp):Prop
 |mk (A:Nb Nl) (Z:Fm) (S:aa) (cn:Nu) (ws:Nb W) (S':aa) (C:Nl) (gs:Nb Nu) (er:EnvRel X.K A H Z Y) (so:wv X A H S) (e:fx Z S=aB (cn,ws,S')) (hc:cl cn=aB (C,gs))
   (q:∀cls dd H',EndX X.w X.K A H S' C gs ws cls dd H'->Ew cls dd H'):tX X cl Ew fx Y H
abbrev GX (X:Cx)(cl:Cl)(a:L2.XK)(st:OE)(f:FS)(fx:FX):Prop:=PS X st λD Y H=>tS X f D Y H\/tX X cl a fx Y H
abbrev GB (X:Cx)(cl:Cl)(a:L2.XK)(sts:Nb OE)(f:FS)(fx:FX):Prop:=PSs X sts λD Y H=>tS X f D Y H\/tX X cl a fx Y H
abbrev Mz:FX:=λ_ _=>ba
abbrev MA:FS:=λ_ _=>ba
abbrev lB (cn:Nu)(k:Np)(f:FA):FX:=λZ S=>match f Z S with
 |some (ws,S1)=>if ↥ws=k then aB (cn,ws,S1)else ba
 |none=>ba
def qw (h:lB cn k f Z S=aB r):r.1=cn/\f Z S=aB r.2/\↥r.2.1=k:=by
 unfold lB at h;split at h
 next ws S1 e=>
  split at h
  next hl=>cases h;show#[rfl,e,hl]
  ·cases h
 ·cases h
variable{cl:Cl}
def qx {st:OE}(h:GS X st f):GX X cl Ew st f Mz:=λJ s Y H D I q=>by
 rcases q with q|⟨_,_,_,_,_,_,_,_,_,_,e,_⟩
 ·show h J s Y H D I q
 ·cases e
def C6:GB X cl Ew [] (λZ S=>aB (.nx Z,S)) Mz:=λJ s Y H D I q=>by
 rcases q with q|⟨_,_,_,_,_,_,_,_,_,_,e,_⟩
 ·show eT J s Y H D I q
 ·cases e
abbrev uV (f:FS)(fx b:FX):FX:=λZ S=>match f Z S with
 |some (.nx a,S1)=>b a S1
 |some _=>ba
 |none=>fx Z S
def EndX.after {A g:Nb Nl}(e:Ext X.K A H g j)(h:EndX X.w X.K g j S' C k ws cls dd i):EndX X.w X.K A H S' C k ws cls dd i:=by
 cases h with
 |no a c m d b f=>show .no a c m d (e.trans b) f
 |«at» a l vs c d hd nd b f r=>show .at a l vs c d hd nd (e.trans b) f r
def zM {st:OE}{ g:FS}(h:GX X cl Ew st f fx)(h2:GB X cl Ew sts g r):GB X cl Ew (st::sts) (ko f g) (uV f fx r):=λJ s Y H D I q=>by
 show kN h h2 J s Y H D I ?_;rcases q with⟨A,Z,S,o,S',k,l,e,d⟩|⟨A,Z,S,cn,ws,S',C,p,k,l,e,hc,q⟩
 ·apply Or.inl;unfold ko at e;split at e
  next n S1 i=>
   show#[A,Z,S,_,S1,k,l,i,#[λj c #[u,A',eo,ex,so',er']=>?_,λv c #[_,_,eo,_,_,_]=>(by cases eo),λj c #[_,_,eo,_,_,_]=>(by cases eo),λj c #[_,_,eo,_,_,_]=>(by cases eo)]]
   cases eo;have m:=EndS.after (o:=o) (S':=S') ex;show .inl #[A',n,S1,o,S',er',so',e,#[λa b z=>d.nx a b (m.nx a b z),λa b z=>d.rt a b (m.rt a b z),λa b z=>d.bk a b (m.bk a b z),λa b z=>d.ct a b (m.ct a b z)]]
  next w S1 i=>cases e;show#[A,Z,S,_,_,k,l,i,#[λj c #[_,_,eo,_,_,_]=>(by cases eo),d.rt,d.bk,d.ct]]
  next w S1 i=>cases e;show#[A,Z,S,_,_,k,l,i,#[λj c #[_,_,eo,_,_,_]=>(by cases eo),d.rt,d.bk,d.ct]]
  next w S1 i=>cases e;show#[A,Z,S,_,_,k,l,i,#[λj c #[_,_,eo,_,_,_]=>(by cases eo),d.rt,d.bk,d.ct]]
  ·cases e
 ·unfold uV at e;split at e
  next n S1 i=>
   apply Or.inl;show#[A,Z,S,_,S1,k,l,i,#[λj c #[u,A',eo,ex,so',er']=>?_,λv c #[_,_,eo,_,_,_]=>(by cases eo),λj c #[_,_,eo,_,_,_]=>(by cases eo),λj c #[_,_,eo,_,_,_]=>(by cases eo)]]
   cases eo;show .inr #[A',n,S1,cn,ws,S',C,p,er',so',e,hc,λcls dd t z=>q cls dd t (z.after ex)]
  ·cases e
  ·show .inr #[A,Z,S,cn,ws,S',C,p,k,l,e,hc,q]
variable{k:Np}{f:Nl}{ps:Nb Nu}{p cpos pos:Pp}{es:Nb NF}
section
variable{fd:OG}{x:Nu}{a:NF}{fa:FA}
abbrev C7 (X:Cx)(Ew:L2.XK):Prop:=∀J Y H s a C dd b,Air X J Y H s a C dd b->Ew (.ref C) dd H->X.xe (.ref a) s
def wY (y:X.A.handled=ba)(b:XM X.K C f cd)(v:Qr X.K (.ref C) g=aB ba)(F:FnOk X.prog X.w X.K X.mg X.base kj k f fd ps (yH X.K g))(G:Room (k+1) X.A)(w:Gl X x)(z:X.mg x=aB (.ref C))(u:Binds X.K fd ps [])
  (hw:C7 X Ew) (hc:cl x=aB (C,[g])) (t:GA X (a::es) fa) (hdb:(x==("__debug__"))=false) (h:starEach (a::es) X.env=(false,eval a X.env)::starEach es X.env) (i:(backTo cpos (starEach es X.env)).any (·.1)=false) :
  GX X cl Ew (.Raise (aB (.Call (.Name x p) (a::es) [] cpos)) ba pos) MA (lB x 1 fa):=λJ s Y H D I q=>by
 rcases q with⟨_,_,_,_,_,_,_,e,_⟩|⟨A,Z,S,cn,ws,S',O,Q,o,L,e,c,q⟩
 ·cases e
 ·obtain⟨j,l,d⟩:=qw e;dsimp only at j l d;subst j;rw[hc]at c;cases c;show yD (E:=E0) y b F G w z u ur hw t hdb h i J s Y H D I #[A,Z,S,ws,S',o,L,l,λvs P m=>#[?_,λn e h B=>Gs b.toXC v m d h B q]]
  obtain⟨N,ex,M,r⟩:=m;rw[<- ↥r,d,OF];decide
def w4 (h:X.A.handled=ba)(a:XM X.K C f cd)(F:FnOk X.prog X.w X.K X.mg X.base kj k f fd ps (Cj X.K))(l:Room (k+1) X.A)(g:Gl X x)(i:X.mg x=aB (.ref C))(c:Binds X.K fd ps [])
  (hw:C7 X Ew) (hc:cl x=aB (C,[])) (hdb:(x==("__debug__"))=false):GX X cl Ew (.Raise (aB (.Call (.Name x p) [] [] cpos)) ba pos) MA (λ_ S=>aB (x,[],S)):=λJ s Y H D I q=>by
 rcases q with⟨_,_,_,_,_,_,_,e,_⟩|⟨A,Z,S,cn,ws,S',o,t,r,m,e,b,q⟩
 ·cases e
 ·cases e;rw[hc]at b;cases b;show wl (E:=E0) h a F l g i c ur hw hdb J s Y H D I #[OW _,λn e d j=>Gu (A:=A) (H:=H) a.toXC #[A,.refl,m,.nil] rfl d j q]
end
abbrev C8 (c:FT)(f g:FX):FX:=λZ S=>match c Z S with
 |some (true,S1)=>f Z S1
 |some (false,S1)=>g Z S1
 |none=>ba
def Jx {f g:FS}(hc:GT X c fc)(t:GB X cl Ew a f fx)(u:GB X cl Ew b g r):GX X cl Ew (.If c a b pos) (ly fc f g) (C8 fc fx r):=λJ s Y H D I q=>by
 show EA hc t u J s Y H D I ?_;rcases q with⟨A,Z,S,o,S',h,l,e,d⟩|⟨A,Z,S,cn,ws,S',C,p,h,l,e,k,q⟩
 ·unfold ly at e;split at e
  next S1 i=>
   show#[A,Z,S,_,S1,h,l,i,λb m #[j,A1,z1,z2]=>?_]
   subst j;rw[NK rfl];show .inl #[A1,Z,S1,o,S',h.mono z1,z2,e,(EndS.after z1).trans d]
  next S1 i=>
   show#[A,Z,S,_,S1,h,l,i,λb m #[j,A1,z1,z2]=>?_]
   subst j;rw[N1 #v[]]
   show .inl #[A1,Z,S1,o,S',h.mono z1,z2,e,(EndS.after z1).trans d]
  ·cases e
 ·unfold C8 at e;split at e
  next S1 i=>
   show#[A,Z,S,_,S1,h,l,i,λb m #[j,A1,z1,z2]=>?_]
   subst j;rw[NK rfl];show .inr #[A1,Z,S1,cn,ws,S',C,p,h.mono z1,z2,e,k,λcls dd n z=>q cls dd n (z.after z1)]
  next S1 i=>
   show#[A,Z,S,_,S1,h,l,i,λb m #[j,A1,z1,z2]=>?_]
   subst j;rw[N1 #v[]]
   show .inr #[A1,Z,S1,cn,ws,S',C,p,h.mono z1,z2,e,k,λcls dd n z=>q cls dd n (z.after z1)]
  ·cases e
noncomputable abbrev Jy:=Nb W->aa->Nf (Nu×Nb W×aa)
inductive spX (wd:NU)(K:Nr)(cl:Cl)(n:Np)(g:FF)(gx:Jy)(vs:Nb V)(H:Hp)(Q:VK)(E:L2.XK):Prop
 |ok (h:spF wd K n g vs H Q E):spX wd K cl n g gx vs H Q E
 |xc (A:Nb Nl) (S:aa) (ws:Nb W) (cn:Nu) (us:Nb W) (S':aa) (C:Nl) (gs:Nb Nu) (so:StoreOk wd K A H S) (rl:RelL K A H ws vs) (hl:↥ws=n) (e:gx ws S=aB (cn,us,S')) (hc:cl cn=aB (C,gs))
   (q:∀cls dd H',EndX wd K A H S' C gs us cls dd H'->E cls dd H'):spX wd K cl n g gx vs H Q E
abbrev mZ (n:Np)(a:Jy)(f:FA):FX:=λZ S=>match f Z S with
 |some (ws,S1)=>if ↥ws=n then a ws S1 else ba
 |none=>ba
abbrev C9 (xs:Nb W)(S:aa):Nf (W×aa):=match xs with
 |[.int i]=>if i.natAbs<1000 then aB (.str (Qw (toString i)),S)else ba
 |_=>ba
def w6:LCall X (.type "str") C9:=by
 intro J s Y H A S xs vs us w S' I f c d e;cases c with
 |nil=>cases e
 |cons r t=>
  cases t with
  |cons _ _=>cases r<;>cases e
  |nil=>
   cases r with
   |int=>
    rename_i i;unfold C9 at e;dsimp only at e;split at e
    ·rename_i hi;cases e;show CallR.go (r:=λxs H Q=>xs=[.int i]/\Q (.str (Qw (toString i))) H) ?_ I d #[rfl,.here f .str]
     intro J s Y H xs us Q I r h;obtain⟨rfl,q⟩:=h;obtain⟨u,rfl,t,rfl⟩:=jM r;show P.str_of_int ?_ #[.str _,H,I.tok _,#[_,rfl],q];have b:i.natAbs<2^10:=∅
     by_cases a:i.natAbs=0
     ·rw[a];decide
     ·have:=(Nat.log2_lt a).mpr b;omega
    ·cases e
   |_=>cases e
def lC (h:vs.all (foldedForSure 8)=true):swappedStores [.Tuple ts k q] (.Tuple vs k2 a) env=pure ba:=by
 unfold swappedStores;dsimp only;split
 ·rfl
 ·split
  ·rfl
  ·split
   ·rfl
   ·rfl
inductive MI where
 |its (ws:Nb W)
 |live (r:Np)
 |zl (r q:Np)
abbrev iH (xs a:Nb W):Nb W:=Nn (λx y=>.tup [x,y]) xs a
abbrev MI.at (S:aa)(i:Np):MI->Nf (Nf W)
 |.its ws=>aB ws[i]?
 |.live r=>match fw S r with
  |some xs=>aB xs[i]?
  |none=>ba
 |.zl r q=>match fw S r,fw S q with
  |some xs,aB a=>aB (iH xs a)[i]?
  |_,_=>ba
abbrev MI.len (S:aa):MI->Nf Np
 |.its ws=>aB ↥ws
 |.live r=>(fw S r).map (·.length)
 |.zl r q=>match fw S r,fw S q with
  |some xs,aB a=>aB (iH xs a).length
  |_,_=>ba
noncomputable abbrev FI:=Fm->aa->Nf (MI×aa)
structure MIt (wd:NU)(K:Nr)(mi:MI)(tx:It)(A0:Nb Nl)(H0:Hp):Prop where
 go:∀A H S i w,Ext K A0 H0 A H->StoreOk wd K A H S->mi.at S i=aB (aB w)->tx.go i H/\∀x H',tx.yld i H x H'->Ext K A H A H'/\StoreOk wd K A H' S/\Rel K A H' w x
 stop:∀A H S i,Ext K A0 H0 A H->StoreOk wd K A H S->mi.at S i=aB ba->tx.stop i H
inductive tI (X:Cx)(f:FI)(Y:L2.St)(H:Hp)(R:It->Hp->Prop):Prop
 |mk (A:Nb Nl) (Z:Fm) (S:aa) (mi:MI) (S':aa) (er:EnvRel X.K A H Z Y) (so:wv X A H S) (e:f Z S=aB (mi,S')) (q:∀tx H' A',Ext X.K A H A' H'->wv X A' H' S'->MIt X.w X.K mi tx A' H'->R tx H'):tI X f Y H R
noncomputable abbrev GI (X:Cx)(tg iter:NF)(f:FI):Prop:=PI X tg iter (tI X f)
abbrev Db (f:FE):FI:=λZ S=>match f Z S with
 |some (.tup ws,S1)=>aB (.its ws,S1)
 |some (.ref r,S1)=>match fw S1 r with
  |some _=>aB (.live r,S1)
  |none=>ba
 |_=>ba
abbrev fK (lo:NI)(n:Np):Nb W:=(N2 n).map λ(k:Np)=>.int (lo+(k:NI))
abbrev oH (f:FA):FI:=λZ S=>match f Z S with
 |some ([.int j],S1)=>if -(2^62)<=j/\j<2^62 then aB (.its (fK 0 j.toNat),S1)else ba
 |_=>ba
abbrev iRng2 (f:FA):FI:=λZ S=>match f Z S with
 |some ([.int i,.int j],S1)=>if -(2^62)<=i/\i<2^62/\-(2^62)<=j/\j<2^62 then aB (.its (fK i (j-i).toNat),S1)else ba
 |_=>ba
abbrev fL (mi:MI)(g:FG)(b:FS):Np->Np->FS
 |0,i,Z,S=>match mi.at S i with
  |some ba=>aB (.nx Z,S)
  |_=>ba
 |n+1,i,Z,S=>match mi.at S i with
  |some (aB w)=>match g w Z S with
   |some (c,S1)=>match b c S1 with
    |some (.nx a,S2)=>fL mi g b n (i+1) a S2
    |some (.ct a,S2)=>fL mi g b n (i+1) a S2
    |some (.bk a,S2)=>aB (.nx a,S2)
    |some (.rt w,S2)=>aB (.rt w,S2)
    |none=>ba
   |none=>ba
  |_=>ba
abbrev zN (a:FI)(g:FG)(b:FS):FS:=λZ S=>match a Z S with
 |some (mi,S1)=>match mi.len S1 with
  |some n=>fL mi g b n 0 Z S1
  |none=>ba
 |none=>ba
def Dc {A:Nb Nl}(h:SqT X.K H a vs)(r:RelL X.K A H ws vs):MIt X.w X.K (.its ws) (Ir X.K a) A H:=by
 show#[λd f S i w e c hi=>?_,λd f S i e c hi=>?_]
 ·simp only[MI.at,NV]at hi;obtain⟨v,b,h2⟩:=(r.mono e).get hi;show#[#[vs,v,e.tp _ _ h,b],λx j #[g,z2]=>?_]
  subst g;have:=z2 vs (e.tp _ _ h);rw[b]at this;cases this
  show#[.refl,c,h2]
 ·simp only[MI.at,NV]at hi;show#[vs,e.tp _ _ h,?_];rw[<- ↥r];show OX.mp hi
def De {A:Nb Nl}(g:A[r]?=aB a):MIt X.w X.K (.live r) (Le X.K a) A H:=by
 show#[λh j S i w e c hi=>?_,λh j S i e c hi=>?_]
 ·simp only[MI.at]at hi;split at hi
  next xs d=>
   simp only[NV]at hi;obtain⟨vs,b,f⟩:=bn c d (e.ad _ _ g);obtain⟨v,h2,k⟩:=f.get hi;show#[#[vs,v,b,h2],λx m #[l,z2]=>?_]
   subst l;have:=z2 vs b;rw[h2]at this;cases this
   show#[.refl,c,k]
  ·cases hi
 ·simp only[MI.at]at hi;split at hi
  next xs d=>simp only[NV]at hi;obtain⟨vs,b,f⟩:=bn c d (e.ad _ _ g);show#[vs,b,?_];rw[<- ↥f];show OX.mp hi
  ·cases hi
def fM {lo:NI}:(fK lo n)[i]?=if i<n then aB (.int (lo+i))else ba:=by
 unfold fK;rw[Nw]
 by_cases h:i<n
 ·rw[NK h,Qk h];rfl
 ·rw[N1 h,OX.mpr (by simp;omega)];rfl
def Dg {A:Nb Nl}{lo:NI}:MIt X.w X.K (.its (fK lo n)) (IQ lo n) A H:=by
 show#[λb c S i w e a hi=>?_,λb c S i e a hi=>?_]
 ·simp only[MI.at,NV]at hi;rw[fM]at hi;split at hi
  ·cases hi;show#[by assumption,λx f #[d,z2]=>?_]
   subst d z2;show#[.refl,a,.int]
  ·cases hi
 ·simp only[MI.at,NV]at hi;rw[fM]at hi;split at hi
  ·cases hi
  ·change n<=i;omega
def qy {R:It->Hp->Prop}(f:Inv X J Y d c)(i:RelV (.ref a) v)(h:SqL X.K d a xs)(q:R (Le X.K a) d) :
  wi X (pyIter v) (IP X J Y tg R) X.xe c:=by
 cases i;obtain⟨its,k,p,j⟩:=f.list h;show QF p.isList ?_;show#[⇑c.heap.objs,[⇑c.heap.objs],_,_,d,rfl,f.kept  λb o e=>Ng _ e,vX a _,#[_,Nx _ rfl,rfl,rfl],λb g=>?_,q]
 have e:b=⇑c.heap.objs:=by simpa using g
 subst e;show f.fpOk (Ny _) (f.hok.fresh (Ny _))
def sI {R:It->Hp->Prop}(f:Inv X J Y d c)(i:RelV (.ref a) v)(h:SqT X.K d a xs)(q:R (Ir X.K a) d) :
  wi X (pyIter v) (IP X J Y tg R) X.xe c:=by
 cases i;obtain⟨its,k,p,j⟩:=f.tuple h;show Uj p ?_;show#[⇑c.heap.objs,[⇑c.heap.objs],_,_,d,rfl,f.kept  λb o e=>Ng _ e,rR a _,#[_,Nx _ rfl,rfl,rfl],λb g=>?_,q]
 have e:b=⇑c.heap.objs:=by simpa using g
 subst e;show f.fpOk (Ny _) (f.hok.fresh (Ny _))
def af {α:Type}{x:α}{P:Prop}(h:ba=aB x):P:=nomatch h
def Dh {f:FA}(e:oH f Z S=aB y):∃ j S1,f Z S=aB ([.int j],S1)/\(-(2^62)<=j/\j<2^62)/\y=(.its (fK 0 j.toNat),S1):=by
 unfold oH at e;generalize f Z S=r at e;cases r with
 |none=>show af e
 |some p=>
  cases p with
  |mk ws S1=>
   cases ws with
   |nil=>show af e
   |cons w ws=>
    cases w with
    |int j=>
     cases ws with
     |nil=>
      by_cases a : -(2^62)<=j/\j<2^62
      ·show#[j,S1,rfl,a,OC (((NK a).symm.trans e).symm)]
      ·show af ((N1 a).symm.trans e)
     |cons _ _=>show af e
    |_=>show af e
def Di {f:FA}(i:Gl X "range")(k:X.mg "range" = ba)(h:GA X [a] f)(m:starEach [a] X.env=[(false,eval a X.env)]):GI X tg (.Call (.Name "range" p) [a] [] pos) (oH f):=by
 intro J s Y H R I ⟨A,Z,S,mi,S',d,o,e,l⟩;obtain⟨j,S1,g,b,e⟩:=Dh e;cases e;show vY i k h m _ s Y H R I #[A,Z,S,_,_,d,o,g,λvs q #[c,z1,z2,z3]=>?_]
 cases z3 with
 |cons n t=>
  cases t;cases n;show#[j,rfl,b.1,b.2,l _ _ c z1 z2 Dg]
def GC {f:FE}(h:GE X l f):GI X tg l (Db f):=by
 intro J s Y H R I ⟨A,Z,S,mi,S',d,i,e,g⟩;unfold Db at e;split at e
 next ws S1 b=>
  cases e;show bd (h _ s Y H _ I #[A,Z,S,_,_,d,i,b,λ_ _ z=>z]) λv m #[x,H1,I1,r1,A1,e1,o1,z1]=>?_
  cases z1 with
  |tup a k=>
   show sI I1 r1 a (g _ _ A1 e1 o1 (Dc a k))
 next r S1 b=>
  split at e
  next n j=>
   cases e;show bd (h _ s Y H _ I #[A,Z,S,_,_,d,i,b,λ_ _ z=>z]) λv m #[x,H1,I1,r1,A1,e1,o1,z1]=>?_
   cases z1 with
   |ref c=>
    obtain⟨vs,hl,_⟩:=bn o1 j c;show qy I1 r1 hl (g _ _ A1 e1 o1 (De c))
  ·cases e
 ·cases e
def GD {g:FG}(hp:RW (model X.prog X.w) X.A X.env X.xe)(hc:X.calm=true)(hi:GI X tg iter Q)(hg:GG X tg g)(W:GSs X body y)
  (J:∀x,foldedSetIterable iter X.env x=pure x):GS X (.For tg iter body [] pos) (zN Q g y):=GS.of (FN hp hc hi hg W J) λY H A Z S o S' P so e D hd=>by
 unfold zN at e;split at e
 next mi S1 U=>
  split at e
  next n hn=>
   show#[A,Z,S,mi,S1,P,so,U,λtx L E C z2 r=>?_]
   show#[λi m M l=>∃b t S2,Ext X.K E L b l/\EnvRel X.K b l t M/\wv X b l S2/\fL mi g y m i t S2=aB _,#[n,E,Z,S1,.refl,P.mono C,z2,e],?_]
   rintro i m M l ⟨b,t,S2,u,q,k,w2⟩;cases m with
   |zero=>
    dsimp only[fL]at w2;split at w2
    next J=>cases w2;show .inl #[r.stop b l _ i u k J,hd.nx _ _ #[_,b,rfl,C.trans u,k,q]]
    ·cases w2
   |succ m=>
    dsimp only[fL]at w2;split at w2
    ·rename_i w hw;obtain⟨go,yl⟩:=r.go b l S2 i w u k hw;show .inr #[go,λT p=>∃G d c,Ext X.K E L G p/\EnvRel X.K G p d T/\wv X G p c/\fL mi g y m _ d c=aB _,λI a h=>#[m,P3 _,h],λx p hy=>?_]
     obtain⟨R,x2,x3⟩:=yl x p hy;split at w2
     ·rename_i d c V;show#[b,t,S2,w,d,c,q.mono R,x2,x3,V,λY4 H4 s y1 z B=>?_]
      have ex:=(u.trans R).trans y1;split at w2
      ·rename_i O f j;show#[s,d,c,_,f,B,z,j,#[λI a #[N,A',u0,u1,u2,u3]=>?_,λv a #[w,A',y0,_,_,_]=>(by cases y0),λv a #[w,A',y0,_,_,_]=>(by cases y0),λv a #[w,A',y0,_,_,_]=>(by cases y0)]]
       cases u0;show#[A',_,f,ex.trans u1,u3,u2,w2]
      ·rename_i O f j;show#[s,d,c,_,f,B,z,j,#[λv a #[w,A',y0,_,_,_]=>(by cases y0),λv a #[w,A',y0,_,_,_]=>(by cases y0),λv a #[w,A',y0,_,_,_]=>(by cases y0),λI a #[N,A',u0,u1,u2,u3]=>?_]]
       cases u0;show#[A',_,f,ex.trans u1,u3,u2,w2]
      ·rename_i O f j;cases w2;show#[s,d,c,_,_,B,z,j,#[λv a #[w,A',y0,_,_,_]=>(by cases y0),λv a #[w,A',y0,_,_,_]=>(by cases y0),λI a #[N,A',u0,u1,u2,u3]=>?_,λv a #[w,A',y0,_,_,_]=>(by cases y0)]]
       cases u0;show hd.nx _ _ #[_,A',rfl,(C.trans ex).trans u1,u2,u3]
      ·rename_i w5 f j;cases w2;show#[s,d,c,_,_,B,z,j,#[λv a #[w,A',y0,_,_,_]=>(by cases y0),λv a #[w,A',u0,u1,u2,u3]=>?_,λv a #[w,A',y0,_,_,_]=>(by cases y0),λv a #[w,A',y0,_,_,_]=>(by cases y0)]]
       cases u0;show hd.rt _ _ #[_,A',rfl,(C.trans ex).trans u1,u2,u3]
      ·cases w2
     ·cases w2
    ·cases w2
  ·cases e
 ·cases e
variable{B:NY}
section
variable{w:NU}{E:Nd->Nh->Prop}{s:Nh}
def Dj {g:Np}(hd:(d==sysModules)=false)(f:RawD d b g s.heap)(e:(⇑b:NI)<2^63)
  (h:Q (.int ⇑b (s.toks+1)) {s with toks:=s.toks+1+1}):wpAny (model prog w) B (call (.builtin "len") [.ref d]) Q E s:=by
 have c:=f.type;obtain⟨o,i,hc,a⟩:=id f;show Sh kind_len plain_len entry_len (args_len1 _) ?_;show Nc  (Nm ?_);show Nc  (Ow  c F.slot_dict_len (OO F.slot_dict_len c F.entry_dict_len ?_ (F.args_dict_len_1 _)));change wpAny _ _ (dictSize d >>= _) _ _ s;show Nc (Nc (Rj i a (Nm ?_)));show Nc (wpAny_pendingCount_other hd ?_);show wpAny_ret_mkInt ?_;show Nc (Ov (Nm ?_));show Nc (QM ?_);change wpAny _ _ (if (⇑b:NI)>=2^63 then _ else _) _ _ _
 rw[N1 ∅]
 show Nc (Vn (Nm #[_,rfl,h]))
end
section
variable{s:Nh}{A:Nb Nl}
def sJ:LCall X (.builtin "len") qk:=by
 intro J s Y H A S xs vs us w S' I b c f e
 by_cases hd:∃i U,xs=[.ref i]/\lj S i=aB U
 ·obtain⟨i,U,rfl,hk⟩:=hd
  (dsimp only[qk]at e;simp only[hk]at e)
  cases e;cases c with
  |cons r t=>
   cases t;cases f with
   |cons m a=>
    cases a;cases r with
    |ref g=>
     obtain⟨xs,l,k⟩:=gY b hk g;have d:=cH I l;obtain⟨h,n,raw,j⟩:=d.raw;obtain rfl:_=NR _:=m;have hl:⇑h=↥xs:=by rw[<- NP,j,Ni]
     have p:=d.1;have o:sizeLine=16777216:=OF;show Dj d.2.1 raw ∅ #[.int ↥U,H,A,I.tok _,#[_,by rw[↥k,hl]],.refl,b,.int]
 ·have:qk xs S=nV xs S:=by
   unfold qk;split
   next i=>
    split
    next U hk=>show absurd #[i,U,rfl,hk] hd
    ·rfl
   ·rfl
  rw[this]at e;show wq J s Y H A S xs vs us w S' I b c f e
abbrev KY (S:aa):W->Nf OV
 |.non=>aB "NoneType"|.bl _=>aB "bool"|.int _=>aB "int"|.str _=>aB "str"|.tup _=>aB "tuple"
 |.ref i=>match fw S i with
  |some _=>aB "list"
  |none=>(lj S i).map λ_=>"dict"
abbrev qA:Nb OV:=["bool","int","str","tuple","list","dict"]
abbrev uW (S:aa)(x:W)(c:OV):Nf ND:=match KY S x with
 |some t=>if qA.contains c then aB (t==c||(t == "bool" && c == "int"))else ba
 |none=>ba
def g6 {K:Nr}(ht:t∈["NoneType","bool","int","str","tuple","list","dict"])(hc:c∈qA):PySem.W.kitOne K (.type t) (.type c)=aB (t==c||(t == "bool" && c == "int")):=by
 simp only[qA,NE,Oc,Pk]at ht hc;rcases ht with rfl|rfl|rfl|rfl|rfl|rfl|rfl<;>rcases hc with rfl|rfl|rfl|rfl|rfl|rfl<;>rfl
def zO:CallR X (.builtin "isinstance") (λvs H Q=>∃A S x v c b,vs=[v,.ty c]/\wv X A H S/\Rel X.K A H x v/\uW S x c=aB b/\Q (.bl b) H):=by
 intro J s Y H vs us Q I i ⟨A,S,x,v,c,b,n,m,C,d,r⟩;subst n;cases i with
 |cons e j=>cases j with
  |cons y k=>
   cases k;obtain rfl:_=PL c:=y;unfold uW at d;split at d
   next t ht=>
    split at d
    ·rename_i hc;cases d;have a:c∈qA:=by simpa using hc
     have fin:∀tk,EP X J Y Q (.bool (t==c||(t == "bool" && c == "int"))) {s with toks:=tk}:=λtk=>#[.bl _,H,I.tok _,rfl,r]
     cases C with
     |non=>cases ht;cases(show _=OM from e);show Qd PySem.W.kitx_none I.kIn R6 (g6 (by simp) a) (λz=>nomatch z) fin
     |bl=>cases ht;cases(show _=OY _ from e);show Qd PySem.W.kitx_bool I.kIn R6 (g6 (by simp) a) (λz=>nomatch z) fin
     |int=>cases ht;obtain⟨t',q⟩:=(show ∃t,_=Sw _ t from e);cases q;show Qd PySem.W.kitx_int I.kIn R6 (g6 (by simp) a) (λz=>nomatch z) fin
     |str=>cases ht;obtain⟨t',q⟩:=(show ∃t,_=Rb _ t from e);cases q;show Qd PySem.W.kitx_str I.kIn R6 (g6 (by simp) a) (λz=>nomatch z) fin
     |tup h w=>
      cases ht;obtain⟨its,i,⟨o,f,g,_⟩,u⟩:=I.tuple h;cases(show _=NR _ from e)
      show Qd PySem.W.kitx_tuple I.kIn #[o,f,g] (g6 (by simp) a) (λz=>nomatch z) fin
     |ref l=>
      cases(show _=NR _ from e)
      dsimp only[KY]at ht;split at ht
      next ws hw=>cases ht;obtain⟨vs,h,_⟩:=bn m hw l;obtain⟨its,i,p,u⟩:=I.list h;obtain⟨o,f,g,_⟩:=p.isList;show Qd PySem.W.kitx_list I.kIn #[o,f,g] (g6 (by simp) a) (λz=>nomatch z) fin
      ·rw[Nk]at ht;obtain⟨U,hk,rfl⟩:=ht;obtain⟨xs,B,L⟩:=gY m hk l;obtain⟨E,D,⟨o,f,g,_⟩,G⟩:=(cH I B).raw;show Qd PySem.W.kitx_dict I.kIn #[o,f,g.1] (g6 (by simp) a) (λz=>nomatch z) fin
    ·cases d
   ·cases d
abbrev zP (c:OV)(f:FE):FE:=λZ S=>match f Z S with
 |some (x,S1)=>(uW S1 x c).map λb=>(.bl b,S1)
 |none=>ba
def zQ {e:NF}{f:FE}(s:Gl X "isinstance")(t:X.mg "isinstance" = ba)(d:Gl X cn)(g:X.mg cn=ba)(i:bootBuiltins cn=aB (.type c))(h:cn≠"__name__")(a:(cn==("__debug__"))=false)
  (r:GE X e f) (k:starEach [e,.Name cn p2] X.env=(false,eval e X.env)::starEach [.Name cn p2] X.env):GE X (.Call (.Name "isinstance" p) [e,.Name cn p2] [] pos) (zP c f):=
 GE.of (fD zO s t rfl (bU r (bU (ue (v:=.ty c) d g i rfl h a) gQ) k) #v[] #v[] k rfl) λY H A Z S w S' o x e Q u=>by
  unfold zP at e;split at e
  next l S1 q=>rw[Nk]at e;obtain⟨b,m,n⟩:=e;cases n;show#[A,Z,S,l,_,o,x,q,λv y #[j,z1,z2,z3]=>#[j,_,l,v,c,b,rfl,z2,z3,m,u _ _ #[j,z1,z2,.bl]]]
  ·cases e
end
abbrev EO:FE:=λ_ S=>aB (.ref ↥S,S++[.dic []])
section
variable (K:Nr) (A:Nb Nl) (H:Hp)
inductive RelP:Nb W->Nb (V×V)->Prop
 |nil:RelP [] []
 |cons {k v:W}{a b:V}{ws:Nb W}{ps:Nb (V×V)}:Rel K A H k a->Rel K A H v b->RelP ws ps->RelP (k::v::ws) ((a,b)::ps)
end
def RelP.mono {K:Nr}{A :Nb Nl}{ f:Hp}(e:Ext K A H d f){ps:Nb (V×V)}(h:RelP K A H ws ps):RelP K d f ws ps:=by
 induction h with
 |nil=>show .nil
 |cons a b c ih=>show .cons (a.mono e) (b.mono e) ih
section
variable{s:Nh}{A:Nb Nl}
def Dk :GE X (.Dict [] [] pos) EO:=λJ s Y H Q I #[A,Z,S,w,S',er,so,e,hq]=>by
 cases e;have a:=I.hok.fresh (Ny _);have b:DicAt X.w _ [] (s.heap.push {cls:=.type _,data:=.dict #[]}):=#[OW _,PP.mpr (Ne.symm (NJ I.big)),Tr,_,#[],0,Nx _ rfl,#[rfl,rfl,rfl],rfl,rfl];show wpAny_Dict_empty #[.ref _,_,I.laid    (λ_ _ q=>Ng _ q) (Ny _) b.ok,rfl,hq _ _ #[A++[⇑s.heap.objs],d7 a,so.pushO a #[[],aA,.nil],.ref ?_]]
 rw[<- so.len];simp
end
abbrev MB (wd:NU)(a:Nl)(o:OQ)(xs:Nb (T×Nl×Nd)):It:=
 #[λi H=>H a=aB (.frz o (iB wd a xs))/\i<↥xs,λi H x b=>b=H/\∃q,xs[i]?=aB q/\x=.ref q.2.1,λi H=>H a=aB (.frz o (iB wd a xs))/\↥xs<=i]
def w8 {K:Nr}(a it:Nl){f:N9 PF}{C:Np}(D:o.ExactDict)(hd:o.data=.dict f C)(y:f.toList=xs.map (yI w)) :
  Turn P w K tg (MB w a o xs) [it] it (λi h=>h.IsKeyIter it a i ⇑f C) where
 mem:=by simp
 obj:=λi h st b g=>by
  have e:b=it:=by simpa using g
  subst e;obtain⟨o,e,c,d⟩:=st;show#[o,e,λv z=>by rw[d]at z;cases z]
 keep:=λi h h' st k=>st.at λo e=>k it (by simp) o e
 item:=by
  intro X x hw hK hc i J s Y H E I m st A;subst x hw hK;obtain⟨u,hi⟩:=A;have B:=(I.hok a _ u).1;have hl:⇑f=↥xs:=by rw[<- NP,y,Ni]
  have j:i<⇑f:=∅
  obtain⟨n,p,M,q,r,t⟩:=m it (by simp)
  have hk:f[i].key=.ref (xs[i]).2.1:=by
   have:f.toList[i]?=aB (yI X.w xs[i]):=by rw[y,Nw,Nt hi];rfl
   rw[OR,QR j]at this;have:=OC this;rw[this];rfl
  show p0 st #[o,B,D,hd] j λh' l N=>?_
  have G:Inv X _ Y H {s with heap:=h'}:=I.turned  (λb o g e=>(N.2 b g).trans e) n p q r t
  obtain⟨o',e,c,d⟩:=id l;show#[_,rfl,pJ  e c d #v[] #[.ref _,H,G,hk,#[rfl,xs[i],Nt hi,rfl],l,λb g=>(m b g).1]]
 done:=by
  intro X x hw hK hc i J s Y H E I m st A;subst x hw hK;obtain⟨u,hi⟩:=A;have B:=(I.hok a _ u).1;have hl:⇑f=↥xs:=by rw[<- NP,y,Ni]
  obtain⟨n,p,M,q,r,t⟩:=m it (by simp)
  show uJ (I.ok.hd hc) st #[o,B,D,hd] ∅ λh' L=>#[rfl,I.turned  (λb o g e=>L b o g e) n p q r t]
 self:=λ_ _ _ _ _ st h=>Tn st h
abbrev cU (f:FE):FI:=λZ S=>match f Z S with
 |some (.tup ws,S1)=>aB (.its ws,S1)
 |some (.str x,S1)=>if (x.cps.all λc=>decide (c<128))=true then aB (.its (x.cps.toList.map λc=>.str #[[c].toArray]),S1)else ba
 |some (.ref r,S1)=>match fw S1 r with
  |some _=>aB (.live r,S1)
  |none=>match lj S1 r with
   |some U=>aB (.its (U.map λp=>p.1.w),S1.set r (.frd U))
   |none=>ba
 |_=>ba
section
variable{s:Nh}{A:Nb Nl}
def zR (c:H a=aB (.frz o (iB X.w a xs)))(d:KRel X.K A H U xs):MIt X.w X.K (.its (U.map λp=>p.1.w)) (MB X.w a o xs) A H:=by
 show#[λh j S i w e g hi=>?_,λh j S i e g hi=>?_]
 ·simp only[MI.at,NV]at hi;obtain⟨v,b,h2⟩:=((d.mono e).keysL).get hi;rw[Nw,Nk]at b;obtain⟨q,f,k⟩:=b;show#[#[e.fz _ _ _ c,(NA.mp f).1],λx m #[l,q',z2,z3]=>?_]
  subst l z3;rw[f]at z2;cases z2
  show#[.refl,g,by rw[k];show h2]
 ·simp only[MI.at,NV]at hi;show#[e.fz _ _ _ c,?_];have:=OX.mp hi;rw[Ni,↥d]at this;show this
def Dl :MIt X.w X.K (.its (x.cps.toList.map λc=>.str #[[c].toArray])) (Mx x) A H:=by
 show#[λb d S i w e a hi=>?_,λb d S i e a hi=>?_]
 ·simp only[MI.at,NV]at hi;rw[Nw,Nk]at hi;obtain⟨c,hc,rfl⟩:=hi;rw[OR]at hc;show#[(Oi.mp hc).1,λv g #[f,c',z2,z3]=>?_]
  subst f z3;rw[hc]at z2;cases z2
  show#[.refl,a,.str]
 ·simp only[MI.at,NV]at hi;rw[Nw,Option.map_eq_none_iff,OR]at hi;show Array.getElem?_eq_none_iff.mp hi
def Dm {f:FE}(h:GE X l f):GI X tg l (cU f):=by
 intro J s Y H R I ⟨A,Z,S,mi,S',D,O,e,G⟩
 by_cases W:∃x S1,f Z S=aB (.str x,S1)
 ·obtain⟨x,S1,y⟩:=W;simp only[cU,y]at e;split at e
  next ha=>
   cases e;show bd (h J s Y H (w1 X A H _ (.str x)) I #[A,Z,S,_,_,D,O,y,λ_ _ z=>z]) λv c #[x',H1,I1,r1,A1,e1,o1,z1]=>?_
   cases z1;obtain⟨tk,rfl⟩:=r1;show Uk ha ?_;show#[⇑c.heap.objs,[⇑c.heap.objs],_,_,H1,rfl,I1.kept (t':=c.toks) λb o e=>Ng _ e,zd x tk _,#[_,Nx _ rfl,rfl,rfl],λb E=>?_,G _ _ A1 e1 o1 Dl]
   have e:b=⇑c.heap.objs:=by simpa using E
   subst e;show I1.fpOk (Ny _) (I1.hok.fresh (Ny _))
  ·cases e
 by_cases hd:∃r S1 U,f Z S=aB (.ref r,S1)/\fw S1 r=ba/\lj S1 r=aB U
 ·obtain⟨r,S1,U,y,h2,g⟩:=hd;simp only[cU,y,h2,g]at e;cases e;show bd (h J s Y H (w1 X A H S1 (.ref r)) I #[A,Z,S,_,_,D,O,y,λ_ _ z=>z]) λv c #[x,H1,I1,r1,A1,e1,o1,z1]=>?_
  cases z1 with
  |@ref _ a C=>
   obtain rfl:v=NR a:=r1;have fz:∃o xs m,Inv X J Y m c/\Ext X.K A1 H1 A1 m/\wv X A1 m (S1.set r (.frd U))/\m a=aB (.frz o (iB X.w a xs))/\KRel X.K A1 m U xs:=by
    unfold lj at g;split at g
    next k hk=>cases g;obtain⟨xs,i,q⟩:=o1.obj r _ a hk C;have d:=cH I1 (.inl i);obtain⟨_,_,_,o,es,ep,B,M,N,q4⟩:=id d;obtain⟨P,ex⟩:=o1.writeO hk rfl C (u:=.frz o (iB X.w a xs)) (n:=.frd U) #[o,xs,aA,q.mono (bc (.ext i))];show#[o,xs,_,uq (h':=c.heap) (t':=c.toks) (ob:=.frz o (iB X.w a xs)) I1 (by rw[i];show R6) (UJ _ _) #[o,B] #[B,d.ok],ex,P,aA,q.mono ex]
    ·rename_i k hk;cases g;obtain⟨o,xs,i,q⟩:=o1.obj r _ a hk C;have:S1.set r (.frd U)=S1:=by
      apply List.ext_getElem?;intro j;rw[PJ];split
      ·rename_i e;subst e
       split
       ·show hk.symm
       next h=>show absurd (NA.mp hk).1 h
      ·rfl
     rw[this];show#[o,xs,H1,I1,.refl,o1,i,q]
    ·cases g
   obtain⟨o,xs,m,t,ex,Q,i,q⟩:=fz;have d:=cH t (.inr #[o,i]);have V:c.heap.get? a=aB o:=(show ObjOk X.prog X.w m c.heap a (.frz o (iB X.w a xs))from t.hok a _ i).1
   obtain⟨_,L,_,o',es,ep,B,M,N,q4⟩:=id d;rw[V]at B;cases B;show pZ L #[o,V,M,N] ?_;show#[⇑c.heap.objs,[⇑c.heap.objs],_,_,m,rfl,t.kept (t':=c.toks) λb o e=>Ng _ e,w8 a _ M N q4,#[_,Nx _ rfl,rfl,rfl],λb E=>?_,G _ _ A1 (e1.trans ex) Q (zR i q)]
   have e:b=⇑c.heap.objs:=by simpa using E
   subst e;show t.fpOk (Ny _) (t.hok.fresh (Ny _))
 ·have:cU f Z S=Db f Z S:=by
   unfold cU Db;cases T:f Z S with
   |none=>rfl
   |some p=>
    obtain⟨w,S1⟩:=p;cases w with
    |ref r=>
     cases h2:fw S1 r with
     |some _=>revert h2
     |none=>
      cases g:lj S1 r with
      |none=>revert h2 g
      |some U=>show absurd #[r,S1,U,T,h2,g] hd
    |str x=>show absurd #[x,S1,T] W
    |_=>rfl
  rw[this]at e;show GC h J s Y H R I #[A,Z,S,mi,S',D,O,e,G]
end
abbrev Do (xs:Nb W)(S:aa):Nf (W×aa):=match xs with
 |[.ref i]=>match Jo S i with
  |some ss=>aB (.int ↥ss,S)
  |none=>ba
 |_=>ba
def sK:LCall X (.builtin "len") Do:=by
 intro J s Y H A S xs vs us w S' I f l m e;unfold Do at e;split at e
 next i=>
  obtain⟨a,g,rfl⟩:=kz (xs:=[]) l m;split at e
  next ss k=>
   cases e;obtain⟨o,j,b,h,n,t,hd,c⟩:=Gj I f k g;have d:⇑h=↥ss:=by
    have:=c.pm.length_eq
    rwa [Ni,NP]at this
   have p:=c.few;show call_len_set j b hd c.fit (by rw[d];have h2:scanBound<=2^40:=#v[];omega) #[.int ↥ss,H,A,I.tok _,#[_,by rw[d]],.refl,f,.int]
  ·cases e
 ·cases e
variable{Mqa:Si}
section
variable{E:Nd->Nh->Prop}{s:Nh}
def qB {g:Nl}{cl:Nb (Nu×Nl)}
  (h:Q (newEnv scope ⇑s.heap.objs g (cellsFrom (⇑s.heap.objs+1) scope.names cl) a ba .none (aB outer) builtinsNs) {s with heap:=pushCells (s.heap.push {cls:=.type "dict",data:=.dict #[]}) scope.names}) :
  wpAny Mqa A (newFunctionEnv scope g cl [] a ba .none (aB outer)) Q E s:=by
 revert newFunctionEnv Option.isSome_some Qv;show Nc (WG ?_);show Nc (wpAny_layCells _ (λname kind b=>by cases c:kind==QA<;>simp[c]) _ _ _ _ ?_)
 rw[show({s with heap:=s.heap.push {cls:=.type "dict",data:=.dict #[]}}:Nh).heap.objs.size=⇑s.heap.objs+1 from O9 ..]
 rw[Tj];show Nc (Nm (Nm h))
def zS {h2:N6}:(pushCells (h2.push {cls:=.type "dict",data:=.dict #[]}) names).Ns ⇑h2.objs (λ_=>ba):=
 Heap.Ns.keeps (h:=h2.push {cls:=.type "dict",data:=.dict #[]}) #[_,#[],0,Nx _ rfl,rfl,by simp[StrKeys],λ_=>rfl] (SZ names _)
def eh:∀ names m a {x:Nu}{c:Nl},(cellsFrom m names a).lookup x=aB c->
  (a.lookup x=aB c/\(x,QA)∉names)\/(m<=c/\(x,QA)∈names/\∀h:N6,⇑h.objs=m->(pushCells h names).IsCell c ba)
 |[],_,_,_,_,b=>.inl #[b,λz=>nomatch z]
 |(name,kind)::r,m,a,x,c,b=>by
  unfold cellsFrom at b;split at b
  next hk=>
   have hc:kind=.cell:=eq_of_beq hk;subst hc;rcases eh r _ _ b with⟨z,i⟩|⟨d,f,g⟩
   ·rw[Om]at z;split at z
    ·rename_i e;cases z;have:=eq_of_beq e;subst this;show .inr #[Ny _,NH,λh e=>?_]
     subst e;show(show(h.push {cls:=.type "cell",data:=.cell ba}).IsCell ⇑h.objs ba from#[_,Nx _ rfl,rfl]).keeps (SZ r _)
    ·rename_i e;show .inl #[z,λy=>?_]
     rcases NE.mp y with y|y
     ·cases y;simp at e
     ·show i y
   ·show .inr #[Nat.le_of_succ_le d,NL _ f,λh e=>?_]
    show g _ (by rw[O9,e])
  next hk=>
   rcases eh r _ _ b with⟨z,i⟩|⟨d,f,g⟩
   ·show .inl #[z,λy=>?_]
    rcases NE.mp y with y|y
    ·cases y;show hk rfl
    ·show i y
   ·show .inr #[d,NL _ f,λh e=>?_]
    unfold pushCells;rw[N1 hk];show g h e
def jw:∀ names (m:Np) (a:Nb (Nu×Nl)),(∀x c,a.lookup x=aB c->c<m)->(∀x y c,a.lookup x=aB c->a.lookup y=aB c->x=y)->
  ∀x y c,(cellsFrom m names a).lookup x=aB c->(cellsFrom m names a).lookup y=aB c->x=y
 |[],_,_,_,h=>h
 |(name,kind)::r,m,a,hl,h=>by
  unfold cellsFrom;split
  ·show jw r (m+1) _ (λx c e=>?_) λx y c b d=>?_
   ·rw[Om]at e;split at e
    ·cases e;show P3 _
    ·show PK (hl x c e)
   ·rw[Om]at b d;split at b<;>split at d
    next _ f _ g=>rw[eq_of_beq f,eq_of_beq g]
    ·cases b;show absurd (hl y _ d) (OL _)
    ·cases d;show absurd (hl x _ b) (OL _)
    ·show h x y c b d
  ·show jw r m a hl h
def jx:∀ names m a {n:Nu},(n,QA)∈names\/(∃c,a.lookup n=aB c)->∃c,(cellsFrom m names a).lookup n=aB c
 |[],_,_,_,h=>h.elim (λz=>nomatch z) id
 |(name,kind)::r,m,a,n,h=>by
  unfold cellsFrom;split
  ·show jx r (m+1) _ ?_;rw[Om];split
   ·show .inr #[_,rfl]
   next e=>
    rcases h with z|z
    ·rcases NE.mp z with y|y
     ·cases y;simp at e
     ·show .inl y
    ·show .inr z
  next hk=>
   show jx r m a ?_;rcases h with z|z
   ·rcases NE.mp z with y|y
    ·cases y;show absurd rfl hk
    ·show .inl y
   ·show .inr z
end
abbrev bA (mi:MI)(g:FG)(c:FT)(f:FE):Np->Np->Fm->aa->Nf (Nb W×aa)
 |0,i,_,S=>match mi.at S i with
  |some ba=>aB ([],S)
  |_=>ba
 |n+1,i,Z,S=>match mi.at S i with
  |some (aB w)=>match g w Z S with
   |some (a,S1)=>match c a S1 with
    |some (true,S2)=>match f a S2 with
     |some (y,b)=>match bA mi g c f n (i+1) a b with
      |some (e,d)=>aB (y::e,d)
      |none=>ba
     |none=>ba
    |some (false,S2)=>bA mi g c f n (i+1) a S2
    |none=>ba
   |none=>ba
  |_=>ba
abbrev cC (a:Nb (Nf Np))(Z:Fm):Fm:=a.map λo=>match o with
 |some j=>(Z[j]?).join
 |none=>ba
abbrev lD (b:FI)(g:FG)(c:FT)(f:FE)(a:Nb (Nf Np)):FE:=λZ S=>match b Z S with
 |some (mi,S1)=>match mi.len S1 with
  |some n=>match bA mi g c f n 0 (cC a Z) S1 with
   |some (d,S2)=>nR S2 d
   |none=>ba
  |none=>ba
 |none=>ba
abbrev EQ:FT:=λ_ S=>aB (true,S)
abbrev md (X:Cx)(scope:PX)(cl:Nb (Nu×Nl))(C:Nl)(N:Nb Nu)(s0:Nh)(a:Hp)(ex:Nb Nl):Cx:=
 {X with env:=compEnvC scope (cellsFrom (C+1) scope.names cl) C X.env,N:=N,s₀:=s0,H₀:=a,outer:=X.stack,stack:=X.stack,ex:=ex,fn:=λx=>scope.names.any λy=>y.1==x&&y.2==.cell,pn:=[],xe:=λ_ _=>Oo}
structure CompOk (X:Cx)(scope:PX)(cl:Nb (Nu×Nl))(N:Nb Nu)(cap:Nb (Nf Np)):Prop where
 clos:closureFor scope X.env=pure cl
 kind:scope.kind=.function
 names:∀y∈scope.names,y.2=.local->scope.names.lookup y.1=aB .local
 sub:∀x c,cl.lookup x=aB c->X.env.cells.lookup x=aB c
 has:∀m x,((relabel scope X.env).names.lookup x=aB .cell\/(relabel scope X.env).names.lookup x=aB .free)->∃c,(cellsFrom m scope.names cl).lookup x=aB c
 len:↥cap=↥N
 cap:∀(i j:Np) (x:Nu),cap[i]?=aB (aB j)->N[i]?=aB x->X.N[j]?=aB x/\(X.env.kindOf x=aB .cell\/X.env.kindOf x=aB .free)/\((relabel scope X.env).names.lookup x=aB .cell\/(relabel scope X.env).names.lookup x=aB .free)/\(x,QA)∉scope.names
def CompOk.of {cl:Nb (Nu×Nl)}(b:CompOk X scope cl N a)(z:(cellsFrom m scope.names cl).lookup x=aB c):X.env.cells.lookup x=aB c\/m<=c:=
 (eh _ _ _ z).elim (λq=>.inl (b.sub x c q.1)) λq=>.inr q.1
def gB { k:Nd}(I:Np->Nh->Prop)
    (turn:∀n s,I n s->wh prog w A (pyNext it) (λr a=>match r with
      |none=>R (.ok .next) a
      |some v=>wh prog w A (letOwnedTupleGo b it v) (λ_ a=>wh prog w A (assign b env v) (λ_ g=>
          wh prog w A (forIn t true λc r=>if r=true then do let ok <- isTrue c env (eval c env);pure (Pn ok)else pure (Pn r)) (λok e=>
            if ok=true then wh prog w A (eval l env) (λx i=>
              wh prog w A (call (.builtin "list.append") [k,x]) (λ_ j=>∃m,m<n/\I m j) (λ_ _=>Oo) i) (λ_ _=>Oo) e
            else ∃m,m<n/\I m e) (λ_ _=>Oo) g) (λ_ _=>Oo) a) (λ_ _=>Oo) a) (λ_ _=>Oo) s)
    (n:Np) (h:I n s) :
    codeAny (model prog w) A (.compLoop (.ListComp l [#[b,iter,t,0]] scope pos) 0 it k env) R s:=by
  show codeAny_loop rfl I (λn s u=>?_) n h
  show wpAny_noted ?_;rw[compTurn_list];show Nc (Qy (Nc (Ou (turn n s u) (λr a d=>?_) λ_ _ h'=>h'.elim)))
  cases r with
  |none=>show Nm d
  |some v=>
    show Nc (Ou d (λ_ a d=>?_) λ_ _ h'=>h'.elim)
    show Nc (Ou d (λ_ g o=>Nc (Ou o (λok e f=>?_) λ_ _ h'=>h'.elim)) λ_ _ h'=>h'.elim)
    cases ok with
    |false=>show Nm #[rfl,f]
    |true=>
      show Nc (Nc (Ou f (λx i p=>Nc (Ou p (λ_ j q=>Nm (Nm #[rfl,q])) λ_ _ h'=>h'.elim)) λ_ _ h'=>h'.elim))
section
variable{s:Nh}
def Inv.adopt (I:Inv X J Y H s)(k:H D=ba)(g:D∈X.ex\/⇑X.s₀.heap.objs<=D)(i:D≠X.env.locals)(h2:∀x c,X.env.cells.lookup x=aB c->c≠D)(h:∀p∈X.pn++J,p.1≠D)
  (new:ObjOk X.prog X.w (aT H D o) s.heap D o):Inv X J Y (aT H D o) s:=by
 have a:∀b u,H b=aB u->b≠D:=λb u e z=>by rw[z,k]at e;cases e
 have f:Inv X J Y (aT H D o) {s with heap:=s.heap,gens:=s.gens,drawn:=s.drawn,toks:=s.toks}:=by
  show I.step (g':=s.gens) (d':=s.drawn) (t':=s.toks) (h':=s.heap) (ch:=[D]) (λb d=>?_) (λb o _ _ hc e _=>e) (λb o _ _ hc e _=>#[o.slots,e]) (λb o hc e n=>?_)
   (λb o hc e=>#[o,e]) (λb xs e=>?_) (λb o xs e=>?_) (λb ps e=>#[#[],?_]) (λm j=>j) (λb u e=>?_) I.bare
  ·have e:b=D:=by simpa using d
   subst e;show#[g,i,h2,h]
  ·rw[ar (λz=>hc (by simp[z]))];show n
  ·rw[ar (a b _ e)];show e
  ·rw[ar (a b _ e)];show e
  ·rw[ar (a b _ e),e];simp
  ·by_cases d:b=D
   ·subst d;rw[aA]at e;cases e;show new
   ·rw[ar d]at e;show(I.hok b u e).stay (λc v hc q=>q) (λc q=>?_) λc xs q=>?_
    ·rw[ar (a c _ q)];show q
    ·rw[ar (a c _ q)];show q
 show f
def GF {cl:Nb (Nu×Nl)}{g:Nb (Nf Np)}{s0:Nh}(I:Inv X J Y H s)(f:CompOk X scope cl N g)(p:⇑s.heap.objs<=s0.heap.objs.size)(j:s0.heap.objs.size<=C)(i:∀x c,X.env.cells.lookup x=aB c->c<C+1)
  (hk:∀b o,s.heap.get? b=aB o->s0.heap.get? b=aB o) (a:∀b∈ex,(b<C)/\(∀x c,X.env.cells.lookup x=aB c->c≠b)/\(∀o,X.base.get? b≠aB o)/\b∉my X.stack) :
  (md X scope cl C N s0 H ex).Ok where
 mod:=I.ok.mod
 kind:=f.kind
 glob:=I.ok.glob
 blt:=I.ok.blt
 above:=j
 inj:=jw scope.names (C+1) cl (λx c h=>i x c (f.sub x c h)) λx y c n h2=>I.ok.inj x y c (f.sub x c n) (f.sub y c h2)
 has:=λx h=>f.has _ x h
 cab:=λx c h hc=>by
  obtain⟨⟨y,k⟩,r,e⟩:=Vb.mp h;rw[Nj]at e;have l:y=x:=eq_of_beq e.1;have m:k=.cell:=eq_of_beq e.2;subst l m;rcases eh _ _ _ hc with q|q
  ·show absurd r q.2
  ·show NO j (NO (O6 _) q.1)
 hd:=I.ok.hd
 frames:=I.ok.frames
 stk:=.inl rfl
 exf:=λb d=>#[NJ (a b d).1,λx c h=>(f.of h).elim (λq=>(a b d).2.1 x c q) λq z=>absurd (NS (PK (a b d).1) q) (z▸OL _)]
 bs:=λb o e=>#[hk b o (I.bk b o e),(I.bs b o e).2]
 bsz:=NO (NO I.ok.bsz I.sz) p
 noex:=λb o e d=>(a b d).2.2.1 o e
 exfs:=λb d=>(a b d).2.2.2
 funs:=I.stack.of_keeps λb o e _=>#[o,hk b o e,rfl]
 frf:=I.stkFree
structure BlockOk (X:Cx)(scope:PX)(cl:Nb (Nu×Nl))(N:Nb Nu)(tg elt:NF)(ifs:Nb NF)(g:FG)(c:FT)(f:FE):Prop where
 tgt:∀C s0 H0 ex,GG (md X scope cl C N s0 H0 ex) tg g
 tst:∀C s0 H0 ex J s Y H Q,Inv (md X scope cl C N s0 H0 ex) J Y H s->tT (md X scope cl C N s0 H0 ex) c Y H Q->
  wi X (forIn ifs true λc r=>if r=true then do let ok <- isTrue c (compEnvC scope (cellsFrom (C+1) scope.names cl) C X.env) (eval c (compEnvC scope (cellsFrom (C+1) scope.names cl) C X.env));pure (Pn ok)else pure (Pn r)) (TP (md X scope cl C N s0 H0 ex) J Y Q) (λ_ _=>Oo) s
 elt:∀C s0 H0 ex,GE (md X scope cl C N s0 H0 ex) elt f
def oI (e:s.heap.get? D=aB (xi its.toArray n))(i:↥its<sizeLine)
  (h:∀h' g,h'.get? D=aB (xi (its++[u]).toArray g)->(∀b o,b≠D->s.heap.get? b=aB o->h'.get? b=aB o)->Q .none {s with heap:=h'}) :
  wpAny (model prog w) B (call (.builtin "list.append") [.ref D,u]) Q E s:=by
 show SI F.slot_list_append #[_,e,rfl] F.entry_list_append (F.args_list_append_2 _ _) (UD D its.toArray n u (by rw[NC];omega)) #[e,?_]
 have q:=UY e (λa=>a.push u)
 have c:its.toArray.push u=(its++[u]).toArray:=by simp
 rw[c]at q;show h _ _ q (λb o d f=>(N8 s.heap (Pi λa=>a.push u) (Ne.symm d)).trans f)
def m5 {cl:Nb (Nu×Nl)}{g:FG}{f:FE}{A:Nb Nl}
  {B:Nb Nl}{RR:Nd->Nl->SG->Nh->Prop}
  (I:Inv X J Y H s) (hc:X.calm=true) (er:EnvRel X.K A H Z Y) (so:wv X A H S) (ck:CompOk X scope cl N cap) (bk:BlockOk X scope cl N tg elt ifs g c f)
  (T:Turn X.prog X.w X.K tg tx B it tn) (t0:tn 0 s.heap) (O:∀b∈B,gP X J H b) (mit:MIt X.w X.K mi tx A H) (e:bA mi g c f n 0 (cC cap Z) S=aB (ws,S')) (hz:↥ws<=sizeLine)
  (fin:∀D C R h G vs m,R.heap.Ns C m->h D=ba->D≠C->C≠X.env.locals->C∉X.fs->h C=ba->⇑X.s₀.heap.objs<=C->(∀x c,X.env.cells.lookup x=aB c->c≠C)->(∀p∈X.pn++J,p.1≠C)->
   Inv X J Y (aT h D (.lst vs)) R->Ext X.K A H G h->wv X G h S'->RelL X.K G h ws vs->RR (.ref D) C (.ok .next) R) :
  wi X (newList []) (λacc s₃=>wi X (newFunctionEnv scope X.env.globals cl [] X.env.qual ba .none (aB X.env)) (λcenv s₄=>
   codeAny (model X.prog X.w) X.A (.compStart (.ListComp elt [#[tg,iter,ifs,0]] scope pos) 0 (.ref it) acc {cenv with scope:=relabel scope X.env}) (RR acc cenv.locals) s₄) E s₃) E s:=by
 show Oy (qB ?_);dsimp only;generalize hH2:s.heap.push {cls:=.type "list",dict:=ba,data:=.seq ([]:Nb Nd).toArray}=h2;obtain⟨M,P⟩:∃M,M=pushCells (h2.push {cls:=.type "dict",data:=.dict #[]}) scope.names:=#[_,rfl];rw[<- P];have hns₁:=zS (names:=scope.names) (h2:=h2);rw[<- P]at hns₁;have hCs:⇑h2.objs=⇑s.heap.objs+1:=by rw[<- hH2,O9]
 have k2:∀b o,s.heap.get? b=aB o->h2.get? b=aB o:=λb o z=>hH2▸Ng _ z
 have lt2:∀b o,h2.get? b=aB o->b<⇑h2.objs:=λb o z=>Nz z
 have k1:∀b o,h2.get? b=aB o->M.get? b=aB o:=λb o z=>P▸SZ _ _ b o (Ng _ z)
 have hD2:h2.get? ⇑s.heap.objs=aB {cls:=.type "list",data:=.seq ([]:Nb Nd).toArray}:=hH2▸Nx _ rfl;have hDC:⇑s.heap.objs≠⇑h2.objs:=by rw[hCs];omega
 have fresh:∀a,⇑s.heap.objs<=a->H a=ba:=λa ha=>I.hok.fresh ha
 have t:∀x c,X.env.cells.lookup x=aB c->c<⇑s.heap.objs:=λx c z=>let ⟨_,q⟩:=I.cell x c z;q.lt
 have U:∀b∈B,b<⇑s.heap.objs:=λb d=>let ⟨_,q,_⟩:=T.obj 0 s.heap t0 b d;Nz q
 have stkLt:∀b∈my X.stack,b<⇑s.heap.objs:=λb d=>let ⟨_,o,q,_⟩:=I.stack.mem d;Nz q
 have baseLt:∀b o,X.base.get? b=aB o->b<⇑s.heap.objs:=λb o z=>Nz (I.bk b o z)
 have fpStk:∀b∈B,b∉my X.stack:=λb d z=>by
  rcases NE.mp (I.stkSub b z)with q|q
  ·show(O b d).2.1 q
  ·show(O b d).2.2.1 q
 have fpBase:∀b∈B,∀o,X.base.get? b≠aB o:=λb d o z=>by
  rcases(O b d).2.2.2.1 with q|q
  ·show I.ok.noex b o z q
  ·show absurd (NS (Nz (I.ok.bs b o z).1) q) (OL _)
 have ltD:∀{b:Nl},b<⇑s.heap.objs->b<⇑h2.objs:=λd=>by rw[hCs];show PK d
 have ltC:∀{b:Nl},b<⇑s.heap.objs->b≠⇑h2.objs:=λd=>NJ (ltD d)
 have ownNe:∀{b c:Nl},b<=⇑s.heap.objs->⇑h2.objs+1<=c->c≠b:=λd hc=>On (Q9 d (NS (by rw[hCs];omega:⇑s.heap.objs<⇑h2.objs+1) hc))
 let s3:Nh:={s with heap:=h2}
 have ok':(md X scope cl ⇑h2.objs N s3 H (B++[⇑s.heap.objs])).Ok:=by
  show GF I ck (show ⇑s.heap.objs<=⇑h2.objs by rw[hCs];omega) (Ny _) (λx c z=>PK (ltD (t x c z))) k2 λb d=>?_
  rcases Op.mp d with d|d
  ·show#[ltD (U b d),(O b d).2.2.2.2.1,fpBase b d,fpStk b d]
  ·have eb:b=⇑s.heap.objs:=by simpa using d
   subst eb;show#[(by rw[hCs];show P3 _),λx c z=>NJ (t x c z),λo z=>OL _ (baseLt _ o z),λz=>OL _ (stkLt _ z)]
 obtain⟨m0,hn0,hl0⟩:=I.loc;have I0:Inv (md X scope cl ⇑h2.objs N s3 H (B++[⇑s.heap.objs])) [] (cap.map λo=>match o with|some j=>(Y[j]?).join|none=>ba) H {s3 with heap:=M}:=by
  show#[ok',rfl,I.bare,Un.kept k1,#[_,hns₁,λi x v e1 e2 e3=>?_],λx cc z=>?_,fresh _ (show ⇑s.heap.objs<=⇑h2.objs by rw[hCs];show O6 _),λx cc z=>(ck.of z).elim (I.freeC x cc) λq=>fresh _ (show ⇑s.heap.objs<=cc by omega),λp Q=>absurd Q (by simp[md]),(I.hok.kept k2).kept k1,by rw[Ni];show ck.len]
  ·rw[Nw]at e2;cases q:cap[i]? with
   |none=>rw[q]at e2;cases e2
   |some oj=>
    rw[q]at e2;cases oj with
    |none=>cases e2
    |some j=>
     obtain⟨z1,z2,z3,z4⟩:=ck.cap i j x q e1;have e2':(Y[j]?).join=aB v:=by simpa using e2
     have e2'':Y[j]?=aB (aB v):=by
      cases r:Y[j]? with
      |none=>rw[r]at e2';cases e2'
      |some y=>rw[r]at e2';show congrArg aB e2'
     obtain⟨u,ru,lk⟩:=hl0 j x v z1 e2'' (by
      rcases z2 with z|z
      ·show .inr (.inl z)
      ·show .inr (.inr z))
     show#[u,ru,?_];rcases lk with⟨zk,_⟩|⟨_,cc,zc,zi⟩
     ·rcases z2 with z|z<;>(rw[zk]at z;cases z)
     ·obtain⟨c2,hc2⟩:=ck.has (⇑h2.objs+1) x z3;have:=(eh _ _ _ hc2).elim (λq=>ck.sub x c2 q.1) λq=>absurd q.2.1 z4
      rw[zc]at this;cases this
      show .inr #[z3,cc,hc2,?_];obtain⟨o,ho,hd⟩:=zi;show#[o,k1 _ _ (k2 _ _ ho),hd]
  ·rcases eh _ _ _ z with q|q
   ·obtain⟨v,o,ho,hd⟩:=I.cell x cc (ck.sub x cc q.1);show#[v,o,k1 _ _ (k2 _ _ ho),hd]
   ·show#[ba,P▸q.2.2 _ (O9 ..)]
 have er0:EnvRel X.K A H (cC cap Z) (cap.map λo=>match o with|some j=>(Y[j]?).join|none=>ba):=by
  show#[by simp[cC],λi w q=>?_]
  unfold cC at q;rw[Nw]at q ⊢;cases r:cap[i]? with
  |none=>rw[r]at q;cases q
  |some oj=>
   rw[r]at q;cases oj with
   |none=>cases q
   |some j=>
    have q':(Z[j]?).join=aB w:=by simpa using q
    have q'':Z[j]?=aB (aB w):=by
     cases z:Z[j]? with
     |none=>rw[z]at q';cases q'
     |some y=>rw[z]at q';show congrArg aB q'
    obtain⟨v,z1,z2⟩:=er.2 j w q'';show#[v,by simp[z1],z2]
 have t1:tn 0 M:=T.keep 0 s.heap M t0 λb d o z=>k1 b o (k2 b o z)
 have fpOk':∀{h:Hp}{pp:Nb (Nl×OQ)},(∀b∈B,h b=ba)->(∀p∈pp,p.1=⇑s.heap.objs)->∀b∈B,gP (md X scope cl ⇑h2.objs N s3 H (B++[⇑s.heap.objs])) pp h b:=λhn Q b d=>
  #[hn b d,ltC (U b d),fpStk b d,.inl (Ob _ d),λx cc z=>(ck.of z).elim (λq=>(O b d).2.2.2.2.1 x cc q) (ownNe (Px (U b d))),λp hpp=>by
   rw[Q p (by simpa [md]using hpp)]
   show(NJ (U b d)).symm]
 have L:⇑s.heap.objs∈B++[⇑s.heap.objs]:=NG _ (by simp)
 have cellD:∀x c,(cellsFrom (⇑h2.objs+1) scope.names cl).lookup x=aB c->c≠⇑s.heap.objs:=λx cc z=>(ck.of z).elim (λq=>NJ (t x cc q)) (ownNe (Ny _))
 have fpD:∀b∈B,b≠⇑s.heap.objs:=λb d=>NJ (U b d)
 have theEnd:∀R Y' h G vs its nn,Inv (md X scope cl ⇑h2.objs N s3 H (B++[⇑s.heap.objs])) [] Y' h R->R.heap.get? ⇑s.heap.objs=aB {cls:=.type "list",data:=.seq its nn}->∀(hits:∃l:Nb Nd,its=l.toArray/\Vals vs l),h ⇑s.heap.objs=ba->Ext X.K A H G h->wv X G h S'->RelL X.K G h ws vs->
   RR (.ref ⇑s.heap.objs) ⇑h2.objs (.ok .next) R:=by
  intro R Y' h G vs its nn I' hD hits hDn ex so' rl;obtain⟨l,rfl,rv⟩:=hits;obtain⟨m,hn,_⟩:=id I'.loc;have un:Un (my X.stack) (B++[⇑s.heap.objs]) H h s.heap R.heap:=(Un.kept k2).trans I'.base;have hch:∀b∈B++[⇑s.heap.objs],(b∈X.ex\/⇑X.s₀.heap.objs<=b)/\b≠X.env.locals/\(∀x c,X.env.cells.lookup x=aB c->c≠b)/\∀p∈X.pn++J,p.1≠b:=λb d=>by
   rcases Op.mp d with d|d
   ·show#[(O b d).2.2.2.1,(O b d).2.1,(O b d).2.2.2.2.1,(O b d).2.2.2.2.2]
   ·have eb:b=⇑s.heap.objs:=by simpa using d
    subst eb;show#[.inr I.sz,(NJ I.lt).symm,λx cc z=>NJ (t x cc z),λp Q=>NJ (Nz (I.pin p Q).1)]
  have I2:Inv X J Y h R:=I.call' (show R.os=s.os from I'.os) un I'.hok I'.bare hch
  have I3:Inv X J Y (aT h ⇑s.heap.objs (.lst vs)) R:=Inv.adopt I2 hDn (hch _ L).1 (hch _ L).2.1 (hch _ L).2.2.1 (hch _ L).2.2.2 #[by rw[<- ↥rl];show hz,l,nn,rv,hD]
  have V:⇑s.heap.objs<=⇑h2.objs:=by rw[hCs];show O6 _
  show fin _ _ R h G vs m hn hDn hDC (On (NS I.lt V)) (I.nofs V) I'.free (NO I.sz V) (λx cc z=>NJ (NS (t x cc z) V))
   (λp Q=>NJ (NS (Nz (I.pin p Q).1) V)) I3 ex so' rl
 have loop:∀s4:Nh,s4={s3 with heap:=M}->
   codeAny (model X.prog X.w) X.A (.compLoop (.ListComp elt [#[tg,iter,ifs,0]] scope pos) 0 (.ref it) (.ref ⇑s.heap.objs) (compEnvC scope (cellsFrom (⇑h2.objs+1) scope.names cl) ⇑h2.objs X.env)) (RR (.ref ⇑s.heap.objs) ⇑h2.objs) s4:=by
  rintro s4 rfl;show gB (λk s5=>∃i Y5 H5 A5 Z5 S5 done its nn vs ys,Inv (md X scope cl ⇑h2.objs N s3 H (B++[⇑s.heap.objs])) [] Y5 H5 s5/\tn i s5.heap/\(∀b∈B,H5 b=ba)/\s5.heap.get? ⇑s.heap.objs=aB (xi (its:Nb Nd).toArray nn)/\H5 ⇑s.heap.objs=ba/\Vals vs its/\
   Ext X.K A H A5 H5/\EnvRel X.K A5 H5 Z5 Y5/\wv X A5 H5 S5/\RelL X.K A5 H5 done vs/\ws=done++ys/\bA mi g c f k i Z5 S5=aB (ys,S')) ?_ n
   #[0,_,H,A,_,S,[],[],0,[],ws,I0,t1,λb d=>(O b d).1,k1 _ _ hD2,fresh _ (Ny _),.nil,.refl,er0,so,.nil,rfl,e]
  rintro k s5 ⟨i,Y5,H5,A5,Z5,S5,done,its,nn,vs,ys,I5,t5,f5,d5,n5,v5,e5,er5,so5,rl5,hw5,w5⟩;have pinD:Inv (md X scope cl ⇑h2.objs N s3 H (B++[⇑s.heap.objs])) [(⇑s.heap.objs,(xi its.toArray nn))] Y5 H5 s5:=I5.pins_of λp Q=>by
   have hp':p=(⇑s.heap.objs,(xi its.toArray nn)):=by simpa using Q
   subst hp';show#[d5,n5,hDC,λz=>OL _ (stkLt _ z),λv z=>by cases z]
  have oneD:∀p∈[(⇑s.heap.objs,((xi its.toArray nn):OQ))],p.1=⇑s.heap.objs:=λp Q=>by
   have hp':p=(⇑s.heap.objs,(xi its.toArray nn)):=by simpa using Q
   rw[hp']
  cases k with
  |zero=>
   dsimp only[bA]at w5;split at w5
   next hst=>
    cases w5;rw[ON]at hw5;subst hw5;show bd (T.done (md X scope cl ⇑h2.objs N s3 H (B++[⇑s.heap.objs])) rfl rfl rfl hc i _ s5 Y5 H5 _ pinD (fpOk' f5 oneD) t5 (mit.stop A5 H5 _ i e5 so5 hst)) λr s6 #[hr,I6]=>?_
    subst hr;have p6:=I6.pin _ (NG _ (NX.mpr rfl));show theEnd s6 Y5 H5 A5 vs _ nn (I6.pins_of λp Q=>absurd Q (by simp)) p6.1 #[its,rfl,v5] n5 e5 so5 rl5
   ·cases w5
  |succ k=>
   dsimp only[bA]at w5;split at w5
   next w hw=>
    obtain⟨go,yl⟩:=mit.go A5 H5 S5 i w e5 so5 hw;show bd (T.item (md X scope cl ⇑h2.objs N s3 H (B++[⇑s.heap.objs])) rfl rfl rfl hc i _ s5 Y5 H5 _ pinD (fpOk' f5 oneD) t5 go) λr s6 #[u,hr,h6]=>?_
    subst hr;show bd h6 λ_ s7 #[x,H7,I7,r7,y7,t7,f7]=>?_
    obtain⟨x1,x2,x3⟩:=yl x H7 y7;have I7':=I7.pinned (fpOk' f7 oneD) (T.obj _ _ t7);split at w5
    ·rename_i Z8 S8 h8;show bd (bk.tgt _ _ _ _ _ s7 Y5 H7 x u (λY' h=>∃G,Ext X.K A5 H5 G h/\wv X G h S8/\EnvRel X.K G h Z8 Y') I7' r7 #[A5,Z5,S5,w,Z8,S8,er5.mono x1,x2,x3,h8,λY' h G q1 q2 q3=>#[G,x1.trans q1,q2,q3]]) λ_ s8 #[Y8,H8,I8,A8,e58,so8,er8]=>?_
     have e8:Ext X.K A H A8 H8:=e5.trans e58;have pD:∀{Y':L2.St}{h:Hp}{R:Nh},Inv (md X scope cl ⇑h2.objs N s3 H (B++[⇑s.heap.objs])) ([(⇑s.heap.objs,(xi its.toArray nn))]++kO B s7.heap) Y' h R->R.heap.get? ⇑s.heap.objs=aB (xi its.toArray nn)/\h ⇑s.heap.objs=ba:=λI'=>
      let q:=I'.pin _ (NG _ (Ob _ (NX.mpr rfl)))
      #[q.1,q.2.1]
     have pF:∀{Y':L2.St}{h:Hp}{R:Nh},Inv (md X scope cl ⇑h2.objs N s3 H (B++[⇑s.heap.objs])) ([(⇑s.heap.objs,(xi its.toArray nn))]++kO B s7.heap) Y' h R->(∀b∈B,h b=ba)/\∀b∈B,∀o,s7.heap.get? b=aB o->R.heap.get? b=aB o:=λI'=>
      #[λb d=>by
       obtain⟨o,eo,_⟩:=T.obj _ _ t7 b d;show(I'.pin (b,o) (NG _ (NG _ (eM d eo)))).2.1,
       λb d o eo=>(I'.pin (b,o) (NG _ (NG _ (eM d eo)))).1]
     split at w5
     ·rename_i S9 h9;show bd (bk.tst _ _ _ _ _ s8 Y8 H8 (λb h=>b=true/\∃G,Ext X.K A8 H8 G h/\wv X G h S9) I8 #[A8,Z8,S8,true,S9,er8,so8,h9,λb h #[z0,G,z1,z2]=>#[z0,G,z1,z2]]) λb s9 #[H9,I9,z0,A9,e9,so9]=>?_
      subst z0;rw[NK rfl];split at w5
      ·rename_i y S10 h10;split at w5
       ·rename_i ys' S4 h11;cases w5;show bd (bk.elt _ _ _ _ _ s9 Y8 H9 (w1 X A9 H9 S10 y) I9 #[A9,Z8,S9,y,S10,er8.mono e9,so9,h10,λ_ _ z=>z]) λu10 s10 #[v10,H10,I10,r10,A10,e10,so10,rl10]=>?_
        obtain⟨d10,n10⟩:=pD I10;obtain⟨f10,k10⟩:=pF I10;have hlen:↥its<sizeLine:=by
         have l1:=↥v5;have l2:=↥rl5;rw[hw5,Nq,Og]at hz;omega
        show oI d10 hlen λh' n' hd' hk'=>?_
        have Ib:Inv (md X scope cl ⇑h2.objs N s3 H (B++[⇑s.heap.objs])) [] Y8 H10 {s10 with heap:=h'}:=by
         have Ia:Inv (md X scope cl ⇑h2.objs N s3 H (B++[⇑s.heap.objs])) [] Y8 H10 s10:=I10.pins_of λp Q=>absurd Q (by simp)
         show Ia.turned (t':=s10.toks) (it:=⇑s.heap.objs) hk' n10 hDC (.inl L) cellD (λp Q=>absurd Q (by simp[md]))
        show#[k,P3 k,i+1,Y8,H10,A10,Z8,S10,done++[y],its++[u10],n',vs++[v10],ys',Ib,?_,f10,hd',n10,v5.append #v[r10],(e8.trans e9).trans e10,(er8.mono e9).mono e10,so10,?_,?_,h11]
        ·show T.keep (i+1) s7.heap h' t7 λb d o eo=>hk' b o (fpD b d) (k10 b d o eo)
        ·show(rl5.mono ((e58.trans e9).trans e10)).append #v[rl10]
        ·rw[hw5,O5];rfl
       ·cases w5
      ·cases w5
     ·rename_i S9 h9;show bd (bk.tst _ _ _ _ _ s8 Y8 H8 (λb h=>b=false/\∃G,Ext X.K A8 H8 G h/\wv X G h S9) I8 #[A8,Z8,S8,false,S9,er8,so8,h9,λb h #[z0,G,z1,z2]=>#[z0,G,z1,z2]]) λb s9 #[H9,I9,z0,A9,e9,so9]=>?_
      subst z0;rw[N1 Oe];obtain⟨d9,n9⟩:=pD I9;obtain⟨f9,k9⟩:=pF I9;show#[k,P3 k,i+1,Y8,H9,A9,Z8,S9,done,its,nn,vs,ys,I9.pins_of λp Q=>absurd Q (by simp),T.keep (i+1) s7.heap _ t7 k9,f9,d9,n9,v5,e8.trans e9,er8.mono e9,so9,rl5.mono (e58.trans e9),hw5,w5]
     ·cases w5
    ·cases w5
   ·cases w5
 show codeAny_compStart_list (loop _ rfl) (T.self X.A 0 _ _ _ t1 (loop _ rfl))
def qC {g:FG}{f:FE}(e:lD d g c f a Z S=aB (w,S')) :
  ∃mi S1 n b S2,d Z S=aB (mi,S1)/\mi.len S1=aB n/\bA mi g c f n 0 (cC a Z) S1=aB (b,S2)/\↥b<=sizeLine/\w=.ref ↥S2/\S'=S2++[.lst b]:=by
 unfold lD at e;split at e
 next mi S1 h=>
  split at e
  next n h2=>
   split at e
   next b S2 i=>obtain⟨j,k,l⟩:=kv e;show#[mi,S1,n,b,S2,h,h2,i,j,k,l]
   ·cases e
  ·cases e
 ·cases e
def Dp {g:FG}{f:FE}(hc:X.calm=true)(hi:GI X tg iter U)(z:X.Ok->∃cl,CompOk X scope cl N h/\BlockOk X scope cl N tg i j g c f)
  (hs:∀x,foldedSetIterable iter X.env x=pure x):GE X (.ListComp i [#[tg,iter,j,0]] scope pos) (lD U g c f h):=by
 intro J s Y H Q I ⟨A,Z,S,w,S',R,so,e,hq⟩;obtain⟨mi,S1,n,ys,S2,h1,h2,h3,h4,rfl,rfl⟩:=qC e;obtain⟨cl,k,bk⟩:=z I.ok;show Sv  rfl hs k.clos k.kind k.names (bd (hi _ s Y H (λO d=>∃a,Ext X.K A H a d/\wv X a d S1/\MIt X.w X.K mi O a d) I #[A,Z,S,mi,S1,R,so,h1,λO d a z1 z2 z3=>#[a,z1,z2,z3]]) λv s1 q1=>bd q1 λitv s2 q2=>?_)
 obtain⟨it,fp,tn,O,H2,rfl,V,T,t0,B,A2,P,L,G⟩:=q2;show m5  V hc (R.mono P) L k bk T t0 B G h3 h4 ?_;intro D C s' d a vs m hn y u l hCf q t p r W ex M rl;show#[m,hn,λh' E=>?_]
 have I4:Inv X _ Y _ {s' with heap:=h'}:=W.turned   (λb o hb eo=>E.extBut b o hb eo) (by rw[ar (Ne.symm u)];show q) l (.inr t) p r
 show#[.ref D,_,I4,rfl,hq _ _ (EndV.after (P.trans ex) (.lst M rl y))]
def sL {g:FG}{f:FE}(hc:X.calm=true)(hi:GI X tg iter fi)(hck:X.Ok->∃cl,CompOk X scope cl N r/\BlockOk X scope cl N tg a d g c f)
  (hs:∀x,foldedSetIterable iter X.env x=pure x) (hsw:swapsWith (.ListComp a [#[tg,iter,d,0]] scope pos) (aB (.Name y py)) j.line X.env=pure true) (hN:X.N.Nodup) (hy:X.N[i]?=aB y) (hl:X.env.scope.names.lookup y=aB .local) :
  GS X (.Assign [.Name y py] (.ListComp a [#[tg,iter,d,0]] scope pos) j) (jv (lD fi g c f r) (EN i)):=by
 intro J s Y H Dd I ⟨A,Z,S,o,S',U,so,e,hd⟩;unfold jv at e;split at e
 next w S0 h0=>
  simp only[EN]at e;cases e;obtain⟨mi,S1,n,ys,S2,h1,h2,h3,h4,rfl,rfl⟩:=qC h0;obtain⟨cl,G,bk⟩:=hck I.ok;rw[exec_Assign_Name_used _ _ _ _ hsw];show Nc (Qy (Nc ?_));change wpAny _ X.A (do let _ <- comprehension (.ListComp a [#[tg,iter,d,0]] scope pos) scope X.env _ (newList []) false (eval iter X.env) (aB (assign (.Name y py) X.env))) _ _ s
  show Nc (Ou (Sv (use:=aB (assign (.Name y py) X.env)) (Q:=λ_ q=>SP X J Dd .next q) rfl hs G.clos G.kind G.names
   (bd (hi J s Y H (λtx h=>∃l,Ext X.K A H l h/\wv X l h S1/\MIt X.w X.K mi tx l h) I #[A,Z,S,mi,S1,U,so,h1,λtx h l z1 z2 z3=>#[l,z1,z2,z3]]) λv s1 q1=>bd q1 λitv s2 q2=>?_)) (λ_ q hq=>Nm (Nm hq)) λ_ _ e=>e)
  obtain⟨it,fp,tn,tx,H2,rfl,I2,T,t0,hfp,A2,e2,so2,mit⟩:=q2;show m5 (RR:=λP C=>compPost (model X.prog X.w) X.A X.xe (aB (assign (.Name y py) X.env)) (λ_ q=>SP X J Dd .next q) P C) I2 hc (U.mono e2) so2 G bk T t0 hfp mit h3 h4 ?_
  intro D C q h l vs m hn hDn B t hCf u hCs W hCp I3 ex so3 rl;obtain⟨L,V,R,hoC,E,hrC⟩:=id hn;have M:Inv X (J++[(C,L)]) Y (aT h D (.lst vs)) q:=I3.pins_of λp k=>by
   rcases Op.mp k with k|k
   ·show I3.pin p (NG _ k)
   ·have hp':p=(C,L):=by simpa using k
    subst hp';show#[hoC,by rw[ar (Ne.symm B)];show u,t,hCf,λv z=>by rw[E]at z;cases z]
  change wpAny _ X.A (assign (.Name y py) X.env (.ref D)) _ _ _;show Ut (iu M hN hy (.inl hl) (v:=.ref D) rfl (λs4 O=>?_) (.inr hl))
  have pC:=O.pin (C,L) (NG _ (NG _ (NX.mpr rfl)));show#[m,#[L,V,R,pC.1,E,hrC],λh' hs'=>?_]
  have I5:Inv X J (Y.set i (aB (.ref D))) (aT h D (.lst vs)) s4:=O.pins_of λp k=>O.pin p (NG _ (Ob _ k))
  have I6:Inv X J (Y.set i (aB (.ref D))) (aT h D (.lst vs)) {s4 with heap:=h'}:=I5.turned (t':=s4.toks) (it:=C) (λb o hb eo=>hs'.extBut b o hb eo) (by rw[ar (Ne.symm B)];show u) t (.inr hCs) W hCp
  obtain⟨Af,f1,f2,f3⟩:=EndV.after (e2.trans ex) (EndV.lst so3 rl hDn);show#[_,_,I6,hd.nx _ _ #[_,Af,rfl,f1,f2,(U.mono f1).set f3 i]]
 ·cases e
end
open PySem.Builtin.SmallTypes (nextOf)
structure Zap (z p q i j:Nl):Prop where
 pz:p≠z
 qz:q≠z
 iz:i≠z
 jz:j≠z
 pq:p≠q
 pi:p≠i
 pj:p≠j
 qi:q≠i
 qj:q≠j
 ij:i≠j
section
variable{prog:NM}{w:NU}
structure Zit (prog:NM)(w:NU)(it:Nl)(T:Np->N6->Prop)(C:N6->Prop)(i:Np)(Uqa:Nf (Nd->Prop)):Prop where
 keep:∀j h h',T j h->(∀o,h.get? it=aB o->h'.get? it=aB o)->T j h'
 next:∀V,Uqa=aB V->∀(B:NY) (s:Nh) (Q:Nd->Nh->Prop) (E:Nd->Nh->Prop),T i s.heap->C s.heap->(∀u h' tk,V u->T (i+1) h'->PR it s.heap h'->Q u (xa s h' tk))->wpAny (model prog w) B (nextOf (.ref it)) Q E s
 stop:Uqa=ba->∀(B:NY) (s:Nh) (Q:Nd->Nh->Prop) (E:Nd->Nh->Prop),B.handled=ba->T i s.heap->C s.heap->(∀h' e,Tk it s.heap h'->(∃o,h'.get? e=aB o/\o.cls=.type "StopIteration")->E (.ref e) {s with heap:=h'})->wpAny (model prog w) B (nextOf (.ref it)) Q E s
variable{B:NY}{E:Nd->Nh->Prop}{s:Nh}{z p q i1 i2:Nl}{T1 T2:Np->N6->Prop}{C1 C2:N6->Prop}{i:Np}{a b:Nd}
abbrev Zc (z q i1 i2:Nl)(C:N6->Prop):Prop:=∀h h',C h->(∀c o,c≠z->c≠q->c≠i1->c≠i2->h.get? c=aB o->h'.get? c=aB o)->C h'
def lE {Q:Nd->Nh->Prop}(D:Zap z p q i1 i2)(L:Zit prog w i1 T1 C1 i G)(Z2':∀y,G=aB y->Zit prog w i2 T2 C2 i U2)(k1:Zc z q i1 i2 C1)(k2:Zc z q i1 i2 C2)(hh:B.handled=ba)
  (R:WI s.heap z p q .none) (hp:SQ s.heap p (.ref i1) (.ref i2)) (hq:SQ s.heap q a b) (t1:T1 i s.heap) (t2:T2 i s.heap) (c1:C1 s.heap) (c2:C2 s.heap)
  (hI:∀y I,G=aB y->U2=aB I->∀u v h' tk,y u->I v->WI h' z p q (rawInt ⇑s.heap.objs)->SQ h' q u v->T1 (i+1) h'->T2 (i+1) h'->SQ h' ⇑s.heap.objs u v->
   (∀c o,c≠z->c≠q->c≠i1->c≠i2->s.heap.get? c=aB o->h'.get? c=aB o)->Q (.ref ⇑s.heap.objs) (xa s h' tk))
  (hE:G=ba\/U2=ba->∀h' tk e,(∀c o,c≠z->c≠q->c≠i1->c≠i2->s.heap.get? c=aB o->h'.get? c=aB o)->(∃o,h'.get? e=aB o/\o.cls=.type "StopIteration")->E (.ref e) (xa s h' tk)) :
  wpAny (model prog w) B (QD.«zip.__next__» #[[.ref z],[]]) (λfin s'=>∃v,fin=.done (.ret v)/\Q v s') E s:=by
 change wpAny _ _ (field (.ref z) 2 >>= _) _ _ s;show Nc (OH R rfl (x:=.bool false) rfl ?_);show Nc (OH R rfl  rfl (Nc (Pl hp rfl ?_)));show Nc (Nc (OH R rfl  rfl (Nm ?_)));show Nc (Q8 (Nc (OH R rfl  rfl ?_)));show Nc (Qx R (by simp) λg1 r s1=>?_)
 replace r:=r;show Nc ?_;delta List.zipIdx_cons List.zipIdx_nil RH Tj;show Nc (Nc (T4 ?_));change wpAny _ _ (nextOf (.ref i1) >>= _) _ _ _;have j:=λc o hc e=>s1.extBut c o hc e
 have U:=L.keep _ _ _ t1 λo e=>j _ _ D.iz e
 have N:=k1 _ _ c1 λc o hc _ _ _ e=>j c o hc e
 have fin:∀g tk it e,(it=i1\/it=i2)->G=ba\/U2=ba->WI g z p q .ellipsis->(∀c o,c≠z->c≠q->c≠i1->c≠i2->s.heap.get? c=aB o->g.get? c=aB o)->(∃o,g.get? e=aB o/\o.cls=.type "StopIteration")->
   wpAny (model prog w) B (setField (.ref z) 0 .none) (λ_ s''=>E (.ref e) s'') E (xa s g tk):=λg tk it e _ hu gz kg #[oe,A,hc]=>by
  have ne:e≠z:=λx=>by subst x;rw[gz]at A;cases A;simp at hc
  show Qx gz (by simp) λg' _ sb=>hE hu g' tk e (λc o d k f M x=>sb.extBut _ _ d (kg c o d k f M x)) #[oe,sb.extBut _ _ ne A,hc]
 cases h:G with
 |none=>
  show Nc (L.stop h _ _ _ _ hh U N λg2 e P A=>?_)
  show fin g2 s.toks i1 e (.inl rfl) (.inl h) (P _ _ D.iz.symm r) (λc o d _ f _ x=>P _ _ f (j c o d x)) A
 |some y=>
  have J:=Z2' y h;show Nc (L.next y h _ _ _ _ U N λu g2 tk2 hu t12 s2=>Nm ?_)
  have q2:=s2.extBut _ _ D.qi (j _ _ D.qz hq);show Nc (Pl q2 rfl (Nc (Ts q2 λg3 q3 s3=>?_)))
  replace q3:=q3;show Nc (QM (Nm ?_));show Nc (Nc (T4 ?_));change wpAny _ _ (nextOf (.ref i2) >>= _) _ _ _;have m:=λc o d k f x=>s3.extBut _ _ k (s2.extBut _ _ f (j c o d x))
  have X:=s3.extBut _ _ D.qz.symm (s2.extBut _ _ D.iz.symm r);have V:=J.keep _ _ _ t2 λo e=>m _ _ D.jz D.qj.symm D.ij.symm e
  have O:=k2 _ _ c2 λc o d k f _ e=>m c o d k f e
  cases l:U2 with
  |none=>
   show Nc (J.stop l _ _ _ _ hh V O λg4 e P A=>?_)
   show fin g4 tk2 i2 e (.inr rfl) (.inr l) (P _ _ D.jz.symm X) (λc o d k f M x=>P _ _ M (m c o d k f x)) A
  |some I=>
   show Nc (J.next I l _ _ _ _ V O λv g4 tk4 hv t24 S=>Nm ?_)
   have q4:=S.extBut _ _ D.qj q3;show Nc (Pl q4 rfl (Nc (Ts q4 λH Z T=>?_)))
   replace Z:SQ H q u v:=Z;show Nc (QM (Nm (Nm ?_)));show Nc (Pl Z rfl (Nc (Tq ?_)));have sz:⇑H.objs=⇑s.heap.objs:=by rw[T.1,S.1,s3.1,s2.1,s1.1]
   have Y:=T.extBut _ _ D.qz.symm (S.extBut _ _ D.jz.symm X);have t15:=L.keep _ _ _ t12 λo e=>T.extBut _ _ D.qi.symm (S.extBut _ _ D.ij (s3.extBut _ _ D.qi.symm e))
   have t25:=J.keep _ _ _ t24 λo e=>T.extBut _ _ D.qj.symm e
   have W:=Nz Y;change wpAny _ _ (QU (.ref z) (.ref ⇑H.objs) >>= _) _ _ _;show Nc ?_;delta QU;have zz6:WI (H.push {cls:=.type "tuple",data:=.seq [u,v].toArray}) z p q .ellipsis:=Ng _ Y;show Nc (Qx zz6 (by simp) λg7 C s7=>?_)
   replace C:=C;show Qx C (by simp) λg8 t s8=>?_
   replace t:=t;have n:∀c o,c≠z->H.get? c=aB o->g8.get? c=aB o:=λc o hc e=>s8.extBut _ _ hc (s7.extBut _ _ hc (Ng _ e))
   have n8:=s8.extBut _ _ (On W) (s7.extBut _ _ (On W) (Nx _ rfl));rw[sz]at t n8;show Nm #[_,rfl,?_];change Q (.ref ⇑H.objs) _;rw[sz];show hI y I h l u v g8 tk4 hu hv t (n _ _ D.qz Z) (L.keep _ _ _ t15 λo e=>n _ _ D.iz e) (J.keep _ _ _ t25 λo e=>n _ _ D.jz e) n8 λc o d k f M e=>n c o d (T.extBut _ _ k (S.extBut _ _ M (m c o d k f e)))
end
open PySem.Builtin.SmallTypes (nextOf)
abbrev dW (prog:NM)(w:NU)(v:Nd)(o:OQ)(C:N6->Prop):Prop:=∀(B:NY) (s:Nh) (Q:Nd->Nh->Prop) (E:Nd->Nh->Prop),C s.heap->Q (.ref ⇑s.heap.objs) {s with heap:=s.heap.push o}->wpAny (model prog w) B (pyIter v) Q E s
abbrev Jz (h:N6)(a b:OQ):N6:=(h.push a).push b
abbrev JA (h:N6)(a b:OQ):N6:=(Jz h a b).push {cls:=.type "tuple",data:=.seq [.ref ⇑h.objs,.ref (h.push a).objs.size].toArray}
abbrev JB (h:N6)(a b:OQ):N6:=(JA h a b).push {cls:=.type "tuple",data:=.seq [.none,.none].toArray}
abbrev ER (h:N6)(a b:OQ):N6:=(JB h a b).push {cls:=.type "zip",data:=.fields [.none,.bool false,.bool false,.ref (Jz h a b).objs.size,.ref (JA h a b).objs.size].toArray}
section
variable{w:NU}{E:Nd->Nh->Prop}{s:Nh}{v1 v2:Nd}{o1 o2:OQ}{C1 C2:N6->Prop}
def sM (i:dW prog w v1 o1 C1)(h2:dW prog w v2 o2 C2)(k2:∀h o,C2 h->C2 (h.push o)) :
  MeetsIn prog w (QD.«zip.__new__» #[[.type "zip",v1,v2],[]]) (λ_ R s=>C1 s.heap/\C2 s.heap/\R (.ok (.ret (.ref (JB s.heap o1 o2).objs.size))) {s with heap:=ER s.heap o1 o2}):=
 .of_wp λA R s h=>by
  obtain⟨j,g,d,tk,os⟩:=s;obtain⟨b,c,h⟩:=h;have a:=sub_zip;have e:=λB Q E q=>i B _ Q E b q
  have f:=λB Q E q=>h2 B #[j.push o1,g,d,tk,os] Q E (k2 _ _ c) q
  wp_walk using e _ _ _,f _ _ _
  show#[_,rfl,h]
def zT (p:dW prog w v1 o1 C1)(h2:dW prog w v2 o2 C2)(k2:∀h o,C2 h->C2 (h.push o))(k:C1 s.heap)(l:C2 s.heap)(q:o1.isFreed=false)(r:o2.isFreed=false)
  (h:∀h',WI h' (⇑s.heap.objs+4) (⇑s.heap.objs+2) (⇑s.heap.objs+3) .none->SQ h' (⇑s.heap.objs+2) (.ref ⇑s.heap.objs) (.ref (⇑s.heap.objs+1))->SQ h' (⇑s.heap.objs+3) .none .none->
   h'.get? ⇑s.heap.objs=aB o1->h'.get? (⇑s.heap.objs+1)=aB o2->⇑h'.objs=⇑s.heap.objs+5->(∀c o,s.heap.get? c=aB o->h'.get? c=aB o)->Q (.ref (⇑s.heap.objs+4)) {s with heap:=h'}) :
  wpAny (model prog w) B (call (.type "zip") [v1,v2]) Q E s:=by
 show VU F.called_zip #v[] (F.typeCall_zip_2 _ _) (F.newCall_zip_2 _ _) (λobj=>F.args_object_init_3 obj _ _) F.entry_zip_new (sM p h2 k2) #[k,l,?_]
 have a:(s.heap.push o1).objs.size=⇑s.heap.objs+1:=O9 ..;have b:(Jz s.heap o1 o2).objs.size=⇑s.heap.objs+2:=by unfold Jz;rw[O9,a]
 have d:(JA s.heap o1 o2).objs.size=⇑s.heap.objs+3:=by unfold JA;rw[O9,b]
 have e:(JB s.heap o1 o2).objs.size=⇑s.heap.objs+4:=by unfold JB;rw[O9,d]
 have m:(ER s.heap o1 o2).objs.size=⇑s.heap.objs+5:=by unfold ER;rw[O9,e]
 have f:(ER s.heap o1 o2).get? (JB s.heap o1 o2).objs.size=aB _:=Nx _ rfl;have j:(ER s.heap o1 o2).get? (JA s.heap o1 o2).objs.size=aB _:=Ng _ (Nx _ rfl);have i:(ER s.heap o1 o2).get? (Jz s.heap o1 o2).objs.size=aB _:=Ng _ (Ng _ (Nx _ rfl));have g:(ER s.heap o1 o2).get? (s.heap.push o1).objs.size=aB o2:=Ng _ (Ng _ (Ng _ (Nx _ r)));have n:(ER s.heap o1 o2).get? ⇑s.heap.objs=aB o1:=Ng _ (Ng _ (Ng _ (Ng _ (Nx _ q))));rw[b,d,e]at f;rw[a,b]at i;rw[d]at j;rw[a]at g;change _/\_;rw[e];show#[#[_,f,rfl],h _ f i j n g m λc o x=>Ng _ (Ng _ (Ng _ (Ng _ (Ng _ x))))]
end
open PySem.Builtin.SmallTypes (nextOf)
section
variable{w:NU}{E:Nd->Nh->Prop}{s:Nh}
def JC (a:s.heap.IsTupleIter it t i)(ht:s.heap.IsTuple t items)(f:items[i]?=aB x)
  (e:∀h',h'.IsTupleIter it t (i+1)->PR it s.heap h'->Q x {s with heap:=h'}):wh prog w A (nextOf (.ref it)) Q E s:=by
 obtain⟨o,b,hc,hd⟩:=id a;obtain⟨h,d,_,g,c⟩:=ht;show Nc (Ow  a.typeIs F.slot_tuple_iterator_next (OO F.slot_tuple_iterator_next a.typeIs F.entry_tuple_iterator_next ?_ (F.args_tuple_iterator_next_1 _)));change wpAny _ _ (field _ 0 >>= _) _ _ s;show Nc (OH b hd  rfl ?_);change wpAny _ _ _ _ _ s;show Nc (OH b hd  rfl (Nc (Pl d c ?_)));revert NQ f;show Nc (Qn b hd (by simp) (Nm #[x,rfl,Nm (e _ #[_,OJ _ b (Ro (P7 hd _)),(UM ..).trans hc,?_] (Qj ..))]))
 rw[P7 hd];simp[rawInt]
def JD (f:A.handled=ba)(a:s.heap.IsTupleIter it t i)(ht:s.heap.IsTuple t items)(h:items[i]?=ba)
  (g:∀h' e,Tk it s.heap h'->(∃o,h'.get? e=aB o/\o.cls=.type "StopIteration")->E (.ref e) {s with heap:=h'}):wh prog w A (nextOf (.ref it)) Q E s:=by
 obtain⟨o,c,hc,hd⟩:=id a;obtain⟨k,d,_,j,b⟩:=ht;show Nc (Ow  a.typeIs F.slot_tuple_iterator_next (OO F.slot_tuple_iterator_next a.typeIs F.entry_tuple_iterator_next ?_ (F.args_tuple_iterator_next_1 _)));change wpAny _ _ (field _ 0 >>= _) _ _ s;show Nc (OH c hd  rfl ?_);change wpAny _ _ _ _ _ s;show Nc (OH c hd  rfl (Nc (Pl d b ?_)));revert NQ h;show Nc (Q8 (Nc (Qn c hd (by simp) ?_)))
 show Nc ?_;show Nc (Oy ?_ (by size_fits))
 show Nc  (Sj  (by first|rfl|(rfl)) (Oy ?_ (by size_fits)))
 show Nc (Wc ?_)
 first|rw[f]|rw[f]
 show Nc (Nm (WH (g _ _ (((Qj ..).extBut.push _).push _) #[_,Nx _ rfl,rfl])))
end
inductive Zs where|tup (a:Nl)|lst (a:Nl)|txt (x:Nu)
abbrev Zs.T (it:Nl):Zs->Np->N6->Prop
 |.tup a,i,h=>h.IsTupleIter it a i
 |.lst a,i,h=>h.IsListIter it a i
 |.txt x,i,h=>∃t,h.IsStrIter it "str_ascii_iterator" x t i\/h.IsStrIter it "str_iterator" x t i
abbrev Zs.at (K:Nr)(H:Hp)(i:Np)(v:V):Zs->Prop
 |.tup a=>∃xs,SqT K H a xs/\xs[i]?=aB v
 |.lst a=>∃xs,SqL K H a xs/\xs[i]?=aB v
 |.txt x=>∃c,x.cps[i]?=aB c/\v=.str #[[c].toArray]
abbrev Zs.out (K:Nr)(H:Hp)(i:Np):Zs->Prop
 |.tup a=>∃xs,SqT K H a xs/\↥xs<=i
 |.lst a=>∃xs,SqL K H a xs/\↥xs<=i
 |.txt x=>⇑x.cps<=i
def Zs.keep {S:Zs}(t:S.T it j h)(k:∀o,h.get? it=aB o->h'.get? it=aB o):S.T it j h':=by
 cases S with
 |tup a=>show t.at k
 |lst a=>show t.at k
 |txt x=>
  obtain⟨tk,t⟩:=t;show#[tk,t.imp (λ#[o,e,r]=>#[o,k _ e,r]) λ#[o,e,r]=>#[o,k _ e,r]]
section
variable{s:Nh}
def zU (I:Inv X J Y H s)(h:X.K.lookup a=aB o)(f:gP X J H b):a≠b:=λz=>by
 subst z;have c:=I.ok.mod.kin a o h;rcases f.2.2.2.1 with q|q
 ·show I.ok.noex a o c q
 ·show absurd (NS (Nz (I.ok.bs a o c).1) q) (OL _)
end
open PySem.Builtin.SmallTypes (nextOf)
variable{h':N6}
section
variable{s:Nh}
def zV (h:Rd H a u)(f:H b=ba):a≠b:=λz=>by
 subst z;rcases h with h|⟨o,h⟩<;>(rw[f]at h;cases h)
def Inv.turnedL {ch:Nb Nl}(I:Inv X J Y H s)(k:∀b o,b∉ch->s.heap.get? b=aB o->h'.get? b=aB o)(d:∀b∈ch,gP X J H b):Inv X J Y H (xa s h' t'):=by
 have a:∀b u,H b=aB u->b∉ch:=λb u e z=>by have:=(d b z).1;rw[e]at this;cases this
 show I.step (g':=s.gens) (d':=s.drawn) (ch:=ch) (λb p=>?_) (λb o _ _ hc e _=>k b o hc e) (λb o _ _ hc e _=>#[o.slots,k b o hc e]) (λ_ _ _ _ n=>n) (λb o hc e=>#[o,k b o hc e]) (λ_ _ e=>e) (λ_ _ _ e=>e) (λb ps e=>#[#[],by rw[e];simp]) (λm t=>?_) (λb u e=>?_) I.bare
 ·obtain⟨_,h,_,i,j,l⟩:=d b p;show#[i,h,j,l]
 ·obtain⟨o,g,f,w,r⟩:=t;show#[o,g,f,k _ o (λz=>(d _ z).2.1 rfl) w,r]
 ·show(I.hok b u e).stay (λc v hc q=>k c v ?_ q) (λ_ q=>q) λ_ _ q=>q
  rcases hc with z|z
  ·rw[z];show a b u e
  ·show a c _ z
def Zs.zit {S:Zs}{Uqa:Nf V}(I:Inv X J Y H s)(G:∀b∈[z,q,i1,m],gP X J H b)(g:match Uqa with|some v=>S.at X.K H i v|none=>S.out X.K H i) :
  ∃C,Zit X.prog X.w it (S.T it) C i (Uqa.map λv u=>RelV v u)/\C s.heap/\Zc z q i1 m C:=by
 have Z:∀(a:Nl) (P:N6->Prop),(∀h h',P h->(∀o,h.get? a=aB o->h'.get? a=aB o)->P h')->(∀b∈[z,q,i1,m],a≠b)->Zc z q i1 m P:=λa P hP R h h' p k=>
  hP h h' p λo e=>k a o (R z (by simp)) (R q (by simp)) (R i1 (by simp)) (R m (by simp)) e
 have sep:∀{a:Nl}{u:HO}{o:OQ}{b:Nl},(Rd H a u\/X.K.lookup a=aB o)->b∈[z,q,i1,m]->a≠b:=λh f=>h.elim (λr=>zV r (G _ f).1) λr=>zU I r (G _ f)
 cases S with
 |tup a=>
  obtain⟨xs,N,l⟩:∃xs,SqT X.K H a xs/\(match Uqa with|some v=>xs[i]?=aB v|none=>↥xs<=i):=by
   cases Uqa<;>show g
  obtain⟨its,O,p,_⟩:=I.tuple N;have n:∀b∈[z,q,i1,m],a≠b:=λb f=>by
   rcases N with r|⟨o,_,_,r,_⟩
   ·show zV r (G b f).1
   ·show zU I r (G b f)
  show#[λh=>h.IsTuple a its.toArray,#[λj h h' t k=>Zs.keep (S:=.tup a) t k,λV d B w Q E t c D=>?_,λM B w Q E L t c A=>?_],p,Z a _ (λh h' #[o,e,r] k=>#[o,k _ e,r]) n]
  ·cases Uqa with
   |none=>cases d
   |some v=>
    cases d;obtain⟨u,T,W⟩:=O.get l;show JC t c (x:=u) (by simpa using T) λh' t' y=>D u h' w.toks W t' y
  ·cases Uqa with
   |some v=>cases M
   |none=>
    have:=L2.Vals.length O;have U:↥xs<=i:=l;show JD L t c (by simp;omega) A
 |lst a=>
  obtain⟨xs,N,l⟩:∃xs,SqL X.K H a xs/\(match Uqa with|some v=>xs[i]?=aB v|none=>↥xs<=i):=by
   cases Uqa<;>show g
  obtain⟨its,O,p,_⟩:=I.list N;have n:∀b∈[z,q,i1,m],a≠b:=λb f=>by
   rcases N with r|⟨o,_,_,r,_⟩
   ·show zV r (G b f).1
   ·show zU I r (G b f)
  show#[λh=>h.IsList a its.toArray,#[λj h h' t k=>Zs.keep (S:=.lst a) t k,λV d B w Q E t c D=>?_,λM B w Q E L t c A=>?_],p.isList,Z a _ (λh h' #[o,e,r] k=>#[o,k _ e,r]) n]
  ·cases Uqa with
   |none=>cases d
   |some v=>
    cases d;obtain⟨u,T,W⟩:=O.get l;show wpAny_nextOf_list_item t c (x:=u) (by simpa using T) λh' t' y=>D u h' w.toks W t' y
  ·cases Uqa with
   |some v=>cases M
   |none=>
    have:=L2.Vals.length O;have U:↥xs<=i:=l;show wpAny_nextOf_list_end L t c (by simp;omega) A
 |txt x=>
  show#[λ_=>Wl,#[λj h h' t k=>Zs.keep (S:=.txt x) t k,λV d B w Q E t _ D=>?_,λM B w Q E L t _ A=>?_],trivial,λ_ _ _ _=>trivial]
  ·cases Uqa with
   |none=>cases d
   |some v=>
    cases d;obtain⟨c,hc,rfl⟩:∃c,x.cps[i]?=aB c/\v=.str #[[c].toArray]:=g;obtain⟨tk,t|t⟩:=t
    ·show wpAny_nextOf_ascii_item t hc λh' t' y=>D _ h' _ #[_,rfl] #[tk,.inl t'] y
    ·show wpAny_nextOf_wide_item t hc λh' t' y=>D _ h' _ #[_,rfl] #[tk,.inr t'] y
  ·cases Uqa with
   |some v=>cases M
   |none=>
    have l:x.cps[i]?=ba:=by simpa using(show ⇑x.cps<=i from g)
    obtain⟨tk,t|t⟩:=t
    ·show wpAny_nextOf_ascii_end L t l A
    ·show wpAny_nextOf_wide_end L t l A
end
abbrev Zs.is (K:Nr)(H:Hp)(i:Np)(v:V):Zs->Prop
 |.tup a=>∀xs,SqT K H a xs->xs[i]?=aB v
 |.lst a=>∀xs,SqL K H a xs->xs[i]?=aB v
 |.txt x=>∃c,x.cps[i]?=aB c/\v=.str #[[c].toArray]
def Zs.at_is {S:Zs}(I:Inv X J Y H s)(h:S.at X.K H i v):S.is X.K H i v:=by
 cases S with
 |tup a=>obtain⟨xs,b,c⟩:=h;show λe d=>by rw[I.tuple_inj d b];show c
 |lst a=>obtain⟨xs,b,c⟩:=h;show λe d=>by rw[I.list_inj d b];show c
 |txt x=>show h
abbrev KZ (K:Nr)(S1 S2:Zs):It:=
 #[λi H=>∃x y,S1.at K H i x/\S2.at K H i y,λi H v a=>∃p x y,S1.is K H i x/\S2.is K H i y/\v=.ref p/\H p=ba/\a=aT H p (.tup [x,y]),λi H=>S1.out K H i\/(∃x,S1.at K H i x)/\S2.out K H i]
def zW {K:Nr}{W:Nb NF}{ p   :Nl}(D:Zap z p q i1 l) :
  Turn P w K (.Tuple W k0 tp) (KZ K S1 S2) [z,p,q,i1,l] z (λi h=>WI h z p q .none/\SQ h p (.ref i1) (.ref l)/\(∃a b,SQ h q a b)/\S1.T i1 i h/\S2.T l i h) where
 mem:=by simp
 obj:=λi h #[a,b,#[u,v,c],d,e] b' f=>by
  have it:∀{S:Zs}{it:Nl},S.T it i h->∃o,h.get? it=aB o/\∀v,o.data≠.cell v:=λ{S it} t=>by
   cases S with
   |tup a=>obtain⟨o,e,_,d⟩:=t;show#[o,e,λv z=>by rw[d]at z;cases z]
   |lst a=>obtain⟨o,e,_,d⟩:=t;show#[o,e,λv z=>by rw[d]at z;cases z]
   |txt x=>obtain⟨tk,⟨o,e,_,d⟩|⟨o,e,_,d⟩⟩:=t<;>show#[o,e,λv z=>by rw[d]at z;cases z]
  simp only[NE,Oc,Pk]at f;rcases f with rfl|rfl|rfl|rfl|rfl
  ·show#[_,a,λv z=>by cases z]
  ·show#[_,b,λv z=>by cases z]
  ·show#[_,c,λv z=>by cases z]
  ·show it d
  ·show it e
 keep:=λi h h' #[a,b,#[u,v,c],d,e] k=>#[k z (by simp) _ a,k p (by simp) _ b,#[u,v,k q (by simp) _ c],Zs.keep d (k i1 (by simp)),Zs.keep e (k l (by simp))]
 item:=by
  intro X Z hw hK hc i J s Y H E I O st hg;subst Z hw hK;obtain⟨x,y,n,N⟩:=hg;obtain⟨a,b,⟨u,v,c⟩,d,e⟩:=st;have j:∀b∈[z,q,i1,l],gP X J H b:=λb f=>O b (by simp only[NE,Oc,Pk]at f ⊢;rcases f with h|h|h|h<;>simp[h])
  obtain⟨C1,A,B,k1⟩:=Zs.zit (it:=i1) (Uqa:=aB x) I j n;obtain⟨C2,R,U,k2⟩:=Zs.zit (it:=l) (Uqa:=aB y) I j N;have G:s.TypeIs (.ref z) "zip":=#[_,a,rfl];unfold pyNext;show Nc (PZ (Ow (name:=Qw "__next__") G F.slot_zip_next (OO F.slot_zip_next G F.entry_zip_next ?_ (F.args_zip_next_1 _))));show lE D A (λ_ _=>R) k1 k2 (I.ok.hd hc) a b c d e B U (λQ V2 C V u1 u2 g tk r1 r2 zg qg t1 t2 ng kp=>?_) (λz=>by rcases z with z|z<;>cases z)
  cases C;cases V;show Nm #[_,rfl,?_];show wpAny_letOwnedTupleGo_zip (s:=(xa s g tk)) zg λg' zg' M=>?_
  have N0:H ⇑s.heap.objs=ba:=I.hok.fresh (Ny _);have lt:∀{b:Nl},b∈[z,p,q,i1,l]->⇑s.heap.objs≠b:=λ{b} f=>by
   have:∃o,s.heap.get? b=aB o:=by
    have it:∀{S:Zs}{it:Nl},S.T it i s.heap->∃o,s.heap.get? it=aB o:=λ{S it} t=>by
     cases S with
     |tup a=>obtain⟨o,e,_⟩:=t;show#[o,e]
     |lst a=>obtain⟨o,e,_⟩:=t;show#[o,e]
     |txt x=>obtain⟨tk,⟨o,e,_⟩|⟨o,e,_⟩⟩:=t<;>show#[o,e]
    simp only[NE,Oc,Pk]at f;rcases f with rfl|rfl|rfl|rfl|rfl
    ·show#[_,a]
    ·show#[_,b]
    ·show#[_,c]
    ·show it d
    ·show it e
   obtain⟨o,e⟩:=this;show On (Nz e)
  have up:∀b o,b∉[z,q,i1,l]->s.heap.get? b=aB o->g'.get? b=aB o:=λb o f e=>by
   simp only[NE,Oc,Pk,U6]at f;show M.extBut _ _ f.1 (kp b o f.1 f.2.1 f.2.2.1 f.2.2.2 e)
  have I1:Inv X J Y H (xa s g' tk):=Mi.Inv.turnedL I up j
  have L:SQ g' ⇑s.heap.objs u1 u2:=M.extBut _ _ (lt (by simp)) ng
  have I2:Inv X J Y (aT H ⇑s.heap.objs (.tup [x,y])) (xa s g' tk):=by
   show Mi.Inv.adopt I1 N0 (.inr I.sz) (On I.lt) (λw c e=>?_) (λp hp=>?_) #[#[by change 2<=sizeLine;decide,#[_,L,rfl]],[u1,u2],.cons r1 #v[r2],#[_,L,rfl,0,rfl]]
   ·obtain⟨v,q⟩:=I.cell w c e;show NJ q.lt
   ·show NJ (Nz (I.pin p hp).1)
  show#[.ref ⇑s.heap.objs,_,I2,rfl,#[⇑s.heap.objs,x,y,Zs.at_is I n,Zs.at_is I N,rfl,N0,rfl],#[zg',up p _ ?_ b,#[u1,u2,M.extBut _ _ D.qz qg],Zs.keep t1 λo e=>M.extBut _ _ D.iz e,Zs.keep t2 λo e=>M.extBut _ _ D.jz e],λb f=>?_]
  ·revert NE Oc Pk U6;show#[D.pz,D.pq,D.pi,D.pj]
  ·rw[ar (Ne.symm (lt f))];show(O b f).1
 done:=by
  intro X Z hw hK hc i J s Y H E I O st hg;subst Z hw hK;obtain⟨a,b,⟨u,v,c⟩,d,e⟩:=st;have j:∀b∈[z,q,i1,l],gP X J H b:=λb f=>O b (by simp only[NE,Oc,Pk]at f ⊢;rcases f with h|h|h|h<;>simp[h])
  have G:s.TypeIs (.ref z) "zip":=#[_,a,rfl];unfold pyNext;show Nc (PZ (Ow (name:=Qw "__next__") G F.slot_zip_next (OO F.slot_zip_next G F.entry_zip_next ?_ (F.args_zip_next_1 _))));have m:∀h' tk e,(∀c o,c≠z->c≠q->c≠i1->c≠l->s.heap.get? c=aB o->h'.get? c=aB o)->(∃o,h'.get? e=aB o/\o.cls=.type "StopIteration")->
    wi X (do if <- isInstance (.ref e) (.type "StopIteration")then pure (ba:Nf Nd)else throw (.ref e)) (λr s1=>r=ba/\Inv X J Y H s1) E (xa s h' tk):=λh' tk e k #[o,ho,hc]=>
   Nc (Rt (T:="StopIteration") (b:=true) #[o,ho,hc] Tl (Nm #[rfl,Mi.Inv.turnedL I (λb o f e=>by
    simp only[NE,Oc,Pk,U6]at f;show k b o f.1 f.2.1 f.2.2.1 f.2.2.2 e) j]))
  rcases hg with n|⟨⟨x,n⟩,N⟩
  ·obtain⟨C1,A,B,k1⟩:=Zs.zit (it:=i1) (Uqa:=ba) I j n;show lE (U2:=ba) D A (λQ C=>by cases C) k1 (C2:=λ_=>Wl) (λ_ _ _ _=>trivial) (I.ok.hd hc) a b c d e B trivial (λQ V2 C _=>by cases C) λ_ h' tk e k he=>m h' tk e k he
  ·obtain⟨C1,A,B,k1⟩:=Zs.zit (it:=i1) (Uqa:=aB x) I j n;obtain⟨C2,R,U,k2⟩:=Zs.zit (it:=l) (Uqa:=ba) I j N;show lE D A (λ_ _=>R) k1 k2 (I.ok.hd hc) a b c d e B U (λQ V2 _ V=>by cases V) λ_ h' tk e k he=>m h' tk e k he
 self:=λ_ _ _ _ _ st h=>Vc st.1 h
abbrev GH:W->Nf (Nb W)
 |.tup xs=>aB xs
 |.str x=>aB (x.cps.toList.map λc=>.str #[[c].toArray])
 |_=>ba
abbrev zX (f:FA):FI:=λZ S=>match f Z S with
 |some ([x,y],S1)=>match GH x,GH y with
  |some xs,aB a=>aB (.its (iH xs a),S1)
  |_,_=>match x,y with
   |.ref r,.ref q=>match fw S1 r,fw S1 q with
    |some _,aB _=>aB (.zl r q,S1)
    |_,_=>ba
   |_,_=>ba
 |_=>ba
section
variable{s:Nh}{A:Nb Nl}
abbrev ZRel (K:Nr)(A:Nb Nl)(H:Hp)(xs:Nb W):Zs->Prop
 |.tup a=>∃vs,SqT K H a vs/\RelL K A H xs vs
 |.lst a=>Oo
 |.txt x=>xs=x.cps.toList.map λc=>.str #[[c].toArray]
def ZRel.mono {K:Nr}{S:Zs}(e:Ext K A H b c)(h:ZRel K A H xs S):ZRel K b c xs S:=by
 cases S with
 |tup a=>obtain⟨vs,d,h2⟩:=h;show#[vs,e.tp _ _ d,h2.mono e]
 |lst a=>show h
 |txt x=>show h
def ZRel.at {K:Nr}{S:Zs}(h:ZRel K A H xs S)(hi:xs[i]?=aB w):∃v,S.at K H i v/\Rel K A H w v:=by
 cases S with
 |tup a=>obtain⟨vs,b,h2⟩:=h;obtain⟨v,d,e⟩:=h2.get hi;show#[v,#[vs,b,d],e]
 |lst a=>show h.elim
 |txt x=>
  subst h;rw[Nw,Nk]at hi;obtain⟨c,hc,rfl⟩:=hi;show#[.str _,#[c,by rw[<- OR];show hc,rfl],.str]
def ZRel.is {K:Nr}{S:Zs}(h:ZRel K A H xs S)(hi:xs[i]?=aB w)(z:S.is K H i v):Rel K A H w v:=by
 obtain⟨g,d,h2⟩:=h.at hi;cases S with
 |tup a=>
  obtain⟨vs,q,e⟩:=d;have:=z vs q;rw[e]at this;cases this
  show h2
 |lst a=>show h.elim
 |txt x=>
  obtain⟨c,e,rfl⟩:=d;obtain⟨f,b,rfl⟩:=z;rw[e]at b;cases b
  show h2
def ZRel.out {K:Nr}{S:Zs}(h:ZRel K A H xs S)(hi:↥xs<=i):S.out K H i:=by
 cases S with
 |tup a=>obtain⟨vs,b,h2⟩:=h;show#[vs,b,by rw[<- ↥h2];show hi]
 |lst a=>show h.elim
 |txt x=>
  subst h;change ⇑x.cps<=i
  simpa using hi
def qD {i:Np}(h:(iH xs a)[i]?=aB w):∃x y,xs[i]?=aB x/\a[i]?=aB y/\w=.tup [x,y]:=by
 unfold iH at h;rw[Rp]at h;split at h
 next x y b c=>cases h;show#[x,y,b,c,rfl]
 ·cases h
def Dq (b:ZRel X.K A H xs S1)(g:ZRel X.K A H l S2):MIt X.w X.K (.its (iH xs l)) (KZ X.K S1 S2) A H:=by
 show#[λc d S i w e k hi=>?_,λc d S i e k hi=>?_]
 ·simp only[MI.at,NV]at hi;obtain⟨x,y,h,j,rfl⟩:=qD hi;obtain⟨v,f,r⟩:=(b.mono e).at h;obtain⟨u,m,s⟩:=(g.mono e).at j;show#[#[v,u,f,m],λp q #[a,v',u',q1,q2,hp,hn,hH]=>?_]
  subst hp hH;have ex:Ext X.K c d c (aT d a (.tup [v',u'])):=bc (.inl hn);show#[ex,k.lay hn,.tup (.of aA) #v[((b.mono e).is h q1).mono ex,((g.mono e).is j q2).mono ex]]
 ·simp only[MI.at,NV,OX,iH,O3]at hi
  by_cases n:↥xs<=i
  ·show .inl ((b.mono e).out n)
  ·have o:i<↥xs:=∅
   obtain⟨v,f,_⟩:=(b.mono e).at (Nt o);show .inr #[#[v,f],(g.mono e).out ∅]
def zY (s:A[r]?=aB a)(t:A[q]?=aB b):MIt X.w X.K (.zl r q) (KZ X.K (.lst a) (.lst b)) A H:=by
 show#[λj k S i w e d hi=>?_,λj k S i e d hi=>?_]
 ·simp only[MI.at]at hi;split at hi
  next xs I l n=>
   simp only[NV]at hi;obtain⟨x,y,C,D,rfl⟩:=qD hi;obtain⟨vs,f,h⟩:=bn d l (e.ad _ _ s);obtain⟨us,h2,o⟩:=bn d n (e.ad _ _ t);obtain⟨v,g,E⟩:=h.get C;obtain⟨u,z,G⟩:=o.get D;show#[#[v,u,#[vs,f,g],#[us,h2,z]],λp J #[c,v',u',z1,z2,hp,hn,hH]=>?_]
   subst hp hH;have B:=z1 vs f;rw[g]at B;cases B
   have t2:=z2 us h2;rw[z]at t2;cases t2
   have ex:Ext X.K j k j (aT k c (.tup [v,u])):=bc (.inl hn);show#[ex,d.lay hn,.tup (.of aA) #v[E.mono ex,G.mono ex]]
  ·cases hi
 ·simp only[MI.at]at hi;split at hi
  next xs I l n=>
   simp only[NV,OX,iH,O3]at hi;obtain⟨vs,f,h⟩:=bn d l (e.ad _ _ s);obtain⟨us,h2,o⟩:=bn d n (e.ad _ _ t)
   by_cases hl:↥xs<=i
   ·show .inl #[vs,f,by rw[<- ↥h];show hl]
   ·have m:i<↥xs:=∅
    obtain⟨v,g,_⟩:=h.get (Nt m);show .inr #[#[v,vs,f,g],us,h2,by rw[<- ↥o];omega]
  ·cases hi
def oJ (I:Inv X J Y H s)(r:Rel X.K A H x v)(g:RelV v u)(e:GH x=aB xs) :
  ∃ S o C,ZRel X.K A H xs S/\dW X.prog X.w u o C/\C s.heap/\(∀h o,C h->C (h.push o))/\o.isFreed=false/\∀it h,h.get? it=aB o->S.T it 0 h:=by
 cases r with
 |@tup ws a vs f j=>
  cases e;obtain⟨its,k,p,_⟩:=I.tuple f;obtain rfl:u=NR a:=g;show#[.tup a,{cls:=.type "tuple_iterator",data:=.fields [.ref a,.int 0 0].toArray},λh=>h.IsTuple a its.toArray,#[vs,f,j],λB s Q E c b=>Uj c b,p,λh o #[i,e,r]=>#[i,Ng _ e,r],rfl,λit h e=>#[_,e,rfl,rfl]]
 |@str x=>
  cases e;obtain⟨t,rfl⟩:=g;cases d:x.cps.all (· < 128)with
  |false=>show#[.txt x,{cls:=.type "str_iterator",data:=.fields [.str x t,.int 0 0].toArray},λ_=>Wl,rfl,λB s Q E _ b=>wpAny_pyIter_wide d b,trivial,λ_ _ _=>trivial,rfl,λit h e=>#[t,.inr #[_,e,rfl,rfl]]]
  |true=>show#[.txt x,{cls:=.type "str_ascii_iterator",data:=.fields [.str x t,.int 0 0].toArray},λ_=>Wl,rfl,λB s Q E _ b=>Uk d b,trivial,λ_ _ _=>trivial,rfl,λit h e=>#[t,.inl #[_,e,rfl,rfl]]]
 |_=>cases e
def zZ:bootBuiltins "zip" = aB (.type "zip"):=rfl
def uX (I:Inv X J Y H s)(g:RelV (.ref a) u)(d:SqL X.K H a xs) :
  ∃ o C,dW X.prog X.w u o C/\C s.heap/\(∀h o,C h->C (h.push o))/\o.isFreed=false/\∀it h,h.get? it=aB o->(Zs.lst a).T it 0 h:=by
 obtain⟨its,i,p,_⟩:=I.list d;obtain rfl:u=NR a:=g;show#[{cls:=.type "list_iterator",data:=.fields [.ref a,.int 0 0].toArray},λh=>h.IsList a its.toArray,λB s Q E c b=>QF c b,p.isList,λh o #[f,e,r]=>#[f,Ng _ e,r],rfl,λit h e=>#[_,e,rfl,rfl]]
def GJ {B:Nb NF}{f:FA}(hg:Gl X "zip")(hm:X.mg "zip" = ba)(ha:GA X [a,b] f)(hs:starEach [a,b] X.env=[(false,eval a X.env),(false,eval b X.env)])(E:starEach [b] X.env=[(false,eval b X.env)]) :
  GI X (.Tuple B k0 tp) (.Call (.Name "zip" p) [a,b] [] pos) (zX f):=by
 intro J s Y H R I ⟨A,Z,S,mi,S',er,so,e,hq⟩;have fin:∀{c:Nh}{i:Hp}{u v:Nd}{l m:Zs}{j ob:OQ}{k g:N6->Prop},Inv X J Y i c->dW X.prog X.w u j k->k c.heap->j.isFreed=false->(∀it h,h.get? it=aB j->l.T it 0 h)->dW X.prog X.w v ob g->g c.heap->(∀h o,g h->g (h.push o))->ob.isFreed=false->(∀it h,h.get? it=aB ob->m.T it 0 h)->R (KZ X.K l m) i->
   wi X (call (.type "zip") [u,v]) (λv s=>wi X (pyIter v) (IP X J Y (.Tuple B k0 tp) R) X.xe s) X.xe c:=λ{c i u v l m j ob k g} d G n N P L w M O Q hR=>by
  show zT G L M n w N O λh' hz hp T g1 g2 hsz kp=>?_
  have I2:Inv X J Y i {c with heap:=h'}:=d.kept (t':=c.toks) kp
  show Vc (s:={c with heap:=h'}) hz ?_
  have D:Zap (⇑c.heap.objs+4) (⇑c.heap.objs+2) (⇑c.heap.objs+3) ⇑c.heap.objs (⇑c.heap.objs+1):=by constructor<;>(intro z;simp at z)
  show#[⇑c.heap.objs+4,_,_,_,i,rfl,I2,zW (S1:=l) (S2:=m) D,#[hz,hp,#[_,_,T],P _ _ g1,Q _ _ g2],λb W=>?_,hR]
  have C:⇑c.heap.objs<=b:=by
   simp only[NE,Oc,Pk]at W;rcases W with rfl|rfl|rfl|rfl|rfl
   ·show P4 _ _
   ·show P4 _ _
   ·show P4 _ _
   ·show Ny _
   ·show P4 _ _
  show d.fpOk C (d.hok.fresh C)
 unfold zX at e;split at e
 next x y S1 h1=>
  show Call_ (jk I hg hm zZ (PU (bd (ha pos J s Y H _ I #[A,Z,S,_,_,er,so,h1,λ_ _ z=>z]) λus c #[vs,i,d,r1,A1,z1,z2,z3]=>?_) (by rw[hs,E]) (by rw[E];rfl)))
  cases z3 with
  |cons ra t=>
   cases t with
   |cons rb t=>
    cases t;cases r1 with
    |cons ua t=>
     cases t with
     |cons ub t=>
      cases t;split at e
      next xs ys e1 e2=>cases e;obtain⟨l,j,k,za,G,n,ka,N,P⟩:=oJ d ra ua e1;obtain⟨m,ob,g,zb,L,w,M,O,Q⟩:=oJ d rb ub e2;show fin d G n N P L w M O Q (hq _ _ A1 z1 z2 (Dq za zb))
      ·split at e
       ·rename_i r q;split at e
        ·rename_i xs ys hx hy;cases e;cases ra with
         |@ref _ a U=>
          cases rb with
          |@ref _ b V=>
           obtain⟨va,q1,_⟩:=bn z2 hx U;obtain⟨vb,q2,_⟩:=bn z2 hy V;obtain⟨j,k,G,n,ka,N,P⟩:=uX d ua q1;obtain⟨ob,g,L,w,M,O,Q⟩:=uX d ub q2;show fin d G n N P L w M O Q (hq _ _ A1 z1 z2 (zY U V))
        ·cases e
       ·cases e
 ·cases e
end
open PySem.Builtin.SmallTypes (nextOf)
section
variable{prog:NM}{w:NU}{B:NY}{E:Nd->Nh->Prop}{s:Nh}{e it:Nl}{T:Np->N6->Prop}{C:N6->Prop}{i:Np}{old:Nd}
structure EnAt (h0 h:N6)(e it:Nl)(fs:N9 Nd)(T:N6->Prop):Prop where
 here:h.get? e=aB {cls:=.type "enumerate",dict:=ba,data:=.fields fs,slots:=#[]}
 turn:T h
 kept:∀b o,b≠e->b≠it->h0.get? b=aB o->h.get? b=aB o
def EnAt.put {T:N6->Prop}(x:EnAt d s.heap e it fs T)(a:e≠it)(g:∀h h',T h->(∀o,h.get? it=aB o->h'.get? it=aB o)->T h')(hk:k<⇑fs)
  (q:∀h',EnAt d h' e it (fs.setIfInBounds k v) T->PR e s.heap h'->Q () {s with heap:=h'}):wpAny (model prog w) B (setField (.ref e) k v) Q E s:=
 Qx x.here hk λh' y c=>q h' #[y,g _ _ x.turn λo z=>c.extBut _ _ (Ne.symm a) z,λb o f h2 z=>c.extBut b o f (x.kept b o f h2 z)] c
def m6 {Q:Nd->Nh->Prop}(m:Zit prog w it T C i Uqa)(O:B.handled=ba)(n:W0 s.heap e it i old)(t:T i s.heap)(c:C s.heap)(f:e≠it)
  (M:∀V,Uqa=aB V->∀u h' tk y,V u->IsEnumOut h' e it (i+1) u ⇑s.heap.objs->T (i+1) h'->h'.get? ⇑s.heap.objs=aB {cls:=.type "tuple",data:=.seq [.int i y,u].toArray}->
   (∀b o,b≠e->b≠it->s.heap.get? b=aB o->h'.get? b=aB o)->Q (.ref ⇑s.heap.objs) (xa s h' tk))
  (L:Uqa=ba->∀h' x,Tk it s.heap h'->(∃o,h'.get? x=aB o/\o.cls=.type "StopIteration")->E (.ref x) {s with heap:=h'}) :
  wpAny (model prog w) B (QD.«enumerate.__next__» #[[.ref e],[]]) (λfin R=>∃v,fin=.done (.ret v)/\Q v R) E s:=by
 obtain⟨p,g,d,tk,os⟩:=s;change wpAny _ _ (field _ 2 >>= _) _ _ _;show Nc (OH n rfl (x:=.ref it) rfl (Nc ?_));cases Uqa with
 |none=>show m.stop rfl _ _ _ _ O t c λh' x a b=>L rfl h' x a b
 |some V=>
  show m.next V rfl _ _ _ _ t c λu N h P X k=>?_
  have l:=m.keep (i+1);have D:EnAt p N e it _ _:=#[(k.2 e f).trans n,X,λb o _ h2 z=>k.extBut b o h2 z]
  have za:=k.1;show Nc (OH D.here rfl  rfl ?_);show Nc (OH D.here rfl  rfl ?_);show Nc (Vn (Nc (D.put  f l (by simp) λhb xb q=>Nc (xb.put  f l (by simp) λhc G r=>Nc (Tq ?_)))))
  have I:⇑hc.objs=⇑p.objs:=by rw[r.1,<- za];show q.1
  have j:=On (Nz n);have new:=Nx hc (o:={cls:=.type "tuple",data:=.seq [.int i h,u].toArray}) rfl;have xd:EnAt p (hc.push {cls:=.type "tuple",data:=.seq [.int i h,u].toArray}) e it [.none,.bool _,.ref it,rawInt _,.none,old].toArray _:=#[Ng _ G.here,l _ _ G.turn λo z=>Ng _ z,λb o H h2 z=>Ng _ (G.kept b o H h2 z)]
  rw[I]at new;change wpAny _ _ _ _ _ _;rw[I];show Nc ?_;show Nc (OH xd.here rfl  rfl (Nm ?_));show Nc (Q8 (Nc (OH xd.here rfl (x:=old) rfl (Nc (xd.put  f l (by simp) λH Y S=>Nc ?_)))))
  show Nc (Y.put  f l (by simp) λh2 Z U=>Z.put  f l (by simp) λJ A W=>Nc (QM (Nm #[_,rfl,M V rfl u J (h+1) h P A.here A.turn ?_ A.kept])))
  show W.extBut _ _ j (U.extBut _ _ j (S.extBut _ _ j new))
variable{v:Nd}{o:OQ}
def qE (e:dW prog w v o C) :
  MeetsIn prog w (QD.«enumerate.__new__» #[[.type "enumerate",v],[]]) (λ_ R s=>C s.heap/\R (.ok (.ret (.ref (s.heap.push o).objs.size))) {s with heap:=(s.heap.push o).push {cls:=.type "enumerate",data:=.fields [.none,.bool false,.ref ⇑s.heap.objs,rawInt 0,.none,.none].toArray}}):=
 .of_wp λA R s h=>by
  obtain⟨f,g,d,tk,os⟩:=s;obtain⟨c,h⟩:=h;have b:=sub_enumerate;have a:=λB Q E q=>e B _ Q E c q
  wp_walk
  show wpAny_stack_any λst=>Nm ?_
  split
  next c _ _ _ _ _=>
   cases(c==PL _)
   ·wp_walk using a _ _ _
    show#[_,rfl,h]
   ·wp_walk using a _ _ _
    show#[_,rfl,h]
  ·wp_walk using a _ _ _
   show#[_,rfl,h]
def w9 (e:dW prog w v o C)(c:C s.heap)(f:o.isFreed=false)
  (h:∀h',W0 h' (⇑s.heap.objs+1) ⇑s.heap.objs 0 .none->h'.get? ⇑s.heap.objs=aB o->(∀b o,s.heap.get? b=aB o->h'.get? b=aB o)->Q (.ref (⇑s.heap.objs+1)) {s with heap:=h'}) :
  wpAny (model prog w) B (call (.type "enumerate") [v]) Q E s:=by
 show VU F.called_enumerate #v[] (F.typeCall_enumerate_1 _) (F.newCall_enumerate_1 _) (λobj=>F.args_object_init_2 obj _) F.entry_enumerate_new (qE e) #[c,?_]
 have d:(s.heap.push o).objs.size=⇑s.heap.objs+1:=O9 ..;rw[d];have a:W0 ((s.heap.push o).push {cls:=.type "enumerate",data:=.fields [.none,.bool false,.ref ⇑s.heap.objs,rawInt 0,.none,.none].toArray}) (⇑s.heap.objs+1) ⇑s.heap.objs 0 .none:=by
  have:=Nx (s.heap.push o) (o:={cls:=.type "enumerate",data:=.fields [.none,.bool false,.ref ⇑s.heap.objs,rawInt 0,.none,.none].toArray}) rfl;rw[d]at this;show this
 show#[#[_,a,rfl],h _ a (Ng _ (Nx _ f)) λb o x=>Ng _ (Ng _ x)]
end
abbrev MC (K:Nr)(S1:Zs):It:=
 #[λi H=>∃x,S1.at K H i x,λi H v a=>∃p x,S1.is K H i x/\v=.ref p/\H p=ba/\a=aT H p (.tup [.int i,x]),λi H=>S1.out K H i]
def xg {K:Nr}{C:Nb NF}(D:z≠i1) :
  Turn P w K (.Tuple C k0 tp) (MC K S1) [z,i1] z (λi h=>(∃j,W0 h z i1 i j)/\S1.T i1 i h) where
 mem:=by simp
 obj:=λi h #[#[j,a],d] b' f=>by
  have it:∀{S:Zs}{it:Nl},S.T it i h->∃o,h.get? it=aB o/\∀v,o.data≠.cell v:=λ{S it} t=>by
   cases S with
   |tup a=>obtain⟨o,e,_,d⟩:=t;show#[o,e,λv z=>by rw[d]at z;cases z]
   |lst a=>obtain⟨o,e,_,d⟩:=t;show#[o,e,λv z=>by rw[d]at z;cases z]
   |txt x=>obtain⟨tk,⟨o,e,_,d⟩|⟨o,e,_,d⟩⟩:=t<;>show#[o,e,λv z=>by rw[d]at z;cases z]
  simp only[NE,Oc,Pk]at f;rcases f with rfl|rfl
  ·show#[_,a,λv z=>by cases z]
  ·show it d
 keep:=λi h h' #[#[j,a],d] k=>#[#[j,k z (by simp) _ a],Zs.keep d (k i1 (by simp))]
 item:=by
  intro X G hw hK hc i J s Y H E I m st L;subst G hw hK;obtain⟨x,R⟩:=L;obtain⟨⟨j,a⟩,d⟩:=st;have l:∀b∈[z,z,i1,i1],gP X J H b:=λb f=>m b (by simp only[NE,Oc,Pk]at f ⊢;rcases f with h|h|h|h<;>simp[h])
  obtain⟨T,y,A,k1⟩:=Zs.zit  (Uqa:=aB x) I l R;have n:s.TypeIs (.ref z) "enumerate":=#[_,a,rfl];unfold pyNext;show Nc (PZ (Ow  n F.slot_enumerate_next (OO F.slot_enumerate_next n F.entry_enumerate_next ?_ (F.args_enumerate_next_1 _))));show m6 y (I.ok.hd hc) a d A D (λV B u g tk N r1 zg t1 ng kp=>?_) (λz=>by cases z)
  cases B;show Nm #[_,rfl,?_];show wpAny_letOwnedTupleGo_enum  zg λg' O M=>?_
  have Q:=I.hok.fresh (Ny _);have lt:∀{b:Nl},b∈[z,i1]->⇑s.heap.objs≠b:=λ{b} f=>by
   have:∃o,s.heap.get? b=aB o:=by
    have it:∀{S:Zs}{it:Nl},S.T it i s.heap->∃o,s.heap.get? it=aB o:=λ{S it} t=>by
     cases S with
     |tup a=>obtain⟨o,e,_⟩:=t;show#[o,e]
     |lst a=>obtain⟨o,e,_⟩:=t;show#[o,e]
     |txt x=>obtain⟨tk,⟨o,e,_⟩|⟨o,e,_⟩⟩:=t<;>show#[o,e]
    simp only[NE,Oc,Pk]at f;rcases f with rfl|rfl
    ·show#[_,a]
    ·show it d
   obtain⟨o,e⟩:=this;show On (Nz e)
  have up:∀b o,b∉[z,i1]->s.heap.get? b=aB o->g'.get? b=aB o:=λb o f e=>by
   simp only[NE,Oc,Pk,U6]at f;show M.extBut _ _ f.1 (kp b o f.1 f.2 e)
  have U:Inv X J Y H (xa s g' tk):=Mi.Inv.turnedL I up m
  have r:=M.extBut _ _ (lt (by simp)) ng
  have W:Inv X J Y (aT H ⇑s.heap.objs (.tup [.int i,x])) (xa s g' tk):=by
   show Mi.Inv.adopt U Q (.inr I.sz) (On I.lt) (λw c e=>?_) (λp Z=>?_) #[#[by change 2<=sizeLine;decide,#[_,r,rfl]],[.int i N,u],.cons #[_,rfl] #v[r1],#[_,r,rfl,0,rfl]]
   ·obtain⟨v,q⟩:=I.cell w c e;show NJ q.lt
   ·show NJ (Nz (I.pin p Z).1)
  show#[.ref ⇑s.heap.objs,_,W,rfl,#[⇑s.heap.objs,x,Zs.at_is I R,rfl,Q,rfl],#[#[_,O],Zs.keep t1 λo e=>M.extBut _ _ (Ne.symm D) e],λb f=>?_]
  rw[ar (Ne.symm (lt f))];show(m b f).1
 done:=by
  intro X G hw hK hc i J s Y H E I m st L;subst G hw hK;obtain⟨⟨j,a⟩,d⟩:=st;have l:∀b∈[z,z,i1,i1],gP X J H b:=λb f=>m b (by simp only[NE,Oc,Pk]at f ⊢;rcases f with h|h|h|h<;>simp[h])
  obtain⟨T,y,A,k1⟩:=Zs.zit  (Uqa:=ba) I l L;have n:s.TypeIs (.ref z) "enumerate":=#[_,a,rfl];unfold pyNext;show Nc (PZ (Ow  n F.slot_enumerate_next (OO F.slot_enumerate_next n F.entry_enumerate_next ?_ (F.args_enumerate_next_1 _))));show m6 y (I.ok.hd hc) a d A D (λV B=>by cases B) λ_ h' e k #[o,ho,hc]=>?_
  show Nc (Rt   #[o,ho,hc] Tl (Nm #[rfl,Mi.Inv.turnedL  I (λb o f e=>by
    simp only[NE,Oc,Pk,U6]at f;show k b o f.2 e) m]))
 self:=λ_ _ _ _ _ st h=>by obtain⟨⟨j,a⟩,_⟩:=st;show UQ a h
abbrev qF (xs:Nb W):Nb W:=xs.zipIdx.map λp=>.tup [.int (p.2:Np),p.1]
def z6 {i:Np}(h:(qF xs)[i]?=aB w):∃x,xs[i]?=aB x/\w=.tup [.int i,x]:=by
 unfold qF at h;rw[Nw,List.getElem?_zipIdx,Option.map_map,Nk]at h;obtain⟨x,a,rfl⟩:=h;show#[x,a,by simp]
abbrev Dr (f:FA):FI:=λZ S=>match f Z S with
 |some ([x],S1)=>match GH x with
  |some xs=>aB (.its (qF xs),S1)
  |none=>ba
 |_=>ba
section
variable{s:Nh}{A:Nb Nl}
def z7 (d:ZRel X.K A H xs S1):MIt X.w X.K (.its (qF xs)) (MC X.K S1) A H:=by
 show#[λb c S i w e g hi=>?_,λb c S i e g hi=>?_]
 ·simp only[MI.at,NV]at hi;obtain⟨x,f,rfl⟩:=z6 hi;obtain⟨v,h,k⟩:=(d.mono e).at f;show#[#[v,h],λp j #[a,v',q1,hp,hn,hH]=>?_]
  subst hp hH;have ex:Ext X.K b c b (aT c a (.tup [.int i,v'])):=bc (.inl hn);show#[ex,g.lay hn,.tup (.of aA) #v[.int,((d.mono e).is f q1).mono ex]]
 ·(dsimp only[MI.at,qF]at hi;simp only[NV,OX,Ni,Ul]at hi)
  show(d.mono e).out hi
def xh:bootBuiltins "enumerate" = aB (.type "enumerate"):=rfl
def Ds {g:Nb NF}{f:FA}(u:Gl X "enumerate")(v:X.mg "enumerate" = ba)(r:GA X [a] f)(y:starEach [a] X.env=[(false,eval a X.env)]) :
  GI X (.Tuple g k0 L) (.Call (.Name "enumerate" p) [a] [] pos) (Dr f):=by
 intro J s Y H R I ⟨A,Z,S,mi,S',n,E,e,w⟩;unfold Dr at e;split at e
 next x S1 q=>
  split at e
  next xs m=>
   cases e;show Call_ (jk I u v xh (PU (bd (r pos J s Y H _ I #[A,Z,S,_,_,n,E,q,λ_ _ z=>z]) λus c #[vs,H1,I1,r1,A1,z1,z2,z3]=>?_) (by rw[y];rfl) (by rfl)))
   cases z3 with
   |cons D t=>
    cases t;cases r1 with
    |cons M t=>
     cases t;obtain⟨k,P,O,N,B,l,ka,C,G⟩:=oJ I1 D M m;show w9 B l C λh' i o kp=>?_
     have j:Inv X J Y H1 {c with heap:=h'}:=I1.kept (t':=c.toks) kp
     show UQ (s:={c with heap:=h'}) i ?_
     show#[⇑c.heap.objs+1,_,_,_,H1,rfl,j,xg (S1:=k) (i1:=⇑c.heap.objs) (by simp),#[#[_,i],G _ _ o],λb h=>?_,w _ _ A1 z1 z2 (z7 N)]
     have d:⇑c.heap.objs<=b:=by
      simp only[NE,Oc,Pk]at h;rcases h with rfl|rfl
      ·show P4 _ _
      ·show Ny _
     show I1.fpOk d (I1.hok.fresh d)
  ·cases e
 ·cases e
end
abbrev z8 (X:Cx)(x:Nu)(w:W):Prop:=∃v u,X.mg x=aB u/\RelV v u/\∀A H,Rel X.K A H w v
def GK (b:Gl X x)(hd:(x==("__debug__"))=false)(h:z8 X x w):GE X (.Name x pos) (fC w):=by
 obtain⟨v,u,c,r,a⟩:=h;show eR (nH b c r hd) a
abbrev Dt (a b:Nb W->aa->Nf (W×aa))(xs:Nb W)(S:aa):Nf (W×aa):=match a xs S with
 |some r=>aB r
 |none=>b xs S
def qG {f:Nd}(h:LCall X f a)(h2:LCall X f b):LCall X f (Dt a b):=by
 intro J s Y H A S xs vs us w S' I g c d e;unfold Dt at e;split at e
 next r i=>cases e;show h _ s Y H A S xs vs us w S' I g c d i
 ·show h2 _ s Y H A S xs vs us w S' I g c d e
inductive Bi where|len|str|list|tuple|int|set|sorted|abs|all|min
 deriving QG
abbrev Bi.fn:Bi->Nb W->aa->Nf (W×aa)
 |.len=>Dt qk Do|.str=>C9|.list=>Dt mO mU|.tuple=>lw|.int=>Jn|.set=>nY|.sorted=>iF|.abs=>Jm|.all=>Go|.min=>zj
abbrev Bi.name:Bi->Nu
 |.len=>"len"|.str=>"str"|.list=>"list"|.tuple=>"tuple"|.int=>"int"|.set=>"set"|.sorted=>"sorted"|.abs=>"abs"|.all=>"all"|.min=>"min"
inductive Me where|append|extend|join
 deriving QG
abbrev Me.fn:Me->W->Nb W->aa->Nf (W×aa)
 |.append=>iE|.extend=>ky|.join=>uE
abbrev Me.name:Me->Nu
 |.append=>"append"|.extend=>"extend"|.join=>"join"
abbrev Me.ty:Me->OV
 |.append=>"list"|.extend=>"list"|.join=>"str"
inductive Tg where
 |nm (i:Np)|tp (is:Nb Np)
set_option genSizeOf false in
set_option genInjectivity false in
mutual
inductive E where
 |c (w:W)|v (i:Np)|sem (g:FE)
 |op (o:BOp) (a b:E)
 |cmp (o:COp) (a b:E)
 |and (a b:E)|or (a b:E)|not (a:E)
 |own (f:Nu) (n:Np) (es:Es)|bi (b:Bi) (es:Es)|me (m:Me) (o:E) (es:Es)
 |ix (a b:E)|sl (a:E) (lo hi:Ep)|tup (es:Es)|lst (es:Es)
 |isi (c:OV) (a:E)
 |neg (a:E)|dnew|chn (o o':COp) (a b d:E)|ite (t a b:E)
 |comp (elt:E) (tg:Tg) (it:Ie) (cs:Es) (cap:Nb (Nf Np))
inductive Es where
 |nil|cons (e:E) (es:Es)
inductive Ep where
 |no|yes (e:E)
inductive Ie where
 |seq (e:E)|rng (es:Es)|zip (es:Es)|enu (es:Es)
end
set_option genSizeOf false in
set_option genInjectivity false in
mutual
inductive Sm where
 |sem (g:(Nu->FF)->FS)|set (i:Np) (e:E)|asg (is:Nb Np) (e:E)|put (o k e:E)
 |ex (e:E)|ret (e:E)|pass|bad
 |ite (t:E) (a b:Ss)|whl (t:E) (b:Ss)|loop (tg:Tg) (it:Ie) (b:Ss)
inductive Ss where
 |nil|cons (s:Sm) (ss:Ss)
end
abbrev rO:Tg->FG
 |.nm i=>EN i
 |.tp is=>Iy is
section
variable (M:Nu->FF)
mutual
def aF:E->FE
 |.c w=>fC w
 |.v i=>fV i
 |.sem g=>g
 |.op o a b=>CS (gT o) (aF a) (aF b)
 |.cmp o a b=>CT o (aF a) (aF b)
 |.and a b=>uS (aF a) (aF b)
 |.or a b=>CW (aF a) (aF b)
 |.not a=>uT (aF a)
 |.own f n es=>iG n (M f) (bW es)
 |.bi b es=>jT b.fn (bW es)
 |.me m o es=>Ix m.ty m.fn (aF o) (bW es)
 |.ix a b=>LH (aF a) (aF b)
 |.sl a lo hi=>Jt (aF a) (uY lo) (uY hi)
 |.tup es=>wW (bW es)
 |.lst es=>zG (bW es)
 |.isi c a=>zP c (aF a)
 |.neg a=>zr (aF a)
 |.dnew=>EO
 |.chn o o' a b d=>fI o o' (aF a) (aF b) (aF d)
 |.ite t a b=>CY (cu t) (aF a) (aF b)
 |.comp elt tg it cs cap=>lD (ip it) (rO tg) (ES cs) (aF elt) cap
def cu:E->FT
 |.cmp o a b=>qp (CT o (aF a) (aF b))
 |.and a b=>zy (cu a) (cu b)
 |.or a b=>Js (cu a) (cu b)
 |.not a=>CU (cu a)
 |.c w=>eS (fC w)
 |.v i=>eS (fV i)
 |.sem g=>eS g
 |.op o a b=>eS (CS (gT o) (aF a) (aF b))
 |.own f n es=>eS (iG n (M f) (bW es))
 |.bi b es=>eS (jT b.fn (bW es))
 |.me m o es=>eS (Ix m.ty m.fn (aF o) (bW es))
 |.ix a b=>eS (LH (aF a) (aF b))
 |.sl a lo hi=>eS (Jt (aF a) (uY lo) (uY hi))
 |.tup es=>eS (wW (bW es))
 |.lst es=>eS (zG (bW es))
 |.isi c a=>eS (zP c (aF a))
 |.neg a=>eS (zr (aF a))
 |.dnew=>λ_ _=>ba
 |.chn o o' a b d=>qp (fI o o' (aF a) (aF b) (aF d))
 |.ite _ _ _=>λ_ _=>ba
 |.comp _ _ _ _ _=>λ_ _=>ba
def bW:Es->FA
 |.nil=>gA
 |.cons e es=>b6 (aF e) (bW es)
def ES:Es->FT
 |.nil=>EQ
 |.cons e .nil=>cu e
 |.cons _ (.cons _ _)=>λ_ _=>ba
def uY:Ep->FO
 |.no=>Gv
 |.yes e=>uU (aF e)
def ip:Ie->FI
 |.seq e=>cU (aF e)
 |.rng es=>oH (bW es)
 |.zip es=>zX (bW es)
 |.enu es=>Dr (bW es)
end
variable (fuel:Np)
mutual
def cj:Sm->FS
 |.sem g=>g M
 |.set i e=>jv (aF M e) (EN i)
 |.asg is e=>jv (aF M e) (Iy is)
 |.put o k e=>jv (aF M e) (C5 (aF M o) (aF M k))
 |.ex e=>oE (aF M e)
 |.ret e=>qv (aF M e)
 |.pass=>zJ
 |.bad=>λ_ _=>ba
 |.ite t a b=>ly (cu M t) (bS a) (bS b)
 |.whl t b=>lA (cu M t) (bS b) fuel
 |.loop tg it b=>zN (ip M it) (rO tg) (bS b)
def bS:Ss->FS
 |.nil=>λZ S=>aB (.nx Z,S)
 |.cons s ss=>ko (cj s) (bS ss)
end
end
structure Gam where
 sc:Nb (Nu×O0)
 N:Nb Nu
 fns:Nb (Nu×Np)
 blt:Nb Nu
 dfn:ND
 own:Nb Nu
 cst:Nb (Nu×W)
abbrev GL:Nf O0->ND
 |some .local=>true|some .cell=>true|some .free=>true|_=>false
abbrev Du:Nf O0->ND
 |some .cell=>true|some .free=>true|_=>false
abbrev fN (names outer:Nb (Nu×O0)):Nb (Nu×O0):=names.map λ(n,k)=>if (k==.free&&outer.lookup n==aB .cell)then(n,.cell)else(n,k)
abbrev slot (Γ:Gam)(x:Nu):Nf Np:=if GL (Γ.sc.lookup x) && !(x==("__debug__": Nu)) && !(x==("__classdict__": Nu))then Γ.N.findIdx? (· == x)else ba
abbrev uZ:Uu->Nf BOp
 |.Add=>aB .add|.Sub=>aB .sub|.Mult=>aB .mul|.FloorDiv=>aB .fdiv|.Mod=>aB .mod|.Pow=>aB .pow|_=>ba
abbrev gG:Uv->Nf COp
 |.Eq=>aB .eq|.NotEq=>aB .ne|.Lt=>aB .lt|.LtE=>aB .le|.Gt=>aB .gt|.GtE=>aB .ge|.In=>aB .isin|.NotIn=>aB .notin|.Is=>aB .is|.IsNot=>aB .isnot
abbrev Dv (x:Nu):Nf Bi:=[Bi.len,.str,.list,.tuple,.int,.set,.sorted,.abs,.all,.min].find? λb=>b.name==x
abbrev Dw (x:Nu):Nf Me:=[Me.append,.extend,.join].find? λb=>b.name==x
abbrev ET (Γ:Gam)(x:Nu):ND:=Γ.sc.lookup x==aB .globalImplicit && !(x==("__debug__": Nu))
abbrev m7 (x:Nu):Nf OV:=if x==("bool": Nu)then aB "bool" else if x==("int": Nu)then aB "int" else if x==("str": Nu)then aB "str" else if x==("tuple": Nu)then aB "tuple" else if x==("list": Nu)then aB "list" else if x==("dict": Nu)then aB "dict" else ba
abbrev GM (Γ:Gam)(f:NF->Nf E):Nb NF->Nf E
 |[a,.Name c _]=>if ET Γ c&&Γ.blt.contains c then match m7 c,f a with
  |some d,aB b=>aB (.isi d b)
  |_,_=>ba
  else ba
 |_=>ba
abbrev fZ:NF->ND
 |.Name _ _=>true|.Constant _ _ _=>true|.Subscript _ _ _=>true|_=>false
abbrev bL (Γ:Gam)(x:Nu):ND:=Γ.sc.lookup x==aB .globalImplicit && !(x==("__debug__": Nu))
abbrev bB (Γ:Gam)(x:Nu):Nf Np:=if (Γ.sc.lookup x==aB .local)||((Γ.dfn||Γ.own.contains x)&&Γ.sc.lookup x==aB .cell)then Γ.N.findIdx? (· == x)else ba
abbrev cA (f:NF->Nf E)(d:Nb NF):Nf Es:=d.foldr (λe a=>match f e,a with|some c,aB b=>aB (.cons c b)|_,_=>ba) (aB .nil)
abbrev cB (f:NF->Nf E)(e:VT):Nb NF->Nf E
 |[]=>ba
 |[a]=>f a
 |a::b::aO=>match f a,cB f e (b::aO)with
  |some c,aB d=>aB (match e with|.And=>.and c d|.Or=>.or c d)
  |_,_=>ba
abbrev cP (f:NF->Nf E):Nf NF->Nf Ep
 |none=>aB .no
 |some e=>(f e).map .yes
abbrev isTup:NF->ND
 |.Tuple _ _ _=>true
 |_=>false
abbrev cI (Γ:Gam)(f:NF->Nf E)(tg:NF):NF->Nf Ie
 |.Call (.Name x p) [a] [] q=>if x==("range": Nu)&&bL Γ x&&Γ.blt.contains x then(cA f [a]).map .rng else if x==("enumerate": Nu)&&bL Γ x&&Γ.blt.contains x&&isTup tg then(cA f [a]).map .enu else(f (.Call (.Name x p) [a] [] q)).map .seq
 |.Call (.Name x p) [a,b] [] q=>if x==("zip": Nu)&&bL Γ x&&Γ.blt.contains x&&isTup tg then(cA f [a,b]).map .zip else(f (.Call (.Name x p) [a,b] [] q)).map .seq
 |e=>(f e).map .seq
abbrev GN (Γ:Gam):Nb NF->Nf (Nb Np)
 |[]=>aB []
 |.Name x _::ts=>match bB Γ x,GN Γ ts with
  |some i,aB is=>aB (i::is)
  |_,_=>ba
 |_::_=>ba
abbrev cT (Γ:Gam):NF->Nf Tg
 |.Name x _=>(bB Γ x).map .nm
 |.Tuple ts _ _=>(GN Γ ts).map .tp
 |_=>ba
abbrev gH (names:Nb (Nu×O0)):Nb Nu:=(names.filter λp=>p.2==.local||p.2==.cell||p.2==.free).map (·.1)
abbrev iI (Γ:Gam)(names:Nb (Nu×O0)):Nb (Nf Np):=(gH names).map λx=>if names.lookup x==aB .local||names.lookup x==aB .cell then ba else Γ.N.findIdx? (· == x)
abbrev z9 (Γ:Gam)(scope:PX):ND:=
 (scope.kind==.function)&&scope.names.all (λy=>!(y.2==.local)||scope.names.lookup y.1==aB .local)&&scope.names.all (λy=>!(y.2==.cell)||scope.names.lookup y.1==aB .cell) &&
 scope.names.all (λy=>!(y.2==.free)||(Du (Γ.sc.lookup y.1)&&scope.names.lookup y.1==aB .free&&(Γ.N.findIdx? (· == y.1)).isSome))&&decide (gH scope.names).Nodup
abbrev lF (Γ:Gam)(scope:PX):Gam:={Γ with sc:=fN scope.names Γ.sc,N:=gH scope.names,dfn:=false,own:=(scope.names.filter λp=>p.2==.cell).map (·.1)}
abbrev Aa (f:NF->Nf E)(b:Nb (Nf NF))(a:Nb NF):Nf E:=
 if b.isEmpty&&a.isEmpty then aB .dnew
 else ba
abbrev cE:Np->Gam->NF->Nf E
 |0,_,_=>ba
 |n+1,Γ,e=>match e with
  |.Constant (.int i) _ _=>aB (.c (.int i))
  |.Constant (.str x) _ _=>aB (.c (.str x))
  |.Constant (.bool b) _ _=>aB (.c (.bl b))
  |.Constant .none _ _=>aB (.c .non)
  |.Name x _=>match slot Γ x with
   |some i=>aB (.v i)
   |none=>if bL Γ x then(Γ.cst.lookup x).map .c else ba
  |.BinOp a j b _=>match uZ j,cE n Γ a,cE n Γ b with
   |some o,aB c,aB g=>aB (.op o c g)
   |_,_,_=>ba
  |.UnaryOp .Not a _=>(cE n Γ a).map .not
  |.UnaryOp .USub a _=>(cE n Γ a).map .neg
  |.BoolOp j vs _=>cB (cE n Γ) j vs
  |.Compare a [j] [b] _=>match gG j,cE n Γ a,cE n Γ b with
   |some o,aB c,aB g=>aB (.cmp o c g)
   |_,_,_=>ba
  |.Compare a [j,w] [b,d] _=>match gG j,gG w,cE n Γ a,cE n Γ b,cE n Γ d with
   |some o,aB o',aB c,aB g,aB d'=>aB (.chn o o' c g d')
   |_,_,_,_,_=>ba
  |.IfExp t a b _=>match cE n Γ t,cE n Γ a,cE n Γ b with
   |some t',aB c,aB g=>aB (.ite t' c g)
   |_,_,_=>ba
  |.Call (.Name f _) args [] _=>if bL Γ f then match Γ.fns.lookup f with
    |some k=>(cA (cE n Γ) args).map (.own f k)
    |none=>if f==("isinstance": Nu)then(if Γ.blt.contains f then GM Γ (cE n Γ) args else ba)else match Dv f,args with
     |some b,a::as=>if Γ.blt.contains f then(cA (cE n Γ) (a::as)).map (.bi b)else ba
     |_,_=>ba
   else ba
  |.Call (.Attribute o m apos) (a::as) [] cpos=>match Dw m,cE n Γ o,cA (cE n Γ) (a::as)with
   |some A,aB o',aB l=>if fZ o&&(apos.endLine==cpos.line)&&decide ((a::as).length<29)then aB (.me A o' l)else ba
   |_,_,_=>ba
  |.Subscript a (.Slice lo hi ba _) _=>match cE n Γ a,cP (cE n Γ) lo,cP (cE n Γ) hi with
   |some c,aB v,aB u=>aB (.sl c v u)
   |_,_,_=>ba
  |.Subscript a b _=>match cE n Γ a,cE n Γ b with
   |some c,aB g=>aB (.ix c g)
   |_,_=>ba
  |.Tuple l _ _=>(cA (cE n Γ) l).map .tup
  |.List l _=>(cA (cE n Γ) l).map .lst
  |.Dict q h _=>Aa (cE n Γ) q h
  |.ListComp s [#[tg,iter,p,r]] scope _=>if (r==0)&&(z9 Γ scope&&decide (↥p<=1))then
    match cI Γ (cE n Γ) tg iter,cT (lF Γ scope) tg,cA (cE n (lF Γ scope)) p,cE n (lF Γ scope) s with
    |some it,aB t,aB y,aB z=>aB (.comp z t it y (iI Γ scope.names))
    |_,_,_,_=>ba
   else ba
  |_=>ba
structure CtxOk (M:Nu->FF)(X:Cx)(Γ:Gam):Prop where
 names:X.env.scope.names=Γ.sc
 kind:X.env.scope.kind=.function
 N:X.N=Γ.N
 nd:Γ.N.Nodup
 calm:X.calm=true
 xe:RW (model X.prog X.w) X.A X.env X.xe
 un:X.A.units+ee<cLine
 dfn:Γ.dfn=true->∀x,X.fn x=true
 own:∀x∈Γ.own,X.fn x=true
 blt:∀x∈Γ.blt,X.mg x=ba
 cst:∀x w,Γ.cst.lookup x=aB w->z8 X x w
 fns:∀f n,Γ.fns.lookup f=aB n->∃k fa fd ps,FnOk X.prog X.w X.K X.mg X.base kj k fa fd ps (spF X.w X.K n (M f))/\Room k X.A/\X.mg f=aB (.ref fa)/\OI X.K (.ref fa)=true/\Binds X.K fd ps []
abbrev dX:NF->ND
 |.Starred _ _=>false
 |_=>true
def az {e:NF}(h:dX e=true):starEach (e::a) env=(false,eval e env)::starEach a env:=by
 cases e<;>first|rfl|cases h
def aU :∀{a:Nb NF},a.all dX=true->(backTo pos (starEach a env)).any (·.1)=false
 |[],_=>rfl
 |e::a,h=>by
  rw[OA,Nj]at h;rw[az h.1];show(false||(backTo pos _).any _)=false
  rw[aU h.2];rfl
def qH :∀{a:Nb NF},a.all dX=true->(backTo pos (starEach a env)).all (λx=>!x.1)=true
 |[],_=>rfl
 |e::a,h=>by
  rw[OA,Nj]at h;rw[az h.1];show(true&&(backTo pos _).all (λx=>!x.1))=true
  rw[qH h.2];rfl
def jy {e:NF}(h:cE n Γ e=aB a):dX e=true:=by
 cases n with
 |zero=>cases h
 |succ n=>cases e<;>first|rfl|(show af h)
def iJ {f:NF->Nf E}{e:NF}(h:cA f (e::c)=aB r):∃b a,f e=aB b/\cA f c=aB a/\r=.cons b a:=by
 (dsimp only[cA]at h;simp only[Vv]at h)
 split at h
 next b a d h2=>cases h;show#[b,a,d,h2,rfl]
 ·cases h
def bO :∀{a:Nb NF}{r:Es},cA (cE n Γ) a=aB r->a.all dX=true
 |[],_,_=>rfl
 |e::a,r,h=>by
  obtain⟨d,b,c,h2,_⟩:=iJ h;rw[OA,jy c,bO h2];rfl
def b7 {N:Nb Nu}(h:N.findIdx? (· == x)=aB i):N[i]?=aB x:=by
 obtain⟨hl,a,_⟩:=Rf.mp h;rw[Nt hl];show congrArg _ (eq_of_beq a)
variable{M:Nu->FF}{Γ:Gam}
def oK {e:NF}:GT X e (λ_ _=>ba):=λJ s Y H Q I #[A,Z,S,k,S',er,so,e1,hq]=>by cases e1
def qI (h:GL (X.env.scope.names.lookup x)=true):KQ X.env.scope x:=by
 unfold GL at h;split at h
 ·show .inl (by assumption)
 ·show .inr (.inl (by assumption))
 ·show .inr (.inr (by assumption))
 ·cases h
def Ab (K:CtxOk M X Γ)(h:slot Γ x=aB i):GE X (.Name x pos) (fV i):=by
 unfold slot at h;split at h
 next hc=>rw[Nj,Nj]at hc;obtain⟨⟨a,h2⟩,b⟩:=hc;show wR (gO (by rw[K.N];show b7 h) (qI (by rw[K.names];show a)) (by simpa using h2) (by simpa using b))
 ·cases h
def fO (K:CtxOk M X Γ)(h:bL Γ x=true):Gl X x/\(x==("__debug__"))=false:=by
 unfold bL at h;rw[Nj]at h;show#[?_,by simpa using h.2]
 change X.env.scope.names.lookup x=_;rw[K.names];show eq_of_beq h.1
def iK (h:gG o=aB c):c.py=o:=by
 cases o<;>((dsimp only[gG]at h;simp only[NV]at h);subst h;rfl)
def Ac (h:uZ o=aB c):c.py=o:=by
 cases o<;>simp only[uZ,NV]at h<;>first|(subst h;rfl)|cases h
def xj (h:Dv x=aB b):b.name=x:=by
 have:=Vw h;show eq_of_beq this
def xn (h:Dw x=aB b):b.name=x:=by
 have:=Vw h;show eq_of_beq this
def cD (ih:∀{e:NF}{a:E},cE n Γ e=aB a->GE X e (aF M a)):∀{b:Nb NF}{r:Es},cA (cE n Γ) b=aB r->GA X b (bW M r)
 |[],r,h=>by cases h;show sG
 |e::b,r,h=>by
  obtain⟨a,d,c,h2,rfl⟩:=iJ h;show kC (ih c) (cD ih h2) (az (jy c))
def JE (K:CtxOk M X Γ){f:Nu}(m:bL Γ f=true)(l:Γ.fns.lookup f=aB k)(e:cA (cE n Γ) args=aB r)(h:GA X args (bW M r)):GE X (.Call (.Name f p) args [] pos) (iG k (M f) (bW M r)):=by
 obtain⟨d,fa,fd,ps,F,j,i,hk,g⟩:=K.fns f k l;obtain⟨b,c⟩:=fO K m;cases args with
 |nil=>cases e;show C3 F j b i hk g c
 |cons a as=>
  have ns:=bO e;rw[OA,Nj]at ns;show Gw F j b i hk g h c (az ns.1) (aU ns.2)
def LJ (K:CtxOk M X Γ){f:Nu}(o:bL Γ f=true)(m:Dv f=aB b)(hc:Γ.blt.contains f=true)(l:cA (cE n Γ) (a::as)=aB r)(h:GA X (a::as) (bW M r)):GE X (.Call (.Name f p) (a::as) [] pos) (jT b.fn (bW M r)):=by
 obtain⟨c,d⟩:=fO K o;have i:X.mg f=ba:=K.blt f (by simpa using hc)
 have ns:=bO l;rw[OA,Nj]at ns;have e:=xj m;subst e;have k:X.A.units+12<cLine:=by have:=K.un;have:ee=20:=rfl;omega
 have calm:∀{f:Nd}{g:Nb W->aa->Nf (W×aa)},(X.A.handled=ba->LCall X f g)->LCall X f g:=λh J s Y H A S xs vs us w S' I=>h (I.ok.hd K.calm) J s Y H A S xs vs us w S' I
 cases b with
 |len=>show qr (qG sJ sK) c i PySem.boot_len h #v[] d (az ns.1) (aU ns.2)
 |list=>show qt (calm λj=>qG (pV j) (qm j)) c i rfl h #v[] d (az ns.1) (aU ns.2)
 |tuple=>show qt (calm oB) c i rfl h #v[] d (az ns.1) (aU ns.2)
 |str=>show qt w6 c i rfl h #v[] d (az ns.1) (aU ns.2)
 |int=>show qt wu c i rfl h #v[] d (az ns.1) (aU ns.2)
 |set=>show qt (calm wy) c i rfl h #v[] d (az ns.1) (aU ns.2)
 |sorted=>show qr (calm λj=>ou j k) c i rfl h #v[] d (az ns.1) (aU ns.2)
 |abs=>show qr wt c i rfl h #v[] d (az ns.1) (aU ns.2)
 |all=>show qr (calm wQ) c i rfl h #v[] d (az ns.1) (aU ns.2)
 |min=>show qr (calm λj=>wL j k) c i rfl h #v[] d (az ns.1) (aU ns.2)
def qJ (h:m7 x=aB c):bootBuiltins x=aB (.type c)/\x≠"__name__":=by
 unfold m7 at h;split at h
 next e=>cases h;rw[eq_of_beq e];show#[rfl,#v[]]
 ·split at h
  next e=>cases h;rw[eq_of_beq e];show#[rfl,#v[]]
  ·split at h
   next e=>cases h;rw[eq_of_beq e];show#[rfl,#v[]]
   ·split at h
    next e=>cases h;rw[eq_of_beq e];show#[rfl,#v[]]
    ·split at h
     next e=>cases h;rw[eq_of_beq e];show#[rfl,#v[]]
     ·split at h
      next e=>cases h;rw[eq_of_beq e];show#[rfl,#v[]]
      ·cases h
def JF (K:CtxOk M X Γ){f:Nu}(u:bL Γ f=true)(t:(f==("isinstance"))=true)(hc:Γ.blt.contains f=true)(ih:∀{e:NF}{j:E},cE n Γ e=aB j->GE X e (aF M j))(h:GM Γ (cE n Γ) args=aB r) :
  GE X (.Call (.Name f p) args [] pos) (aF M r)/\∃a c,r=.isi c a:=by
 obtain⟨l,w⟩:=fO K u;have v:=K.blt f (by simpa using hc)
 have e:=eq_of_beq t;subst e;rcases args with _|⟨a,_|⟨k,_|_⟩⟩
 ·show af h
 ·show af h
 ·cases k with
  |Name c q=>
   replace h:(if ET Γ c&&Γ.blt.contains c then match m7 c,cE n Γ a with|some g,aB d=>aB (E.isi g d)|_,_=>ba else ba)=aB r:=h
   split at h
   next b=>
    rw[Nj]at b;obtain⟨m,o⟩:=fO K  b.1;have i:=K.blt c (by simpa using b.2)
    split at h
    next g d s h2=>cases h;obtain⟨b1,b2⟩:=qJ s;show#[zQ l v m i b1 b2 o (ih h2) (az (jy h2)),d,g,rfl]
    ·cases h
   ·cases h
  |_=>show af h
 ·cases k<;>show af h
def jA (h:fZ o=true):attributeBase o name env (eval o env)=eval o env:=by
 cases o<;>first|rfl|cases h
def LK (K:CtxOk M X Γ)(i:Dw m=aB b)(d:fZ o=true)(hl:(apos.endLine==cpos.line)=true)(j:(a::as).length<29)(c:GE X o (aF M o'))(g:cA (cE n Γ) (a::as)=aB r)(h:GA X (a::as) (bW M r)) :
  GE X (.Call (.Attribute o m apos) (a::as) [] cpos) (Ix b.ty b.fn (aF M o') (bW M r)):=by
 have ns:=bO g;have f:=ns;rw[OA,Nj]at ns;have few:((backTo cpos (starEach (a::as) X.env)).all (λx=>!x.1)&&(backToKw cpos (keywordEach [] X.env)).all (λx=>x.1.isSome)&&decide ((a::as).length+([]:Nb Uy).length+(if ([]:Nb Uy).isEmpty then 0 else 1)<30))=true:=by
  rw[qH f,P1,Nj];show#[rfl,N4 (by revert Qc List.isEmpty_nil Qv;omega)]
 have e:=xn i;subst e;cases b with
 |append=>show zI SD PySem.F.slot_list_append PySem.F.type_list_append nW c h (jA d) few hl (az ns.1) (aU ns.2)
 |extend=>show zI SD PySem.F.slot_list_extend PySem.F.type_list_extend nX c h (jA d) few hl (az ns.1) (aU ns.2)
 |join=>show zI PySem.F.plainAttrs_str PySem.F.slot_str_join PySem.F.type_str_join sA c h (jA d) few hl (az ns.1) (aU ns.2)
def iL {e:NF}(h:cE n Γ e=aB a):behindInMarks b e=false:=by
 cases n with
 |zero=>cases h
 |succ n=>cases e<;>first|rfl|(show af h)
def sN {e:NF}(h:cE n Γ e=aB a):nM e:=by
 cases n with
 |zero=>cases h
 |succ n=>cases e<;>first|(intro o i;rfl)|(show af h)
def oM {n:Np}{f:NF->Nf E}{e:NF}(b:∀a k p,f (.Set a k p)=ba)(h:cI Γ f tg e=aB i):∀x,foldedSetIterable e env x=pure x:=by
 intro x;cases e<;>first|rfl|((dsimp only[cI]at h;simp[b]at h))
def oN (ih:∀{e:NF}{d:E},cE n Γ e=aB d->GE X e (aF M d)):∀{vs:Nb NF}{r:E},cB (cE n Γ) c vs=aB r->GE X (.BoolOp c vs pos) (aF M r)
 |[],r,h=>by cases h
 |[a],r,h=>zD (ih h)
 |a::b::aO,r,h=>by
  simp only[cB]at h;split at h
  next g i f h2=>
   cases h;cases c with
   |And=>show zE (ih f) (oN ih h2)
   |Or=>show EM (ih f) (oN ih h2)
  ·cases h
def oO (ih:∀{e:NF}{d:E},cE n Γ e=aB d->GT X e (cu M d)):∀{vs:Nb NF}{r:E},cB (cE n Γ) c vs=aB r->GW X (.BoolOp c vs pos) (cu M r)
 |[],r,h=>by cases h
 |[a],r,h=>by
  cases c with
  |And=>show uR (ih h)
  |Or=>show zA (ih h)
 |a::b::aO,r,h=>by
  simp only[cB]at h;split at h
  next g i f h2=>
   cases h;cases c with
   |And=>show zB (ih f) (oO ih h2)
   |Or=>show EK (ih f) (oO ih h2)
  ·cases h
def Ad (ih:∀{e:NF}{a:E},cE n Γ e=aB a->GE X e (aF M a)){p:Ep}(h:cP (cE n Γ) o=aB p):GO X o (uY M p):=by
 cases o with
 |none=>cases h;show CZ
 |some e=>
  (dsimp only[cP]at h;simp only[Nk]at h)
  obtain⟨a,b,rfl⟩:=h;show C0 (ih b)
def sO (K:CtxOk M X Γ)(ih:∀{e:NF}{k:E},cE n Γ e=aB k->GE X e (aF M k)){ e:NF}(h:cI Γ (cE n Γ) tg e=aB i):GI X tg e (ip M i):=by
 have d:(cE n Γ e).map Ie.seq=aB i->GI X tg e (ip M i):=λh=>by
  rw[Nk]at h;obtain⟨k,f,rfl⟩:=h;show Dm (ih f)
 unfold cI at h;split at h
 next x p a pos=>
  split at h
  next hc=>rw[Nj,Nj]at hc;obtain⟨⟨f,h2⟩,g⟩:=hc;have j:=eq_of_beq f;subst j;rw[Nk]at h;obtain⟨r,c,rfl⟩:=h;have ns:=bO c;rw[OA,Nj]at ns;show Di (fO K h2).1 (K.blt _ (by simpa using g)) (cD ih c) (az ns.1)
  ·split at h
   next hc=>
    rw[Nj,Nj,Nj]at hc;obtain⟨⟨⟨f,h2⟩,g⟩,m⟩:=hc;have j:=eq_of_beq f;subst j;rw[Nk]at h;obtain⟨r,c,rfl⟩:=h;have ns:=bO c;rw[OA,Nj]at ns;cases tg with
    |Tuple l k0 o=>show Ds (fO K h2).1 (K.blt _ (by simpa using g)) (cD ih c) (az ns.1)
    |_=>cases m
   ·show d h
 next x p a b pos=>
  split at h
  next hc=>
   rw[Nj,Nj,Nj]at hc;obtain⟨⟨⟨f,h2⟩,g⟩,m⟩:=hc;have j:=eq_of_beq f;subst j;rw[Nk]at h;obtain⟨r,c,rfl⟩:=h;have ns:=bO c;rw[OA,OA,Nj,Nj]at ns;cases tg with
   |Tuple l k0 o=>show GJ (fO K h2).1 (K.blt _ (by simpa using g)) (cD ih c) (by rw[az ns.1,az ns.2.1];rfl) (az ns.2.1)
   |_=>cases m
  ·show d h
 ·show d h
def oP (K:CtxOk M X Γ)(h:bB Γ x=aB i):X.N[i]?=aB x/\x6 X.env.scope x/\(X.fn x=true\/X.env.scope.names.lookup x=aB .local):=by
 unfold bB at h;split at h
 next hc=>
  show#[by rw[K.N];show b7 h,?_]
  unfold L2.x6;rw[K.names];rw[Pa,Nj]at hc;rcases hc with hc|⟨hd,hc⟩
  ·have:=eq_of_beq hc;show#[.inl this,.inr this]
  ·rw[Pa]at hd;show#[.inr (eq_of_beq hc),.inl (hd.elim (λhd=>K.dfn hd x) λhd=>K.own x (by simpa using hd))]
 ·cases h
def qK (K:CtxOk M X Γ):∀{ts:Nb NF}{is:Nb Np},GN Γ ts=aB is->(∀x∈ts,∃y p,x=TF y p)/\Th (λ t i=>∃x p,t=TF x p/\X.N[i]?=aB x/\x6 X.env.scope x/\(X.fn x=true\/X.env.scope.names.lookup x=aB .local)) ts is
 |[],is,h=>by cases h;show#[λx d=>by simp at d,.nil]
 |t::ts,is,h=>by
  cases t with
  |Name x p=>
   dsimp only[GN]at h;split at h
   next i g c h2=>cases h;obtain⟨a,b⟩:=qK K h2;show#[λy f=>(NE.mp f).elim (λe=>#[x,p,e]) (a y),.cons #[x,p,rfl,oP K c] b]
   ·cases h
  |_=>cases h
def g9 :∀{ts:Nb NF},(∀x∈ts,∃y p,x=TF y p)->(assignEach ts env).length=↥ts/\(assignEach ts env).findIdx? (·.1)=ba
 |[],_=>#[rfl,rfl]
 |t::ts,h=>by
  obtain⟨y,p,rfl⟩:=h t NH;obtain⟨a,b⟩:=g9  λx c=>h x (NL _ c)
  show#[by show(assignEach ts env).length+1=↥ts+1;rw[a],?_]
  change List.findIdx? _ ((false,assign _ env)::assignEach ts env)=ba;rw[List.findIdx?_cons,b];rfl
def qL (K:CtxOk M X Γ)(h:cT Γ tg=aB t):GG X tg (rO t):=by
 have e:X.N.Nodup:=by rw[K.N];show K.nd
 cases tg with
 |Name x p=>
  dsimp only[cT]at h;simp only[Nk]at h
  obtain⟨i,d,rfl⟩:=h;obtain⟨a,b,c⟩:=oP K d;show oG e a b c
 |Tuple ts k p=>
  dsimp only[cT]at h;simp only[Nk]at h
  obtain⟨is,d,rfl⟩:=h;obtain⟨a,b⟩:=qK K d;show Gy K.calm a b e (g9 a).1 (g9 a).2
 |_=>cases h
abbrev dY (env:RX):Nb (Nu×O0)->Nb (Nu×Nl)->Nb (Nu×Nl)
 |[],a=>a
 |(n,k)::r,a=>dY env r (if k==.free then(n,(env.cells.lookup n).getD 0)::a else a)
def jB :∀ names d,(∀y∈names,y.2=.free->(env.cells.lookup y.1).isSome=true)->
  (forIn names d λx r=>match x with|(name,kind)=>if (kind==QZ)=true then do let a <- cellOf env name;pure (Pn ((name,a)::r))else pure (Pn r):VZ (Nb (Nu×Nl)))=pure (dY env names d)
 |[],d,_=>by rfl
 |(n,k)::r,d,h=>by
  rw[RH];have e:=λy g=>h y (NL _ g)
  by_cases hk:(k==QZ)=true
  ·obtain⟨c,hc⟩:=Oq.mp (h _ NH (eq_of_beq hk));have f:cellOf env n=pure c:=by unfold cellOf;rw[hc]
   revert hk Qv f pure_bind;rw[jB r _ e];revert dY hk Qv hc U4
  ·have b:(k==QZ)=false:=by simpa using hk
   revert b Pw QX pure_bind;rw[jB r _ e];revert dY b Pw QX
def ku (h:∀y∈scope.names,y.2=.free->(env.cells.lookup y.1).isSome=true):closureFor scope env=pure (dY env scope.names []):=by
 have:=jB _ [] h;delta closureFor;revert this pure_bind
def lG :∀ names a,(∀y∈names,y.2=.free->(env.cells.lookup y.1).isSome=true)->(∀x c,a.lookup x=aB c->env.cells.lookup x=aB c)->
  ∀x c,(dY env names a).lookup x=aB c->env.cells.lookup x=aB c
 |[],a,_,h,x,c,e=>h x c e
 |(n,k)::r,a,b,h,x,c,e=>by
  show lG r _ (λy f=>b y (NL _ f)) (λx c e=>?_) x c e
  split at e
  next hk=>
   rw[Om]at e;split at e
   next d=>cases e;have:=eq_of_beq d;subst this;obtain⟨c,hc⟩:=Oq.mp (b _ NH (eq_of_beq hk));rw[hc];rfl
   ·show h x c e
  ·show h x c e
def jU :∀ names a,(∃c,a.lookup x=aB c)->∃c,(dY env names a).lookup x=aB c
 |[],a,h=>h
 |(n,k)::r,a,h=>by
  show jU r _ ?_;split
  ·rw[Om];split
   ·show#[_,rfl]
   ·show h
  ·show h
def lH :∀ names a,(x,QZ)∈names->∃c,(dY env names a).lookup x=aB c
 |[],a,h=>by simp at h
 |(n,k)::r,a,h=>by
  rcases NE.mp h with e|h
  ·cases e;show jU r _ ?_;simp[Om]
  ·show lH r _ h
def lI {k:O0}:∀{l:Nb (Nu×O0)},l.lookup x=aB k->(x,k)∈l
 |[],h=>by simp at h
 |(n,j)::r,h=>by
  rw[Om]at h;split at h
  next a=>cases h;have:=eq_of_beq a;subst this;show NH
  ·show NL _ (lI h)
def dZ (K:CtxOk M X Γ)(scope:PX):(relabel scope X.env).names=fN scope.names Γ.sc:=by
 unfold relabel fN VW;rw[K.kind,K.names];show O4 λ#[n,k] _=>?_
 have e:(Um==Um)=true:=rfl;revert e Wb
def dz :∀{names:Nb (Nu×O0)},(fN names outer).lookup x=(names.lookup x).map λk=>if (k==.free&&outer.lookup x==aB .cell)then .cell else k
 |[]=>rfl
 |(n,k)::r=>by
  have ih:=dz (outer:=outer) (x:=x) (names:=r);change QH x ((if (k==QZ&&outer.lookup n==aB _)=true then(n,QA)else(n,k))::fN r _)=_
  cases a:x==n with
  |true=>
   have:=eq_of_beq a;subst this;revert Om Ot OD;split<;>simp[Om]
  |false=>
   split<;>(revert Om a;show ih)
structure ScOk (Γ:Gam)(scope:PX):Prop where
 kind:scope.kind=.function
 names:∀y∈scope.names,y.2=.local->scope.names.lookup y.1=aB .local
 cell:∀y∈scope.names,y.2=.cell->scope.names.lookup y.1=aB .cell
 free:∀y∈scope.names,y.2=.free->Du (Γ.sc.lookup y.1)=true/\scope.names.lookup y.1=aB .free/\(Γ.N.findIdx? (· == y.1)).isSome=true
 nd:(gH scope.names).Nodup
def u4 (h:z9 Γ scope=true):ScOk Γ scope:=by
 unfold z9 at h;rw[Nj,Nj,Nj,Nj]at h;obtain⟨⟨⟨⟨b,h2⟩,c⟩,d⟩,f⟩:=h;show#[eq_of_beq b,λy a e=>?_,λy a e=>?_,λy a e=>?_,N3 f]
 ·have:=NB.mp h2 y a;rw[e]at this
  simpa using this
 ·have:=NB.mp c y a;rw[e]at this
  simpa using this
 ·have:=NB.mp d y a;rw[e]at this;simp only[Ot,T0,Sq,Nj]at this;show#[this.1.1,eq_of_beq this.1.2,this.2]
def u5 (h:Du o=true):o=aB .cell\/o=aB .free:=by
 unfold Du at h;split at h
 ·show .inl rfl
 ·show .inr rfl
 ·cases h
def m8 (K:CtxOk M X Γ)(ok:X.Ok)(sc:ScOk Γ scope):CompOk X scope (dY X.env scope.names []) (gH scope.names) (iI Γ scope.names):=by
 have a:∀y∈scope.names,y.2=.free->(X.env.cells.lookup y.1).isSome=true:=λy t e=>by
  have hk:=u5 (sc.free y t e).1;obtain⟨c,hc⟩:=ok.has y.1 (by unfold VW;rw[K.names];show hk)
  rw[hc];rfl
 have b:∀x,((relabel scope X.env).names.lookup x=aB .cell\/(relabel scope X.env).names.lookup x=aB .free)->(x,QA)∈scope.names\/(x,QZ)∈scope.names:=λx h=>by
  rw[dZ K,dz]at h;cases q:scope.names.lookup x with
  |none=>rw[q]at h;rcases h with h|h<;>cases h
  |some k=>
   rw[q]at h;have d:=lI q;cases k with
   |free=>show .inr d
   |cell=>show .inl d
   |_=>rcases h with h|h<;>simp at h
 show#[ku a,sc.kind,sc.names,lG _ _ a (λx c e=>by cases e),λm x h=>jx _ _ _ ((b x h).imp id λz=>lH _ _ z),by simp[iI],λi j x hi o=>?_]
 unfold iI at hi;rw[Nw,o]at hi;simp only[OD,NV]at hi;split at hi
 ·cases hi
 next hl=>
  have f:x∈gH scope.names:=NT o;unfold gH at f;obtain⟨⟨n,k⟩,s,e⟩:=NN.mp f;obtain⟨d,hk⟩:=OS.mp s;have p:n=x:=e;subst p;have l:k=.free:=by
   simp only[Pa]at hk;rcases hk with(hk|hk)|hk
   ·have:k=.local:=eq_of_beq hk;subst this;have:=sc.names (n,.local) d rfl;rw[this]at hl;simp at hl
   ·have:k=.cell:=eq_of_beq hk;subst this;have:=sc.cell (n,.cell) d rfl;rw[this]at hl;simp at hl
   ·show eq_of_beq hk
  subst l;obtain⟨r,g,u⟩:=sc.free _ d rfl;show#[by rw[K.N];show b7 hi,by unfold VW;rw[K.names];show u5 r,?_,λz=>by rw[sc.cell _ z rfl]at g;cases g]
  rw[dZ K,dz,g];revert OD NV Ot P1;split
  ·show .inl rfl
  ·show .inr rfl
def eu (K:CtxOk M X Γ)(sc:ScOk Γ scope)(C:Nl)(s0:Nh)(a:Hp)(ex:Nb Nl):CtxOk M (md X scope (dY X.env scope.names []) C (gH scope.names) s0 a ex) (lF Γ scope) where
 names:=dZ K scope
 kind:=sc.kind
 N:=rfl
 nd:=sc.nd
 calm:=K.calm
 xe:=RI
 un:=K.un
 dfn:=λh=>by cases h
 own:=λx h=>by
  obtain⟨⟨y,k⟩,d,e⟩:=NN.mp h;obtain⟨c,hk⟩:=OS.mp d;have b:y=x:=e;subst b;show Vb.mpr #[(y,k),c,by simpa using hk]
 blt:=K.blt
 cst:=K.cst
 fns:=K.fns
def qM {f:Es}(hl:↥b<=1)(hc:cA (cE n Γ) b=aB f)(ih:∀{e:NF}{d:E},cE n Γ e=aB d->GT a e (cu M d))(l:a.xe=λ_ _=>Oo) :
  ∀J s Y H Q,Inv a J Y H s->tT a (ES M f) Y H Q->
  wpAny (model a.prog a.w) a.A (forIn b true λc r=>if r=true then do let ok <- isTrue c a.env (eval c a.env);pure (Pn ok)else pure (Pn r)) (TP a J Y Q) (λ_ _=>Oo) s:=by
 intro J s Y H Q I h
 match b,hl,hc with
 |[],_,hc=>
  cases hc;obtain⟨A,Z,S,k,S',o,m,e,j⟩:=h;cases e;show wpAny_tests_nil #[H,I,j _ _ #[rfl,A,.refl,m]]
 |[c],_,hc=>
  obtain⟨d,g,i,h2,rfl⟩:=iJ hc;cases h2;have:=ih i _ s Y H Q I h;rw[l]at this;show wpAny_tests_one this
def bj:∀ n {Γ:Gam}{X:Cx}{e:NF}{u:E},CtxOk M X Γ->cE n Γ e=aB u->GE X e (aF M u)/\GT X e (cu M u):=by
 intro n
 induction n with
 |zero=>intro Γ X e u K h;cases h
 |succ n ih=>
  intro Γ X e u K h;have j:∀{e:NF}{u:E},cE n Γ e=aB u->GE X e (aF M u):=λq=>(ih K q).1
  have L:∀{e:NF}{u:E},cE n Γ e=aB u->GT X e (cu M u):=λq=>(ih K q).2
  have U:X.A.units+10<cLine:=by have:=K.un;have:ee=20:=rfl;omega
  cases e with
  |Constant c k p=>
   cases c<;>cases h
   all_goals first
    |show#[eR jj (λ_ _=>.non),aQ (eR jj (λ_ _=>.non)) λ_=>rfl]
    |show#[eR ud (λ_ _=>.bl),aQ (eR ud (λ_ _=>.bl)) λ_=>rfl]
    |show#[eR nF (λ_ _=>.int),aQ (eR nF (λ_ _=>.int)) λ_=>rfl]
    |show#[eR nG (λ_ _=>.str),aQ (eR nG (λ_ _=>.str)) λ_=>rfl]
  |Name x p=>
   replace h:(match slot Γ x with|some i=>aB (E.v i)|none=>if bL Γ x then(Γ.cst.lookup x).map E.c else ba)=aB u:=h
   split at h
   next i l=>cases h;show#[Ab K l,aQ (Ab K l) λ_=>rfl]
   ·split at h
    next R=>rw[Nk]at h;obtain⟨w,l,rfl⟩:=h;obtain⟨g1,g2⟩:=fO K R;have g:=GK (pos:=p) g1 g2 (K.cst x w l);show#[g,aQ g λ_=>rfl]
    ·cases h
  |BinOp a D b p=>
   replace h:(match uZ D,cE n Γ a,cE n Γ b with|some o,aB v,aB A=>aB (E.op o v A)|_,_,_=>ba)=aB u:=h
   split at h
   next o v A l h2 y=>cases h;have e:=Ac l;subst e;show#[EJ (uA o) (j h2) (j y),aQ (EJ (uA o) (j h2) (j y)) λ_=>rfl]
   ·cases h
  |UnaryOp D a p=>
   cases D with
   |Not=>
    replace h:(cE n Γ a).map E.not=aB u:=h;rw[Nk]at h;obtain⟨v,l,rfl⟩:=h;show#[zF (j l),zC (L l)]
   |USub=>
    replace h:(cE n Γ a).map E.neg=aB u:=h;rw[Nk]at h;obtain⟨v,l,rfl⟩:=h;show#[zt (j l),aQ (zt (j l)) λ_=>rfl]
   |_=>show af h
  |BoolOp D vs p=>
   replace h:cB (cE n Γ) D vs=aB u:=h;show#[oN j h,(oO L h).pt]
  |Compare a ops Z p=>
   match ops,Z,h with
   |[D],[b],h=>
    replace h:(match gG D,cE n Γ a,cE n Γ b with|some o,aB v,aB A=>aB (E.cmp o v A)|_,_,_=>ba)=aB u:=h
    split at h
    next o v A l h2 y=>cases h;have e:=iK l;subst e;show#[zu K.un (j h2) (j y) (iL y),zv K.un (j h2) (j y) (iL y)]
    ·cases h
   |[],_,h=>show af h
   |[_],[],h=>show af h
   |[_],_::_::_,h=>show af h
   |[D,op'],[b,d],h=>
    replace h:(match gG D,gG op',cE n Γ a,cE n Γ b,cE n Γ d with|some o,aB o',aB v,aB A,aB d'=>aB (E.chn o o' v A d')|_,_,_,_,_=>ba)=aB u:=h
    split at h
    next o o' v A d' l h2 y h4 h5=>cases h;have e:=iK l;subst e;have e:=iK h2;subst e;show#[zw K.un (j y) (j h4) (j h5) (iL h5),zx K.un (j y) (j h4) (j h5) (iL h5)]
    ·cases h
   |[_,_],[],h=>show af h
   |[_,_],[_],h=>show af h
   |[_,_],_::_::_::_,h=>show af h
   |_::_::_::_,_,h=>show af h
  |IfExp t a b p=>
   replace h:(match cE n Γ t,cE n Γ a,cE n Γ b with|some t',aB v,aB A=>aB (E.ite t' v A)|_,_,_=>ba)=aB u:=h
   split at h
   next t' v A l h2 y=>cases h;show#[Gr (L l) (j h2) (j y),oK]
   ·cases h
  |Call f args kws p=>
   cases kws with
   |cons _ _=>cases f<;>first|(show af h)|(cases args<;>(show af h))
   |nil=>
    cases f with
    |Name x q=>
     replace h:(if bL Γ x then match Γ.fns.lookup x with|some k=>(cA (cE n Γ) args).map (E.own x k)|none=>if x==("isinstance": Nu)then(if Γ.blt.contains x then GM Γ (cE n Γ) args else ba)else match (generalizing:=false) Dv x,args with|some b,a::as=>if Γ.blt.contains x then(cA (cE n Γ) (a::as)).map (E.bi b)else ba|_,_=>ba else ba)=aB u:=h
     split at h
     ·rename_i R;split at h
      next k hk=>rw[Nk]at h;obtain⟨r,T,rfl⟩:=h;have g:=JE (pos:=p) (p:=q) K R hk T (cD j T);show#[g,aQ g λ_=>rfl]
      ·split at h
       ·rename_i his;split at h
        next hc=>obtain⟨g,v,c',rfl⟩:=JF (pos:=p) (p:=q) K R his hc j h;show#[g,aQ g λ_=>rfl]
        ·cases h
       ·split at h
        ·rename_i bb a as hb;split at h
         next hc=>rw[Nk]at h;obtain⟨r,T,rfl⟩:=h;have g:=LJ (pos:=p) (p:=q) K R hb hc T (cD j T);show#[g,aQ g λ_=>rfl]
         ·cases h
        ·cases h
     ·cases h
    |Attribute o m q=>
     cases args with
     |nil=>show af h
     |cons a as=>
      replace h:(match Dw m,cE n Γ o,cA (cE n Γ) (a::as)with|some m',aB o',aB N=>if fZ o&&(q.endLine==p.line)&&decide ((a::as).length<29)then aB (E.me m' o' N)else ba|_,_,_=>ba)=aB u:=h
      split at h
      ·rename_i m' o' N l h2 y;split at h
       next hc=>rw[Nj,Nj,NZ]at hc;cases h;have g:=LK K (cpos:=p) (apos:=q) l hc.1.1 hc.1.2 hc.2 (j h2) y (cD j y);show#[g,aQ g λ_=>rfl]
       ·cases h
      ·cases h
    |_=>show af h
  |Subscript a b p=>
   have plain:(match cE n Γ a,cE n Γ b with|some v,aB A=>aB (E.ix v A)|_,_=>ba)=aB u->GE X (.Subscript a b p) (aF M u)/\GT X (.Subscript a b p) (cu M u):=λh=>by
    split at h
    next v A l h2=>cases h;have g:=Ju (pos:=p) U (j l) (j h2) (sN h2);show#[g,aQ g λ_=>rfl]
    ·cases h
   cases b with
   |Slice lo hi st q=>
    cases st with
    |none=>
     replace h:(match cE n Γ a,cP (cE n Γ) lo,cP (cE n Γ) hi with|some v,aB W,aB S=>aB (E.sl v W S)|_,_,_=>ba)=aB u:=h
     split at h
     next v W S l h2 y=>cases h;have g:=Jv (pos:=p) (p2:=q) (j l) (Ad j h2) (Ad j y);show#[g,aQ g λ_=>rfl]
     ·cases h
    |some z=>show plain h
   |_=>show plain h
  |Tuple N k p=>
   replace h:(cA (cE n Γ) N).map E.tup=aB u:=h;rw[Nk]at h;obtain⟨r,l,rfl⟩:=h;show#[sH (cD j l),aQ (sH (cD j l)) λ_=>rfl]
  |List N p=>
   replace h:(cA (cE n Γ) N).map E.lst=aB u:=h;rw[Nk]at h;obtain⟨r,l,rfl⟩:=h;show#[zH (cD j l),aQ (zH (cD j l)) λ_=>rfl]
  |Dict G B p=>
   replace h:Aa (cE n Γ) G B=aB u:=h;unfold Aa at h;split at h
   next hc=>cases h;rw[Nj]at hc;have k0:G=[]:=Vd.mp hc.1;have v0:B=[]:=Vd.mp hc.2;subst k0 v0;show#[Dk,oK]
   ·cases h
  |ListComp elt gens scope p=>
   match gens,h with
   |[#[tg,iter,V,P]],h=>
    replace h:(if (P==0)&&(z9 Γ scope&&decide (↥V<=1))then match cI Γ (cE n Γ) tg iter,cT (lF Γ scope) tg,cA (cE n (lF Γ scope)) V,cE n (lF Γ scope) elt with|some it,aB t,aB Z,aB el=>aB (E.comp el t it Z (iI Γ scope.names))|_,_,_,_=>ba else ba)=aB u:=h
    split at h
    ·rename_i hc;rw[Nj,Nj,NZ]at hc;have e0:P=0:=eq_of_beq hc.1;subst e0;replace hc:=hc.2;split at h
     ·rename_i it t Z el l h2 y h4;cases h;have sc:=u4 hc.1;show#[Dp K.calm (sO K j l) (λok=>#[_,m8 K ok sc,?_]) (oM (n:=n) (λel k p=>by cases n<;>rfl) l),oK]
      show#[λC s0 O ex=>qL (eu K sc C s0 O ex) h2,λC s0 O ex J s Y H Q I q=>?_,λC s0 O ex=>(ih (eu K sc C s0 O ex) h4).1]
      show qM hc.2 y (λz=>(ih (eu K sc C s0 O ex) z).2) rfl J s Y H Q I q
     ·cases h
    ·cases h
   |[],h=>show af h
   |#[_,_,_,_]::_::_,h=>show af h
  |_=>show af h
noncomputable abbrev aZ:Np:=30
abbrev EU:NF->ND
 |.Constant (.str _) _ _=>true
 |_=>false
abbrev jC:NF->ND
 |.ListComp _ _ _ _=>true
 |_=>false
abbrev u6:NF->ND
 |.Slice _ _ _ _=>true
 |_=>false
abbrev gI (f:OE->Nf Sm)(ss:Nb OE):Nf Ss:=ss.foldr (λs a=>match f s,a with|some c,aB b=>aB (.cons c b)|_,_=>ba) (aB .nil)
abbrev GP:NF->ND
 |.Tuple vs _ _=>vs.all (foldedForSure 8)
 |_=>false
abbrev GQ (Γ:Gam)(ts:Nb NF)(e:NF):Nf Sm:=if GP e then(match GN Γ ts,cE aZ Γ e with
 |some is,aB a=>aB (.asg is a)
 |_,_=>ba)else ba
abbrev cS:Np->Gam->OE->Nf Sm
 |0,_,_=>ba
 |n+1,Γ,st=>match st with
  |.Assign [.Name x _] e _=>match bB Γ x,cE aZ Γ e with
   |some i,aB d=>aB (.set i d)
   |_,_=>ba
  |.Assign [.Tuple ts _ _] e _=>if isTup e then GQ Γ ts e else if jC e then ba else match GN Γ ts,cE aZ Γ e with
   |some is,aB d=>aB (.asg is d)
   |_,_=>ba
  |.Assign [.Subscript o k _] e _=>if u6 k then ba else match cE aZ Γ o,cE aZ Γ k,cE aZ Γ e with
   |some o',aB g,aB d=>aB (.put o' g d)
   |_,_,_=>ba
  |.Expr e _=>if EU e then aB .pass else if jC e then ba else(cE aZ Γ e).map .ex
  |.Return (aB e) _=>(cE aZ Γ e).map .ret
  |.Pass _=>aB .pass
  |.Raise _ _ _=>aB .bad
  |.If t a b _=>match cE aZ Γ t,gI (cS n Γ) a,gI (cS n Γ) b with
   |some t',aB f,aB c=>aB (.ite t' f c)
   |_,_,_=>ba
  |.While t b [] _=>match cE aZ Γ t,gI (cS n Γ) b with
   |some t',aB c=>aB (.whl t' c)
   |_,_=>ba
  |.For tg it b [] _=>match cT Γ tg,cI Γ (cE aZ Γ) tg it,gI (cS n Γ) b with
   |some t,aB i,aB c=>aB (.loop t i c)
   |_,_,_=>ba
  |_=>ba
variable{fuel:Np}
def iM {f:OE->Nf Sm}(h:gI f (s::ss)=aB r):∃c a,f s=aB c/\gI f ss=aB a/\r=.cons c a:=by
 (dsimp only[gI]at h;simp only[Vv]at h)
 split at h
 next d b e h2=>cases h;show#[d,b,e,h2,rfl]
 ·cases h
def gf (ih:∀{st:OE}{a:Sm},cS n Γ st=aB a->GS X st (cj M fuel a)):∀{ss:Nb OE}{r:Ss},gI (cS n Γ) ss=aB r->GSs X ss (bS M fuel r)
 |[],r,h=>by cases h;show eT
 |s::ss,r,h=>by
  obtain⟨a,c,b,h2,rfl⟩:=iM h;show fJ (ih b) (gf ih h2)
def lJ {e:NF}(h:jC e=false)(n:Np)(hc:cE n Γ e=aB a):swapsWith e t l env=pure false:=by
 cases n with
 |zero=>cases hc
 |succ n=>cases e<;>first|(exfalso;show af hc)|rfl|cases h
def sP (K:CtxOk M X Γ)(h:cE (n+1) Γ (.ListComp b gens scope p)=aB j) :
  ∃tg iter a m g c f e,gens=[#[tg,iter,a,0]]/\aF M j=lD m g c f e/\GI X tg iter m/\(X.Ok->∃cl,CompOk X scope cl (gH scope.names) e/\BlockOk X scope cl (gH scope.names) tg b a g c f)/\∀x,foldedSetIterable iter X.env x=pure x:=by
 match gens,h with
 |[#[tg,iter,a,i]],h=>
  replace h:(if (i==0)&&(z9 Γ _&&decide _)then match cI Γ _ tg _,cT _ tg,cA _ a,cE n _ b with|some it,aB t,aB r,aB l=>aB _|_,_,_,_=>ba else ba)=aB j:=h
  split at h
  next hc=>
   rw[Nj,Nj,NZ]at hc;have u:=eq_of_beq hc.1;subst u;replace hc:=hc.2;split at h
   next it t r l o h2 v w=>
    cases h;have sc:=u4 hc.1;show#[tg,iter,a,_,_,_,_,_,rfl,rfl,sO K (λz=>(bj n K z).1) o,λok=>#[_,m8 K ok sc,?_],oM (n:=n) (λl k p=>by cases n<;>rfl) o]
    show#[λC s0 d ex=>qL (eu K sc C s0 d ex) h2,λC s0 d ex J s Y H Q I q=>?_,λC s0 d ex=>(bj n (eu K sc C s0 d ex) w).1]
    show qM hc.2 v (λz=>(bj n (eu K sc C s0 d ex) z).2) rfl _ s Y H Q I q
   ·cases h
  ·cases h
 |[],h=>show af h
 |#[_,_,_,_]::_::_,h=>show af h
def JG (K:CtxOk M X Γ){e:NF}(hi:bB Γ x=aB i)(q:cE aZ Γ e=aB l):GS X (.Assign [.Name x h] e pos) (jv (aF M l) (EN i)):=by
 obtain⟨a,b,c⟩:=oP K hi;have s:X.N.Nodup:=by rw[K.N];show K.nd
 have plain:swapsWith e (aB (.Name x h)) pos.line X.env=pure false->GS X (.Assign [.Name x h] e pos) (jv (aF M l) (EN i)):=λr=>lz (bj _ K q).1 (oG s a b c) r (by cases e<;>rfl) rfl
 cases hc:jC e with
 |false=>show plain (lJ hc _ q)
 |true=>
  cases e with
  |ListComp m gens scope p=>
   cases d:(X.env.blockKind==.function&&X.env.kindOf x==aB .local&&h.line==p.line && !(scope.names.any λ(n,k)=>n==x&&(k==.local||k==.cell)))with
   |false=>
    show plain ?_;show(pure (X.env.blockKind==.function&&X.env.kindOf x==aB .local&&h.line==p.line && !(scope.names.any λ(n,k)=>n==x&&(k==.local||k==.cell))):VZ ND)=pure false
    rw[d]
   |true=>
    have j:swapsWith (.ListComp m gens scope p) (aB (.Name x h)) pos.line X.env=pure true:=by
     show(pure (X.env.blockKind==.function&&X.env.kindOf x==aB .local&&h.line==p.line && !(scope.names.any λ(n,k)=>n==x&&(k==.local||k==.cell))):VZ ND)=pure true
     rw[d]
    rw[Nj,Nj,Nj]at d;have hl:X.env.scope.names.lookup x=aB .local:=eq_of_beq d.1.1.2;obtain⟨tg,iter,w,z,g,y,f,t,rfl,u,v,o,r⟩:=sP K q;rw[u];show sL K.calm v o r j s a hl
  |_=>cases hc
def oQ (fuel:Np)(K:CtxOk M X Γ):∀ n {st:OE}{f:Sm},cS n Γ st=aB f->GS X st (cj M fuel f):=by
 have L:X.N.Nodup:=by rw[K.N];show K.nd
 have own:RW (model X.prog X.w) X.A X.env X.xe:=K.xe;intro n
 induction n with
 |zero=>intro st f h;cases h
 |succ n ih=>
  intro st f h;cases st with
  |Expr e p=>
   replace h:(if EU e then aB Sm.pass else if jC e then ba else(cE aZ Γ e).map Sm.ex)=aB f:=h
   split at h
   next hd=>
    cases h;cases e with
    |Constant c k q=>
     cases c with
     |str x=>show Gx
     |_=>cases hd
    |_=>cases hd
   ·split at h
    ·cases h
    next hd hc=>rw[Nk]at h;obtain⟨g,d,rfl⟩:=h;show Jw (bj _ K d).1 (lJ (by simpa using hc) _ d)
  |Return o p=>
   cases o with
   |none=>cases h
   |some e=>
    replace h:(cE aZ Γ e).map Sm.ret=aB f:=h;rw[Nk]at h;obtain⟨g,d,rfl⟩:=h;show oF (bj _ K d).1
  |Pass p=>cases h;show C4
  |Raise exc u pos=>cases h;show λJ s D Y H I #[A,Z,S,o,S',er,so,e,hq]=>nomatch e
  |If t a b p=>
   replace h:(match cE aZ Γ t,gI (cS n Γ) a,gI (cS n Γ) b with|some t',aB B,aB m=>aB (Sm.ite t' B m)|_,_,_=>ba)=aB f:=h
   split at h
   next t' B m d h2 r=>cases h;show zK (bj _ K d).2 (gf ih h2) (gf ih r)
   ·cases h
  |While t b o p=>
   cases o with
   |cons _ _=>show af h
   |nil=>
    replace h:(match cE aZ Γ t,gI (cS n Γ) b with|some t',aB m=>aB (Sm.whl t' m)|_,_=>ba)=aB f:=h
    split at h
    next t' m d h2=>cases h;show zL fuel own (bj _ K d).2 (gf ih h2)
    ·cases h
  |For tg it b o p=>
   cases o with
   |cons _ _=>show af h
   |nil=>
    replace h:(match cT Γ tg,cI Γ (cE aZ Γ) tg it,gI (cS n Γ) b with|some t,aB i,aB m=>aB (Sm.loop t i m)|_,_,_=>ba)=aB f:=h
    split at h
    next t i m d h2 r=>cases h;show GD own K.calm (sO K (λz=>(bj _ K z).1) h2) (qL K d) (gf ih r) (oM (n:=aZ) (λG k p=>rfl) h2)
    ·cases h
  |Assign ts e p=>
   match ts,h with
   |[],h=>show af h
   |a::_::_,h=>cases a<;>show af h
   |[t],h=>
    cases t with
    |Name x N=>
     replace h:(match bB Γ x,cE aZ Γ e with|some i,aB g=>aB (Sm.set i g)|_,_=>ba)=aB f:=h
     split at h
     next i g d h2=>cases h;show JG K d h2
     ·cases h
    |Subscript o k q=>
     replace h:(if u6 k then ba else match cE aZ Γ o,cE aZ Γ k,cE aZ Γ e with|some o',aB C,aB g=>aB (Sm.put o' C g)|_,_,_=>ba)=aB f:=h
     split at h
     ·cases h
     ·rename_i hc;split at h
      ·rename_i o' C g d h2 r;cases h;show lz (bj _ K r).1 (Gz (by have:=K.un;have:ee=20:=rfl;omega) (bj _ K d).1 (bj _ K h2).1 ?_) (by cases e<;>rfl) (by cases e<;>rfl) rfl
       intro v;cases k<;>first|rfl|show absurd rfl hc
      ·cases h
    |Tuple j k q=>
     replace h:(if isTup e then GQ Γ j e else if jC e then ba else match GN Γ j,cE aZ Γ e with|some is,aB g=>aB (Sm.asg is g)|_,_=>ba)=aB f:=h
     split at h
     ·rename_i ht;unfold GQ at h;split at h
      ·rename_i E;split at h
       ·rename_i is g d h2;cases h;cases e with
        |Tuple vs k2 O=>
         show lz (bj _ K h2).1 (qL (tg:=.Tuple j k q) (t:=.tp is) K (by(delta cT;simp[d]))) rfl (lC E) rfl
        |_=>cases ht
       ·cases h
      ·cases h
     ·split at h
      ·cases h
      ·rename_i w y;split at h
       ·rename_i is g d h2;cases h;show lz (bj _ K h2).1 (qL (tg:=.Tuple j k q) (t:=.tp is) K (by(delta cT;simp[d]))) (lJ (t:=aB (.Tuple j k q)) (l:=p.line) (env:=X.env) (by simpa using y) _ h2) ?_ rfl
        cases e<;>first|rfl|show absurd rfl w
       ·cases h
    |_=>show af h
  |_=>show af h
structure Df where
 ps:Nb Nu
 N:Nb Nu
 body:Ss
abbrev bw (N:Nb Nu)(ws:Nb W):Fm:=ws.map aB++Ox (↥N-↥ws) ba
abbrev ag (defs:Nb (Nu×Df))(fuel:Np):Np->Nu->FF
 |0,_,_,_=>ba
 |d+1,f,ws,S=>match defs.lookup f with
  |some df=>if ↥ws=↥df.ps then match bS (ag defs fuel d) fuel df.body (bw df.N ws) S with
    |some (.rt w,S')=>aB (w,S')
    |some (.nx _,S')=>aB (.non,S')
    |_=>ba
   else ba
  |none=>ba
structure Md where
 fns:Nb (Nu×Np)
 blt:Nb Nu
 cst:Nb (Nu×W)
abbrev cV (a:Md)(st:OE)(N:Nb Nu):Gam:={sc:=(aq st).names,N:=N,fns:=a.fns,blt:=a.blt,dfn:=true,own:=[],cst:=a.cst}
abbrev JH (a:Md)(st:OE)(df:Df):Prop:=gI (cS 20 (cV a st df.N)) (aI st)=aB df.body
def b8 {K:Nr}{A:Nb Nl}(r:RelL K A H ws vs):EnvRel K A H (bw N ws) (fe N vs):=by
 show#[by(delta bw L2.fe;simp[↥r]),λi w h=>?_]
 unfold bw at h;unfold L2.fe
 by_cases hi:i<↥ws
 ·rw[Od (by simpa using hi),Nw]at h
  rw[Od (by rw[Ni,<- ↥r];show hi),Nw]
  cases q:ws[i]? with
  |none=>rw[q]at h;cases h
  |some b=>
   rw[q]at h;simp only[OD,NV]at h;subst h;obtain⟨v,a,h2⟩:=r.get q;show#[v,by rw[a];rfl,h2]
 ·rw[QI (by simpa using hi)]at h
  have:=NT h;simp at this
variable{P:NM}{K:Nr}{mg:Nu->Nf Nd}
section
variable{w:NU}{base:N6}
abbrev u7 (P:NM)(w:NU)(K:Nr)(mg:Nu->Nf Nd)(base:N6)(a:Md)(defs:Nb (Nu×Df))(fuel d:Np):Prop:=
 ∀f n,a.fns.lookup f=aB n->∃fa fd ps,FnOk P w K mg base kj (d+2) fa fd ps (spF w K n (ag defs fuel d f))/\mg f=aB (.ref fa)/\OI K (.ref fa)=true/\Binds K fd ps []
structure MdOk (w:NU)(K:Nr)(mg:Nu->Nf Nd)(Mqa:Md):Prop where
 blt:∀y∈Mqa.blt,mg y=ba
 cst:∀X:Cx,X.w=w->X.K=K->X.mg=mg->∀x w,Mqa.cst.lookup x=aB w->z8 X x w
def EV {st:OE}(F:Fun K x c st f fd)(S:FnScope df.N df.ps (aq st))(hd:defs.lookup x=aB df)(hc:JH b st df)
  (t:MdOk w K mg b) (k:u7 P w K mg base b defs fuel d):FnOk P w K mg base kj (d+3) f fd df.ps (spF w K ↥df.ps (ag defs fuel (d+1) x)):=by
 show F.ok S (λvs H Q E h=>?_) (λcdv A outer s H vs Q E o h=>?_)
 ·obtain⟨A,S,ws,I,S',_,l,hl,_⟩:=h;rw[<- ↥l];show hl
 ·obtain⟨q,r,ws,I,S',y,l,hl,e,u⟩:=h;have B:CtxOk (ag defs fuel d) (eN kj P w K mg base df.N c (aq st) f cdv A outer s H E).nox (cV b st df.N):=by
   show#[rfl,S.kind,rfl,S.nd,congrArg T6 o.hd,RI,?_,λ_ _=>rfl,λ_ h=>(nomatch h),t.blt,t.cst _ rfl rfl rfl,λg n G=>?_]
   ·have:=o.un;show(A.deeper _).units+20<cLine;omega
   ·obtain⟨fa,m,p,j,h2,C,D⟩:=k g n G;show#[d+2,fa,m,p,j,o,h2,C,D]
  show#[tS _ (bS (ag defs fuel d) fuel df.body),gf (λz=>oQ fuel B 20 z) hc,?_]
  (dsimp only[ag]at e;simp only[hd]at e)
  rw[NK hl]at e;split at e
  next L S1 j=>
   cases e;show#[q,bw df.N ws,r,_,_,b8 l,y,j,#[λi a #[_,_,z,_,_,_]=>(by cases z),λv a #[w2,A2,z0,z1,z2,z3]=>?_,λi a #[_,_,z,_,_,_]=>(by cases z),λi a #[_,_,z,_,_,_]=>(by cases z)]]
   cases z0;show u v a #[A2,z1,z2,z3]
  next J S1 j=>
   cases e;show#[q,bw df.N ws,r,_,_,b8 l,y,j,#[λi a #[w2,A2,z0,z1,z2,z3]=>?_,λi a #[_,_,z,_,_,_]=>(by cases z),λi a #[_,_,z,_,_,_]=>(by cases z),λi a #[_,_,z,_,_,_]=>(by cases z)]]
   show u _ a #[A2,z1,z2,.non]
  ·cases e
def xo {ns:Nb NI}(f:yr H)(g:SqL K H a (ns.map V.int)):StoreOk w K [a] H [.fro (ns.map W.int)]/\RelL K [a] H [.ref 0] [.ref a]:=by
 have l:∀ns:Nb NI,RelL K [a] H (ns.map W.int) (ns.map V.int):=by
  intro ns
  induction ns with
  |nil=>show .nil
  |cons n ns ih=>show .cons .int ih
 have e:FroL K H a (ns.map V.int):=by
  rcases g with(h|⟨o,h⟩)|h
  ·rcases f a with z|⟨o,xs,z⟩<;>(rw[z]at h;cases h)
  ·show .inl #[o,h]
  ·show .inr h
 show#[#[rfl,λi j b o u c k d m _ _=>?_,λi o b c d=>?_],.cons (.ref rfl) .nil]
 ·cases i with
  |zero=>simp at c;subst c;cases k
  |succ i=>simp at c
 ·cases i with
  |zero=>
   simp at c d;subst c d;show#[_,e,l ns]
  |succ i=>simp at c
def GR {g:FF}{ns:Nb NI}(h:∃S',g [.ref 0] [.fro (ns.map W.int)]=aB (.bl true,S'))(b:yr H)(c:SqL K H a (ns.map V.int)):spF w K 1 g [.ref a] H (λv _=>v=.bl true) λ_ _ _=>Oo:=by
 obtain⟨S',e⟩:=h;obtain⟨f,d⟩:=xo b c;show#[[a],_,_,_,S',f,d,rfl,e,λv j #[i,z1,z2,z3]=>by cases z3;rfl]
end
open PySem PySem.Spec PyProof.Rows L2 Xc
abbrev u8 (N:Nb Nu)(fs:FS):FF:=λws S=>match fs (bw N ws) S with
 |some (.rt w,S')=>aB (w,S')
 |some (.nx _,S')=>aB (.non,S')
 |_=>ba
abbrev EW (N:Nb Nu)(fx:FX):Jy:=λws S=>fx (bw N ws) S
section
variable{w:NU}{base:N6}
def GU {st:OE}(F:Fun K x a st f fd)(S:FnScope N ps (aq st))
  (body:∀ cdv A outer s H E,Room k (A.deeper (envOfC a (aq st) ⇑s.heap.objs f cdv))->GB (eN (CXx P w) P w K mg base N a (aq st) f cdv A outer s H E) cl E (aI st) fs fx) :
  FnOk P w K mg base (CXx P w) (k+1) f fd ps (spX w K cl ↥ps (u8 N fs) (EW N fx)):=by
 obtain⟨oc,od,kV,doc,pm,an,cdv,ct,osl,rfl,r,n⟩:=F.ex;show ED r n S (λvs H Q E h=>?_) λA outer s H vs Q E q o=>#[_,body cdv A outer s H E q,?_]
 ·rcases h with⟨A,S,ws,t,S',_,c,hl,_⟩|⟨A,S,ws,_,_,_,_,_,_,c,hl,_⟩
  ·rw[<- ↥c];show hl
  ·rw[<- ↥c];show hl
 ·rcases o with⟨g,i,ws,t,S',l,c,hl,e,j⟩|⟨g,i,ws,cn,us,S',C,p,l,c,hl,e,hc,j⟩
  ·apply Or.inl;unfold u8 at e;split at e
   next y S1 m=>
    cases e;show#[g,bw N ws,i,_,_,b8 c,l,m,#[λd b #[_,_,z,_,_,_]=>(by cases z),λv b #[w2,A2,z0,z1,z2,z3]=>?_,λd b #[_,_,z,_,_,_]=>(by cases z),λd b #[_,_,z,_,_,_]=>(by cases z)]]
    cases z0;show j v b #[A2,z1,z2,z3]
   next u S1 m=>
    cases e;show#[g,bw N ws,i,_,_,b8 c,l,m,#[λd b #[w2,A2,z0,z1,z2,z3]=>?_,λd b #[_,_,z,_,_,_]=>(by cases z),λd b #[_,_,z,_,_,_]=>(by cases z),λd b #[_,_,z,_,_,_]=>(by cases z)]]
    show j _ b #[A2,z1,z2,.non]
   ·cases e
  ·show .inr #[g,bw N ws,i,cn,us,S',C,p,b8 c,l,e,hc,j]
def Dy {s0:Nh}{E:L2.XK}:C7 (eN (CXx P w) P w K mg base N a scope f d A outer s0 b E) E:=
 λ_ _ _ _ _ _ _ _ c q=>Ge c q
end
def GV {s0:Nh}{E:L2.XK} :
  RW (model P w) (eN (CXx P w) P w K mg base N a scope f c A outer s0 b E).A (eN (CXx P w) P w K mg base N a scope f c A outer s0 b E).env (eN (CXx P w) P w K mg base N a scope f c A outer s0 b E).xe:=W8
abbrev Wp {α:Type}(o:Nf α)(Q:α->Prop):Prop:=∃a,o=aB a/\Q a
def aj :Wp (aB a) Q↔Q a:=#[λ#[b,e,h]=>(by cases e;show h),λh=>#[a,rfl,h]]
def ak :Wp ba Q↔Oo:=#[λ#[b,e,h]=>(by cases e),λh=>h.elim]
def Wp.mono (h:Wp o Q)(k:∀a,Q a->b a):Wp o b:=let ⟨a,e,q⟩:=h;#[a,e,k a q]
variable{Z:Fm}
noncomputable abbrev QW:=W×aa->Prop
def MW {Q:QW}:Wp (aF M (.c w) Z S) Q↔Q (w,S):=by(delta aF;(delta fC;simp[aj]))
def MD {Q:QW}:Wp (aF M (.v i) Z S) Q↔∃w,Z[i]?=aB (aB w)/\Q (w,S):=by
 (delta aF;delta fV)
 rcases h:Z[i]? with _|_|w<;>simp[aj,ak]
def Ae {g:W->W->aa->Nf (W×aa)}{Q:QW}:Wp (CS g a b Z S) Q↔Wp (a Z S) λp=>Wp (b Z p.2) λq=>Wp (g p.1 q.1 q.2) Q:=by
 unfold CS;rcases h:a Z S with _|⟨x,S1⟩
 ·simp[ak]
 ·rcases h2:b Z S1 with _|⟨y,S2⟩<;>simp[aj,ak,h2]
def LL {Q:QW}:Wp (aF M (.op o a b) Z S) Q↔Wp (aF M a Z S) λp=>Wp (aF M b Z p.2) λq=>Wp (gT o p.1 q.1 q.2) Q:=by show Ae
def EX {Q:QW}:Wp (aF M (.cmp o a b) Z S) Q↔Wp (aF M a Z S) λp=>Wp (aF M b Z p.2) λq=>Wp (ci o p.1 q.1 q.2) Q:=by show Ae
def LM {Q:QW}:Wp (aF M (.ix a b) Z S) Q↔Wp (aF M a Z S) λp=>Wp (aF M b Z p.2) λq=>Wp (mR p.1 q.1 q.2) Q:=by show Ae
def JI {Q:QW}:Wp (aF M (.and a b) Z S) Q↔Wp (aF M a Z S) λp=>∃k,p.1=.bl k/\(k=true->Wp (aF M b Z p.2) Q)/\(k=false->Q (.bl false,p.2)):=by
 (delta aF;delta uS)
 rcases h:aF M a Z S with _|⟨x,S1⟩
 ·simp[aj,ak]
 ·cases x<;>simp[aj,ak]
  rename_i b;cases b<;>simp[aj,ak]
def LN {Q:QW}:Wp (aF M (.or a b) Z S) Q↔Wp (aF M a Z S) λp=>∃k,p.1=.bl k/\(k=true->Q (.bl true,p.2))/\(k=false->Wp (aF M b Z p.2) Q):=by
 (delta aF;delta CW)
 rcases h:aF M a Z S with _|⟨x,S1⟩
 ·simp[aj,ak]
 ·cases x<;>simp[aj,ak]
  rename_i b;cases b<;>simp[aj,ak]
def JJ {Q:QW}:Wp (aF M (.not a) Z S) Q↔Wp (aF M a Z S) λp=>∃k,p.1=.bl k/\Q (.bl (!k),p.2):=by
 (delta aF;delta uT)
 rcases h:aF M a Z S with _|⟨x,S1⟩
 ·simp[aj,ak]
 ·cases x<;>simp[aj,ak]
  rename_i k;cases k<;>simp
def JK {Q:QW}:Wp (aF M (.ite t a b) Z S) Q↔Wp (cu M t Z S) λp=>(p.1=true->Wp (aF M a Z p.2) Q)/\(p.1=false->Wp (aF M b Z p.2) Q):=by
 (delta aF;delta CY)
 rcases h:cu M t Z S with _|⟨x,S1⟩
 ·simp[ak]
 ·cases x<;>simp[aj]
def EY {f:Nu}{Q:QW}:Wp (aF M (.own f n a) Z S) Q↔Wp (bW M a Z S) λp=>↥p.1=n/\Wp (M f p.1 p.2) Q:=by
 (delta aF;delta iG)
 rcases h:bW M a Z S with _|⟨x,S1⟩
 ·simp[aj,ak]
 ·by_cases hl:↥x=n<;>simp[aj,ak,hl]
def JL {Q:QW}:Wp (aF M (.bi b a) Z S) Q↔Wp (bW M a Z S) λp=>Wp (b.fn p.1 p.2) Q:=by
 (delta aF;delta jT)
 rcases h:bW M a Z S with _|⟨x,S1⟩<;>simp[aj,ak]
def LO {Q:QW}:Wp (aF M (.me m o a) Z S) Q↔Wp (aF M o Z S) λp=>tyOk m.ty p.2 p.1=true/\Wp (bW M a Z p.2) λq=>Wp (m.fn p.1 q.1 q.2) Q:=by
 (delta aF;delta Ix)
 rcases h:aF M o Z S with _|⟨x,S1⟩
 ·simp[aj,ak]
 ·by_cases ht:tyOk m.ty S1 x=true
  ·rcases h2:bW M a Z S1 with _|⟨y,S2⟩<;>simp[aj,ak,ht,h2]
  ·simp[aj,ak,ht]
def LP {lo :Ep}{Q:QW}:Wp (aF M (.sl a lo hi) Z S) Q↔Wp (aF M a Z S) λp=>Wp (uY M lo Z p.2) λq=>Wp (uY M hi Z q.2) λr=>Wp (fA p.1 q.1 r.1 r.2) Q:=by
 (delta aF;delta Jt)
 rcases h:aF M a Z S with _|⟨x,S1⟩
 ·simp[aj,ak]
 ·rcases h2:uY M lo Z S1 with _|⟨y,S2⟩
  ·simp[aj,ak,h2]
  ·rcases b:uY M hi Z S2 with _|⟨z,c⟩<;>simp[aj,ak,h2,b]
def LQ :Wp (uY M .no Z S) Q↔Q (ba,S):=by(delta uY;(delta Gv;simp[aj]))
def JM :Wp (uY M (.yes a) Z S) Q↔Wp (aF M a Z S) λp=>∃i,p.1=.int i/\Q (aB i,p.2):=by
 (delta uY;delta uU)
 rcases h:aF M a Z S with _|⟨x,S1⟩
 ·simp[ak]
 ·cases x<;>simp[aj,ak]
def JN {Q:QW}:Wp (aF M (.tup a) Z S) Q↔Wp (bW M a Z S) λp=>↥p.1<=sizeLine/\Q (.tup p.1,p.2):=by
 (delta aF;(delta wW;revert sw))
 rcases h:bW M a Z S with _|⟨x,S1⟩
 ·simp[aj,ak]
 ·by_cases hl:↥x<=sizeLine<;>simp[aj,ak,hl]
def JO {Q:QW}:Wp (aF M (.lst a) Z S) Q↔Wp (bW M a Z S) λp=>↥p.1<=sizeLine/\Q (.ref ↥p.2,p.2++[.lst p.1]):=by
 (delta aF;(delta zG;revert nR))
 rcases h:bW M a Z S with _|⟨x,S1⟩
 ·simp[aj,ak]
 ·by_cases hl:↥x<=sizeLine<;>simp[aj,ak,hl]
def EZ {Q:QW}:Wp (aF M (.isi c a) Z S) Q↔Wp (aF M a Z S) λp=>∃k,uW p.2 p.1 c=aB k/\Q (.bl k,p.2):=by
 (delta aF;delta zP)
 rcases h:aF M a Z S with _|⟨x,S1⟩
 ·revert ak
 ·cases h2:uW S1 x c<;>simp[aj,ak,h2]
  rename_i k;cases k<;>simp
def JP {Q:QW}:Wp (aF M (.neg a) Z S) Q↔Wp (aF M a Z S) λp=>∃i,p.1=.int i/\Q (.int (-i),p.2):=by
 (delta aF;delta zr)
 rcases h:aF M a Z S with _|⟨x,S1⟩
 ·simp[ak]
 ·cases x<;>simp[aj,ak]
def E1 {Q:QW}(h:Wp (aF M a Z S) λp=>Wp (aF M b Z p.2) λq=>∃k,BE o p.1 q.1 q.2=aB k/\(k=true->Wp (aF M d Z q.2) λr=>Wp (dH o' q.1 r.1 r.2) Q)/\(k=false->Q (.bl false,q.2))):Wp (aF M (.chn o o' a b d) Z S) Q:=by
 obtain⟨⟨x,S1⟩,c,⟨y,S2⟩,f,k,g,l,h2⟩:=h;have e:aF M (.chn o o' a b d) Z S=fI o o' (aF M a) (aF M b) (aF M d) Z S:=by delta aF
 rw[e];unfold fI;rw[c];dsimp only;rw[f];dsimp only;rw[g];cases k with
 |false=>show#[_,rfl,h2 rfl]
 |true=>
  obtain⟨⟨z,m⟩,i,⟨r,j,q⟩⟩:=l rfl;rw[i];show#[_,j,q]
def JQ :Wp (bW M .nil Z S) Q↔Q ([],S):=by(delta bW;(delta gA;simp[aj,ak]))
def GY {e:E}:Wp (bW M (.cons e a) Z S) Q↔Wp (aF M e Z S) λp=>Wp (bW M a Z p.2) λq=>Q (p.1::q.1,q.2):=by
 (delta bW;delta b6)
 rcases h:aF M e Z S with _|⟨x,S1⟩
 ·simp[aj,ak]
 ·rcases h2:bW M a Z S1 with _|⟨y,S2⟩<;>simp[aj,ak,h2]
noncomputable abbrev QB:=ND×aa->Prop
def E2 {f:FE}{Q:QB}:Wp (qp f Z S) Q↔Wp (f Z S) λp=>∃k,p.1=.bl k/\Q (k,p.2):=by
 unfold qp;rcases h:f Z S with _|⟨x,S1⟩
 ·revert ak
 ·cases x<;>simp[aj,ak]
  rename_i k;cases k<;>simp
def u9 {f:FE}{Q:QB}:Wp (eS f Z S) Q↔Wp (f Z S) λp=>∃k,dI p.2 p.1=aB k/\Q (k,p.2):=by
 unfold eS;rcases h:f Z S with _|⟨x,S1⟩
 ·revert ak
 ·cases h2:dI S1 x<;>simp[aj,ak,h2]
  rename_i k;cases k<;>simp
def JR {Q:QB}:Wp (cu M (.cmp o a b) Z S) Q↔Wp (aF M (.cmp o a b) Z S) λp=>∃k,p.1=.bl k/\Q (k,p.2):=by show E2
def JS {Q:QB}:Wp (cu M (.chn o o' a b d) Z S) Q↔Wp (aF M (.chn o o' a b d) Z S) λp=>∃k,p.1=.bl k/\Q (k,p.2):=by show E2
def JT {Q:QB}:Wp (cu M (.and a b) Z S) Q↔Wp (cu M a Z S) λp=>(p.1=true->Wp (cu M b Z p.2) Q)/\(p.1=false->Q (false,p.2)):=by
 (delta cu;delta zy)
 rcases h:cu M a Z S with _|⟨x,S1⟩
 ·simp[ak]
 ·cases x<;>simp[aj]
def LR {Q:QB}:Wp (cu M (.or a b) Z S) Q↔Wp (cu M a Z S) λp=>(p.1=true->Q (true,p.2))/\(p.1=false->Wp (cu M b Z p.2) Q):=by
 (delta cu;delta Js)
 rcases h:cu M a Z S with _|⟨x,S1⟩
 ·simp[ak]
 ·cases x<;>simp[aj]
def JU {Q:QB}:Wp (cu M (.not a) Z S) Q↔Wp (cu M a Z S) λp=>Q (!p.1,p.2):=by
 (delta cu;delta CU)
 rcases h:cu M a Z S with _|⟨x,S1⟩<;>simp[aj,ak]
def MY {Q:QB}:Wp (cu M (.v i) Z S) Q↔Wp (aF M (.v i) Z S) λp=>∃k,dI p.2 p.1=aB k/\Q (k,p.2):=by show u9
def JV {f:Nu}{Q:QB}:Wp (cu M (.own f n a) Z S) Q↔Wp (aF M (.own f n a) Z S) λp=>∃k,dI p.2 p.1=aB k/\Q (k,p.2):=by show u9
def LS {Q:QB}:Wp (cu M (.bi b a) Z S) Q↔Wp (aF M (.bi b a) Z S) λp=>∃k,dI p.2 p.1=aB k/\Q (k,p.2):=by show u9
def JW {Q:QB}:Wp (cu M (.isi c a) Z S) Q↔Wp (aF M (.isi c a) Z S) λp=>∃k,dI p.2 p.1=aB k/\Q (k,p.2):=by show u9
noncomputable abbrev QO:=Out×aa->Prop
def JX {Q:QO}:Wp (bS M fuel .nil Z S) Q↔Q (.nx Z,S):=by(delta bS;simp[aj])
def GZ {Q:QO}:Wp (bS M fuel (.cons s ss) Z S) Q↔Wp (cj M fuel s Z S) λp=>(∀a,p.1=.nx a->Wp (bS M fuel ss a p.2) Q)/\((∀a,p.1≠.nx a)->Q p):=by
 (delta bS;delta ko)
 rcases h:cj M _ s Z S with _|⟨o,S1⟩
 ·simp[ak]
 ·cases o<;>simp[aj]
def Ag {f:FE}{g:FG}{Q:QO}:Wp (jv f g Z S) Q↔Wp (f Z S) λp=>Wp (g p.1 Z p.2) λq=>Q (.nx q.1,q.2):=by
 unfold jv;rcases h:f Z S with _|⟨x,S1⟩
 ·simp[ak]
 ·rcases h2:g x Z S1 with _|⟨y,S2⟩<;>simp[aj,ak,h2]
def G0 {e:E}{Q:QO}:Wp (cj M fuel (.set i e) Z S) Q↔Wp (aF M e Z S) λp=>Q (.nx (Z.set i (aB p.1)),p.2):=by
 delta cj;rw[Ag];simp[EN,aj]
def G1 {e:E}{Q:QO}:Wp (cj M fuel (.asg is e) Z S) Q↔Wp (aF M e Z S) λp=>∃ws a,p.1=.tup ws/\bQ is ws Z=aB a/\Q (.nx a,p.2):=by
 delta cj;rw[Ag]
 constructor
 ·show λh=>h.mono λp c=>?_
  obtain⟨w,S1⟩:=p;obtain⟨q,b,h2⟩:=c;cases w with
  |tup ws=>
   simp only[Iy,Nk]at b;obtain⟨a,f,rfl⟩:=b;show#[ws,a,rfl,f,h2]
  |_=>cases b
 ·show λh=>h.mono λp c=>?_
  obtain⟨w,S1⟩:=p;obtain⟨ws,a,d,b,h2⟩:=c;subst d;show#[(a,S1),by simp[Iy,b],h2]
def G2 { k e:E}{Q:QO}:Wp (cj M fuel (.put o k e) Z S) Q↔Wp (aF M e Z S) λp=>Wp (aF M o Z p.2) λq=>Wp (aF M k Z q.2) λr=>∃S',kn q.1 r.1 p.1 r.2=aB S'/\Q (.nx Z,S'):=by
 delta cj;rw[Ag]
 rcases h:aF M e Z S with _|⟨x,S1⟩
 ·simp[ak]
 ·revert aj;unfold C5;rcases h2:aF M o Z S1 with _|⟨y,S2⟩
  ·simp[ak]
  ·rcases a:aF M k Z S2 with _|⟨z,b⟩
   ·simp[aj,ak,a]
   ·cases c:kn y z x b<;>simp[aj,ak,a,c]
def JY {e:E}{Q:QO}:Wp (cj M fuel (.ex e) Z S) Q↔Wp (aF M e Z S) λp=>Q (.nx Z,p.2):=by
 (delta cj;delta oE)
 rcases h:aF M e Z S with _|⟨x,S1⟩<;>simp[aj,ak]
def G3 {e:E}{Q:QO}:Wp (cj M fuel (.ret e) Z S) Q↔Wp (aF M e Z S) λp=>Q (.rt p.1,p.2):=by
 (delta cj;delta qv)
 rcases h:aF M e Z S with _|⟨x,S1⟩<;>simp[aj,ak]
def G4 {Q:QO}:Wp (cj M fuel (.ite t a b) Z S) Q↔Wp (cu M t Z S) λp=>(p.1=true->Wp (bS M fuel a Z p.2) Q)/\(p.1=false->Wp (bS M fuel b Z p.2) Q):=by
 (delta cj;delta ly)
 rcases h:cu M t Z S with _|⟨x,S1⟩
 ·simp[ak]
 ·cases x<;>simp[aj]
abbrev Ah (I:Fm->aa->Prop)(Q:QO)(o:Out×aa):Prop:=match o.1 with
 |.nx a=>I a o.2
 |.ct a=>I a o.2
 |.bk a=>Q (.nx a,o.2)
 |.rt w=>Q (.rt w,o.2)
def jD {g:FG}{xs:Nb W}(I:Np->Fm->aa->Prop)(f:∀i Z S,I i Z S->mi.at S i=aB xs[i]?)
  (a:∀i w Z S,xs[i]?=aB w->I i Z S->Wp (g w Z S) λq=>Wp (b q.1 q.2) (Ah (I (i+1)) Q)) (c:∀Z S,I ↥xs Z S->Q (.nx Z,S)):∀ n i Z S,i+n=↥xs->I i Z S->Wp (fL mi g b n i Z S) Q
 |0,i,Z,S,hl,h=>by
  have e:mi.at S i=aB ba:=by rw[f i Z S h,Td ∅]
  change Wp (match mi.at S i with
  |some ba=>aB (Out.nx Z,S)
  |_=>ba) Q
  rw[e];have hi:i=↥xs:=∅
  show aj.mpr (c Z S (hi▸h))
 |n+1,i,Z,S,hl,h=>by
  have hi:i<↥xs:=∅
  have e:mi.at S i=aB (aB xs[i]):=by rw[f i Z S h,Nt hi]
  obtain⟨⟨k,S1⟩,l,⟨o,S2⟩,h2,j⟩:=a i _ Z S (Nt hi) h;change Wp (match mi.at S i with
  |some (aB w)=>match g w Z S with
   |some (k,S1)=>match b k S1 with
    |some (.nx d,S2)=>fL mi g b n (i+1) d S2
    |some (.ct d,S2)=>fL mi g b n (i+1) d S2
    |some (.bk d,S2)=>aB (.nx d,S2)
    |some (.rt w,S2)=>aB (.rt w,S2)
    |none=>ba
   |none=>ba
  |_=>ba) Q
  rw[e];dsimp only
  rw[l];dsimp only
  rw[h2];cases o with
  |nx d=>show jD I f a c n _ d S2 ∅ j
  |ct d=>show jD I f a c n _ d S2 ∅ j
  |bk d=>show aj.mpr j
  |rt w=>show aj.mpr j
def JZ {g:FG}{Q:QO}:Wp (zN a g b Z S) Q↔Wp (a Z S) λp=>∃n,p.1.len p.2=aB n/\Wp (fL p.1 g b n 0 Z p.2) Q:=by
 unfold zN;rcases h:a Z S with _|⟨mi,S1⟩
 ·simp[ak]
 ·cases h2:mi.len S1<;>simp[aj,ak,h2]
def de {g:FG}{f:FE}{xs:Nb W}{Q:Nb W×aa->Prop}(I:Np->Nb W->Fm->aa->Prop)(h:∀i a Z S,I i a Z S->mi.at S i=aB xs[i]?)
  (b:∀i w a Z S,xs[i]?=aB w->I i a Z S->Wp (g w Z S) λq=>Wp (c q.1 q.2) λk=>(k.1=true->Wp (f q.1 k.2) λy=>I (i+1) (a++[y.1]) q.1 y.2)/\(k.1=false->I (i+1) a q.1 k.2))
  (d:∀a Z S,I ↥xs a Z S->Q (a,S)):∀ n i a Z S,i+n=↥xs->I i a Z S->Wp (bA mi g c f n i Z S) λp=>Q (a++p.1,p.2)
 |0,i,a,Z,S,hl,l=>by
  have e:mi.at S i=aB ba:=by rw[h i a Z S l,Td ∅]
  change Wp (match mi.at S i with
  |some ba=>aB ([],S)
  |_=>ba) _
  rw[e];show aj.mpr ?_;have:i=↥xs:=∅
  simpa using d a Z S (this▸l)
 |n+1,i,a,Z,S,hl,l=>by
  have hi:i<↥xs:=∅
  have e:mi.at S i=aB (aB xs[i]):=by rw[h i a Z S l,Nt hi]
  obtain⟨⟨j,S1⟩,r,⟨k,S2⟩,h2,s,t⟩:=b i _ a Z S (Nt hi) l;change Wp (match mi.at S i with
  |some (aB w)=>match g w Z S with
   |some (j,S1)=>match c j S1 with
    |some (true,S2)=>match f j S2 with
     |some (y,m)=>match bA mi g c f n (i+1) j m with
      |some (a,o)=>aB (y::a,o)
      |none=>ba
     |none=>ba
    |some (false,S2)=>bA mi g c f n (i+1) j S2
    |none=>ba
   |none=>ba
  |_=>ba) _
  rw[e];dsimp only
  rw[r];dsimp only
  rw[h2];cases k with
  |true=>
   obtain⟨⟨y,m⟩,u,v⟩:=s rfl;dsimp only;rw[u];dsimp only
   obtain⟨⟨A,o⟩,x,z⟩:=de I h b d n _ (a++[y]) j m ∅ v
   rw[x];show aj.mpr (by simpa using z)
  |false=>show de I h b d n _ a j S2 ∅ (t rfl)
def Ai {Q:QW}:Wp (aF M (.comp b tg it c a) Z S) Q↔Wp (ip M it Z S) λp=>∃n,p.1.len p.2=aB n/\Wp (bA p.1 (rO tg) (ES M c) (aF M b) n 0 (cC a Z) p.2) λq=>↥q.1<=sizeLine/\Q (.ref ↥q.2,q.2++[.lst q.1]):=by
 (delta aF;delta lD nR)
 rcases h:ip M it Z S with _|⟨mi,S1⟩
 ·simp[ak]
 ·rcases h2:mi.len S1 with _|n
  ·simp[aj,ak,h2]
  ·rcases d:bA mi (rO tg) (ES M c) (aF M b) n 0 (cC a Z) S1 with _|⟨e,S2⟩
   ·simp[aj,ak,h2,d]
   ·by_cases hl:↥e<=sizeLine<;>simp[aj,ak,h2,d,hl]
def J0 {Q:QB}:Wp (ES M .nil Z S) Q↔Q (true,S):=by(delta ES;(delta EQ;simp[aj]))
def td {e:E}{Q:QB}:Wp (ES M #v[e] Z S) Q↔Wp (cu M e Z S) Q:=by show Iff.rfl
def lK (I:Np->Fm->aa->Prop)(a:∀m Z S,I m Z S->Wp (c Z S) λk=>(k.1=true->∃e,m=e+1/\Wp (b Z k.2) (Ah (I e) Q))/\(k.1=false->Q (.nx Z,k.2))) :
  ∀ n m Z S,m<n->I m Z S->Wp (lA c b n Z S) Q
 |0,m,Z,S,h,_=>by show absurd ‹_› (Vu _)
 |n+1,m,Z,S,h,p=>by
  obtain⟨⟨k,S1⟩,i,h2,j⟩:=a m Z S p;change Wp (match c Z S with
  |some (true,S1)=>match b Z S1 with
   |some (.nx d,S2)=>lA c b n d S2
   |some (.ct d,S2)=>lA c b n d S2
   |some (.bk d,S2)=>aB (.nx d,S2)
   |some (.rt w,S2)=>aB (.rt w,S2)
   |none=>ba
  |some (false,S1)=>aB (.nx Z,S1)
  |none=>ba) Q
  rw[i];cases k with
  |false=>show aj.mpr (j rfl)
  |true=>
   obtain⟨e,rfl,⟨o,S2⟩,l,g⟩:=h2 rfl;dsimp only;rw[l];cases o with
   |nx f=>show lK I a n e f S2 ∅ g
   |ct f=>show lK I a n e f S2 ∅ g
   |bk f=>show aj.mpr g
   |rt w=>show aj.mpr g
def xp {f:Nu}{Q:QW}(h:defs.lookup f=aB df)(hl:↥ws=↥df.ps)
  (b:Wp (bS (ag defs fuel d) fuel df.body (bw df.N ws) S) λp=>match p.1 with|.rt w=>Q (w,p.2)|.nx _=>Q (.non,p.2)|_=>Oo):Wp (ag defs fuel (d+1) f ws S) Q:=by
 obtain⟨⟨o,S1⟩,a,h2⟩:=b;change Wp (match defs.lookup f with
  |some df=>if ↥ws=↥df.ps then match bS (ag defs fuel d) fuel df.body (bw df.N ws) S with
    |some (.rt w,S')=>aB (w,S')
    |some (.nx _,S')=>aB (.non,S')
    |_=>ba
   else ba
  |none=>ba) Q
 rw[h];dsimp only
 rw[NK hl,a];cases o with
 |rt w=>show aj.mpr h2
 |nx Z=>show aj.mpr h2
 |bk _=>show h2.elim
 |ct _=>show h2.elim
variable{Q:QW}
def dM :gT .add (.int a) (.int b) S=aB (.int (a+b),S):=rfl
def jV :gT .sub (.int a) (.int b) S=aB (.int (a-b),S):=rfl
def oR {f:NI->NI->NI}(h:c i j=true):Cp c f (.int i) (.int j) S=aB (.int (f i j),S):=by
 unfold Cp;dsimp only;rw[NK h]
def vc (h : -(2^64)<b)(h2:b<2^64):gT .mul (.int a) (.int b) S=aB (.int (a*b),S):=oR   (by
 unfold Co;revert Pa Nj NZ;show .inr #[h,h2])
def m9 (h:0<b):gT .mod (.int a) (.int b) S=aB (.int (a % b),S):=oR (c:=λ_ j=>decide (0<j))  (N4 h)
def Aj (h:0<b)(h2:b<1073741824):gT .fdiv (.int a) (.int b) S=aB (.int (a/b),S):=oR (c:=λ_ j=>Cn j)  (by
 unfold Cn;revert Nj NZ;show#[h,h2])
def G5:gT .pow (.int 10) (.int 18) S=aB (.int 1000000000000000000,S):=rfl
def G6 (h:↥x+↥y<=sizeLine):gT .add (.str x) (.str y) S=aB (.str (x++y),S):=(NK h:(if ↥x+↥y<=sizeLine then aB (W.str (x++y),S)else ba)=_)
def bX (h:(xs++a).length<=sizeLine):gT .add (.tup xs) (.tup a) S=aB (.tup (xs++a),S):=(NK h:(if (xs++a).length<=sizeLine then aB (W.tup (xs++a),S)else ba)=_)
def dN (h:S[r]?=aB (.lst xs)):pG S r=aB xs:=by unfold pG;rw[h]
def fP (b:S[i]?=aB (.lst xs))(h2:S[j]?=aB (.lst a))(h:(xs++a).length<=sizeLine):gT .add (.ref i) (.ref j) S=aB (.ref ↥S,S++[.lst (xs++a)]):=by
 show(match pG S i,pG S j with
  |some xs,aB a=>nR S (xs++a)
  |_,_=>ba)=_
 rw[dN b,dN h2];show NK h
def G7 (e:d8 S y=aB a)(d:(cw x&&a.all cw)=true)(c:(a.any λz=>CD z x)=b):xX x y S=aB b:=by
 unfold xX;rw[e];dsimp only
 rw[NK d,c]
def Dz (h:xX x y S=aB b):dH .notin x y S=aB (.bl (!b),S):=by
 change W1 _ (W1 _ (xX x y S))=_;rw[h];rfl
def hG :ci .eq (.int a) (.int b) S=aB (.bl (a==b),S):=rfl
def LU :ci .ne (.int a) (.int b) S=aB (.bl (!(a==b)),S):=rfl
def DA :ci .lt (.int a) (.int b) S=aB (.bl (decide (a<b)),S):=rfl
def LV :ci .le (.int a) (.int b) S=aB (.bl (decide (a<=b)),S):=rfl
def J2 :ci .gt (.int a) (.int b) S=aB (.bl (decide (a > b)),S):=rfl
def aG (h:S[r]?=aB (.lst xs)):fw S r=aB xs:=by unfold fw;rw[h]
def DB (h:S[r]?=aB (.fro xs)):fw S r=aB xs:=by unfold fw;rw[h]
def oU (h:S[r]?=aB (.lst xs)):lj S r=ba:=by unfold lj;rw[h]
def DC (h:S[r]?=aB (.dic U)):lj S r=aB U:=by unfold lj;rw[h]
def DD (h:S[r]?=aB (.dic U)):fw S r=ba:=by unfold fw;rw[h]
def atI_nat {j:Np}(h:xs[j]?=aB w):mG xs j=aB w:=by
 have hl:=(NA.mp h).1;unfold mG rN;rw[NK (NW j),NK (by exact_mod_cast hl)]
 simpa using h
def oV (a:0<=i)(h:xs[i.toNat]?=aB w):mG xs i=aB w:=by
 have:=atI_nat h
 rwa [TN a]at this
def Ak (h:S[r]?=aB (.lst xs))(a:0<=i)(hw:xs[i.toNat]?=aB w):mR (.ref r) (.int i) S=aB (w,S):=by
 change wo (.ref r) (.int i) S=_;unfold wo;dsimp only
 rw[aG h];dsimp only
 rw[oV a hw];rfl
def J3 (a:0<=i)(hw:xs[i.toNat]?=aB w):mR (.tup xs) (.int i) S=aB (w,S):=by
 change wo (.tup xs) (.int i) S=_;show(mG xs i).map _=_;rw[oV a hw];rfl
def E3 (b:↥x<=sizeLine)(a:0<=i)(hw:x.cps.toList[i.toNat]?=aB c):mR (.str x) (.int i) S=aB (.str #[[c].toArray],S):=by
 change wo (.str x) (.int i) S=_;show(if ↥x<=sizeLine then(mG x.cps.toList i).map λc=>(W.str #[[c].toArray],S)else ba)=_
 rw[NK b,oV a hw];rfl
def J4 (h:S[r]?=aB (.lst xs))(a:0<=i)(hi:i.toNat<↥xs):kn (.ref r) (.int i) w S=aB (S.set r (.lst (xs.set i.toNat w))):=by
 change wp (.ref r) (.int i) w S=_;have:rN ↥xs i=aB i.toNat:=by
  unfold rN;rw[NK a,NK ∅]
 unfold wp;dsimp only
 rw[dN h];dsimp only
 rw[this]
def E4 (h:S[r]?=aB (.lst xs)):Bi.len.fn [.ref r] S=aB (.int ↥xs,S):=by
 (delta Bi.fn Dt qk nV;simp[oU h,aG h])
def E5 (h:S[r]?=aB (.lst xs))(hl:↥xs<sizeLine):iE (.ref r) [y] S=aB (.non,S.set r (.lst (xs++[y]))):=by
 unfold iE;dsimp only
 rw[dN h];show NK hl
def J5 (h:S[r]?=aB (.lst xs)):lw [.ref r] S=aB (.tup xs,S):=by
 (delta lw lc;simp[Gi,h,aG h])
def jE (h:S[r]?=aB (.lst xs)):tyOk "list" S (.ref r)=true:=by simp[tyOk,aG h]
def dA (h:S[r]?=aB o):(S.set r o')[r]?=aB o':=by
 rw[PJ,NK rfl,NK (NA.mp h).1]
def gJ (h:r≠j):(S.set r o')[j]?=S[j]?:=by rw[PJ,N1 h]
def ah :(S++[o])[↥S]?=aB o:=by simp
def aD {j:Np}(h:S[j]?=aB o):(S++[u])[j]?=aB o:=by rw[Od (NA.mp h).1];show h
def iN (h:S[j]?=aB o):j<↥S:=(NA.mp h).1
structure Kp (r:Np)(S S':aa):Prop where
 get:∀j o,j≠r->S[j]?=aB o->S'[j]?=aB o
 len:↥S<=↥S'
def Kp.refl :Kp r S S:=#[λ_ _ _ h=>h,Ny _]
def Kp.trans (a:Kp r S S')(b:Kp r S' c):Kp r S c:=#[λj o n h=>b.get j o n (a.get j o n h),NO a.len b.len]
def Kp.set :Kp r S (S.set r o):=#[λj u n h=>by rw[gJ (Ne.symm n)];show h,by simp]
def Kp.push :Kp r S (S++[o]):=#[λj u n h=>aD h,by simp]
def Kp.late (a:Kp r b S)(h:↥b<=t):Kp r b (S.set t o):=
 #[λj u n e=>by
  have:=iN e;rw[gJ ∅];show a.get j u n e,by simpa using a.len]
abbrev wO {α:Type}(o:Nf α)(Q:α->Prop):Prop:=match o with
 |some a=>Q a
 |none=>Oo
def bu {Q:α->Prop}(h:wO o Q):Wp o Q:=by
 cases o with
 |none=>show h.elim
 |some a=>show#[a,rfl,h]
def J6 {Q:α->Prop}(h:Wp o Q):wO o Q:=by
 obtain⟨a,rfl,q⟩:=h;show q
def ae {Q:α->Prop}(e:o=aB a)(h:Q a):wO o Q:=by subst e;show h
abbrev wB:W->(ND->Prop)->Prop
 |.bl k,Q=>Q k
 |_,_=>Oo
abbrev wN:W->(NI->Prop)->Prop
 |.int k,Q=>Q k
 |_,_=>Oo
abbrev wU:W->(Nb W->Prop)->Prop
 |.tup k,Q=>Q k
 |_,_=>Oo
def qN {Q:ND->Prop}(h:wB w Q):∃k,w=.bl k/\Q k:=by cases w<;>first|show h.elim|show#[_,rfl,h]
def E6 {Q:NI->Prop}(h:wN w Q):∃k,w=.int k/\Q k:=by cases w<;>first|show h.elim|show#[_,rfl,h]
def J7 {Q:Nb W->Prop}(h:wU w Q):∃k,w=.tup k/\Q k:=by cases w<;>first|show h.elim|show#[_,rfl,h]
abbrev w2:Nb W->(W->W->Prop)->Prop
 |[x,y],Q=>Q x y
 |_,_=>Oo
abbrev w3:Nb W->(W->W->W->Prop)->Prop
 |[x,y,z],Q=>Q x y z
 |_,_=>Oo
abbrev wG:Nf W->(W->Prop)->Prop
 |some w,Q=>Q w
 |none,_=>Oo
abbrev wV:Fm->Np->(W->Prop)->Prop
 |[],_,_=>Oo
 |o::_,0,Q=>wG o Q
 |_::Z,n+1,Q=>wV Z n Q
def Al {Q:W->Prop}:∀{Z:Fm}{i:Np},wV Z i Q->∃w,Z[i]?=aB (aB w)/\Q w
 |[],i,h=>h.elim
 |some w::Z,0,h=>#[w,rfl,h]
 |none::Z,0,h=>h.elim
 |x::Z,n+1,h=>by
  obtain⟨w,a,q⟩:=Al  (i:=n) h;show#[w,a,q]
abbrev bh (M:Nu->FF)(f:Nu)(n:Np)(ws:Nb W)(S:aa):Nf (W×aa):=if ↥ws=n then M f ws S else ba
section
variable (M:Nu->FF) (fuel:Np)
mutual
def wE:E->Fm->aa->QW->Prop
 |.c w,_,S,Q=>Q (w,S)
 |.v i,Z,S,Q=>wV Z i λw=>Q (w,S)
 |.sem g,Z,S,Q=>wO (g Z S) Q
 |.op o a b,Z,S,Q=>wE a Z S λp=>wE b Z p.2 λq=>wO (gT o p.1 q.1 q.2) Q
 |.cmp o a b,Z,S,Q=>wE a Z S λp=>wE b Z p.2 λq=>wO (ci o p.1 q.1 q.2) Q
 |.and a b,Z,S,Q=>wE a Z S λp=>wB p.1 λk=>(k=true->wE b Z p.2 Q)/\(k=false->Q (.bl false,p.2))
 |.or a b,Z,S,Q=>wE a Z S λp=>wB p.1 λk=>(k=true->Q (.bl true,p.2))/\(k=false->wE b Z p.2 Q)
 |.not a,Z,S,Q=>wE a Z S λp=>wB p.1 λk=>Q (.bl (!k),p.2)
 |.own f n es,Z,S,Q=>wA es Z S λp=>wO (bh M f n p.1 p.2) Q
 |.bi b es,Z,S,Q=>wA es Z S λp=>wO (b.fn p.1 p.2) Q
 |.me m o es,Z,S,Q=>wE o Z S λp=>tyOk m.ty p.2 p.1=true/\wA es Z p.2 λq=>wO (m.fn p.1 q.1 q.2) Q
 |.ix a b,Z,S,Q=>wE a Z S λp=>wE b Z p.2 λq=>wO (mR p.1 q.1 q.2) Q
 |.sl a lo hi,Z,S,Q=>wE a Z S λp=>wP lo Z p.2 λq=>wP hi Z q.2 λr=>wO (fA p.1 q.1 r.1 r.2) Q
 |.tup es,Z,S,Q=>wA es Z S λp=>Q (.tup p.1,p.2)
 |.lst es,Z,S,Q=>wA es Z S λp=>Q (.ref ↥p.2,p.2++[.lst p.1])
 |.isi c a,Z,S,Q=>wE a Z S λp=>wO (uW p.2 p.1 c) λk=>Q (.bl k,p.2)
 |.neg a,Z,S,Q=>wE a Z S λp=>wN p.1 λi=>Q (.int (-i),p.2)
 |.dnew,_,S,Q=>Q (.ref ↥S,S++[.dic []])
 |.chn o o' a b d,Z,S,Q=>wE a Z S λp=>wE b Z p.2 λq=>wO (BE o p.1 q.1 q.2) λk=>(k=true->wE d Z q.2 λr=>wO (dH o' q.1 r.1 r.2) Q)/\(k=false->Q (.bl false,q.2))
 |.ite t a b,Z,S,Q=>wT t Z S λp=>(p.1=true->wE a Z p.2 Q)/\(p.1=false->wE b Z p.2 Q)
 |.comp elt tg it cs cap,Z,S,Q=>Wp (aF M (.comp elt tg it cs cap) Z S) Q
def wT:E->Fm->aa->QB->Prop
 |.cmp o a b,Z,S,Q=>wE a Z S λp=>wE b Z p.2 λq=>wO (ci o p.1 q.1 q.2) λr=>wB r.1 λk=>Q (k,r.2)
 |.and a b,Z,S,Q=>wT a Z S λp=>(p.1=true->wT b Z p.2 Q)/\(p.1=false->Q (false,p.2))
 |.or a b,Z,S,Q=>wT a Z S λp=>(p.1=true->Q (true,p.2))/\(p.1=false->wT b Z p.2 Q)
 |.not a,Z,S,Q=>wT a Z S λp=>Q (!p.1,p.2)
 |.isi c a,Z,S,Q=>wE a Z S λp=>wO (uW p.2 p.1 c) λk=>Q (k,p.2)
 |.c w,Z,S,Q=>Wp (cu M (.c w) Z S) Q
 |.v i,Z,S,Q=>wV Z i λw=>wO (dI S w) λk=>Q (k,S)
 |.sem g,Z,S,Q=>wO (g Z S) λq=>wO (dI q.2 q.1) λk=>Q (k,q.2)
 |.op o a b,Z,S,Q=>Wp (cu M (.op o a b) Z S) Q
 |.own f n es,Z,S,Q=>wA es Z S λp=>wO (bh M f n p.1 p.2) λq=>wO (dI q.2 q.1) λk=>Q (k,q.2)
 |.bi b es,Z,S,Q=>wA es Z S λp=>wO (b.fn p.1 p.2) λq=>wO (dI q.2 q.1) λk=>Q (k,q.2)
 |.me m o es,Z,S,Q=>Wp (cu M (.me m o es) Z S) Q
 |.ix a b,Z,S,Q=>Wp (cu M (.ix a b) Z S) Q
 |.sl a lo hi,Z,S,Q=>Wp (cu M (.sl a lo hi) Z S) Q
 |.tup es,Z,S,Q=>Wp (cu M (.tup es) Z S) Q
 |.lst es,Z,S,Q=>Wp (cu M (.lst es) Z S) Q
 |.neg a,Z,S,Q=>Wp (cu M (.neg a) Z S) Q
 |.dnew,Z,S,Q=>Wp (cu M .dnew Z S) Q
 |.chn o o' a b d,Z,S,Q=>wE a Z S λp=>wE b Z p.2 λq=>wO (BE o p.1 q.1 q.2) λk=>(k=true->wE d Z q.2 λr=>wO (dH o' q.1 r.1 r.2) λs=>wB s.1 λc=>Q (c,s.2))/\(k=false->Q (false,q.2))
 |.ite t a b,Z,S,Q=>Wp (cu M (.ite t a b) Z S) Q
 |.comp elt tg it cs cap,Z,S,Q=>Wp (cu M (.comp elt tg it cs cap) Z S) Q
def wA:Es->Fm->aa->(Nb W×aa->Prop)->Prop
 |.nil,_,S,Q=>Q ([],S)
 |.cons e es,Z,S,Q=>wE e Z S λp=>wA es Z p.2 λq=>Q (p.1::q.1,q.2)
def wP:Ep->Fm->aa->(Nf NI×aa->Prop)->Prop
 |.no,_,S,Q=>Q (ba,S)
 |.yes a,Z,S,Q=>wE a Z S λp=>wN p.1 λi=>Q (aB i,p.2)
end
abbrev xq (K:Fm->aa->Prop)(Q:QO)(p:Out×aa):Prop:=match p.1 with
 |.nx Z=>K Z p.2
 |o=>Q (o,p.2)
mutual
def wS:Sm->Fm->aa->(Fm->aa->Prop)->QO->Prop
 |.sem g,Z,S,K,Q=>wO (g M Z S) (xq K Q)
 |.set i e,Z,S,K,_=>wE M e Z S λp=>K (Z.set i (aB p.1)) p.2
 |.asg is e,Z,S,K,_=>wE M e Z S λp=>wU p.1 λws=>wO (bQ is ws Z) λc=>K c p.2
 |.put o k e,Z,S,K,_=>wE M e Z S λp=>wE M o Z p.2 λq=>wE M k Z q.2 λr=>wO (kn q.1 r.1 p.1 r.2) λS'=>K Z S'
 |.ex e,Z,S,K,_=>wE M e Z S λp=>K Z p.2
 |.ret e,Z,S,_,Q=>wE M e Z S λp=>Q (.rt p.1,p.2)
 |.pass,Z,S,K,_=>K Z S
 |.bad,_,_,_,_=>Oo
 |.ite t a b,Z,S,K,Q=>wT M t Z S λp=>∀d:QO,(∀c S',K c S'->d (.nx c,S'))->(∀o S',(∀c,o≠.nx c)->Q (o,S')->d (o,S'))->(p.1=true->DE a Z p.2 d)/\(p.1=false->DE b Z p.2 d)
 |.whl t b,Z,S,K,Q=>Wp (cj M fuel (.whl t b) Z S) (xq K Q)
 |.loop tg it b,Z,S,K,Q=>Wp (cj M fuel (.loop tg it b) Z S) (xq K Q)
def DE:Ss->Fm->aa->QO->Prop
 |.nil,Z,S,Q=>Q (.nx Z,S)
 |.cons s ss,Z,S,Q=>wS s Z S (λc S'=>DE ss c S' Q) Q
end
end
abbrev Iz:Es->Np
 |.nil=>0
 |.cons _ d=>Iz d+1
mutual
def cq:E->ND
 |.c _|.v _|.sem _|.comp _ _ _ _ _|.dnew=>true
 |.op _ a b|.cmp _ a b|.and a b|.or a b|.ix a b=>cq a&&cq b
 |.chn _ _ a b c|.ite a b c=>cq a&&cq b&&cq c
 |.neg a|.not a|.isi _ a=>cq a
 |.own _ n d=>Iz d==n&&pH d
 |.bi _ d=>pH d
 |.me _ o d=>cq o&&pH d
 |.sl a lo hi=>cq a&&LW lo&&LW hi
 |.tup d|.lst d=>decide (Iz d<=1000)&&pH d
def pH:Es->ND
 |.nil=>true
 |.cons e d=>cq e&&pH d
def LW:Ep->ND
 |.no=>true
 |.yes e=>cq e
end
mutual
def MF:Sm->ND
 |.set _ e|.asg _ e|.ex e|.ret e=>cq e
 |.put o k e=>cq o&&cq k&&cq e
 |.ite t a b=>cq t&&iO a&&iO b
 |_=>true
def iO:Ss->ND
 |.nil=>true
 |.cons s ss=>MF s&&iO ss
end
def gh:∀{a:Es}{Z:Fm}{S S':aa}{ws:Nb W},bW M a Z S=aB (ws,S')->↥ws=Iz a
 |.nil,Z,S,S',ws,h=>by cases h;rfl
 |.cons e a,Z,S,S',ws,h=>by
  dsimp only[bW]at h;unfold b6 at h;split at h
  ·split at h
   next h2=>cases h;rw[Og,gh h2];rfl
   ·cases h
  ·cases h
def sQ (h:decide (n<=1000)=true):n<=sizeLine:=NO (N3 h) #v[]
def J8 {g:FE}{Q:QB}(h:wO (g Z S) λq=>wO (dI q.2 q.1) λk=>Q (k,q.2)):Wp (eS g Z S) Q:=by
 obtain⟨⟨w,S1⟩,e,b⟩:=bu h;obtain⟨k,a,q⟩:=bu b;show#[(k,S1),?_,q];unfold eS;rw[e];dsimp only;rw[a];rfl
def bP (h:(a&&b)=true):a=true:=by cases a<;>first|rfl|cases h
def cF (h:(a&&b)=true):b=true:=by cases a<;>first|show h|cases h
mutual
theorem aP:∀(e:E) {Z:Fm}{S:aa}{Q:QW},cq e=true->wE M e Z S Q->Wp (aF M e Z S) Q
 |.c w,Z,S,Q,k,h=>MW.mpr h
 |.v i,Z,S,Q,k,h=>MD.mpr (Al h)
 |.sem g,Z,S,Q,k,h=>bu h
 |.op o a b,Z,S,Q,k,h=>LL.mpr ((aP a (bP k) h).mono λp j=>(aP b (cF k) j).mono λq l=>bu l)
 |.cmp o a b,Z,S,Q,k,h=>EX.mpr ((aP a (bP k) h).mono λp j=>(aP b (cF k) j).mono λq l=>bu l)
 |.and a b,Z,S,Q,k,h=>JI.mpr ((aP a (bP k) h).mono λp j=>let ⟨c,e,h1,h2⟩:=qN j;#[c,e,λz=>aP b (cF k) (h1 z),h2])
 |.or a b,Z,S,Q,k,h=>LN.mpr ((aP a (bP k) h).mono λp j=>let ⟨c,e,h1,h2⟩:=qN j;#[c,e,h1,λz=>aP b (cF k) (h2 z)])
 |.not a,Z,S,Q,k,h=>JJ.mpr ((aP a k h).mono λp j=>qN j)
 | .own f n u,Z,S,Q,k,h=>EY.mpr (by
   obtain⟨⟨ws,S1⟩,e,l⟩:=jW u (cF k) h;have hl:↥ws=n:=(gh e).trans (eq_of_beq (bP k));simp only[bh,NK hl]at l;show#[_,e,hl,bu l])
 |.bi b u,Z,S,Q,k,h=>JL.mpr ((jW u k h).mono λp j=>bu j)
 |.me m o u,Z,S,Q,k,h=>LO.mpr ((aP o (bP k) h).mono λp j=>#[j.1,(jW u (cF k) j.2).mono λq l=>bu l])
 |.ix a b,Z,S,Q,k,h=>LM.mpr ((aP a (bP k) h).mono λp j=>(aP b (cF k) j).mono λq l=>bu l)
 |.sl a lo hi,Z,S,Q,k,h=>LP.mpr ((aP a (bP (bP k)) h).mono λp j=>(E7 lo (cF (bP k)) j).mono λq l=>(E7 hi (cF k) l).mono λr v=>bu v)
 | .tup u,Z,S,Q,k,h=>JN.mpr (by
   obtain⟨⟨ws,S1⟩,e,l⟩:=jW u (cF k) h;show#[_,e,by rw[gh e];show sQ (bP k),l])
 | .lst u,Z,S,Q,k,h=>JO.mpr (by
   obtain⟨⟨ws,S1⟩,e,l⟩:=jW u (cF k) h;show#[_,e,by rw[gh e];show sQ (bP k),l])
 |.isi c a,Z,S,Q,k,h=>EZ.mpr ((aP a k h).mono λp j=>bu j)
 |.neg a,Z,S,Q,k,h=>JP.mpr ((aP a k h).mono λp j=>E6 j)
 |.dnew,Z,S,Q,k,h=>#[_,rfl,h]
 |.chn o o' a b d,Z,S,Q,k,h=>E1 ((aP a (bP (bP k)) h).mono λp j=>(aP b (cF (bP k)) j).mono λq l=>let ⟨c,e,h1,h2⟩:=bu l;#[c,e,λz=>(aP d (cF k) (h1 z)).mono λr v=>bu v,h2])
 |.ite t a b,Z,S,Q,k,h=>JK.mpr ((iP t (bP (bP k)) h).mono λp j=>#[λz=>aP a (cF (bP k)) (j.1 z),λz=>aP b (cF k) (j.2 z)])
 |.comp y tg it A x,Z,S,Q,k,h=>h
theorem jW:∀(u:Es) {Z:Fm}{S:aa}{Q:Nb W×aa->Prop},pH u=true->wA M u Z S Q->Wp (bW M u Z S) Q
 |.nil,Z,S,Q,k,h=>JQ.mpr h
 |.cons e u,Z,S,Q,k,h=>GY.mpr ((aP e (bP k) h).mono λp j=>jW u (cF k) j)
theorem E7:∀(e:Ep) {Z:Fm}{S:aa}{Q:Nf NI×aa->Prop},LW e=true->wP M e Z S Q->Wp (uY M e Z S) Q
 |.no,Z,S,Q,k,h=>LQ.mpr h
 |.yes a,Z,S,Q,k,h=>JM.mpr ((aP a k h).mono λp j=>E6 j)
theorem iP:∀(e:E) {Z:Fm}{S:aa}{Q:QB},cq e=true->wT M e Z S Q->Wp (cu M e Z S) Q
 |.cmp o a b,Z,S,Q,k,h=>JR.mpr (EX.mpr ((aP a (bP k) h).mono λp j=>(aP b (cF k) j).mono λq l=>(bu l).mono λr v=>qN v))
 |.and a b,Z,S,Q,k,h=>JT.mpr ((iP a (bP k) h).mono λp j=>#[λz=>iP b (cF k) (j.1 z),j.2])
 |.or a b,Z,S,Q,k,h=>LR.mpr ((iP a (bP k) h).mono λp j=>#[j.1,λz=>iP b (cF k) (j.2 z)])
 |.not a,Z,S,Q,k,h=>JU.mpr (iP a k h)
 |.isi c a,Z,S,Q,k,h=>JW.mpr (EZ.mpr ((aP a k h).mono λp j=>let ⟨b,e,q⟩:=bu j;#[b,e,b,rfl,q]))
 |.v i,Z,S,Q,k,h=>MY.mpr (MD.mpr (let ⟨w,e,q⟩:=Al h;#[w,e,bu q]))
 |.sem g,Z,S,Q,k,h=>J8 h
 | .own f n u,Z,S,Q,k,h=>JV.mpr (EY.mpr (by
   obtain⟨⟨ws,S1⟩,e,l⟩:=jW u (cF k) h;have hl:↥ws=n:=(gh e).trans (eq_of_beq (bP k));simp only[bh,NK hl]at l;show#[_,e,hl,(bu l).mono λq l=>bu l]))
 |.c w,Z,S,Q,k,h=>h
 |.op o a b,Z,S,Q,k,h=>h
 |.bi b u,Z,S,Q,k,h=>LS.mpr (JL.mpr ((jW u k h).mono λp j=>(bu j).mono λq l=>bu l))
 |.me m o u,Z,S,Q,k,h=>h
 |.ix a b,Z,S,Q,k,h=>h
 |.sl a lo hi,Z,S,Q,k,h=>h
 |.tup u,Z,S,Q,k,h=>h
 |.lst u,Z,S,Q,k,h=>h
 |.neg a,Z,S,Q,k,h=>h
 |.dnew,Z,S,Q,k,h=>h
 |.chn o o' a b d,Z,S,Q,k,h=>JS.mpr (E1 ((aP a (bP (bP k)) h).mono λp j=>(aP b (cF (bP k)) j).mono λq l=>let ⟨c,e,h1,h2⟩:=bu l;#[c,e,λz=>(aP d (cF k) (h1 z)).mono λr v=>(bu v).mono λs B=>qN B,λz=>#[false,rfl,h2 z]]))
 |.ite t a b,Z,S,Q,k,h=>h
 |.comp y tg it A x,Z,S,Q,k,h=>h
end
mutual
theorem J9:∀(s:Sm) {Z:Fm}{S:aa}{K:Fm->aa->Prop}{Q:QO},MF s=true->wS M fuel s Z S K Q->Wp (cj M fuel s Z S) (xq K Q)
 |.sem g,Z,S,K,Q,k,h=>bu h
 |.set i e,Z,S,K,Q,k,h=>G0.mpr (aP e k h)
 |.asg is e,Z,S,K,Q,k,h=>G1.mpr ((aP e k h).mono λp hp=>let ⟨ws,e1,h1⟩:=J7 hp;let ⟨Z',e2,h2⟩:=bu h1;#[ws,Z',e1,e2,h2])
 |.put o i e,Z,S,K,Q,k,h=>G2.mpr ((aP e (cF k) h).mono λp hp=>(aP o (bP (bP k)) hp).mono λq hq=>(aP i (cF (bP k)) hq).mono λr hr=>bu hr)
 |.ex e,Z,S,K,Q,k,h=>JY.mpr (aP e k h)
 |.ret e,Z,S,K,Q,k,h=>G3.mpr (aP e k h)
 |.pass,Z,S,K,Q,k,h=>#[_,rfl,h]
 |.bad,Z,S,K,Q,k,h=>h.elim
 | .ite t a b,Z,S,K,Q,k,h=>G4.mpr ((iP t (bP (bP k)) h).mono λp hp=>by
   obtain⟨h1,h2⟩:=hp (xq K Q) (λZ' S' z=>z) (λo S' hn z=>by cases o<;>first|show z|show absurd rfl (hn _))
   show#[λz=>hW a (cF (bP k)) (h1 z),λz=>hW b (cF k) (h2 z)])
 |.whl t b,Z,S,K,Q,k,h=>h
 |.loop tg it b,Z,S,K,Q,k,h=>h
theorem hW:∀(ss:Ss) {Z:Fm}{S:aa}{Q:QO},iO ss=true->DE M fuel ss Z S Q->Wp (bS M fuel ss Z S) Q
 |.nil,Z,S,Q,k,h=>JX.mpr h
 | .cons s ss,Z,S,Q,k,h=>GZ.mpr ((J9 s (bP k) h).mono λp hp=>by
   obtain⟨o,S1⟩:=p;cases o with
   |nx Z'=>show#[λZ2 e=>by cases e;show hW ss (cF k) hp,λz=>absurd rfl (z Z')]
   |_=>show#[λZ2 e=>(by cases e),λ_=>hp])
end
structure wZ (M:Nu->FF)(fuel:Np)(ss:Ss)(Z:Fm)(S:aa)(Q:QO):Prop where
 out:DE M fuel ss Z S Q
def Kb {Q:QO}:DE M fuel ss Z S Q=wZ M fuel ss Z S Q:=propext #[λh=>#[h],λh=>h.out]
def G8 {f:Nu}(h:defs.lookup f=aB df)(e:↥ws=n)(hl:↥ws=↥df.ps)(ok:iO df.body=true)
  (c:∀a:QO,(∀w S',Q (w,S')->a (.rt w,S'))->wZ (ag defs fuel d) fuel df.body (bw df.N ws) S a):wO (bh (ag defs fuel (d+1)) f n ws S) Q:=by
 unfold bh;rw[NK e];show J6 (xp h hl ((hW _ ok (c (λp=>match p.1 with|.rt w=>Q (w,p.2)|_=>Oo) λw S' q=>q).out).mono λp b=>by
  obtain⟨o,S1⟩:=p;cases o<;>first|show b|show b.elim))
open PySem PySem.Spec PyProof.Rows L2 Xc
abbrev xY:W->Nf W
 |.tup [.non,w]=>aB w
 |.non=>aB .non
 |_=>ba
abbrev xV:W->Nf (Nu×Nb W)
 |.tup (.str c::ws)=>aB (c,ws)
 |_=>ba
def Kc (h:xY w=aB a):xV w=ba:=by
 unfold xY at h;split at h
 ·rfl
 ·rfl
 ·cases h
abbrev K1:Out->Nf Out
 |.rt w=>(xY w).map .rt
 |o=>aB o
abbrev xO:Out->Nf (Nu×Nb W)
 |.rt w=>xV w
 |_=>ba
abbrev jX (F:FS):FS:=λZ S=>match F Z S with
 |some (o,S')=>(K1 o).map λo'=>(o',S')
 |none=>ba
abbrev xF (F:FS):FX:=λZ S=>match F Z S with
 |some (o,S')=>(xO o).map λp=>(p.1,p.2,S')
 |none=>ba
def Am (w:W):K1 (.rt w)=ba\/∃a,K1 (.rt w)=aB (.rt a)/\xO (.rt w)=ba:=by
 cases h:xY w with
 |none=>
  show .inl ?_;show(xY w).map _=ba;rw[h];rfl
 |some a=>
  show .inr #[a,?_,Kc h];show(xY w).map _=_;rw[h];rfl
def GX.mono {st:OE}{f g:FS}(h:GX X cl Ew st f fx)(j:∀Z S r,g Z S=aB r->f Z S=aB r)(k:∀Z S r,a Z S=aB r->fx Z S=aB r):GX X cl Ew st g a:=λJ s Y H D I q=>h J s Y H D I (by
 rcases q with⟨A,Z,S,o,S',b,c,e,d⟩|⟨A,Z,S,cn,ws,S',C,i,b,c,e,hc,q⟩
 ·show .inl #[A,Z,S,o,S',b,c,j _ _ _ e,d]
 ·show .inr #[A,Z,S,cn,ws,S',C,i,b,c,k _ _ _ e,hc,q])
def DF (f g:FS):jX (ko f g)=ko (jX f) (jX g):=by
 funext Z S
 unfold jX ko;dsimp only;cases f Z S with
 |none=>rfl
 |some p=>
  obtain⟨o,S1⟩:=p;cases o with
  |rt w=>rcases Am w with e|⟨a,e,_⟩<;>(dsimp only;rw[e];rfl)
  |_=>rfl
def G9 (f g:FS):xF (ko f g)=uV (jX f) (xF f) (xF g):=by
 funext Z S
 unfold xF ko uV jX;dsimp only;cases f Z S with
 |none=>rfl
 |some p=>
  obtain⟨o,S1⟩:=p;cases o with
  |rt w=>rcases Am w with e|⟨b,e,a⟩<;>dsimp only<;>rw[e]<;>first|rfl|(rw[a];rfl)
  |_=>rfl
def Ha (c:FT)(f g:FS):jX (ly c f g)=ly c (jX f) (jX g):=by
 funext Z S
 unfold jX ly;dsimp only;cases c Z S with
 |none=>rfl
 |some p=>obtain⟨b,S1⟩:=p;cases b<;>rfl
def Kd (c:FT)(f g:FS):xF (ly c f g)=C8 c (xF f) (xF g):=by
 funext Z S
 unfold xF ly C8;dsimp only;cases c Z S with
 |none=>rfl
 |some p=>obtain⟨b,S1⟩:=p;cases b<;>rfl
abbrev oW:Sm->ND
 |.set _ _|.asg _ _|.put _ _ _|.ex _|.pass=>true
 |_=>false
def sR {f:FE}{g:FG}(h:jv f g Z S=aB (o,S')):∃a,o=.nx a:=by
 unfold jv at h;split at h
 ·split at h
  ·cases h;show#[_,rfl]
  ·cases h
 ·cases h
def qO (f:oW s=true)(h:cj M fuel s Z S=aB (o,S')):∃d,o=.nx d:=by
 cases s with
 |set i e=>dsimp only[cj]at h;show sR h
 |asg is e=>dsimp only[cj]at h;show sR h
 |put a b c=>dsimp only[cj]at h;show sR h
 |ex e=>
  dsimp only[cj]at h;unfold oE at h;split at h
  ·cases h;show#[_,rfl]
  ·cases h
 |pass=>cases h;show#[_,rfl]
 |_=>cases f
def xr (a:oW s=true)(h:jX (cj M fuel s) Z S=aB r):cj M fuel s Z S=aB r:=by
 unfold jX at h;split at h
 next o S' e=>obtain⟨b,rfl⟩:=qO a e;rw[e];show h
 ·cases h
def An (a:oW s=true):xF (cj M fuel s) Z S=ba:=by
 unfold xF;split
 next o S' e=>obtain⟨b,rfl⟩:=qO a e;rfl
 ·rfl
abbrev Ke (Γ:Gam)(st:OE):Nf Sm:=match cS 20 Γ st with
 |some a=>if oW a then aB a else ba
 |none=>ba
abbrev cX (R:Nb (Nu×Np)):Np->Gam->OE->Nf Sm
 |0,_,_=>ba
 |n+1,Γ,st=>match st with
  |.Return (aB e) _=>(cE aZ Γ e).map λg=>.ret (.tup #v[.c .non,g])
  |.Raise (aB (.Call (.Name c _) args [] _)) ba _=>if bL Γ c&&(R.lookup c==aB ↥args)then(cA (cE aZ Γ) args).map λh=>.ret (.tup (.cons (.c (.str c)) h))else ba
  |.If t a b _=>match cE aZ Γ t,gI (cX R n Γ) a,gI (cX R n Γ) b with
   |some t',aB d,aB f=>aB (.ite t' d f)
   |_,_,_=>ba
  |st=>Ke Γ st
inductive RK (X:Cx)(cl:Cl)(c:Nu):Np->Prop
 |zero {k:Np}{f C:Nl}{cd:O8}{fd:OG}{ps:Nb Nu} (Mqa:XM X.K C f cd) (F:FnOk X.prog X.w X.K X.mg X.base kj k f fd ps (Cj X.K)) (hr:Room (k+1) X.A) (hm:X.mg c=aB (.ref C)) (hb:Binds X.K fd ps []) (hc:cl c=aB (C,[])):RK X cl c 0
 |one {k:Np}{f C:Nl}{cd:O8}{fd:OG}{ps:Nb Nu}{g:Nu} (Mqa:XM X.K C f cd) (hf:Qr X.K (.ref C) g=aB ba) (F:FnOk X.prog X.w X.K X.mg X.base kj k f fd ps (yH X.K g)) (hr:Room (k+1) X.A) (hm:X.mg c=aB (.ref C)) (hb:Binds X.K fd ps []) (hc:cl c=aB (C,[g])):RK X cl c 1
structure XOk (X:Cx)(R:Nb (Nu×Np))(cl:Cl)(Ew:L2.XK):Prop where
 hh:X.A.handled=ba
 w:C7 X Ew
 rk:∀c k,R.lookup c=aB k->RK X cl c k
section
variable{R:Nb (Nu×Np)}
def vd (K:CtxOk M X Γ){st:OE}(h:Ke Γ st=aB a):GX X cl Ew st (jX (cj M fuel a)) (xF (cj M fuel a)):=by
 unfold Ke at h;split at h
 next d c=>
  split at h
  next b=>cases h;show(qx (oQ fuel K 20 c)).mono (λZ S r e=>xr b e) λZ S r e=>by rw[An b]at e;cases e
  ·cases h
 ·cases h
def xu (h:sw S ws=aB (w,S')):w=.tup ws/\S'=S:=by
 unfold sw at h;split at h
 ·cases h;show#[rfl,rfl]
 ·cases h
def iQ {e:E}(h:aF M (.tup (.cons (.c c) b)) Z S=aB (w,S')):∃ws,bW M b Z S=aB (ws,S')/\w=.tup (c::ws):=by
 dsimp only[aF,bW]at h;unfold wW at h;split at h
 next ws S1 a=>
  obtain⟨rfl,rfl⟩:=xu h;unfold b6 at a;dsimp only[fC]at a;split at a
  next f S2 d=>cases a;show#[_,d,rfl]
  ·cases a
 ·cases h
def iR {f:FE}(h:qv f Z S=aB (o,S')):∃w,f Z S=aB (w,S')/\o=.rt w:=by
 unfold qv at h;split at h
 next w S1 e=>cases h;show#[w,e,rfl]
 ·cases h
def Hb (h:jX (cj M fuel (.ret (.tup #v[.c .non,b]))) Z S=aB r):qv (aF M b) Z S=aB r:=by
 unfold jX at h;split at h
 next o S' e=>
  obtain⟨w,c,rfl⟩:=iR e;obtain⟨ws,a,rfl⟩:=iQ (e:=b) c;dsimp only[bW]at a;unfold b6 at a;split at a
  next w2 S2 d=>dsimp only[gA]at a;cases a;cases h;unfold qv;rw[d]
  ·cases a
 ·cases h
def Hc :xF (cj M fuel (.ret (.tup #v[.c .non,a]))) Z S=ba:=by
 unfold xF;split
 next o S' e=>obtain⟨w,b,rfl⟩:=iR e;obtain⟨ws,c,rfl⟩:=iQ (e:=a) b;rfl
 ·rfl
def Ao {f:NF->Nf E}:∀{a:Nb NF}{r:Es},cA f a=aB r->Iz r=↥a
 |[],_,h=>by cases h;rfl
 |e::a,r,h=>by
  obtain⟨c,b,d,h2,rfl⟩:=iJ h;change Iz b+1=_;rw[Ao h2];rfl
def Ap :jX (cj M fuel (.ret (.tup (.cons (.c (.str c)) b)))) Z S=ba:=by
 unfold jX;split
 next o S' e=>obtain⟨w,a,rfl⟩:=iR e;obtain⟨ws,d,rfl⟩:=iQ (e:=.dnew) a;rfl
 ·rfl
def DH (h:xF (cj M fuel (.ret (.tup (.cons (.c (.str c)) a)))) Z S=aB r):∃ws S',bW M a Z S=aB (ws,S')/\r=(c,ws,S'):=by
 unfold xF at h;split at h
 next o S' e=>obtain⟨w,b,rfl⟩:=iR e;obtain⟨ws,d,rfl⟩:=iQ (e:=.dnew) b;cases h;show#[ws,S',d,rfl]
 ·cases h
def DI (K:CtxOk M X Γ)(g:XOk X R cl Ew)(h:(if bL Γ c&&(R.lookup c==aB ↥args)then(cA (cE aZ Γ) args).map λi=>Sm.ret (.tup (.cons (.c (.str c)) i))else ba)=aB o) :
  GX X cl Ew (.Raise (aB (.Call (.Name c p) args [] cpos)) ba pos) (jX (cj M fuel o)) (xF (cj M fuel o)):=by
 split at h
 next hc=>
  rw[Nj]at hc;obtain⟨t,u⟩:=fO K hc.1;have hl:R.lookup c=aB ↥args:=eq_of_beq hc.2;rw[Nk]at h;obtain⟨i,j,rfl⟩:=h;have ga:=cD (λz=>(bj aZ K z).1) j
  have rk:=g.rk c _ hl;have y:=Ao j;have ns:=bO j;have w:∀k,↥args=k->∀Z S r,xF (cj M fuel (.ret (.tup (.cons (.c (.str c)) i)))) Z S=aB r->lB c k (bW M i) Z S=aB r:=λk hk Z S r e=>by
   obtain⟨ws,S',s,rfl⟩:=DH e;unfold lB;rw[s];dsimp only;rw[NK ((gh s).trans (y.trans hk))]
  have v:∀(f:FS) Z S r,jX (cj M fuel (.ret (.tup (.cons (.c (.str c)) i)))) Z S=aB r->f Z S=aB r:=λf Z S r e=>by rw[Ap]at e;cases e
  generalize hk:↥args=k at rk;cases rk with
  |zero b F n m l d=>
   obtain rfl:args=[]:=SE.mp hk;show(w4 (p:=p) (cpos:=cpos) (pos:=pos) g.hh b F n t m l g.w d u).mono (v _) λZ S r e=>?_
   have q:=w 0 hk Z S r e;cases j;cases q;rfl
  |one b x F n m l d=>
   cases args with
   |nil=>cases hk
   |cons a as=>
    rw[OA,Nj]at ns;show(wY (p:=p) (cpos:=cpos) (pos:=pos) g.hh b x F n t m l g.w d ga u (az ns.1) (aU ns.2)).mono (v _) (w 1 hk)
 ·cases h
def kD (ih:∀{st:OE}{a:Sm},cX R n Γ st=aB a->GX X cl Ew st (jX (cj M fuel a)) (xF (cj M fuel a))):∀{ss:Nb OE}{r:Ss},gI (cX R n Γ) ss=aB r->GB X cl Ew ss (jX (bS M fuel r)) (xF (bS M fuel r))
 |[],r,h=>by
  cases h;show C6
 |s::ss,r,h=>by
  obtain⟨a,c,b,h2,rfl⟩:=iM h;have g:=zM (ih b) (kD ih h2);rw[<- DF,<- G9]at g;show g
def DJ (fuel:Np)(K:CtxOk M X Γ)(u:XOk X R cl Ew):∀ n {st:OE}{i:Sm},cX R n Γ st=aB i->GX X cl Ew st (jX (cj M fuel i)) (xF (cj M fuel i)):=by
 intro n
 induction n with
 |zero=>intro st i h;cases h
 |succ n ih=>
  intro st i h;cases st with
  |Return o p=>
   cases o with
   |none=>show vd K h
   |some e=>
    replace h:(cE aZ Γ e).map (λs=>Sm.ret (.tup #v[.c .non,s]))=aB i:=h
    rw[Nk]at h;obtain⟨s,k,rfl⟩:=h;show(qx (oF (bj _ K k).1)).mono (λZ S r e=>Hb e) λZ S r e=>by rw[Hc]at e;cases e
  |Raise exc d pos=>
   have j:Ke Γ (.Raise exc d pos)=ba:=rfl;have plain:Ke Γ (.Raise exc d pos)=aB i->GX X cl Ew (.Raise exc d pos) (jX (cj M fuel i)) (xF (cj M fuel i)):=λz=>by rw[j]at z;cases z
   cases d with
   |some _=>cases exc with
    |none=>show plain h
    |some e=>cases e with
     |Call f args l cpos=>cases f with
      |Name c p=>cases l<;>show plain h
      |_=>show plain h
     |_=>show plain h
   |none=>cases exc with
    |none=>show plain h
    |some e=>cases e with
     |Call f args l cpos=>cases f with
      |Name c p=>cases l with
       |nil=>show DI K u h
       |cons _ _=>show plain h
      |_=>show plain h
     |_=>show plain h
  |If t a b p=>
   replace h:(match cE aZ Γ t,gI (cX R n Γ) a,gI (cX R n Γ) b with|some t',aB m,aB q=>aB (Sm.ite t' m q)|_,_,_=>ba)=aB i:=h
   split at h
   next t' m q k h2 w=>cases h;have g:=Jx (pos:=p) (bj _ K k).2 (kD ih h2) (kD ih w);rw[<- Ha,<- Kd]at g;show g
   ·cases h
  |_=>show vd K h
end
abbrev Aq (g:FF):FF:=λws S=>match g ws S with
 |some (w,S')=>(xY w).map λv=>(v,S')
 |none=>ba
abbrev xG (g:FF):Jy:=λws S=>match g ws S with
 |some (w,S')=>(xV w).map λp=>(p.1,p.2,S')
 |none=>ba
section
variable{w:NU}{base:N6}
inductive CK (P:NM)(w:NU)(K:Nr)(mg:Nu->Nf Nd)(base:N6)(cl:Cl)(c:Nu):Np->Prop
 |zero {f C:Nl}{cd:O8}{fd:OG}{ps:Nb Nu} (Mqa:XM K C f cd) (F:FnOk P w K mg base kj 1 f fd ps (Cj K)) (hm:mg c=aB (.ref C)) (hb:Binds K fd ps []) (hc:cl c=aB (C,[])):CK P w K mg base cl c 0
 |one {f C:Nl}{cd:O8}{fd:OG}{ps:Nb Nu}{g:Nu} (Mqa:XM K C f cd) (hf:Qr K (.ref C) g=aB ba) (F:FnOk P w K mg base kj 1 f fd ps (yH K g)) (hm:mg c=aB (.ref C)) (hb:Binds K fd ps []) (hc:cl c=aB (C,[g])):CK P w K mg base cl c 1
def CK.rk (h:CK P w K mg base cl c n)(f:X.prog=P)(g:X.w=w)(i:X.K=K)(j:X.mg=mg)(k:X.base=base)(e:Room 2 X.A):RK X cl c n:=by
 subst f g i j k;cases h with
 |zero a F d b hc=>show .zero a F e d b hc
 |one a l F d b hc=>show .one a l F e d b hc
def Hd {R:Nb (Nu×Np)}{st:OE}(F:Fun K x b st f fd)(S:FnScope df.N df.ps (aq st))(hd:defs.lookup t=aB df)
  (hc:gI (cX R 20 (cV a st df.N)) (aI st)=aB df.body) (N:MdOk w K mg a) (p:u7 P w K mg base a defs fuel d) (V:∀c k,R.lookup c=aB k->CK P w K mg base cl c k) :
  FnOk P w K mg base (CXx P w) (d+3) f fd df.ps (spX w K cl ↥df.ps (Aq (ag defs fuel (d+1) t)) (xG (ag defs fuel (d+1) t))):=by
 have T:=GU (P:=P) (w:=w) (mg:=mg) (base:=base) (cl:=cl) (k:=d+2) (fs:=jX (bS (ag defs fuel d) fuel df.body)) (fx:=xF (bS (ag defs fuel d) fuel df.body)) F S λcdv A outer s H E l=>by
  have U:CtxOk (ag defs fuel d) (eN (CXx P w) P w K mg base df.N b (aq st) f cdv A outer s H E) (cV a st df.N):=by
   show#[rfl,S.kind,rfl,S.nd,congrArg T6 l.hd,GV,?_,λ_ _=>rfl,λ_ h=>(nomatch h),N.blt,N.cst _ rfl rfl rfl,λg n hg=>?_]
   ·have:=l.un;show(A.deeper _).units+20<cLine;omega
   ·obtain⟨fa,D,J,j,h2,Y,h4⟩:=p g n hg;show#[d+2,fa,D,J,j,l,h2,Y,h4]
  show kD (λz=>DJ fuel U #[l.hd,Dy,λc k h=>(V c k h).rk rfl rfl rfl rfl rfl (l.mono (Nat.le_add_left _ _))] 20 z) hc
 show T.imp λvs H Q E h=>?_
 have m:∀{ws:Nb W}{S:aa}{r:W}{S':aa},↥ws=↥df.ps->ag defs fuel (d+1) t ws S=aB (r,S')->(∃o,bS (ag defs fuel d) fuel df.body (bw df.N ws) S=aB (o,S')/\(o=.rt r\/(r=.non/\∃Z,o=.nx Z))):=λ{ws S r S'} hl e=>by
  dsimp only[ag]at e;rw[hd]at e;dsimp only at e;rw[NK hl]at e;split at e
  next O S1 j=>cases e;show#[_,j,.inl rfl]
  next Z1 S1 j=>cases e;show#[_,j,.inr #[rfl,_,rfl]]
  ·cases e
 rcases h with⟨A,u,ws,w',S',M,L,hl,e,I⟩|⟨A,u,ws,cn,us,S',C,X,M,L,hl,e,G,I⟩
 ·show .ok #[A,u,ws,w',S',M,L,hl,?_,I];unfold Aq at e;split at e
  next O S1 y=>
   rw[Nk]at e;obtain⟨v,i,B⟩:=e;cases B;obtain⟨o,q,rfl|⟨rfl,Z,rfl⟩⟩:=m hl y
   ·unfold u8 jX;rw[q];delta K1;rw[i];rfl
   ·cases i;unfold u8 jX;rw[q];rfl
  ·cases e
 ·show .xc A u ws cn us S' C X M L hl ?_ G I;unfold xG at e;split at e
  next O S1 y=>
   rw[Nk]at e;obtain⟨v,i,B⟩:=e;cases B;obtain⟨o,q,rfl|⟨rfl,Z,rfl⟩⟩:=m hl y
   ·unfold EW xF;rw[q];delta xO;rw[i];rfl
   ·cases i
  ·cases e
abbrev E8 (f:Nu)(n:Np):Ss:=.cons (.sem λM Z S=>match M f ((Z.take n).filterMap id) S with
 |some (w,S')=>(xY w).map λv=>(.rt v,S')
 |none=>ba) .nil
def sS (h:↥ws=n):((bw N ws).take n).filterMap id=ws:=by
 subst h;unfold bw;rw[Qs (by simp),Pj (by simp),R1]
 induction ws with
 |nil=>rfl
 |cons w ws ih=>simp[Qh]
def He {    g:Np}(F:FnOk P w K mg base (CXx P w) k f fd ps (spX w K cl n (Aq (ag defs fuel d a)) (xG (ag defs fuel d a))))(hd:defs.lookup x=aB df)(m:↥df.ps=n)(j:df.body=E8 a n)(hk:k<=g) :
  FnOk P w K mg base kj g f fd ps (spF w K n (ag defs fuel (d+1) x)):=by
 have conv:∀vs H Q (E c:L2.XK),spF w K n (ag defs fuel (d+1) x) vs H Q E->spX w K cl n (Aq (ag defs fuel d a)) (xG (ag defs fuel d a)) vs H Q c:=λvs H Q E c #[A,S0,ws,w',S',so,rl,hl,e,hq]=>by
  show .ok #[A,S0,ws,w',S',so,rl,hl,?_,hq];dsimp only[ag]at e;rw[hd]at e;dsimp only at e;rw[NK (hl.trans m.symm),j]at e;dsimp only[E8,bS,cj,ko]at e;rw[sS hl]at e;unfold Aq;cases h:ag defs fuel d a ws S0 with
  |none=>rw[h]at e;cases e
  |some p=>
   obtain⟨u,S1⟩:=p;rw[h]at e;dsimp only at e ⊢;cases h2:xY u with
   |none=>rw[h2]at e;cases e
   |some v=>rw[h2]at e;cases e;rfl
 show#[λvs H Q E z=>F.len vs H Q E (conv vs H Q E E z),λA outer s H args us vs Q E o l b t z=>?_]
 show Py (F.run A outer s H args us vs Q (λ_ _ _=>Oo) (o.mono hk) l b t (conv vs H Q E _ z)) λr y h=>?_
 cases r with
 |error e=>obtain⟨_,_,_,_,_,_,_,_,_,_,_,_,_,_,q⟩:=h;show q.elim
 |ok i=>cases i<;>show h
end
section
variable{wd:NU}{A A':Nb Nl}
def EnvRel.unset (h:EnvRel K A H Z Y)(i:Np):EnvRel K A H (Z.set i ba) (Y.set i ba):=by
 show#[by simp[h.1],λj w q=>?_]
 rw[PJ]at q ⊢
 by_cases e:i=j
 ·subst e;rw[NK rfl]at q;split at q<;>cases q
 ·rw[N1 e]at q ⊢;show h.2 j w q
def ObjRel.grow (e:Ext K A H A' H)(h:ObjRel wd K A H a b):ObjRel wd K A' H a b:=by
 cases b with
 |exc cn C i ws=>
  obtain⟨ob,dd,q,r⟩:=h;show#[ob,dd,q,?_];rcases r with r|⟨c,od,vs,d,f,g⟩
  ·show .inl r
  ·show .inr #[c,od,vs,d,f,g.mono e]
 |_=>first|show h|(obtain⟨vs,q,r⟩:=h;show#[vs,q,r.mono e])|(obtain⟨ob,xs,q,r⟩:=h;show#[ob,xs,q,r.mono e])
def iS {p:Nl}:Ext K A H (A++[p]) H:=#[λi a h=>by rw[Od (NA.mp h).1];show h,λ_ _ h=>h,λ_ _ _ h=>h]
def StoreOk.pushN {p:Nl}(h:StoreOk wd K A H S)(s:n.mut=false)(r:ObjRel wd K (A++[p]) H p n):StoreOk wd K (A++[p]) H (S++[n]):=by
 have c:∀{i:Np}{o:O}{a:Nl},(S++[n])[i]?=aB o->(A++[p])[i]?=aB a->i<↥S->S[i]?=aB o/\A[i]?=aB a:=λ{i o a} e b hl=>by
  rw[Od hl]at e;rw[Od (h.len▸hl)]at b;show#[e,b]
 have new:∀{i:Np}{o:O},(S++[n])[i]?=aB o->¬ i<↥S->i=↥S/\o=n:=λ{i o} e hl=>by
  have hi:i=↥S:=by
   have:=(NA.mp e).1;simp at this;omega
  subst hi;simp at e;show#[rfl,e.symm]
 show#[by simp[h.len],λi j a o u l d m f t v=>?_,λi o a e b=>?_]
 ·by_cases hi:i<↥S
  ·by_cases q:j<↥S
   ·obtain⟨g,k⟩:=c l t hi;obtain⟨w,x⟩:=c m v q;show h.nd i j a o u g d w f k x
   ·rw[(new m q).2,s]at f;cases f
  ·rw[(new l hi).2,s]at d;cases d
 ·by_cases hi:i<↥S
  ·obtain⟨g,k⟩:=c e b hi;show(h.obj i o a g k).grow iS
  ·obtain⟨rfl,rfl⟩:=new e hi;rw[<- h.len]at b;simp at b;subst b;show r
def StoreOk.frz {p:Nl}(h:StoreOk wd K A H S)(d:H p=aB (.ext φ))(g:∀(j:Np) o,S[j]?=aB o->o.mut=true->A[j]?≠aB p):StoreOk wd K A (aT H p u) S:=
 #[h.len,h.nd,λi b a e c=>(h.obj i b a e c).keep (.ext d) (λf z=>g i b e f (z▸c)) (bc (.ext d))]
end
variable{H':Hp}{a:Nl}{gs:Nb Nu}{dd:Nf Nl}
section
variable{s:Nh}{A:Nb Nl}{S1:aa}{ws:Nb W}
def vf (I:L2.Inv X J Y H s)(d:H a=aB (.ext φ)):∃o,L2.Inv X J Y (aT H a (.frz o (.ext φ))) s:=by
 have z:=I.hok a _ d;obtain⟨x,⟨o,c⟩,st⟩:=z;show#[o,I.write (o:=.frz o (.ext φ)) (t':=s.toks) (h':=s.heap) (x:=a) (e:=a) (by rw[d];trivial) (.inl rfl) (λb u _ q=>q) #[_,c] #[c,x,#[o,c],st]]
def vg (h:aB (HO.ext φ)=aB (HO.ext ψ)):φ=ψ:=by cases h;rfl
def Ar (I:L2.Inv X J Y H' s)(b:H' a=aB (.ext (Ex a C dd)))(l:wv X c H' S1)(j:Np)(o:O)(g:S1[j]?=aB o)(i:o.mut=true):c[j]?≠aB a:=λf=>by
 have r:=l.obj j o a g f;obtain⟨⟨vs,k,x⟩,_⟩:=I.hok a _ b;cases o with
 |lst ws=>obtain⟨us,q,_⟩:=r;rw[b]at q;cases q
 |dic U=>
  obtain⟨xs,q,_⟩:=r;rw[b]at q;have e:=vg q;have y:DicAt X.w a xs s.heap:=by rw[<- e];show#[vs,k,x]
  obtain⟨_,_,_,ob,n,m,d,p,h,_⟩:=y;rw[x]at d;cases d;cases h
 |_=>cases i
def Hf (cn:Nu)(I:L2.Inv X J Y H' s)(c:H' a=aB (.ext (Ex a C dd)))(q:EndX X.w X.K A H S1 C gs ws (.ref C) dd H'):∃i j,L2.Inv X J Y j s/\Ext X.K A H i j/\i[↥S1]?=aB a/\wv X i j (S1++[.exc cn C gs ws]):=by
 obtain⟨h,m⟩:=vf I c;cases q with
 |no g v w k e f=>
  subst k w;show#[g++[a],_,m,(e.trans (bc (.ext c))).trans iS,by rw[<- f.len];simp,?_]
  show(f.frz c (Ar I c f)).pushN rfl #[h,ba,aA,.inl #[rfl,rfl]]
 |«at» g b vs v k hd nd e f r=>
  subst k;have ne:b≠a:=λz=>by
   subst z;rw[c]at hd;have e:=vg hd;obtain⟨⟨l,D,x⟩,_⟩:=I.hok b _ c;have y:Dx b (gs.zip vs) s.heap:=by rw[<- e];show#[l,D,x]
   obtain⟨L,⟨o,G,E,n,B,_⟩,_⟩:=y;rw[x]at n;cases n;cases B
  have d:aT H' a (.frz h (.ext (Ex a C (aB b)))) b=aB (.ext (Dx b (gs.zip vs))):=by rw[ar ne];show hd
  obtain⟨od,u⟩:=vf m d;have p:Ext X.K g H' g (aT H' a (.frz h (.ext (Ex a C (aB b))))):=bc (.ext c);have t:=bc (K:=X.K) (A:=g) (o:=.frz od (.ext (Dx b (gs.zip vs)))) (Wr.ext d);show#[g++[a],_,u,((e.trans p).trans t).trans iS,by rw[<- f.len];simp,?_]
  show((f.frz c (Ar I c f)).frz d nd).pushN rfl #[h,aB b,by rw[ar (Ne.symm ne),aA],.inr #[b,od,vs,rfl,aA,?_]]
  show r.mono ((p.trans t).trans iS)
noncomputable abbrev Cx.tr (X:Cx)(J:Nb (Nl×OQ))(E:Nd->Nh->Prop):Cx:={X with pn:=X.pn++J,xe:=E}
def Hg {E:Nd->Nh->Prop}(I:L2.Inv X J Y H s):L2.Inv (Cx.tr X J E) [] Y H s:=by
 obtain⟨ok,d,e,f,g,h,i,j,k,a,b⟩:=I;show#[#[ok.mod,ok.kind,ok.glob,ok.blt,ok.above,ok.inj,ok.has,ok.cab,ok.hd,ok.frames,ok.stk,ok.exf,ok.bs,ok.bsz,ok.noex,ok.exfs,ok.funs,ok.frf],d,e,f,g,h,i,j,λp c=>k p (by rw[ON]at c;show c),a,b]
def iT {E:Nd->Nh->Prop}(I:L2.Inv (Cx.tr X J E) c Y H s):L2.Inv X J Y H s:=by
 obtain⟨ok,e,f,g,h,i,j,k,l,a,b⟩:=I;show#[#[ok.mod,ok.kind,ok.glob,ok.blt,ok.above,ok.inj,ok.has,ok.cab,ok.hd,ok.frames,ok.stk,ok.exf,ok.bs,ok.bsz,ok.noex,ok.exfs,ok.funs,ok.frf],e,f,g,h,i,j,k,λp d=>l p (Ob _ d),a,b]
def Hh {E:Nd->Nh->Prop}{f:Xa}(h:SP (Cx.tr X J E) [] D f s):SP X J D f s:=by
 cases f with
 |next=>obtain⟨a,H',I,q⟩:=h;show#[a,H',iT I,q]
 |brk=>obtain⟨a,H',I,q⟩:=h;show#[a,H',iT I,q]
 |cont=>obtain⟨a,H',I,q⟩:=h;show#[a,H',iT I,q]
 |ret u=>obtain⟨v,a,H',I,r,q⟩:=h;show#[v,a,H',iT I,r,q]
def DL {E:Nd->Nh->Prop}(b:Air (Cx.tr X J E) d Y H s a C dd c):Air X J Y H s a C dd c:=
 #[iT b.inv,b.fly,b.new,b.ext,b.low,λp e=>b.pin p (Ob _ e)]
end
abbrev DM (f:FS)(fx:FX)(c:Nu->ND)(cl:Cl)(i:Np)(h:FS):FS:=λZ S=>match f Z S with
  |some r=>aB r
  |none=>match fx Z S with
    |some (cn,ws,S1)=>match cl cn with
      | some (C,b)=>if c cn=true then(match h (Z.set i (aB (.ref S1.length))) (S1++[.exc cn C b ws])with
        |some (.nx a,S2)=>aB (.nx (a.set i ba),S2)
        |some (.rt w,S2)=>aB (.rt w,S2)
        |_=>ba)else ba
      |none=>ba
    |none=>ba
abbrev MX (X:Cx)(cl:Cl)(a:L2.XK)(b:L2.St)(f:FS)(fx:FX):TS:=λD Y H=>Y=b/\(tS X f D Y H\/tX X cl a fx Y H)
def s8of {w w' K K' A H S}(e:K=K')(f:w=w')(h:StoreOk w K A H S):StoreOk w' K' A H S:=by subst e f;exact h
def Hi (X c:Cx)(eK:c.K=X.K)(b:c.w=X.w){A:Nb Nl}(d:Imp (EndS X A H o S') D):Imp (EndS c A H o S') D:=
 #[λ_ _ #[a,A',eo,e,so,er]=>d.nx _ _ #[a,A',eo,eK▸e,s8of eK b so,eK▸er],λ_ _ #[w,A',eo,e,so,r]=>d.rt _ _ #[w,A',eo,eK▸e,s8of eK b so,eK▸r],
  λ_ _ #[a,A',eo,e,so,er]=>d.bk _ _ #[a,A',eo,eK▸e,s8of eK b so,eK▸er],λ_ _ #[a,A',eo,e,so,er]=>d.ct _ _ #[a,A',eo,eK▸e,s8of eK b so,eK▸er]]
def Hj { B :Pp}{f:FS}
  (hst:X.stack=X.env::X.outer) (hfr:X.env.frame=aB X.env.locals) (hN:X.N.Nodup) (hi:X.N[i]?=aB n) (hx:X.env.scope.names.lookup n=aB .local) (hg:Gl X c) (hm:X.mg c=aB (.ref D)) (T:XD X.K D) (hdb:(c==("__debug__"))=false)
  (hs:∀cn C m,cl cn=aB (C,m)->sb cn=true->T7 X.K (.ref C) (.ref D)=aB true)
  (hb:∀J E Y0 l,(∀M H s a C dd y,Air (Cx.tr X J E) M Y0 H s a C dd y->l (.ref C) dd H->E (.ref a) s)->PSs (Cx.tr X J E) body (MX (Cx.tr X J E) cl l Y0 f fx))
  (hh:∀a,GSs (sj X a) (b0::b) h):GS X (.Try body [.ExceptHandler (aB (.Name c np)) (aB n) (b0::b) B] [] [] pos) (DM f fx sb cl i h):=by
 intro J s Y H k I ⟨A,Z,S,o,S',er,P,e,d⟩;show Ji (X:=X) (J:=J) (Q:=SP X J k) hst hfr hN hi hx hg hm T ?_ hdb;have G:∀l:L2.XK,(∀M H s a C dd y,Air (Cx.tr X J (Caught X J D i b0 b (SP X J k))) M Y H s a C dd y->l (.ref C) dd H->Caught X J D i b0 b (SP X J k) (.ref a) s)->MX (Cx.tr X J (Caught X J D i b0 b (SP X J k))) cl l Y f fx k Y H->
   wi X (execs body X.env) (SP X J k) (Caught X J D i b0 b (SP X J k)) s:=λl hw q=>
  Ou (hb J _ Y l hw [] s Y H k (Hg I) q) (λfl s1 z=>Hh z) λ_ _ z=>z
 unfold DM at e;split at e
 next r h1=>cases e;show G (λ_ _ _=>Oo) (λ_ _ _ _ _ _ _ _ z=>z.elim) #[rfl,.inl #[A,Z,S,o,S',er,P,h1,Hi X (Cx.tr X J (Caught X J D i b0 b (SP X J k))) rfl rfl d]]
 next h1=>
  split at e
  next cn ws S1 h2=>
   split at e
   next C m h3=>
    split at e
    ·rename_i h4;show G (λcls dd p=>EndX X.w X.K A H S1 C m ws cls dd p) (λM p s1 a L dd y Yj q=>?_) #[rfl,.inr #[A,Z,S,cn,ws,S1,C,m,er,P,h2,h3,λ_ _ _ z=>z]]
     obtain rfl:L=C:=by
      cases q with
      |no A' W eg ed e P=>cases W;rfl
      |«at» A' dx vs W ed hd nd e P r=>cases W;rfl
     have Yq:=DL Yj;show#[a,L,dd,y,Y,p,rfl,Yq,hs cn L m h3 h4,λs2 I2=>?_]
     obtain⟨R,U,I3,ex,ea,so2⟩:=Hf cn I2 Yq.ext q;have er2:EnvRel X.K R U (Z.set i (aB (.ref ↥S1))) (Y.set i (aB (.ref a))):=(er.mono ex).set (.ref ea) i;have fin:∀N S2,h (Z.set i (aB (.ref ↥S1))) (S1++[.exc cn L m ws])=aB (N,S2)->Imp (EndS (sj X a) R U N S2) {nx:=λj p=>k.nx (j.set i ba) p,rt:=k.rt,bk:=λ_ _=>Oo,ct:=λ_ _=>Oo}->
       wpAny (model X.prog X.w) (sj X a).A (execs (b0::b) X.env) (λf s3=>∃Y3 g,L2.Inv (sj X a) J Y3 g s3/\∀O,L2.Inv X J (Y3.set i ba) g O->SP X J k f O) (λ_ _=>Oo) s2:=λN S2 e2 im=>by
      show Ou (hh a J s2 _ U _ I3 #[R,_,_,N,S2,er2,so2,e2,im]) (λfl s3 z=>?_) λ_ _ z=>z
      cases fl with
      |next=>obtain⟨j,g,t,q⟩:=z;show#[j,g,t,λO V=>#[_,_,V,q]]
      |ret u=>obtain⟨v,j,g,t,r,q⟩:=z;show#[j,g,t,λO V=>#[v,_,_,V,r,q]]
      |brk=>obtain⟨j,g,t,q⟩:=z;show q.elim
      |cont=>obtain⟨j,g,t,q⟩:=z;show q.elim
     split at e
     ·rename_i Z' S2 h5;cases e;show fin _ _ h5 #[λj g #[x,A3,eo,e3,so3,er3]=>?_,λv g #[w,A3,eo,_,_,_]=>(by cases eo),λj g #[x,A3,eo,_,_,_]=>(by cases eo),λj g #[x,A3,eo,_,_,_]=>(by cases eo)]
      cases eo;show d.nx _ _ #[_,A3,rfl,ex.trans e3,so3,er3.unset i]
     ·rename_i w S2 h5;cases e;show fin _ _ h5 #[λj g #[x,A3,eo,_,_,_]=>(by cases eo),λv g #[w2,A3,eo,e3,so3,r3]=>?_,λj g #[x,A3,eo,_,_,_]=>(by cases eo),λj g #[x,A3,eo,_,_,_]=>(by cases eo)]
      cases eo;show d.rt _ _ #[_,A3,rfl,ex.trans e3,so3,r3]
     ·cases e
    ·cases e
   ·cases e
  ·cases e
section
variable{Y0:L2.St}
abbrev ME (X:Cx)(cl:Cl)(Ew:L2.XK)(Y0:L2.St)(e:NF)(f:FE)(fx:FX):Prop:=PE X e λY H Q=>Y=Y0/\(tE X f Y H Q\/tX X cl Ew fx Y H)
def DN {E:L2.XK}{Q:VK}(F:FnOk X.prog X.w X.K X.mg X.base CX k f fd ps sp)(i:Room k X.A)(g:Binds X.K fd ps [])
  (j:∀J H s e c,L2.Inv X J Y0 H s->CX X.stack H s E e c->X.xe e c) (I:L2.Inv X J Y0 H s) (r:Vals vs us) (h:sp vs H Q E):wi X (call (.ref f) us) (EP X J Y0 Q) X.xe s:=by
 have hl:(us++[]).length=↥ps:=by rw[ON,<- ↥r];show F.len _ _ _ _ h
 have b:=g s us I.kIn hl;rw[ON]at b;show Qu (Py (F.run X.A X.stack s H #[us,[]] us vs Q E i I.env0 b r h) λr c a=>?_)
 cases r with
 |error e=>show j J H s e c I a
 |ok d=>
  cases d with
  |ret u=>show I.after a
  |next=>show Oo.elim a
  |brk=>show Oo.elim a
  |cont=>show Oo.elim a
def Hk {g:FF}{e:NF}{f:FA}(F:FnOk X.prog X.w X.K X.mg X.base (CXx X.prog X.w) k fa fd ps (spX X.w X.K cl n g m))(R:Room k X.A)(O:Gl X x)(P:X.mg x=aB (.ref fa))
  (hk:OI X.K (.ref fa)=true) (M:Binds X.K fd ps []) (hw:∀J H s a C dd D,Air X J Y0 H s a C dd D->Ew (.ref C) dd H->X.xe (.ref a) s) (L:GA X (e::d) f) (hdb:(x==("__debug__"))=false) (N:starEach (e::d) X.env=(false,eval e X.env)::starEach d X.env) (y:(backTo pos (starEach d X.env)).any (·.1)=false) :
  ME X cl Ew Y0 (.Call (.Name x p) (e::d) [] pos) (iG n g f) (mZ n m f):=by
 have T:∀J H s e B,L2.Inv X J Y0 H s->CXx X.prog X.w X.stack H s Ew e B->X.xe e B:=λJ H s e B I h=>by
  obtain⟨a,C,dd,D,U,rfl,E,q⟩:=Gd I h;show hw _ _ _ _ _ _ _ E q
 intro J s Y H Q I ⟨u,q⟩;subst u;show Pc (da I O P ?_ hdb);have go:∀{A:Nb Nl}{Z:Fm}{S:aa}{ws:Nb W}{S1:aa},EnvRel X.K A H Z Y->wv X A H S->f Z S=aB (ws,S1)->(∀vs c,EndA X A H S1 ws vs c->spX X.w X.K cl n g m vs c Q Ew)->wi X (callWith pos (.ref fa) [] (backTo pos (starEach (e::d) X.env)) (backToKw pos (keywordEach [] X.env))) (EP X J Y Q) X.xe s:=λ{A Z S ws S1} i l j h2=>
  Q6 (h₀:=X.base) I.ok.mod.kin hk (bd (L pos J s Y H (λvs c=>spX X.w X.K cl n g m vs c Q Ew) I #[A,Z,S,ws,S1,i,l,j,h2]) λus V #[vs,c,I1,r,q]=>#[I1.kIn,DN F R M T I1 r q]) N y
 rcases q with⟨A,Z,S,w,S',i,l,b,q⟩|⟨A,Z,S,cn,ws,S',C,G,i,l,b,hc,q⟩
 ·unfold iG at b;split at b
  next ws S1 j=>
   split at b
   next hl=>show go i l j λvs c #[o,ex,so1,r]=>.ok #[o,S1,ws,w,S',so1,r,hl,b,λv t z=>q v t (z.after ex)]
   ·cases b
  ·cases b
 ·unfold mZ at b;split at b
  next us S1 j=>
   split at b
   next hl=>show go i l j λvs c #[o,ex,so1,r]=>.xc o S1 us cn ws S' C G so1 r hl b hc λcls dd t z=>q cls dd t (z.after ex)
   ·cases b
  ·cases b
def Kf {e:NF}{f:FE}(h:ME X cl Ew Y0 e f fx)(i:swapsWith e ba pos.line X.env=pure false):PS X (.Expr e pos) (MX X cl Ew Y0 (oE f) fx):=by
 intro J s Y H D I ⟨a,q⟩;show nI h i J s Y H D I #[a,?_];rcases q with⟨A,Z,S,o,S',b,j,e,d⟩|q
 ·apply Or.inl;unfold oE at e;split at e
  next w S1 g=>cases e;show#[A,Z,S,w,_,b,j,g,λv k #[c,z1,z2,z3]=>d.nx _ _ #[Z,c,rfl,z1,z2,b.mono z1]]
  ·cases e
 ·show .inr q
end
abbrev fQ (cn D:Nu):ND:=D==cn||D==("LayError": Nu)||D==("ValueError": Nu)
abbrev IA (i:Np)(cl:Cl)(k:Nu->Nb Nu->Nb W->Nf W):FE:=λZ S=>match Z[i]? with
 |some (aB (.ref j))=>match S[j]? with
  |some (.exc cn C a ws)=>if cl cn=aB (C,a)then(k cn a ws).map λw=>(w,S)else ba
  |_=>ba
 |_=>ba
abbrev iU (cl:Cl)(a:Nu->ND)(i:Np):FE:=IA i cl λcn _ _=>aB (.bl (a cn))
abbrev qP (cl:Cl)(g:Nu)(i:Np):FE:=IA i cl λ_ a ws=>(a.zip ws).lookup g
def iV {k:Nu->Nb Nu->Nb W->Nf W}(h:IA i cl k Z S=aB (w,S')):∃j cn C a ws,Z[i]?=aB (aB (.ref j))/\S[j]?=aB (.exc cn C a ws)/\cl cn=aB (C,a)/\k cn a ws=aB w/\S'=S:=by
 unfold IA at h;split at h
 next j b=>
  split at h
  next cn C a ws h2=>
   split at h
   next c=>rw[Nk]at h;obtain⟨f,d,e⟩:=h;cases e;show#[j,cn,C,a,ws,b,h2,c,d,rfl]
   ·cases h
  ·cases h
 ·cases h
structure HCtx (X:Cx)(Γ:Gam)(cls:Nb Nu)(cl:Cl):Prop where
 names:X.env.scope.names=Γ.sc
 N:X.N=Γ.N
 nd:Γ.N.Nodup
 un:X.A.units+ee<cLine
 dfn:∀x,X.fn x=true
 blt:∀x∈Γ.blt,X.mg x=ba
 xk:∀cn C gs,cl cn=aB (C,gs)->(∃cd,XK X.K C cd)/\X.base.get? C≠ba/\XT X.K C (.type "ValueError") true/\∀g∈gs,Qr X.K (.ref C) g=aB ba
 xt:∀D∈cls,∃Da,X.mg D=aB (.ref Da)/\∀cn C gs,cl cn=aB (C,gs)->XT X.K C (.ref Da) (fQ cn D)
variable{cls:Nb Nu}
def sT (K:HCtx X Γ cls cl)(h:bL Γ x=true):Gl X x/\(x==("__debug__"))=false:=by
 unfold bL at h;rw[Nj]at h;show#[?_,by simpa using h.2]
 change X.env.scope.names.lookup x=_;rw[K.names];show eq_of_beq h.1
def iW (K:HCtx X Γ cls cl)(h:slot Γ x=aB i):PE X (.Name x pos) (pI i):=by
 unfold slot at h;split at h
 next hc=>rw[Nj,Nj]at hc;obtain⟨⟨a,h2⟩,b⟩:=hc;show gO (by rw[K.N];show b7 h) (qI (by rw[K.names];show a)) (by simpa using h2) (by simpa using b)
 ·cases h
def DO (K:HCtx X Γ cls cl)(h:bB Γ x=aB i):X.N[i]?=aB x/\x6 X.env.scope x/\(X.fn x=true\/X.env.scope.names.lookup x=aB .local):=by
 unfold bB at h;split at h
 next hc=>
  show#[by rw[K.N];show b7 h,?_,.inl (K.dfn x)]
  unfold L2.x6;rw[K.names];rw[Pa,Nj]at hc;rcases hc with hc|⟨hd,hc⟩
  ·show .inl (eq_of_beq hc)
  ·show .inr (eq_of_beq hc)
 ·cases h
def ObjRel.xin {A:Nb Nl}(h:ObjRel wd K A H a (.exc cn C c ws)):∃dd,Iu H a C dd:=by
 obtain⟨o,dd,q,r⟩:=h;show#[dd,#[o,q],?_];rcases r with⟨rfl,_⟩|⟨b,od,vs,rfl,e,_⟩
 ·show .inl rfl
 ·show .inr #[b,_,od,rfl,e]
def DP {  p:Nl}(h:Iu H a C dd)(g:H p=ba):Iu (L2.aT H p u) a C dd:=by
 obtain⟨⟨o,c⟩,h2⟩:=h;have ne:∀{b v},H b=aB v->b≠p:=λd z=>by rw[z,g]at d;cases d
 show#[#[o,by rw[ar (ne c)];show c],?_]
 rcases h2 with rfl|⟨f,fs,o',rfl,e⟩
 ·show .inl rfl
 ·show .inr #[f,fs,o',rfl,by rw[ar (ne e)];show e]
def Hl (K:HCtx X Γ cls cl)(t:Gl X "isinstance")(u:X.mg "isinstance" = ba)(z:slot Γ x=aB i)(n:Gl X D)(h:(D==("__debug__"))=false)(s:D∈cls) :
  GE X (.Call (.Name "isinstance" p) [.Name x p1,.Name D p2] [] pos) (iU cl (λcn=>fQ cn D) i):=by
 obtain⟨b,B,xt⟩:=K.xt D s;show GE.of (fD mK t u rfl (bU (iW K z) (bU (nH (v:=.ref b) n B rfl h) gQ)) #v[] #v[] rfl rfl) λY H A Z S w S' m f e Q y=>?_
 obtain⟨j,cn,C,c,ws,o,h2,d,q,rfl⟩:=iV e;cases q;obtain⟨v,k,r⟩:=m.2 i _ o;cases r with
 |@ref _ a l=>
  obtain⟨dd,E⟩:=(f.obj j _ a h2 l).xin;obtain⟨⟨g,G⟩,_,_,_⟩:=K.xk cn C c d;show#[_,k,a,C,g,dd,.ref b,_,rfl,G,E,.inl #[b,rfl,xt cn C c d],y _ _ (.here f .bl)]
def Hm (K:HCtx X Γ cls cl)(o:Gl X "isinstance")(q:X.mg "isinstance" = ba)(t:slot Γ x=aB i)(h:Gl X "ValueError")(y:X.mg "ValueError" = ba) :
  GE X (.Call (.Name "isinstance" p) [.Name x p1,.Name "ValueError" p2] [] pos) (iU cl (λ_=>true) i):=by
 show GE.of (fD mK o q rfl (bU (iW K t) (bU (ue (v:=.ty "ValueError") (u:=.type "ValueError") h y rfl rfl #v[] #v[]) gQ)) #v[] #v[] rfl rfl) λY H A Z S w S' g b e Q s=>?_
 obtain⟨j,cn,C,k,ws,l,h2,m,n,rfl⟩:=iV e;cases n;obtain⟨v,d,r⟩:=g.2 i _ l;cases r with
 |@ref _ a f=>
  obtain⟨dd,z⟩:=(b.obj j _ a h2 f).xin;obtain⟨⟨c,B⟩,_,D,_⟩:=K.xk cn C k m;show#[_,d,a,C,c,dd,.ty "ValueError",true,rfl,B,z,.inr #[_,rfl,D],s _ _ (.here b .bl)]
abbrev gj:Nb NF->Nf (Nb Nu)
 |[]=>aB []
 |.Name x _::a=>(gj a).map (x :: ·)
 |_::_=>ba
def As (K:HCtx X Γ cls cl):∀{c:Nb NF}{b:Nb Nu},gj c=aB b->(b.all λD=>bL Γ D&&cls.contains D)=true->
  ∃a:Nb Nl,↥a=↥b/\PA X c (λ_ H Q=>Q (a.map V.ref) H)/\∀cn C d,cl cn=aB (C,d)->∃bs,XTs X.K C (a.map NR) bs/\bs.any id=b.any (fQ cn)
 |[],b,h,_=>by
  cases h;show#[[],rfl,gQ,λ_ _ _ _=>#[[],.nil,rfl]]
 |e::c,b,h,g=>by
  cases e with
  |Name x p=>
   replace h:(gj c).map (x :: ·)=aB b:=h
   rw[Nk]at h;obtain⟨m,r,rfl⟩:=h;rw[OA,Nj,Nj]at g;obtain⟨⟨i,j⟩,k⟩:=g;obtain⟨a,l,t,q⟩:=As K r k;obtain⟨n,o⟩:=sT K i;obtain⟨f,s,xt⟩:=K.xt x (by simpa using j)
   show#[f::a,by simp[l],bU (nH (v:=.ref f) n s rfl o) t,λcn C d hc=>?_]
   obtain⟨bs,b1,b2⟩:=q cn C d hc;show#[_::bs,.cons (xt cn C d hc) b1,by rw[Pz,Pz,b2];rfl]
  |_=>cases h
def Hn (K:HCtx X Γ cls cl)(z:Gl X "isinstance")(B:X.mg "isinstance" = ba)(G:slot Γ x=aB i)(hd:gj d=aB b)(y:(b.all λD=>bL Γ D&&cls.contains D)=true)(hl:↥b<=1000) :
  GE X (.Call (.Name "isinstance" p) [.Name x p1,.Tuple d k p2] [] pos) (iU cl (λcn=>b.any (fQ cn)) i):=by
 obtain⟨c,l,I,q⟩:=As K hd y;show GE.of (fD sr z B rfl (bU (iW K G) (bU (yh I) gQ)) #v[] #v[] rfl rfl) λY H A Z S w S' s h e Q E=>?_
 obtain⟨j,cn,C,f,ws,t,h2,g,u,rfl⟩:=iV e;cases u;obtain⟨v,n,r⟩:=s.2 i _ t;cases r with
 |@ref _ a o=>
  obtain⟨dd,M⟩:=(h.obj j _ a h2 o).xin;obtain⟨⟨m,N⟩,L,_,_⟩:=K.xk cn C f g;obtain⟨bs,b1,b2⟩:=q cn C f g;show#[_,n,by rw[Ni,l];show sQ (N4 hl),λJ ht=>#[a,C,m,dd,J,c,bs,rfl,N,DP M ht,aA,L,b1,?_]]
  rw[b2];show E _ _ #[A,bc (.inl ht),h.lay ht,.bl]
def qQ {A:Nb Nl}:∀{a:Nb Nu}{ws:Nb W}{vs:Nb V},RelL K A H ws vs->(a.zip ws).lookup g=aB w->g∈a/\∃v,(a.zip vs).lookup g=aB v/\Rel K A H w v
 |[],_,_,_,h=>by cases h
 |_::_,_,_,.nil,h=>by cases h
 |y::a,d::ws,c::vs,.cons r t,h=>by
  rw[P8,Om]at h;rw[P8,Om];cases e:g==y with
  |true=>
   rw[e]at h;cases h;show#[by rw[eq_of_beq e];show NH,c,rfl,r]
  |false=>
   rw[e]at h;obtain⟨b,h2⟩:=qQ t h;show#[NL _ b,h2]
def At (K:HCtx X Γ cls cl)(D:slot Γ x=aB i):GE X (.Attribute (.Name x p) g pos) (qP cl g i):=by
 show GE.of (yG (iW K D) rfl) λY H A Z S w S' m c e Q B=>?_
 obtain⟨j,cn,C,n,ws,s,h2,t,b,rfl⟩:=iV e;obtain⟨v,h,r⟩:=m.2 i _ s;cases r with
 |@ref _ a l=>
  obtain⟨⟨d,G⟩,L,_,u⟩:=K.xk cn C n t;obtain⟨o,dd,q,aO⟩:=c.obj j _ a h2 l;rcases aO with⟨_,rfl⟩|⟨f,od,vs,rfl,k,E⟩
  ·cases b
  ·obtain⟨z,y,I,J⟩:=qQ E b;show#[_,h,a,C,d,f,_,y,o,od,rfl,G,u g z,q,k,I,B _ _ (.here c J)]
def kE {f:NF->Nf E}(ih:∀{e:NF}{d:E},f e=aB d->GE X e (aF M d)):∀{vs:Nb NF}{r:E},cB f c vs=aB r->GE X (.BoolOp c vs pos) (aF M r)
 |[],r,h=>by cases h
 |[a],r,h=>zD (ih h)
 |a::b::aO,r,h=>by
  simp only[cB]at h;split at h
  next i j g h2=>
   cases h;cases c with
   |And=>show zE (ih g) (kE ih h2)
   |Or=>show EM (ih g) (kE ih h2)
  ·cases h
def kF {f:NF->Nf E}(ih:∀{e:NF}{d:E},f e=aB d->GT X e (cu M d)):∀{vs:Nb NF}{r:E},cB f c vs=aB r->GW X (.BoolOp c vs pos) (cu M r)
 |[],r,h=>by cases h
 |[a],r,h=>by
  cases c with
  |And=>show uR (ih h)
  |Or=>show zA (ih h)
 |a::b::aO,r,h=>by
  simp only[cB]at h;split at h
  next i j g h2=>
   cases h;cases c with
   |And=>show zB (ih g) (kF ih h2)
   |Or=>show EK (ih g) (kF ih h2)
  ·cases h
def Au {f:NF->Nf E}(ns:∀{e:NF}{a:E},f e=aB a->dX e=true)(ih:∀{e:NF}{a:E},f e=aB a->GE X e (aF M a)):∀{b:Nb NF}{r:Es},cA f b=aB r->GA X b (bW M r)
 |[],r,h=>by cases h;show sG
 |e::b,r,h=>by
  obtain⟨a,d,c,h2,rfl⟩:=iJ h;show kC (ih c) (Au ns ih h2) (az (ns c))
abbrev Ho (a b:FE):FE:=λZ S=>match a Z S with
 |some (.str x,S1)=>match b Z S1 with
  |some (.str y,S2)=>aB (.bl (x==y),S2)
  |_=>ba
 |_=>ba
abbrev sU (Γ:Gam):Np->NF->Nf E
 |0,_=>ba
 |k+1,e=>match e with
  |.Constant .none _ _=>aB (.c .non)
  |.Name x _=>match slot Γ x with
   |some j=>aB (.v j)
   |none=>ba
  |.BoolOp g vs _=>cB (sU Γ k) g vs
  |.Compare a [g] [b] _=>match gG g,sU Γ k a,sU Γ k b with
   |some o,aB d,aB h=>aB (.cmp o d h)
   |_,_,_=>ba
  |.Call (.Name f _) [a,.Name c _] [] _=>if f==("isinstance": Nu)&&bL Γ f&&Γ.blt.contains f&&bL Γ c&&Γ.blt.contains c then match m7 c,sU Γ k a with
   |some i,aB d=>aB (.isi i d)
   |_,_=>ba
   else ba
  |_=>ba
abbrev Hq (Γ:Gam):OE->Nf E
 |.Return (aB e) _=>sU Γ 20 e
 |_=>ba
abbrev MZ (Γ:Gam)(t:NF):Nb OE->Nb OE->Sm
 |[s],[]=>match sU Γ 20 t,Hq Γ s with
  |some t',aB a=>.ite t' #v[.ret a] .nil
  |_,_=>.bad
 |_,_=>.bad
abbrev MG (Γ:Gam):OE->Sm
 |.Return o p=>match Hq Γ (.Return o p)with
  |some e=>.ret e
  |none=>.bad
 |.If t a b _=>MZ Γ t a b
 |_=>.bad
abbrev xw (Γ:Gam):Nb OE->Ss
 |[]=>.nil
 |s::ss=>.cons (MG Γ s) (xw Γ ss)
def sV {e:NF}{a:E}(h:sU Γ k e=aB a):dX e=true:=by
 cases k with
 |zero=>cases h
 |succ k=>cases e<;>first|rfl|(show af h)
def nh {e:NF}{a:Uv}(h:sU Γ k e=aB b):behindInMarks a e=false:=by
 cases k with
 |zero=>cases h
 |succ k=>cases e<;>first|(cases a<;>rfl)|(show af h)
def qR (K:HCtx X Γ [] λ_=>ba):∀ k {e:NF}{i:E},sU Γ k e=aB i->GE X e (aF M i)/\GT X e (cu M i):=by
 intro k
 induction k with
 |zero=>intro e i h;cases h
 |succ k ih=>
  intro e i h;cases e with
  |Constant c j p=>
   cases c<;>cases h
   show#[eR jj (λ_ _=>.non),aQ (eR jj (λ_ _=>.non)) λ_=>rfl]
  |Name x p=>
   replace h:(match slot Γ x with|some j=>aB (E.v j)|none=>ba)=aB i:=h
   split at h
   next j m=>cases h;show#[wR (iW K m),aQ (wR (iW K m)) λ_=>rfl]
   ·cases h
  |BoolOp u vs p=>
   replace h:cB (sU Γ k) u vs=aB i:=h;show#[kE (λz=>(ih z).1) h,(kF (λz=>(ih z).2) h).pt]
  |Compare a ops r p=>
   match ops,r,h with
   |[u],[b],h=>
    replace h:(match gG u,sU Γ k a,sU Γ k b with|some o,aB n,aB v=>aB (E.cmp o n v)|_,_,_=>ba)=aB i:=h
    split at h
    next o n v m h2 s=>cases h;have e:=iK m;subst e;show#[zu K.un (ih h2).1 (ih s).1 (nh s),zv K.un (ih h2).1 (ih s).1 (nh s)]
    ·cases h
   |[],_,h=>show af h
   |[_],[],h=>show af h
   |[_],_::_::_,h=>show af h
   |_::_::_,_,h=>show af h
  |Call f args t p=>
   cases t with
   |cons _ _=>cases f<;>first|(show af h)|(match args,h with|[],h=>show af h|[a],h=>show af h|[a,b],h=>(cases b<;>show af h)|a::b::c::d,h=>(cases b<;>show af h))
   |nil=>
    cases f with
    |Name x q=>
     match args,h with
     |[],h=>show af h
     |[a],h=>show af h
     |a::b::c::d,h=>cases b<;>show af h
     |[a,c],l=>
      cases c with
      |Name y J=>
       replace l:(if x==("isinstance": Nu)&&bL Γ x&&Γ.blt.contains x&&bL Γ y&&Γ.blt.contains y then match m7 y,sU Γ k a with|some r,aB n=>aB (E.isi r n)|_,_=>ba else ba)=aB i:=l
       split at l
       ·rename_i hc;rw[Nj,Nj,Nj,Nj]at hc;obtain⟨⟨⟨⟨w,A⟩,B⟩,C⟩,D⟩:=hc;have e:=eq_of_beq w;subst e;obtain⟨G,_⟩:=sT K A;obtain⟨H,I⟩:=sT K C;split at l
        ·rename_i r n m h2;cases l;obtain⟨b1,b2⟩:=qJ m;have g:=zQ (p:=q) (p2:=J) (pos:=p) G (K.blt _ (by simpa using B)) H (K.blt _ (by simpa using D)) b1 b2 I (ih h2).1 (az (sV h2))
         show#[g,aQ g λ_=>rfl]
        ·cases l
       ·cases l
      |_=>show af l
    |_=>show af h
  |_=>show af h
def hX {st:OE}:GS X st (cj M 0 .bad):=λ_ _ _ _ _ _ #[_,_,_,_,_,_,_,e,_]=>nomatch e
def Kg (K:HCtx X Γ [] λ_=>ba){st:OE}{e:E}(h:Hq Γ st=aB e):GS X st (cj M 0 (.ret e)):=by
 cases st with
 |Return o p=>
  cases o with
  |none=>show af h
  |some e=>show oF (qR K _ h).1
 |_=>show af h
def Av (K:HCtx X Γ [] λ_=>ba)(st:OE):GS X st (cj M 0 (MG Γ st)):=by
 cases st with
 |Return o p=>
  change GS X _ (cj M 0 (match Hq Γ (.Return o p)with|some e=>Sm.ret e|none=>.bad))
  cases h:Hq Γ (.Return o p)with
  |none=>show hX
  |some e=>show Kg K h
 |If t a b p=>
  cases a with
  |nil=>show hX
  |cons s f=>
   cases f with
   |cons _ _=>show hX
   |nil=>
    cases b with
    |cons _ _=>show hX
    |nil=>
     change GS X _ (cj M 0 (match sU Γ 20 t,Hq Γ s with|some t',aB c=>Sm.ite t' #v[.ret c] .nil|_,_=>.bad))
     cases d:sU Γ 20 t with
     |none=>show hX
     |some t'=>
      cases h2:Hq Γ s with
      |none=>show hX
      |some c=>show zK (qR K _ d).2 (fJ (Kg K h2) eT) eT
 |_=>show hX
def qS (K:HCtx X Γ [] λ_=>ba):∀ss:Nb OE,GSs X ss (bS M 0 (xw Γ ss))
 |[]=>eT
 |s::ss=>fJ (Av K s) (qS K ss)
abbrev Aw (r:Ss):Ss:=
 (.cons (.ite (.cmp .is (.v 1) (.c .non)) #v[.ret (.cmp .is (.v 0) (.c .non))] .nil)
 (.cons (.ite (.or (.isi "bool" (.v 1)) (.isi "bool" (.v 0))) #v[.ret (.and (.isi "bool" (.v 1)) (.and (.isi "bool" (.v 0)) (.cmp .eq (.v 0) (.v 1))))] .nil)
 (.cons (.ite (.isi "int" (.v 1)) #v[.ret (.and (.isi "int" (.v 0)) (.cmp .eq (.v 0) (.v 1)))] .nil)
 (.cons (.ite (.isi "str" (.v 1)) #v[.ret (.and (.isi "str" (.v 0)) (.cmp .eq (.v 0) (.v 1)))] .nil) r))))
def Hr {t:Fm}:bS M 0 (Aw r) (aB (.str x)::aB (.str y)::t) S=aB (.rt (.bl (x==y)),S):=rfl
inductive HAl (K:Nr)(mg:Nu->Nf Nd):Prop
 |mk (st:OE) (f:Nl) (fd:OG) (N ps:Nb Nu) (Mqa:Md) (r:Ss) (F:Fun K "_law_alike" "_law_alike" st f fd) (S:FnScope N ps (aq st)) (l2:↥ps=2) (hm:mg "_law_alike" = aB (.ref f)) (hb:Binds K fd ps []) (bl:∀x∈Mqa.blt,mg x=ba) (hc:xw (cV Mqa st N) (aI st)=Aw r):HAl K mg
abbrev DQ (X:Cx):Prop:=∀{a b:NF}{c d:FE}{p pos:Pp},GE X a c->GE X b d->dX a=true->dX b=true->Gl X "_law_alike"->GE X (.Call (.Name "_law_alike" p) [a,b] [] pos) (Ho c d)
def Kh (A:HAl X.K X.mg)(d:X.A.depth<recursionLimit)(g:X.A.units+3+ee<cLine):DQ X:=by
 intro t C k l p pos O h2 m n R J s Y H Q I ⟨B,Z,j,w,S',G,so,e,U⟩;obtain⟨st,f,fd,N,ps,b,r0,F,S,V,T,P,bl,hc⟩:=A;unfold Ho at e;split at e
 case h_2=>cases e
 rename_i x S1 q1;split at e
 case h_2=>cases e
 rename_i y S2 q2;cases e;show Pc (da I R T ?_ #v[])
 have ga:GA X [t,C] (b6 k (b6 l gA)):=kC O (kC h2 sG (az n)) (az m);have D:(b6 k (b6 l gA)) Z j=aB ([.str x,.str y],S'):=by revert b6 gA q1 q2
 show Q6 (h₀:=X.base) I.ok.mod.kin F.kp (bd (ga pos J s Y H (EndA X B H S' [.str x,.str y]) I #[B,Z,j,_,_,G,so,D,λvs i z=>z]) λus o #[vs,i,I1,r,#[A1,z1,z2,z3]]=>#[I1.kIn,?_]) (az m) (aU (by rw[OA,n];rfl))
 obtain⟨oc,od,kV,doc,pm,an,cdv,ct,osl,rfl,W,c⟩:=F.ex;have hl:↥vs=↥ps:=by rw[<- ↥z3];show V.symm
 have b1:=P o us I1.kIn (by rw[ON,<- ↥r];show hl)
 rw[ON]at b1;have M:GSs (eN kj X.prog X.w X.K X.mg X.base N "_law_alike" (aq st) f cdv X.A X.stack o i E0) (aI st) (bS (λ_ _ _=>ba) 0 (xw (cV b st N) (aI st))):=qS #[rfl,rfl,S.nd,g,λ_=>rfl,bl,λ_ _ _ h=>(nomatch h),λ_ h=>(nomatch h)] _
 show Qu (Py (uh (CX:=kj) (Q:=Q) (E:=E0) W c S d I1.env0 b1 r hl #[_,M,?_]) λr s' a=>?_)
 ·rw[hc];have hN:2<=↥N:=by have:=congrArg Vl S.pre;rw[Os]at this;omega
  show#[A1,bw N [.str x,.str y],S',_,_,b8 z3,z2,Hr,#[λ_ _ #[_,_,z,_,_,_]=>(by cases z),λv q #[w2,A2,y0,y1,y2,y3]=>?_,λ_ _ #[_,_,z,_,_,_]=>(by cases z),λ_ _ #[_,_,z,_,_,_]=>(by cases z)]]
  cases y0;show U v q #[A2,z1.trans y1,y2,y3]
 ·cases r with
  |error e=>show Oo.elim a
  |ok L=>
   cases L with
   |ret u=>show I1.after a
   |next=>show Oo.elim a
   |brk=>show Oo.elim a
   |cont=>show Oo.elim a
abbrev Hs (Γ:Gam)(cls:Nb Nu)(cl:Cl)(i:Np):NF->Nf E
 |.Name D _=>if bL Γ D&&cls.contains D then aB (.sem (iU cl (λcn=>fQ cn D) i))else if bL Γ D&&(D==("ValueError": Nu))&&Γ.blt.contains D then aB (.sem (iU cl (λ_=>true) i))else ba
 |.Tuple b _ _=>match gj b with
  |some a=>if (a.all λD=>bL Γ D&&cls.contains D)&&decide (↥a<=1000)then aB (.sem (iU cl (λcn=>a.any (fQ cn)) i))else ba
  |none=>ba
 |_=>ba
abbrev Ht:NF->Nf Nu
 |.Name x _=>aB x
 |_=>ba
abbrev MH (cls:Nb Nu)(cl:Cl)(n:Nu)(i:Np)(Γ:Gam)(f:Nu)(b:NF):NF->Nf E
 |.Attribute o g _=>match Ht o,Ht b with
  |some x,aB y=>if f==("_law_alike": Nu)&&bL Γ f&&x==n&&slot Γ n==aB i then(slot Γ y).map λj=>.sem (Ho (qP cl g i) (fV j))else ba
  |_,_=>ba
 |.Name x _=>if f==("isinstance": Nu)&&bL Γ f&&Γ.blt.contains f&&x==n&&slot Γ n==aB i then Hs Γ cls cl i b else ba
 |_=>ba
def Ax {e:NF}(h:Ht e=aB x):∃p,e=.Name x p:=by
 cases e with
 |Name x p=>cases h;show#[_,rfl]
 |_=>show af h
abbrev MJ (cls:Nb Nu)(cl:Cl)(n:Nu)(i:Np)(Γ:Gam)(f:Nu):Nb NF->Nf E
 |[a,b]=>MH cls cl n i Γ f b a
 |_=>ba
abbrev sW (cls:Nb Nu)(cl:Cl)(n:Nu)(i:Np)(Γ:Gam):Np->NF->Nf E
 |0,_=>ba
 |k+1,e=>match e with
  |.Constant (.int j) _ _=>aB (.c (.int j))
  |.Constant (.str x) _ _=>aB (.c (.str x))
  |.Constant (.bool b) _ _=>aB (.c (.bl b))
  |.Constant .none _ _=>aB (.c .non)
  |.Name x _=>match slot Γ x with
   |some j=>aB (.v j)
   |none=>ba
  |.UnaryOp .Not a _=>(sW cls cl n i Γ k a).map .not
  |.BoolOp d vs _=>cB (sW cls cl n i Γ k) d vs
  |.Tuple c _ _=>(cA (sW cls cl n i Γ k) c).map .tup
  |.Attribute (.Name x _) g _=>if x==n&&slot Γ n==aB i then aB (.sem (qP cl g i))else ba
  |.Call (.Name f _) args [] _=>MJ cls cl n i Γ f args
  |_=>ba
abbrev E9 (cls:Nb Nu)(cl:Cl)(n:Nu)(i:Np)(Γ:Gam):Np->OE->Nf Sm
 |0,_=>ba
 |k+1,st=>match st with
  |.Assign [.Name x _] e _=>match bB Γ x,sW cls cl n i Γ 20 e with
   |some j,aB f=>aB (.set j f)
   |_,_=>ba
  |.Return (aB e) _=>(sW cls cl n i Γ 20 e).map .ret
  |.If t a b _=>match sW cls cl n i Γ 20 t,gI (E9 cls cl n i Γ k) a,gI (E9 cls cl n i Γ k) b with
   |some t',aB c,aB d=>aB (.ite t' c d)
   |_,_,_=>ba
  |_=>ba
section
variable{n:Nu}{i:Np}
def sX {e:NF}{a:E}(h:sW cls cl n i Γ k e=aB a):dX e=true:=by
 cases k with
 |zero=>cases h
 |succ k=>cases e<;>first|rfl|(show af h)
def Ki (K:HCtx X Γ cls cl)(s:bL Γ ("isinstance")=true)(o:Γ.blt.contains ("isinstance")=true)(j:slot Γ n=aB i)(h:Hs Γ cls cl i c=aB r):∃g,r=.sem g/\GE X (.Call (.Name "isinstance" p) [.Name n p1,c] [] pos) g:=by
 obtain⟨b,t⟩:=sT K s;have f:X.mg "isinstance" = ba:=K.blt _ (by simpa using o)
 cases c with
 |Name D q=>
  replace h:(if bL Γ D&&cls.contains D then aB (E.sem (iU cl (λcn=>fQ cn D) i))else if bL Γ D&&(D==("ValueError": Nu))&&Γ.blt.contains D then aB (E.sem (iU cl (λ_=>true) i))else ba)=aB r:=h
  split at h
  next hc=>rw[Nj]at hc;obtain⟨d,l⟩:=sT K hc.1;cases h;show#[_,rfl,Hl K b f j d l (by simpa using hc.2)]
  ·split at h
   next hc=>rw[Nj,Nj]at hc;obtain⟨d,l⟩:=sT K hc.1.1;have e:=eq_of_beq hc.1.2;subst e;cases h;show#[_,rfl,Hm K b f j d (K.blt _ (by simpa using hc.2))]
   ·cases h
 |Tuple m k q=>
  replace h:(match gj m with|some a=>if (a.all λD=>bL Γ D&&cls.contains D)&&decide (↥a<=1000)then aB (E.sem (iU cl (λcn=>a.any (fQ cn)) i))else ba|none=>ba)=aB r:=h
  split at h
  next a hd=>
   split at h
   next hc=>rw[Nj,NZ]at hc;cases h;show#[_,rfl,Hn K b f j hd hc.1 hc.2]
   ·cases h
  ·cases h
 |_=>cases h
def lL (K:HCtx X Γ cls cl)(G:DQ X):∀ k {e:NF}{d:E},sW cls cl n i Γ k e=aB d->GE X e (aF M d)/\GT X e (cu M d):=by
 intro k
 induction k with
 |zero=>intro e d h;cases h
 |succ k ih=>
  intro e d h;cases e with
  |Constant c j p=>
   cases c<;>cases h
   all_goals first
    |show#[eR jj (λ_ _=>.non),aQ (eR jj (λ_ _=>.non)) λ_=>rfl]
    |show#[eR ud (λ_ _=>.bl),aQ (eR ud (λ_ _=>.bl)) λ_=>rfl]
    |show#[eR nF (λ_ _=>.int),aQ (eR nF (λ_ _=>.int)) λ_=>rfl]
    |show#[eR nG (λ_ _=>.str),aQ (eR nG (λ_ _=>.str)) λ_=>rfl]
  |Name x p=>
   replace h:(match slot Γ x with|some j=>aB (E.v j)|none=>ba)=aB d:=h
   split at h
   next j l=>cases h;show#[wR (iW K l),aQ (wR (iW K l)) λ_=>rfl]
   ·cases h
  |UnaryOp B a p=>
   cases B with
   |Not=>
    replace h:(sW cls cl n i Γ k a).map E.not=aB d:=h;rw[Nk]at h;obtain⟨Q,l,rfl⟩:=h;show#[zF (ih l).1,zC (ih l).2]
   |_=>show af h
  |BoolOp B vs p=>
   replace h:cB (sW cls cl n i Γ k) B vs=aB d:=h;show#[kE (λz=>(ih z).1) h,(kF (λz=>(ih z).2) h).pt]
  |Tuple I j p=>
   replace h:(cA (sW cls cl n i Γ k) I).map E.tup=aB d:=h;rw[Nk]at h;obtain⟨r,l,rfl⟩:=h;have g:=sH (k:=j) (pos:=p) (Au (λz=>sX z) (λz=>(ih z).1) l)
   show#[g,aQ g λ_=>rfl]
  |Attribute o g p=>
   cases o with
   |Name x q=>
    replace h:(if x==n&&slot Γ n==aB i then aB (E.sem (qP cl g i))else ba)=aB d:=h
    split at h
    next hc=>rw[Nj]at hc;have e:=eq_of_beq hc.1;subst e;cases h;have g:=At (g:=g) (p:=q) (pos:=p) K (eq_of_beq hc.2);show#[g,aQ g λ_=>rfl]
    ·cases h
   |_=>show af h
  |Call f args A p=>
   cases A with
   |cons _ _=>cases f<;>show af h
   |nil=>
    cases f with
    |Name x q=>
     replace h:MJ cls cl n i Γ x args=aB d:=h;cases args with
     |nil=>show af h
     |cons a D=>
      cases D with
      |nil=>show af h
      |cons b D=>
       cases D with
       |cons _ _=>show af h
       |nil=>
        replace h:MH cls cl n i Γ x b a=aB d:=h;cases a with
        |Attribute o g C=>
         replace h:(match Ht o,Ht b with|some O,aB P=>if x==("_law_alike": Nu)&&bL Γ x&&O==n&&slot Γ n==aB i then(slot Γ P).map λj=>E.sem (Ho (qP cl g i) (fV j))else ba|_,_=>ba)=aB d:=h
         cases m:Ht o with
         |none=>rw[m]at h;show af h
         |some y=>
          cases s:Ht b with
          |none=>rw[m,s]at h;show af h
          |some z=>
           rw[m,s]at h;obtain⟨L,rfl⟩:=Ax m;obtain⟨N,rfl⟩:=Ax s;dsimp only at h;clear m s;split at h
           next hc=>rw[Nj,Nj,Nj]at hc;obtain⟨⟨⟨t,u⟩,v⟩,w⟩:=hc;have e:=eq_of_beq t;subst e;have e:=eq_of_beq v;subst e;rw[Nk]at h;obtain⟨j,J,rfl⟩:=h;have g:=G (p:=q) (pos:=p) (At (g:=g) (p:=L) (pos:=C) K (eq_of_beq w)) (wR (iW (pos:=N) K J)) rfl rfl (sT K u).1;show#[g,aQ g λ_=>rfl]
           ·cases h
        |Name y C=>
         replace h:(if x==("isinstance": Nu)&&bL Γ x&&Γ.blt.contains x&&y==n&&slot Γ n==aB i then Hs Γ cls cl i b else ba)=aB d:=h
         split at h
         next hc=>rw[Nj,Nj,Nj,Nj]at hc;obtain⟨⟨⟨⟨t,u⟩,v⟩,w⟩,H⟩:=hc;have e:=eq_of_beq t;subst e;have e:=eq_of_beq w;subst e;obtain⟨g,rfl,z⟩:=Ki (p:=q) (p1:=C) (pos:=p) K u v (eq_of_beq H) h;show#[z,aQ z λ_=>rfl]
         ·cases h
        |_=>show af h
    |_=>show af h
  |_=>show af h
def Hu {e:NF}{a:E}(h:sW cls cl n i Γ k e=aB a):swapsWith e t l env=pure false:=by
 cases k with
 |zero=>cases h
 |succ k=>cases e<;>first|(exfalso;show af h)|rfl
def kG (ih:∀{st:OE}{a:Sm},E9 cls cl n i Γ k st=aB a->GS X st (cj M fuel a)):∀{ss:Nb OE}{r:Ss},gI (E9 cls cl n i Γ k) ss=aB r->GSs X ss (bS M fuel r)
 |[],r,h=>by cases h;show eT
 |s::ss,r,h=>by
  obtain⟨a,c,b,h2,rfl⟩:=iM h;show fJ (ih b) (kG ih h2)
def Ay (fuel:Np)(K:HCtx X Γ cls cl)(g:DQ X):∀ k {st:OE}{d:Sm},E9 cls cl n i Γ k st=aB d->GS X st (cj M fuel d):=by
 have s:X.N.Nodup:=by rw[K.N];show K.nd
 intro k
 induction k with
 |zero=>intro st d h;cases h
 |succ k ih=>
  intro st d h;cases st with
  |Return o p=>
   cases o with
   |none=>show af h
   |some e=>
    replace h:(sW cls cl n i Γ 20 e).map Sm.ret=aB d:=h;rw[Nk]at h;obtain⟨l,f,rfl⟩:=h;show oF (lL K g _ f).1
  |If t a b p=>
   replace h:(match sW cls cl n i Γ 20 t,gI (E9 cls cl n i Γ k) a,gI (E9 cls cl n i Γ k) b with|some t',aB m,aB q=>aB (Sm.ite t' m q)|_,_,_=>ba)=aB d:=h
   split at h
   next t' m q f h2 r=>cases h;show zK (lL K g _ f).2 (kG ih h2) (kG ih r)
   ·cases h
  |Assign ts e p=>
   match ts,h with
   |[],h=>show af h
   |a::_::_,h=>cases a<;>show af h
   |[t],h=>
    cases t with
    |Name x u=>
     replace h:(match bB Γ x,sW cls cl n i Γ 20 e with|some j,aB l=>aB (Sm.set j l)|_,_=>ba)=aB d:=h
     split at h
     next j l f h2=>cases h;obtain⟨a,b,c⟩:=DO K f;show lz (lL K g _ h2).1 (oG s a b c) (show swapsWith e (aB (.Name x u)) p.line X.env=pure false from Hu h2) (by cases e<;>rfl) rfl
     ·cases h
    |_=>show af h
  |_=>show af h
end
section
variable{K:Fm->aa->Prop}{Q:QO}
abbrev IB (M:Nu->FF)(fuel:Np)(b:Ss)(Z:Fm)(S:aa)(I:Fm->aa->Prop)(Q:QO):Prop:=∀a:QO,(∀c S',I c S'->a (.nx c,S'))->(∀w S',Q (.rt w,S')->a (.rt w,S'))->wZ M fuel b Z S a
def oX {xs:Nb W}(I:Np->Fm->aa->Prop)(ok:iO b=true)(hi:ip M it Z S=aB (mi,S1))(d:∀i Z S,I i Z S->mi.at S i=aB xs[i]?)(hl:mi.len S1=aB ↥xs)(e:I 0 Z S1)
  (a:∀ i w Z S,xs[i]?=aB w->I i Z S->wO (rO tg w Z S) λq=>IB M fuel b q.1 q.2 (I (i+1)) Q) (c:∀Z S,I ↥xs Z S->K Z S):Wp (cj M fuel (.loop tg it b) Z S) (xq K Q):=by
 (delta cj;rw[JZ])
 show#[_,hi,↥xs,hl,?_];show jD  I d (λi w Z S f h2=>?_) (λZ S h=>c Z S h) _ 0 Z S1 ∅ e
 show(bu (a i w Z S f h2)).mono λq g=>hW b ok (wZ.out (g _ (λ_ _ h=>h) λ_ _ h=>h))
def bC {e:E}{Q:QW}(ok:cq e=true)(h:wE M e Z S Q):∃w S',aF M e Z S=aB (w,S')/\Q (w,S'):=let ⟨⟨w,S'⟩,a,b⟩:=aP e ok h;#[w,S',a,b]
def oY {f:Np}{e:E}(j:NI)(I:Np->Fm->aa->Prop)(m:cq e=true)(ok:iO b=true)(l : -(2^62)<=j/\j<2^62)(k:wE M e Z S λp=>p.1=.int j/\I 0 Z p.2)
  (a:∀(i:Np) Z S,i<j->I i Z S->IB M fuel b (Z.set f (aB (.int i))) S (I (i+1)) Q) (c:∀Z S,I j.toNat Z S->K Z S):Wp (cj M fuel (.loop (.nm f) (.rng #v[e]) b) Z S) (xq K Q):=by
 obtain⟨w,S1,g,rfl,h⟩:=bC m k;have hl:(fK 0 j.toNat).length=j.toNat:=by(delta fK;simp)
 show oX (mi:=.its _)   I ok ?_ (λ_ _ _ _=>rfl) rfl h (λi w Z S hw d=>?_) λZ S d=>c Z S (hl▸d)
 ·(delta ip bW b6 gA oH;revert g)
  rw[NK l]
 ·rw[fM]at hw;split at hw
  ·cases hw;rw[SR];show a i Z S ∅ d
  ·cases hw
def for_tup {e:E}(xs:Nb W)(I:Np->Fm->aa->Prop)(h:cq e=true)(ok:iO b=true)(g:wE M e Z S λp=>p.1=.tup xs/\I 0 Z p.2)
  (a:∀ i w Z S,xs[i]?=aB w->I i Z S->wO (rO tg w Z S) λq=>IB M fuel b q.1 q.2 (I (i+1)) Q) (c:∀Z S,I ↥xs Z S->K Z S):Wp (cj M fuel (.loop tg (.seq e) b) Z S) (xq K Q):=by
 obtain⟨w,S1,d,rfl,f⟩:=bC h g;show oX (mi:=.its xs)  I ok (by revert ip cU d) (λ_ _ _ _=>rfl) rfl f a c
def DR {e:E}(t:Np)(xs:Nb W)(I:Np->Fm->aa->Prop)(k:cq e=true)(ok:iO b=true)(j:wE M e Z S λp=>p.1=.ref t/\I 0 Z p.2)(a:∀i Z S,I i Z S->S[t]?=aB (.lst xs))
  (c:∀ i w Z S,xs[i]?=aB w->I i Z S->wO (rO tg w Z S) λq=>IB M fuel b q.1 q.2 (I (i+1)) Q) (d:∀Z S,I ↥xs Z S->K Z S):Wp (cj M fuel (.loop tg (.seq e) b) Z S) (xq K Q):=by
 obtain⟨w,S1,g,rfl,f⟩:=bC k j;show oX (mi:=.live t)  I ok (by simp only[ip,cU,g,aG (a _ _ _ f)]) (λi Z S h=>by simp only[MI.at,aG (a _ _ _ h)]) (by simp only[MI.len,aG (a _ _ _ f),OD]) f c d
def Fa (I:Np->Fm->aa->Prop)(m:Np)(i:cq t=true)(ok:iO b=true)(g:m<fuel)(d:I m Z S)
  (a:∀m Z S,I m Z S->wT M t Z S λk=>(k.1=true->∃c,m=c+1/\IB M fuel b Z k.2 (I c) Q)/\(k.1=false->K Z k.2)):Wp (cj M fuel (.whl t b) Z S) (xq K Q):=by
 change Wp (lA (cu M t) (bS M fuel b) fuel Z S) _;show lK (Q:=xq K Q) I (λm Z S f=>(iP t i (a m Z S f)).mono λk hk=>#[λz=>?_,λz=>hk.2 z]) fuel m Z S g d
 obtain⟨c,e,h⟩:=hk.1 z;show#[c,e,hW b ok (wZ.out (h _ (λ_ _ h=>h) λ_ _ h=>h))]
abbrev wC (M:Nu->FF):Es->Fm->aa->QB->Prop
 |.nil,_,S,Q=>Q (true,S)
 |.cons e .nil,Z,S,Q=>wT M e Z S Q
 |.cons _ (.cons _ _),_,_,_=>Oo
def Fb {a:Es}{Q:QB}(ok:pH a=true)(h:wC M a Z S Q):Wp (ES M a Z S) Q:=by
 match a,h,ok with
 |.nil,h,_=>show J0.mpr h
 |.cons e .nil,h,ok=>show td.mpr (iP e (bP ok) h)
abbrev jF (M:Nu->FF)(a:E)(b:Es)(Z:Fm)(S:aa)(G:W->Fm->aa->Prop)(N:Fm->aa->Prop):Prop:=wC M b Z S λk=>(k.1=true->wE M a Z k.2 λy=>G y.1 Z y.2)/\(k.1=false->N Z k.2)
def sY {f:Es}{xs:Nb W}{Q:QW}(I:Np->Nb W->Fm->aa->Prop)(m:cq b=true)(oc:pH f=true)(hi:ip M it Z S=aB (mi,S1))(g:∀i a Z S,I i a Z S->mi.at S i=aB xs[i]?)(hl:mi.len S1=aB ↥xs)(j:I 0 [] (cC d Z) S1)
  (c:∀ i w a Z S,xs[i]?=aB w->I i a Z S->wO (rO tg w Z S) λq=>jF M b f q.1 q.2 (λy=>I (i+1) (a++[y])) (I (i+1) a))
  (e:∀a Z S,I ↥xs a Z S->↥a<=sizeLine/\Q (.ref ↥S,S++[.lst a])):Wp (aF M (.comp b tg it f d) Z S) Q:=by
 rw[Ai];show#[_,hi,↥xs,hl,?_];show(de  (Q:=λq=>↥q.1<=sizeLine/\Q (.ref ↥q.2,q.2++[.lst q.1])) I g (λi w a Z S l h2=>?_) e _ 0 [] _ S1 ∅ j).mono λq h=>by simpa using h
 show(bu (c i w a Z S l h2)).mono λq h=>(Fb oc h).mono λk hk=>#[λz=>aP b m (hk.1 z),hk.2]
def kH { e:E}{g:Es}{Q:QW}(j:NI)(I:Np->Nb W->Fm->aa->Prop)(r:cq e=true)(q:cq b=true)(oc:pH g=true)(o : -(2^62)<=j/\j<2^62)(n:wE M e Z S λp=>p.1=.int j/\I 0 [] (cC d Z) p.2)
  (c:∀(i:Np) a Z S,i<j->I i a Z S->jF M b g (Z.set k (aB (.int i))) S (λy=>I (i+1) (a++[y])) (I (i+1) a))
  (f:∀a Z S,I j.toNat a Z S->↥a<=sizeLine/\Q (.ref ↥S,S++[.lst a])):Wp (aF M (.comp b (.nm k) (.rng #v[e]) g d) Z S) Q:=by
 obtain⟨w,S1,l,rfl,m⟩:=bC r n;have hl:(fK 0 j.toNat).length=j.toNat:=by simp[fK]
 show sY (mi:=.its _)   I q oc ?_ (λ_ _ _ _ _=>rfl) rfl m (λi w a Z S hw h=>?_) λa Z S h=>f a Z S (hl▸h)
 ·revert ip bW b6 gA oH l;rw[NK o]
 ·rw[fM]at hw;split at hw
  ·cases hw;rw[SR];show c i a Z S ∅ h
  ·cases hw
def vh {a e:E}{g:Es}{Q:QW}(xs:Nb W)(I:Np->Nb W->Fm->aa->Prop)(m:cq e=true)(l:cq a=true)(oc:pH g=true)(k:wE M e Z S λp=>p.1=.tup xs/\I 0 [] (cC d Z) p.2)
  (b:∀ i w c Z S,xs[i]?=aB w->I i c Z S->wO (rO tg w Z S) λq=>jF M a g q.1 q.2 (λy=>I (i+1) (c++[y])) (I (i+1) c))
  (f:∀c Z S,I ↥xs c Z S->↥c<=sizeLine/\Q (.ref ↥S,S++[.lst c])):Wp (aF M (.comp a tg (.seq e) g d) Z S) Q:=by
 obtain⟨w,S1,h,rfl,j⟩:=bC m k;show sY (mi:=.its xs)  I l oc (by revert ip cU h) (λ_ _ _ _ _=>rfl) rfl j b f
def DS { e:E}{f:Nb (Nf Np)}{Q:QW}(t:Np)(xs:Nb W)(I:Np->Nb W->Fm->aa->Prop)(o:cq e=true)(n:cq b=true)(oc:pH j=true)(m:wE M e Z S λp=>p.1=.ref t/\I 0 [] (cC f Z) p.2)(c:∀i a Z S,I i a Z S->S[t]?=aB (.lst xs))
  (d:∀ i w a Z S,xs[i]?=aB w->I i a Z S->wO (rO tg w Z S) λq=>jF M b j q.1 q.2 (λy=>I (i+1) (a++[y])) (I (i+1) a))
  (g:∀a Z S,I ↥xs a Z S->↥a<=sizeLine/\Q (.ref ↥S,S++[.lst a])):Wp (aF M (.comp b tg (.seq e) j f) Z S) Q:=by
 obtain⟨w,S1,l,rfl,k⟩:=bC o m;show sY (mi:=.live t)  I n oc (by simp only[ip,cU,l,aG (c _ _ _ _ k)]) (λi a Z S h=>by simp only[MI.at,aG (c _ _ _ _ h)]) (by simp only[MI.len,aG (c _ _ _ _ k),OD]) k d g
def st (h:wS M fuel s Z S (λa S'=>wZ M fuel ss a S' Q) Q):wZ M fuel (.cons s ss) Z S Q:=#[by
 delta DE;revert Kb;show h]
def cW (h:Q (.nx Z,S)):wZ M fuel .nil Z S Q:=#[h]
def aE {a :Ss}{ Q0:QO}(g:t=true->∀c:QO,(∀d S',K d S'->c (.nx d,S'))->(∀w S',Q (.rt w,S')->c (.rt w,S'))->wZ M fuel a Z S c)(h:t=false->∀c:QO,(∀d S',K d S'->c (.nx d,S'))->(∀w S',Q (.rt w,S')->c (.rt w,S'))->wZ M fuel b Z S c) :
  ∀c:QO,(∀d S',K d S'->c (.nx d,S'))->(∀o S',(∀d,o≠.nx d)->Q (o,S')->c (o,S'))->(t=true->DE M fuel a Z S c)/\(t=false->DE M fuel b Z S c):=
 λc f h2=>#[λe=>(g e c f λw S'=>h2 (.rt w) S' (λ_ z=>nomatch z)).out,λe=>(h e c f λw S'=>h2 (.rt w) S' (λ_ z=>nomatch z)).out]
end
open PySem PySem.Spec PyProof.Rows L2 Xc
inductive BK where
 |ex (f:Nu) (k:Np) (es:Es)
abbrev BK.fs (M:Nu->FF):BK->FS
 |.ex f k a=>oE (iG k (Aq (M f)) (bW M a))
abbrev BK.fx (M:Nu->FF):BK->FX
 |.ex f k a=>mZ k (xG (M f)) (bW M a)
abbrev K4 (cl:Cl)(c:Nu)(i:Np)(b:BK)(h:Ss):(Nu->FF)->FS:=λM=>DM (b.fs M) (b.fx M) (λcn=>fQ cn c) cl i (bS M 0 h)
abbrev Az (b:Nb (Nu×Nu×Np))(Γ:Gam):NF->Nf (Nu×Np×Es)
 |.Call (.Name f _) (a::as) [] _=>if bL Γ f then match b.lookup f,cA (cE aZ Γ) (a::as)with
  |some (d,k),aB c=>aB (d,k,c)
  |_,_=>ba
  else ba
 |_=>ba
abbrev LX (a:Nb (Nu×Nu×Np))(Γ:Gam):OE->Nf BK
 |.Expr e _=>(Az a Γ e).map λp=>.ex p.1 p.2.1 p.2.2
 |_=>ba
abbrev MK (a:Nb (Nu×Nu×Np))(Γ:Gam):Nb OE->Nf BK
 |[st]=>LX a Γ st
 |_=>ba
abbrev ML:NF->Nf Nu
 |.Name c _=>aB c
 |_=>ba
abbrev MM:V8->Nf (Nu×Nu×Nb OE)
 |.ExceptHandler (aB e) (aB n) b _=>(ML e).map λc=>(c,n,b)
 |_=>ba
abbrev LY:OE->Nf (Nb OE×Nu×Nu×Nb OE)
 |.Try body [x] [] [] _=>(MM x).map λp=>(body,p)
 |_=>ba
abbrev IC (d:Nb (Nu×Nu×Np))(cls:Nb Nu)(cl:Cl)(Γ:Gam)(st:OE):Nf Sm:=match LY st with
 |some (body,c,n,a)=>if bL Γ c&&cls.contains c&&(Γ.sc.lookup n==aB .local) && !a.isEmpty then match Γ.N.findIdx? (· == n)with
  |some i=>match MK d Γ body,gI (E9 cls cl n i Γ 20) a with
   |some b,aB h=>aB (.sem (K4 cl c i b h))
   |_,_=>ba
  |none=>ba
  else ba
 |none=>cS 20 Γ st
def Hv {st:OE}{ a:Nb OE}(h:LY st=aB (body,c,n,a)):∃d g p,st=.Try body [.ExceptHandler (aB (.Name c d)) (aB n) a g] [] [] p:=by
 cases st with
 |Try body j o f p=>
  cases j with
  |nil=>show af h
  |cons x k=>
   cases k with
   |cons _ _=>show af h
   |nil=>
    cases o with
    |cons _ _=>show af h
    |nil=>
     cases f with
     |cons _ _=>show af h
     |nil=>
      replace h:(MM x).map (λp=>(body,p))=aB _:=h
      rw[Nk]at h;obtain⟨q,h,e⟩:=h;cases e;cases x with
      |ExceptHandler t m b g=>
       cases t with
       |none=>show af h
       |some e=>
        cases m with
        |none=>show af h
        |some m=>
         replace h:(ML e).map (λc=>(c,m,b))=aB _:=h
         rw[Nk]at h;obtain⟨q,h,i⟩:=h;cases i;cases e with
         |Name x d=>cases h;show#[_,_,_,rfl]
         |_=>show af h
 |_=>show af h
def GA.nox {f:FA}(h:GA X.nox b f):GA X b f:=λpos J s Y H Q I #[A,Z,S,ws,S',er,so,e,q]=>
 Ou (h pos J s Y H Q (I.wish _) #[A,Z,S,ws,S',er,so,e,λvs a #[c,x,y,z]=>q vs a #[c,x,y,z]]) (λ_ _ #[v,a,I',r,q]=>#[v,a,I'.unwish,r,q]) λ_ _ z=>Oo.elim z
structure TOk (M:Nu->FF)(X:Cx)(Γ:Gam)(XF:Nb (Nu×Nu×Np))(cls:Nb Nu)(cl:Cl):Prop where
 st:X.stack=X.env::X.outer
 fr:X.env.frame=aB X.env.locals
 hc:∀a,HCtx (sj X a) Γ cls cl
 al:∀a,DQ (sj X a)
 xd:∀c∈cls,∃D,X.mg c=aB (.ref D)/\XD X.K D
 xf:∀f f' k,XF.lookup f=aB (f',k)->∃d fa fd ps,FnOk X.prog X.w X.K X.mg X.base (CXx X.prog X.w) d fa fd ps (spX X.w X.K cl k (Aq (M f')) (xG (M f')))/\Room d X.A/\X.mg f=aB (.ref fa)/\OI X.K (.ref fa)=true/\Binds X.K fd ps []
section
variable{XF:Nb (Nu×Nu×Np)}
def Hw (K:CtxOk M X Γ)(J:Nb (Nl×OQ))(E:Nd->Nh->Prop):CtxOk M (Cx.tr X J E).nox Γ:=#[K.names,K.kind,K.N,K.nd,K.calm,RI,K.un,K.dfn,K.own,K.blt,K.cst,K.fns]
def Hx (K:CtxOk M X Γ)(T:TOk M X Γ XF cls cl){e:NF}{f:Nu}(h:Az XF Γ e=aB (f,k,b)){E:Nd->Nh->Prop}{g:L2.XK}
  (hw:∀m H s a C dd o,Air (Cx.tr X J E) m i H s a C dd o->g (.ref C) dd H->E (.ref a) s):ME (Cx.tr X J E) cl g i e (iG k (Aq (M f)) (bW M b)) (mZ k (xG (M f)) (bW M b))/\(∀t l env,swapsWith e t l env=pure false)/\∀t,swappedStores [t] e (Cx.tr X J E).env=pure ba:=by
 cases e with
 |Call fn args c pos=>
  cases fn with
  |Name x p=>
   cases args with
   |nil=>cases c<;>show af h
   |cons a as=>
    cases c with
    |cons _ _=>show af h
    |nil=>
     replace h:(if bL Γ x then match XF.lookup x,cA (cE aZ Γ) (a::as)with|some (j,k),aB b=>aB (j,k,b)|_,_=>ba else ba)=aB (f,k,b):=h
     split at h
     ·rename_i y;split at h
      next j D q v h2=>cases h;obtain⟨d,fa,fd,ps,F,B,A,hk,w⟩:=T.xf x f k v;have n:=Hw K J E;obtain⟨r,u⟩:=fO K y;have ns:=bO h2;rw[OA,Nj]at ns;show#[Hk (X:=Cx.tr X J E) F B r A hk w hw (GA.nox (cD (λz=>(bj aZ n z).1) h2)) u (az ns.1) (aU ns.2),λ_ _ _=>rfl,λt=>by cases t<;>rfl]
      ·cases h
     ·cases h
  |_=>show af h
 |_=>show af h
def LZ (K:CtxOk M X Γ)(T:TOk M X Γ XF cls cl)(h:MK XF Γ body=aB b)(J:Nb (Nl×OQ))(E:Nd->Nh->Prop)(d:L2.St)(c:L2.XK)
  (hw:∀g H s a C dd i,Air (Cx.tr X J E) g d H s a C dd i->c (.ref C) dd H->E (.ref a) s):PSs (Cx.tr X J E) body (MX (Cx.tr X J E) cl c d (b.fs M) (b.fx M)):=by
 cases body with
 |nil=>show af h
 |cons st n=>
  cases n with
  |cons _ _=>show af h
  |nil=>
   cases st with
   |Expr e p=>
    replace h:(Az XF Γ e).map (λp=>BK.ex p.1 p.2.1 p.2.2)=aB b:=h
    rw[Nk]at h;obtain⟨⟨f,k,o⟩,j,rfl⟩:=h;obtain⟨m,l,_⟩:=Hx K T j hw;show uf (Kf m (l _ _ _))
   |_=>show af h
def L3 (fuel:Np)(K:CtxOk M X Γ)(T:TOk M X Γ XF cls cl){st:OE}{g:Sm}(h:IC XF cls cl Γ st=aB g):GS X st (cj M fuel g):=by
 have y:X.N.Nodup:=by rw[K.N];show K.nd
 unfold IC at h;cases e:LY st with
 |none=>rw[e]at h;show oQ fuel K 20 h
 |some q=>
  obtain⟨body,c,n,d⟩:=q;rw[e]at h;obtain⟨H,I,p,rfl⟩:=Hv e;dsimp only at h;clear e;split at h
  next hc=>
   rw[Nj,Nj,Nj]at hc;obtain⟨⟨⟨o,r⟩,s⟩,t⟩:=hc;obtain⟨b0,d,rfl⟩:∃b0 ss,d=b0::ss:=by
    cases d with
    |nil=>cases t
    |cons b0 ss=>show#[b0,ss,rfl]
   split at h
   next i hi=>
    split at h
    ·rename_i b L x h2;cases h;obtain⟨u,v⟩:=fO K o;have f:c∈cls:=by simpa using r
     obtain⟨D,m,xd⟩:=T.xd c f;show Hj (D:=D) T.st T.fr y (by rw[K.N];show b7 hi) (by rw[K.names];show eq_of_beq s) u m xd v (λcn C w B G=>?_) (λJ E l k hw=>LZ K T x J E l k hw) λa=>kG (λz=>Ay 0 (T.hc a) (T.al a) 20 z) h2
     obtain⟨j,A,xt⟩:=(T.hc 0).xt c f;have e:aB (NR D)=aB (NR j):=m.symm.trans A;cases e;have:=(xt cn C w B).sub;rw[G]at this;show this
    ·cases h
   ·cases h
  ·cases h
def vk (K:CtxOk M X Γ)(T:TOk M X Γ XF cls cl):∀{ss:Nb OE}{r:Ss},gI (IC XF cls cl Γ) ss=aB r->GSs X ss (bS M fuel r)
 |[],r,h=>by cases h;show eT
 |s::ss,r,h=>by
  obtain⟨c,b,a,h2,rfl⟩:=iM h;show fJ (L3 fuel K T a) (vk K T h2)
end
structure XCls (K:Nr)(mg:Nu->Nf Nd)(base:N6)(cls:Nb Nu)(cl:Cl):Prop where
 xk:∀cn C gs,cl cn=aB (C,gs)->(∃cd,XK K C cd)/\base.get? C≠ba/\XT K C (.type "ValueError") true/\∀g∈gs,Qr K (.ref C) g=aB ba
 xt:∀D∈cls,∃Da,mg D=aB (.ref Da)/\XD K Da/\∀cn C gs,cl cn=aB (C,gs)->XT K C (.ref Da) (fQ cn D)
section
variable{w:NU}{base:N6}
abbrev Kj (P:NM)(w:NU)(K:Nr)(mg:Nu->Nf Nd)(base:N6)(b:Nb (Nu×Nu×Np))(cl:Cl)(defs:Nb (Nu×Df))(fuel d:Np):Prop:=
 ∀f a n,b.lookup f=aB (a,n)->∃fa fd ps,FnOk P w K mg base (CXx P w) (d+2) fa fd ps (spX w K cl n (Aq (ag defs fuel d a)) (xG (ag defs fuel d a)))/\mg f=aB (.ref fa)/\OI K (.ref fa)=true/\Binds K fd ps []
def Hy {st:OE}(F:Fun K x b st f fd)(S:FnScope df.N df.ps (aq st))(hd:defs.lookup x=aB df)
  (hc:gI (IC y cls cl (cV i st df.N)) (aI st)=aB df.body) (G:MdOk w K mg i) (r:u7 P w K mg base i defs fuel d) (V:Kj P w K mg base y cl defs fuel d) (B:XCls K mg base cls cl) (R:HAl K mg) :
  FnOk P w K mg base kj (d+3) f fd df.ps (spF w K ↥df.ps (ag defs fuel (d+1) x)):=by
 show F.ok S (λvs H Q E h=>?_) (λcdv A outer s H vs Q E p h=>?_)
 ·obtain⟨A,S,ws,W,S',_,t,hl,_⟩:=h;rw[<- ↥t];show hl
 ·obtain⟨J,L,ws,W,S',N,t,hl,e,M⟩:=h;have un:(A.deeper (envOfC b (aq st) ⇑s.heap.objs f cdv)).units+20<cLine:=by
   have:=p.un;omega
  have O:CtxOk (ag defs fuel d) (eN kj P w K mg base df.N b (aq st) f cdv A outer s H E).nox (cV i st df.N):=by
   show#[rfl,S.kind,rfl,S.nd,congrArg T6 p.hd,RI,un,λ_ _=>rfl,λ_ h=>(nomatch h),G.blt,G.cst _ rfl rfl rfl,λg n I=>?_]
   obtain⟨fa,l,m,j,h2,q,C⟩:=r g n I;show#[d+2,fa,l,m,j,p,h2,q,C]
  have T:TOk (ag defs fuel d) (eN kj P w K mg base df.N b (aq st) f cdv A outer s H E).nox (cV i st df.N) y cls cl:=by
   show#[rfl,rfl,λa=>#[rfl,rfl,S.nd,un,λ_=>rfl,G.blt,B.xk,λD U=>?_],λa=>?_,λc hc=>?_,λg g' n I=>?_]
   ·obtain⟨u,j,_,q⟩:=B.xt D U;show#[u,j,q]
   ·show Kh R p.depth (by have:=p.un;show(A.deeper (envOfC b (aq st) ⇑s.heap.objs f cdv)).units+3+20<cLine;omega)
   ·obtain⟨u,j,h2,_⟩:=B.xt c hc;show#[u,j,h2]
   ·obtain⟨fa,l,m,j,h2,q,C⟩:=V g g' n I;show#[d+2,fa,l,m,j,p,h2,q,C]
  show#[tS _ (bS (ag defs fuel d) fuel df.body),vk O T hc,?_]
  (dsimp only[ag]at e;simp only[hd]at e)
  rw[NK hl]at e;split at e
  next Y S1 j=>
   cases e;show#[J,bw df.N ws,L,_,_,b8 t,N,j,#[λo k #[_,_,z,_,_,_]=>(by cases z),λv k #[w2,A2,z0,z1,z2,z3]=>?_,λo k #[_,_,z,_,_,_]=>(by cases z),λo k #[_,_,z,_,_,_]=>(by cases z)]]
   cases z0;show M v k #[A2,z1,z2,z3]
  next X S1 j=>
   cases e;show#[J,bw df.N ws,L,_,_,b8 t,N,j,#[λo k #[w2,A2,z0,z1,z2,z3]=>?_,λo k #[_,_,z,_,_,_]=>(by cases z),λo k #[_,_,z,_,_,_]=>(by cases z),λo k #[_,_,z,_,_,_]=>(by cases z)]]
   show M _ k #[A2,z1,z2,.non]
  ·cases e
end
section
variable{c:Nu}{i:Np}{h:Ss}{K:Fm->aa->Prop}{Q:QO}
abbrev L4 (i:Np)(K:Fm->aa->Prop)(Q:QO)(p:Out×aa):Prop:=match p.1 with
 |.nx a=>K (a.set i ba) p.2
 |.rt w=>Q (.rt w,p.2)
 |_=>Oo
def Kk (ok:iO h=true)(f:b.fs M Z S=ba)(h2:b.fx M Z S=aB (cn,ws,S1))(g:cl cn=aB (C,d))(j:fQ cn c=true)
  (k:wZ M 0 h (Z.set i (aB (.ref ↥S1))) (S1++[.exc cn C d ws]) (L4 i K Q)):wO (K4 cl c i b h M Z S) (xq K Q):=by
 obtain⟨⟨o,S2⟩,e,q⟩:=hW h ok k.out;unfold K4 DM;revert f h2 g j Qv e;cases o with
 |nx a=>show q
 |rt w=>show q
 |bk a=>show q.elim
 |ct a=>show q.elim
end
open PySem PySem.Spec PySem.W PyProof.Rows L2 Xc
structure DK (K:Frag)(D:Nl):Prop where
 hc:(clsIn K D).isSome=true
 ty:typeIn K (.ref D)=aB (.type "type")
 st:subIn K (.type "type") (.type "tuple")=aB false
 se:subIn K (.ref D) (.type "BaseException")=aB true
def DK.xd (h:DK K D):XD K D:=
 let ⟨_,hc⟩:=Oq.mp h.hc
 #[λa h' X=>(looks_typeIn X h.ty).andThen (looks_subIn X h.st),λa h' X=>(gS hc a h' X).andThen (looks_subIn X h.se)]
def DK.xt (h:DK K D)(sub:subIn K (.ref C) (.ref D)=aB b)(eq:(!(NR C==NR D)||b)=true):XT K C (.ref D) b:=
 let ⟨_,hc⟩:=Oq.mp h.hc
 #[λa h' X=>looks_typeIn X h.ty,λa h' X=>gS hc a h' X,sub,λz=>by rw[z]at eq;show eq]
def Kl {T:OV}(ty:typeOf (.type T)=pure (.type "type"))(sub:subIn K (.ref C) (.type T)=aB b):XT K C (.type T) b:=
 #[λa h X=>.of_pure ty,λa h X=>.of_pure rfl,sub,λz=>by cases z]
structure XE (K:Frag)(C N f:Nl)(nm:Nu)(bs bm sub:Nb Nd)(k0 t2 t3:Np)(gs:Nb Nu):Prop where
 lk:K.lookup C=aB (excClassObj nm nm C N bs bm true [] sub false ba ba (aB (.ref k0)) ba (aB (.str nm t2)) (aB (.str nm t3)) (aB (.bool true)) "ValueError.__new__")
 mro:dR (.ref C::bm)=true
 tl:tailIn K Mw bm=true
 bb:bm.contains (.type "BaseException")=true
 ga:findIn K (.ref C) "__getattribute__" = aB (aB (.builtin "BaseException.__getattribute__"))
 hk:findIn K (.ref C) "__getattr__" = aB ba
 kl:findIn K (.ref C) "__class__" = aB (aB (.builtin "object.__class__"))
 gg:specialIn K (.builtin "object.__class__") "__get__" = aB (aB (.builtin "getset_descriptor.__get__"))
 tk:takesIn K (.builtin "object.__class__")=aB true
 sa:findIn K (.ref C) "__setattr__" = aB (aB (.builtin "object.__setattr__"))
 init:findIn K (.ref C) "__init__" = aB (aB (.ref f))
 fn:typeIn K (.ref f)=aB (.type "function")
 kp:keepIn K (.ref C)=true
 ve:subIn K (.ref C) (.type "ValueError")=aB true
 at':(gs.all λg=>findIn K (.ref C) g==aB ba)=true
variable{N:Nl}{bm sub:Nb Nd}
section
variable{K:Frag}{nm:Nu}{bs:Nb Nd}{k0 t2 t3:Np}
def XE.xm (h:XE K C N f nm bs bm sub k0 t2 t3 gs):∃a,XM K C f a:=by
 have hc:clsIn K C=aB {name:=nm,bases:=bs,mro:=.ref C::bm,ns:=N,qualname:=nm,hasDict:=true,slotNames:=[],subclasses:=sub,abstract:=false,collection:=ba,hasDel:=false}:=by
  unfold clsIn;rw[h.lk]
 show#[_,{cls:=hc,mro:=h.mro,dct:=rfl,ga:=h.ga,hk:=h.hk,kl:=h.kl,gg:=h.gg,tk:=h.tk,obj:=#[_,_,_,_,_,_,_,_,_,_,_,_,_,_,_,h.lk,h.tl,h.bb],sa:=h.sa,init:=h.init,fn:=h.fn,kp:=h.kp}]
def XE.fd (h:XE K C N f nm bs bm sub k0 t2 t3 gs):∀g∈gs,findIn K (.ref C) g=aB ba:=λg a=>eq_of_beq (NB.mp h.at' g a)
def XE.all (h:XE K C N f nm bs bm sub k0 t2 t3 gs)(X:K.In base):(∃a,XK K C a)/\base.get? C≠ba/\XT K C (.type "ValueError") true/\∀g∈gs,findIn K (.ref C) g=aB ba:=by
 obtain⟨a,m⟩:=h.xm;show#[#[a,m.toXC.toXK],?_,Kl rfl h.ve,h.fd];rw[X _ _ h.lk];show λe=>nomatch e
end
def iX {α:Type}{v:α}:∀{l:Nb (Nu×α)},l.lookup x=aB v->(x,v)∈l
 |[],h=>nomatch h
 |(y,u)::l,h=>by
  rw[Om]at h;split at h
  next e=>cases h;have:=eq_of_beq e;subst this;show NH
  ·show NL _ (iX h)
def Km (d:attributeBase o name env (eval o env)=eval o env)(a:methodCallForm (↥args+([]:Nb Uy).length) (backTo pos (starEach args env)) (backToKw pos (keywordEach [] env))=true)(b:(apos.endLine==pos.line)=true) :
  eval (.Call (.Attribute o name apos) args [] pos) env=(do
   let ov <- eval o env
   standAt apos.atName
   let (f,first) <- holding [ov] (getMethod ov name (do return(<- importBound o env).getD true))
   callWith pos f first (backTo pos (starEach args env)) (backToKw pos (keywordEach [] env))):=by
 have c:methodCallPos true o env apos pos=pure pos:=by unfold methodCallPos;simp[b]
 rw[arm_eval_Call,d];unfold methodCall calleeOf;rw[a,c];revert Qv pure_bind
variable{CL:Nl}{mc:Nd}
section
variable{w:NU}{K:Frag}{base:N6}{x qual L self y z h:Nu}{st:OE}{fd:OG}
def Hz (F:Fun K x qual st f fd)(S:FnScope [self,y] [self,y] (aq st))(c:∃p1 p2 z B i D G I J a,aI st=[.Expr (.Call (.Attribute (.Name L p1) "__init__" p2) [.Name self z,.Name y B] [] i) D,.Assign [.Attribute (.Name self G) g I] (.Name y J) a]/\(p2.endLine==i.line)=true)
  (d:(aq st).names.lookup L=aB .globalImplicit) (t:(aq st).names.lookup self=aB .local) (u:(aq st).names.lookup y=aB .local) (h:mg L=aB (.ref CL)) (b:XL K CL mc)
  (hdb:(L==("__debug__"))=false) (m:(self==("__debug__"))=false) (n:(self==("__classdict__"))=false) (o:(y==("__debug__"))=false) (p:(y==("__classdict__"))=false):FnOk P w K mg base kj (k+1) f fd [self,y] (yH K g):=by
 obtain⟨p1,p2,z,B,i,D,G,I,J,a,c,hl⟩:=c;show F.ok S (λvs H Q E #[_,_,_,_,q,_]=>by rw[q];rfl) λcdv A outer s H vs Q E O N=>?_
 rw[c];obtain⟨e,v,C,l,rfl,j,M,r,hk⟩:=N;show#[IK (Ez (yz K (yg (pI 0) (yg (pI 1) B0)))) (EG K (pI 0) (pI 1) g),kN (nI (yA d h b.ga b.rd b.fc (bU (gO rfl (.inl t) m n) (bU (gO rfl (.inl u) o p) gQ)) (hdb:=hdb) (ht:=Km rfl rfl hl)) rfl) (uf (Ch (gO rfl (.inl t) m n) (gO rfl (.inl u) o p) rfl)),?_];show#[.ref e,rfl,v,rfl,e,C,l,ba,[v],rfl,?_,j,r,v,rfl,.ref e,rfl,e,C,l,rfl,j,M,.inl #[r,hk]];rw[OF];change 1<=_;decide
end
abbrev hZ:Ss:=
 #v[.ret (.lst #v[.bi .list #v[.v 0],.c (.int 0),.c (.int 0),.c (.int 1),.c (.int 0)])]
abbrev cG:Ss:=
 #v[.ite (.and (.cmp .eq (.ix (.v 0) (.c (.int 2))) (.c (.int 0))) (.cmp .lt (.ix (.v 0) (.c (.int 1))) (.bi .len #v[.ix (.v 0) (.c (.int 0))]))) #v[.set 2 (.ix (.ix (.v 0) (.c (.int 0))) (.ix (.v 0) (.c (.int 1)))),.put (.v 0) (.c (.int 1)) (.op .add (.ix (.v 0) (.c (.int 1))) (.c (.int 1))),.ite (.cmp .ge (.v 2) (.op .pow (.c (.int 10)) (.c (.int 18)))) #v[.put (.v 0) (.c (.int 2)) (.v 2)] #v[.put (.v 0) (.c (.int 3)) (.op .mod (.op .add (.op .add (.op .mul (.ix (.v 0) (.c (.int 3))) (.c (.int 40013))) (.op .mod (.v 2) (.c (.int 1000003)))) (.c (.int 1))) (.c (.int 2147483647)))]] .nil,.ite (.cmp .gt (.ix (.v 0) (.c (.int 2))) (.c (.int 0))) #v[.set 3 (.op .mod (.ix (.v 0) (.c (.int 2))) (.v 1)),.put (.v 0) (.c (.int 2)) (.op .fdiv (.ix (.v 0) (.c (.int 2))) (.v 1)),.ret (.v 3)] .nil,.put (.v 0) (.c (.int 4)) (.op .add (.ix (.v 0) (.c (.int 4))) (.c (.int 1))),.put (.v 0) (.c (.int 3)) (.op .mod (.op .add (.op .add (.op .mul (.ix (.v 0) (.c (.int 3))) (.c (.int 48271))) (.c (.int 12820163))) (.ix (.v 0) (.c (.int 4)))) (.c (.int 2147483647))),.ret (.op .mod (.op .fdiv (.op .mod (.op .mul (.op .add (.op .mod (.ix (.v 0) (.c (.int 3))) (.c (.int 65521))) (.c (.int 1))) (.op .add (.op .fdiv (.ix (.v 0) (.c (.int 3))) (.c (.int 65521))) (.c (.int 7919)))) (.c (.int 1000003))) (.c (.int 7))) (.v 1))]
abbrev xv:Nu:="_law_bad_three"
abbrev y4:Nu:="_law_good_backs"
abbrev zn:Nu:="_law_letters"
abbrev uv:Nu:="_law_odd"
abbrev vr:Nu:="_law_pick"
abbrev vv:Nu:="_law_put"
abbrev qc:Nu:="_law_refused"
abbrev qd:Nu:="_law_rule_of"
abbrev qq:Nu:="has_point_form"
abbrev qs:Nu:="has_right_backs"
abbrev q0:Nu:="has_right_barred"
abbrev q7:Nu:="has_right_names"
abbrev pa:Nu:="is_tuple_of"
abbrev px:Nu:="is_whole"
abbrev p4:Nu:="keeps_bounds"
abbrev gK:Ss:=
 #v[.ret (.me .join (.c (.str "")) #v[.comp (.ix (.c (.str "abcdefghijklmnopqrstuvwxyz")) (.own vr 2 #v[.v 2,.c (.int 26)])) (.nm 1) (.rng #v[.v 1]) .nil [ba,ba,aB 0]])]
abbrev lN:Ss:=
 #v[.ite (.cmp .ne (.v 1) (.c (.str ""))) #v[.ret (.op .add (.v 1) (.own zn 2 #v[.v 0,.op .add (.c (.int 1)) (.own vr 2 #v[.v 0,.c (.int 2)])]))] .nil,.ite (.cmp .eq (.own vr 2 #v[.v 0,.c (.int 6)]) (.c (.int 0))) #v[.set 2 (.lst #v[.c (.str "markss"),.c (.str "mark"),.c (.str "way"),.c (.str "wayss"),.c (.str "bars"),.c (.str "ba"),.c (.str "somex")]),.set 2 (.op .add (.v 2) (.lst #v[.c (.str "eachx"),.c (.str "note"),.c (.str "no"),.c (.str "ands"),.c (.str "ors"),.c (.str "o"),.c (.str "iss")])),.ret (.ix (.v 2) (.own vr 2 #v[.v 0,.c (.int 14)]))] .nil,.ret (.own zn 2 #v[.v 0,.op .add (.c (.int 1)) (.own vr 2 #v[.v 0,.c (.int 8)])])]
abbrev b9:Ss:=
 #v[.set 2 (.c (.str "")),.ite (.cmp .eq (.own vr 2 #v[.v 0,.c (.int 3)]) (.c (.int 0))) #v[.set 2 (.own zn 2 #v[.v 0,.op .add (.c (.int 1)) (.own vr 2 #v[.v 0,.c (.int 6)])])] .nil,.set 3 (.lst #v[.c (.str "marks"),.c (.str "ways"),.c (.str "bar"),.c (.str "some"),.c (.str "each"),.c (.str "not"),.c (.str "and"),.c (.str "or"),.c (.str "is")]),.loop (.nm 4) (.rng #v[.v 1]) #v[.set 5 (.own "_law_name" 2 #v[.v 0,.v 2]),.set 6 (.c (.int 0)),.whl (.cmp .isin (.v 5) (.v 3)) #v[.set 5 (.op .mul (.ix (.c (.str "abcdefghijklmnopqrstuvwxyz")) (.op .mod (.v 6) (.c (.int 26)))) (.op .add (.c (.int 1)) (.op .fdiv (.v 6) (.c (.int 26))))),.set 6 (.op .add (.v 6) (.c (.int 1)))],.ex (.me .append (.v 3) #v[.v 5])],.ret (.bi .tuple #v[.sl (.v 3) (.yes (.c (.int 9))) .no])]
abbrev cJ:Ss:=
 #v[.ite (.cmp .lt (.v 3) (.v 2)) #v[.ret (.ix (.ix (.ix (.v 1) (.v 2)) (.c (.int 1))) (.v 3))] .nil,.ret (.ix (.ix (.ix (.v 0) (.c (.int 1))) (.ix (.ix (.ix (.v 1) (.v 3)) (.c (.int 1))) (.v 2))) (.c (.int 1)))]
abbrev ic:Ss:=
 #v[.set 3 (.lst .nil),.loop (.nm 4) (.rng #v[.bi .len #v[.v 2]]) #v[.set 5 (.ix (.v 2) (.v 4)),.ex (.me .append (.v 3) #v[.tup #v[.ix (.ix (.v 1) (.v 5)) (.c (.int 0)),.bi .tuple #v[.comp (.own "_law_between" 4 #v[.v 3,.v 4,.v 2,.v 1]) (.nm 1) (.seq (.sl (.v 2) .no (.yes (.v 4)))) .nil [ba,ba,aB 5,aB 0,aB 1]]]])],.ret (.bi .tuple #v[.v 3])]
abbrev jY:Ss:=
 #v[.ret (.lst #v[.tup #v[.c (.int 0),.c (.int 1),.c (.int 2)],.tup #v[.c (.int 0),.c (.int 2),.c (.int 1)],.tup #v[.c (.int 1),.c (.int 0),.c (.int 2)],.tup #v[.c (.int 1),.c (.int 2),.c (.int 0)],.tup #v[.c (.int 2),.c (.int 0),.c (.int 1)],.tup #v[.c (.int 2),.c (.int 1),.c (.int 0)]])]
abbrev dg:Ss:=
 #v[.ret (.bi .min #v[.comp (.own "_law_part" 3 #v[.v 2,.v 3,.v 1]) (.nm 1) (.seq (.own "_law_turns" 0 .nil)) .nil [ba,ba,aB 0,aB 1]])]
abbrev jZ:Ss:=
 #v[.set 2 (.ix (.lst #v[.lst #v[.tup #v[.c (.int 0)]],.lst #v[.tup #v[.c (.int 0),.c (.int 1)],.tup #v[.c (.int 1),.c (.int 0)]],.lst #v[.tup #v[.c (.int 0),.c (.int 1),.c (.int 2)],.tup #v[.c (.int 1),.c (.int 0),.c (.int 2)],.tup #v[.c (.int 0),.c (.int 2),.c (.int 1)]]]) (.op .sub (.v 1) (.c (.int 1)))),.ret (.ix (.v 2) (.own vr 2 #v[.v 0,.bi .len #v[.v 2]]))]
abbrev cK:Ss:=
 #v[.set 4 (.own "_law_names" 2 #v[.v 0,.op .add (.v 1) (.bi .len #v[.v 2])]),.set 5 (.bi .tuple #v[.comp (.tup #v[.ix (.v 4) (.op .add (.v 3) (.v 1)),.ix (.v 2) (.v 1)]) (.nm 1) (.rng #v[.bi .len #v[.v 2]]) .nil [ba,ba,aB 2,aB 1,aB 4]]),.ret (.tup #v[.sl (.v 4) .no (.yes (.v 1)),.v 5,.bi .tuple #v[.bi .sorted #v[.v 3]]])]
abbrev eB:Ss:=
 #v[.set 3 (.lst .nil),.loop (.nm 4) (.rng #v[.c (.int 3)]) #v[.ex (.me .append (.v 3) #v[.tup #v[.own vr 2 #v[.v 0,.v 1],.bi .tuple #v[.comp (.own vr 2 #v[.v 2,.v 3]) (.nm 1) (.rng #v[.v 4]) .nil [ba,ba,aB 0,aB 2]]]])],.ret (.bi .tuple #v[.v 3])]
abbrev j0:Ss:=
 #v[.set 1 (.lst #v[.tup #v[.c (.int 1),.c (.int 1)],.tup #v[.c (.int 2),.c (.int 1)],.tup #v[.c (.int 3),.c (.int 1)],.tup #v[.c (.int 1),.c (.int 2)],.tup #v[.c (.int 1),.c (.int 2)],.tup #v[.c (.int 2),.c (.int 2)],.tup #v[.c (.int 2),.c (.int 2)],.tup #v[.c (.int 3),.c (.int 2)],.tup #v[.c (.int 1),.c (.int 3)],.tup #v[.c (.int 1),.c (.int 3)],.tup #v[.c (.int 2),.c (.int 3)]]),.ret (.ix (.v 1) (.own vr 2 #v[.v 0,.c (.int 11)]))]
abbrev j3:Ss:=
 #v[.ite (.cmp .is (.v 1) (.c .non)) #v[.ret (.cmp .is (.v 0) (.c .non))] .nil,.ite (.or (.isi "bool" (.v 1)) (.isi "bool" (.v 0))) #v[.ret (.and (.isi "bool" (.v 1)) (.and (.isi "bool" (.v 0)) (.cmp .eq (.v 0) (.v 1))))] .nil,.ite (.isi "int" (.v 1)) #v[.ret (.and (.isi "int" (.v 0)) (.cmp .eq (.v 0) (.v 1)))] .nil,.ite (.isi "str" (.v 1)) #v[.ret (.and (.isi "str" (.v 0)) (.cmp .eq (.v 0) (.v 1)))] .nil,.ite (.or (.cmp .ne (.isi "tuple" (.v 1)) (.isi "tuple" (.v 0))) (.cmp .ne (.isi "list" (.v 1)) (.isi "list" (.v 0)))) #v[.ret (.c (.bl false))] .nil,.ret (.and (.cmp .eq (.bi .len #v[.v 0]) (.bi .len #v[.v 1])) (.bi .all #v[.comp (.own "_law_alike" 2 #v[.ix (.v 3) (.v 1),.ix (.v 2) (.v 1)]) (.nm 1) (.rng #v[.bi .len #v[.v 1]]) .nil [ba,ba,aB 1,aB 0]]))]
abbrev Is (defs:Nb (Nu×Df))(f:Nu)(a nn:Np)(b:Ss):Prop:=∃df:Df,defs.lookup f=aB df/\↥df.ps=a/\↥df.N=nn/\df.body=b
def aK {f:Nu}(h:Is defs f c nn b)(hl:↥ws=c)(ok:iO b=true)
  (k:∀a:QO,(∀w S',Q (w,S')->a (.rt w,S'))->wZ (ag defs fuel d) fuel b (ws.map aB++Ox (nn-c) ba) S a):wO (bh (ag defs fuel (d+1)) f c ws S) Q:=by
 obtain⟨df,e,h2,g,i⟩:=h;subst i;show G8 e hl (hl.trans h2.symm) ok λa j=>?_
 have:=k a j;unfold bw;rw[g,hl];show this
structure Gen (defs:Nb (Nu×Df)):Prop where
 pick:Is defs ("_law_pick": Nu) 2 4 cG
 letters:Is defs ("_law_letters": Nu) 2 2 gK
 name:Is defs ("_law_name": Nu) 2 3 lN
 names:Is defs ("_law_names": Nu) 2 7 b9
 between:Is defs ("_law_between": Nu) 4 4 cJ
 part:Is defs ("_law_part": Nu) 3 6 ic
 turns:Is defs ("_law_turns": Nu) 0 0 jY
 figure:Is defs ("_law_figure": Nu) 2 2 dg
 backs:Is defs ("_law_backs": Nu) 2 3 jZ
 rule_of:Is defs ("_law_rule_of": Nu) 4 6 cK
 free_three:Is defs ("_law_free_three": Nu) 3 5 eB
 sizes:Is defs ("_law_sizes": Nu) 1 2 j0
structure FlA (S:aa)(r q:Np)(ns:Nb NI)(i c x n:NI):Prop where
 at_r:S[r]?=aB (.lst [.ref q,.int i,.int c,.int x,.int n])
 at_q:S[q]?=aB (.lst (ns.map W.int))
 lt:q<r
 i0:0<=i
 c0:0<=c
 x0:0<=x
 x1:x<2147483647
def FlA.ne (h:FlA S r q ns i c x n):q≠r:=NJ h.lt
abbrev Fl (S:aa)(r:Np):Prop:=∃(q:Np) (ns:Nb NI) (i c x n:NI),FlA S r q ns i c x n
def FlA.put {      a e:NI}(h:FlA S r q ns i c x n)(f:0<=d)(h2:0<=b)(g:0<=a)(j:a<2147483647):FlA (S.set r (.lst [.ref q,.int d,.int b,.int a,.int e])) r q ns d b a e:=
 #[dA h.at_r,by rw[gJ (Ne.symm h.ne)];show h.at_q,h.lt,f,h2,g,j]
def Fl.keep (h:Fl S r)(a:S'[r]?=S[r]?)(k:Kp r S S'):Fl S' r:=
 let ⟨q,ns,i,c,x,n,f⟩:=h;#[q,ns,i,c,x,n,by rw[a];show f.at_r,k.get _ _ f.ne f.at_q,f.lt,f.i0,f.c0,f.x0,f.x1]
def Fl.lt (h:Fl S r):r<↥S:=let ⟨_,_,_,_,_,_,f⟩:=h;iN f.at_r
structure Ka (S S':aa):Prop where
 get:∀(j:Np) (o:O),S[j]?=aB o->S'[j]?=aB o
 len:↥S<=↥S'
def Ka.refl :Ka S S:=#[λ_ _ h=>h,Ny _]
def Ka.trans (a:Ka S S')(b:Ka S' c):Ka S c:=#[λj o h=>b.get j o (a.get j o h),NO a.len b.len]
def Ka.push :Ka S (S++[o]):=#[λj u h=>aD h,by simp]
def Ka.late (a:Ka b S)(h:↥b<=t):Ka b (S.set t o):=
 #[λj u e=>by have:=iN e;rw[gJ ∅];show a.get j u e,by simpa using a.len]
def Ka.kp (a:Ka S S')(r:Np):Kp r S S':=#[λj o _ h=>a.get j o h,a.len]
def Fl.ka (h:Fl S r)(k:Ka S S'):Fl S' r:=h.keep (by obtain⟨q,ns,i,c,x,n,f⟩:=h;rw[k.get _ _ f.at_r,f.at_r]) (k.kp r)
def Fl.own (h:Fl S r)(ht:r<t):Fl (S.set t o) r:=by
 obtain⟨q,ns,i,c,x,n,f⟩:=h;have:=f.lt;show#[q,ns,i,c,x,n,by rw[gJ ∅];show f.at_r,by rw[gJ ∅];show f.at_q,f.lt,f.i0,f.c0,f.x0,f.x1]
def cO {i:Np}(h:S[r]?=aB (.lst xs))(hw:xs[i]?=aB w)(q:Q (w,S)):wO (mR (.ref r) (.int i) S) Q:=ae (Ak h (NW i) (by show hw)) q
def j4 {Q:aa->Prop}(h:S[r]?=aB (.lst xs))(hi:Xr (i+1) ↥xs=true)(q:Q (S.set r (.lst (xs.set i w)))):wO (kn (.ref r) (.int i) w S) Q:=ae (J4 h (NW i) (by show No hi)) (by show q)
variable{defs:Nb (Nu×Df)}{d r:Np}
def aR (hd:Is defs ("_law_pick") 2 4 cG)(L:Fl S r)(A:0<m)(I:m<1073741824)(k:∀v S',0<=v->v<m->Fl S' r->Kp r S S'->Q (.int v,S')) :
  wO (bh (ag defs fuel (d+1)) vr 2 [.ref r,.int m] S) Q:=by
 obtain⟨q,ns,i,c,x,n,f⟩:=L;show aK hd rfl rfl λw J=>?_
 replace k:=λv S' a b c e=>J _ _ (k v S' a b c e)
 change wZ _ _ cG [aB (.ref r),aB (.int m),ba,ba] S w;have aO:∀S1 w2 i1 s p l,FlA S1 r q ns i1 s p l->Kp r S S1->wZ (ag defs fuel d) fuel (match cG with|.cons _ ss=>ss|.nil=>.nil) [aB (.ref r),aB (.int m),w2,ba] S1 w:=by
  intro S1 w2 i1 s p l g k1;delta cG;show st ?_;delta wS wT wE;show cO  g.at_r rfl ?_;dsimp only[];show aE (Q0:=w) (λB o h C=>?_) (λB o h C=>?_)
  ·clear h;show st ?_;left;show cO  g.at_r rfl (ae (m9 A) ?_);show st ?_;left;show cO  g.at_r rfl (ae (Aj A I) (j4  g.at_r rfl ?_));show st ?_;left;show C _ _ (k _ _ (RJ _ ∅) (Ra _ A) #[q,ns,i1,s/m,p,l,g.put g.i0 (Vx g.c0 ∅) g.x0 g.x1] (k1.trans .set))
  ·show cW (h _ _ ?_);clear h C;have D:FlA (S1.set r (.lst [.ref q,.int i1,.int s,.int p,.int (l+1)])) r q ns i1 s p (l+1):=g.put g.i0 g.c0 g.x0 g.x1;show st ?_;left;show cO  g.at_r rfl ?_;dsimp only[];show j4  g.at_r rfl ?_;show st ?_;left;show cO  D.at_r rfl (ae (vc #v[] #v[]) ?_)
   dsimp only[];show cO  D.at_r rfl ?_;dsimp only[];show(j4  D.at_r rfl ?_);have t:FlA ((S1.set r (.lst [.ref q,.int i1,.int s,.int p,.int (l+1)])).set r (.lst [.ref q,.int i1,.int s,.int ((p*48271+12820163+(l+1)) % 2147483647),.int (l+1)])) r q ns i1 s ((p*48271+12820163+(l+1)) % 2147483647) (l+1):=D.put g.i0 g.c0 (RJ _ #v[]) (Ra _ #v[])
   left;generalize(p*48271+12820163+(l+1)) % 2147483647=y at t ⊢;have b1:y/65521+7919<2^64:=by
    have:=t.x1;have:=Int.ediv_le_self 65521 t.x0;omega
   have b2 : -(2^64)<y/65521+7919:=by
    have:=Vx t.x0 (show 0<=65521 by decide)
    omega
   show st ?_;left;show cO  t.at_r rfl (ae (m9 #v[]) ?_)
   dsimp only[];show cO  t.at_r rfl ?_;delta wO;show ae (vc b2 b1) ?_;show ae (m9 A) ?_;show k _ _ (RJ _ ∅) (Ra _ A) #[q,ns,_,_,_,_,t] (k1.trans (Kp.set.trans .set))
 show st ?_;delta wS wT wE wV wG wA;show cO  f.at_r rfl ?_;delta hG wO;have skip:∀o:QO,(∀G S',wZ (ag defs fuel d) fuel _ G S' w->o (.nx G,S'))->o (.nx [aB (.ref r),aB (.int m),ba,ba],S):=λo h=>h _ _ (aO S ba i c x n f .refl)
 show#[λ_=>?_,λ_ o h C=>#[λz=>(by cases z),λ_=>(cW (skip o h)).out]]
 show cO  f.at_r rfl (cO  f.at_r rfl (ae (E4 f.at_q) ?_));dsimp only[];show aE (Q0:=w) (λhl o h _=>?_) (λB o h C=>cW (skip o h))
 clear skip;have E:i.toNat<↥ns:=by
  have:=N3 hl;rw[Ni]at this;have:=f.i0;omega
 have j:(ns.map W.int)[i.toNat]?=aB (.int ns[i.toNat]):=by simp[E]
 generalize ns[i.toNat]=cell at j;have g:FlA (S.set r (.lst [.ref q,.int (i+1),.int c,.int x,.int n])) r q ns (i+1) c x n:=f.put (by have:=f.i0;omega) f.c0 f.x0 f.x1
 show st ?_;left;show cO  f.at_r rfl (cO  f.at_r rfl (ae (Ak f.at_q f.i0 j) ?_));show st ?_;left;show cO  f.at_r rfl ?_;dsimp only[];show j4  f.at_r rfl ?_;show st ?_;delta wS wT wE G5;show aE (Q0:=w) (λB H u _=>?_) (λB H u _=>?_)
 ·show st ?_;left;show j4  g.at_r rfl (cW (u _ _ (cW (h _ _ ?_))));show aO _ _ (i+1) cell x n (g.put g.i0 (by have:=N3 B;omega) f.x0 f.x1) (Kp.set.trans .set)
 ·show st ?_;left;show cO  g.at_r rfl (ae (vc #v[] #v[]) (ae (m9 #v[]) ?_))
  dsimp only[];show j4  g.at_r rfl (cW (u _ _ (cW (h _ _ ?_))));show aO _ _ (i+1) c _ n (g.put g.i0 f.c0 (RJ _ #v[]) (Ra _ #v[])) (Kp.set.trans .set)
abbrev dr:Np->Ss->Ss
 |0,ss=>ss
 |n+1,.cons _ ss=>dr n ss
 |_,.nil=>.nil
def gk {a:α}{Q:α->Prop}:wO (aB a) Q=Q a:=rfl
def bz {Q:QO}(h:∀K:Fm->aa->Prop,(∀a S',wZ M fuel ss a S' Q->K a S')->wS M fuel s Z S K Q):wZ M fuel (.cons s ss) Z S Q:=st (h _ λ_ _ h=>h)
def iY {n:Np}(h:Xr n 1000=true):n<=sizeLine:=NO (No h) #v[]
def few (h:n<=1000):n<=sizeLine:=NO h #v[]
def ni (h:S[r]?=aB (.lst xs))(a:0<=i)(hw:xs[i.toNat]?=aB w)(q:Q (w,S)):wO (mR (.ref r) (.int i) S) Q:=ae (Ak h a hw) q
def aC (a:0<=i)(hw:xs[i.toNat]?=aB w)(q:Q (w,S)):wO (mR (.tup xs) (.int i) S) Q:=ae (J3 a hw) q
def vm (h:S[r]?=aB (.lst xs))(hl:↥xs<1000)(q:Q (.non,S.set r (.lst (xs++[y])))):wO (Me.append.fn (.ref r) [y] S) Q:=ae (E5 h (NS hl (iY rfl))) q
def j5 (h:S[r]?=aB (.lst xs))(q:Q (.int ↥xs,S)):wO (Bi.len.fn [.ref r] S) Q:=ae (E4 h) q
def aS (q:Q (.int ↥xs,S)):wO (Bi.len.fn [.tup xs] S) Q:=q
def dO (h:S[r]?=aB (.lst xs))(q:Q (.tup xs,S)):wO (Bi.tuple.fn [.ref r] S) Q:=ae (J5 h) q
def AA:∀k:Fin 26,("abcdefghijklmnopqrstuvwxyz": Nu).cps.toList[k.val]?=aB (97+k.val):=by decide
def vn:("abcdefghijklmnopqrstuvwxyz": Nu).length<=sizeLine:=by decide
def lO:∀a:Nb Np,jn (a.map λc=>W.str #[[c].toArray])=aB (a.map λc=>(#[[c].toArray]))
 |[]=>rfl
 |c::a=>by simp[jn,lO a]
def nj:∀a:Nb Np,((a.map λc=>(#[[c].toArray]:Nu)).map (·.length)).sum=↥a
 |[]=>rfl
 |c::a=>by
  have:=nj a;revert Ol List.sum_cons Og;rw[this];change 1+↥a=_;omega
def eU (a b:Nu):(a++b).cps.toList=a.cps.toList++b.cps.toList:=Array.toList_append
def lP:∀a:Nb Np,(Xm "" (a.map λc=>(#[[c].toArray]))).cps.toList=a
 |[]=>rfl
 |[c]=>rfl
 |c::d::a=>by
  have ih:=lP (d::a);show((#[[c].toArray]++("")++Xm "" _).cps).toList=_;rw[eU,eU,ih];rfl
def qT (a:Nb Np):(Xk "" (a.map λc=>(#[[c].toArray]))).cps.toList=a:=by
 show(W9 "" _).cps.toList=_;rw[StrLaws.glued_eq_join];show lP a
abbrev vo (y:Nu):Prop:=∀c∈y.cps.toList,97<=c/\c<=122
abbrev Name (y:Nu):Prop:=1<=↥y.cps.toList/\↥y.cps.toList<=8/\vo y
def iZ (y:Nu):↥y=↥y.cps.toList:=by simp[WV]
abbrev AB:Nb Nu:=["markss","mark","way","wayss","bars","ba","somex","eachx","note","no","ands","ors","o","iss"]
def xx:∀y∈AB,Name y:=by
 have h:AB.all (λy=>decide (1<=↥y.cps.toList/\↥y.cps.toList<=8)&&y.cps.toList.all λc=>decide (97<=c/\c<=122))=true:=by decide
 intro y d;have:=NB.mp h y d;rw[Nj]at this;obtain⟨a,b⟩:=this;show#[(N3 a).1,(N3 a).2,λc hc=>N3 (NB.mp b c hc)]
def sZ {α:Type}{f:α->W}{xs:Nb α}(h:i<↥xs):∃x∈xs,(xs.map f)[i]?=aB (f x):=#[xs[i],N7 _,by rw[Nw,Nt h];rfl]
def jG (G:Gen defs)(n:Fl S r)(s:0<=m)(t:m<=1000)(k:∀y S',↥y.cps.toList=m.toNat->vo y->Fl S' r->Kp r S S'->Q (.str y,S')) :
  wO (bh (ag defs fuel (d+2)) zn 2 [.ref r,.int m] S) Q:=by
 show aK G.letters rfl rfl λq j=>?_
 show st ?_;left;show#[rfl,kH m (λi f Z S'=>(∃a,Z=[ba,a,aB _])/\Fl S' r/\Kp r S S'/\∃b:Nb Np,f=b.map (λc=>W.str #[[c].toArray])/\↥b=i/\∀c∈b,97<=c/\c<=122) rfl rfl rfl #[∅,∅] #[rfl,#[ba,rfl],n,.refl,[],rfl,rfl,λ_ h=>nomatch h] ?_ ?_]
 ·rintro i f Z S1 hi ⟨⟨a,rfl⟩,e,k1,b,rfl,hl,hc⟩;delta jF wC wE wA wV wG Nv;show#[λ_=>aR  G.pick e #v[] #v[] λv S2 h2 u g k2=>?_,λz=>by cases z]
  have l:=AA #[v.toNat,∅]
  show ae (E3 vn h2 l) #[#[_,rfl],g,k1.trans k2,b++[97+v.toNat],by simp,by simp[hl],λc o=>?_]
  rcases Op.mp o with h|h
  ·show hc c h
  ·rw[NX.mp h];omega
 ·rintro f Z S1 ⟨_,e,k1,b,rfl,hl,hc⟩;show#[by rw[Ni,hl,OF];omega,?_]
  have p:((b.map λc=>(#[[c].toArray]:Nu)).map (·.length)).sum+(b.map λc=>(#[[c].toArray]:Nu)).length*("": Nu).length<=16777216:=by
   rw[nj,show("": Nu).length=0 from rfl,Nat.mul_zero]
   omega
  show ae (a:=(.str _,S1++[.lst (b.map λc=>W.str #[[c].toArray])])) ?_ (j _ _ (k _ _ (by rw[qT,hl]) (λc h=>hc c (by rw[qT]at h;show h)) (e.ka .push) (k1.trans .push)))
  simp only[Me.fn,uE,d8,aG ah,lO];rw[NK p]
def HA (G:Gen defs)(q:Fl S r)(A:↥y.cps.toList<=6)(u:vo y)(k:∀z S',Name z->Fl S' r->Kp r S S'->Q (.str z,S')) :
  wO (bh (ag defs fuel (d+3)) "_law_name" 2 [.ref r,.str y] S) Q:=by
 show aK G.name rfl rfl λp w=>?_
 replace k:=λz S' a b c=>w _ _ (k z S' a b c)
 nofun
 show aE (Q0:=p) (λ_ i _ l=>?_) (λ_ i j _=>?_)
 ·show st ?_;left;show aR  G.pick q #v[] #v[] λv S1 h o f k1=>?_
  show jG  G f ∅ ∅ λz S2 n m g k2=>?_
  have hl:(y++z).cps.toList.length=↥y.cps.toList+↥z.cps.toList:=by rw[eU,Nq]
  show ae (G6 (by rw[iZ,iZ,OF];omega)) (l _ _ (k _ _ #[∅,∅,λc hc=>?_] g (k1.trans k2)))
  rw[eU]at hc;show(Op.mp hc).elim (u c) (m c)
 ·show cW (j _ _ (hK _ _ ?_));nofun
  delta wS wT wE wA;show aR  G.pick q #v[] #v[] λv S1 h o f k1=>?_
  show aE (Q0:=p) (λ_ i _ l=>?_) (λ_ i j _=>?_)
  ·show st ?_;left;show st ?_;left;show ae (fP   (aD ah) ah (iY rfl)) ?_;show st ?_;left;show aR  G.pick (((f.ka .push).ka .push).ka .push) #v[] #v[] λv S2 h o g k2=>?_
   have e:=k2.get _ _ (by have:=f.lt;revert Nq;omega) ah
   obtain⟨z,n,s⟩:=sZ  (xs:=AB)  (by change v.toNat<14;omega)
   show ni e h s (l _ _ (k _ _ (xx z n) g (k1.trans (Kp.push.trans (Kp.push.trans (Kp.push.trans k2))))))
  ·show cW (j _ _ (hK _ _ ?_));show st ?_;left;show aR  G.pick f #v[] #v[] λv S2 h o g k2=>?_
   show jG  G g ∅ ∅ λz x n m t k3=>k _ _ #[∅,∅,m] t (k1.trans (k2.trans k3))
def ie {α:Type}[QG α]:∀(l m:Nb α),l.Nodup->(∀x∈l,x∈m)->↥l<=↥m
 |[],_,_,_=>OW _
 |x::l,m,a,b=>by
  rw[PM]at a;have c:=b x (.head _);have f:=ie l (m.erase x) a.2 λy d=>(List.mem_erase_of_ne (λe=>a.1 (by rw[<- e];show d))).mpr (b y (.tail _ d))
  rw[List.length_erase_of_mem c]at f;have:=List.length_pos_of_mem c;rw[Og];omega
abbrev oZ (k:Np):Nu:=#[[97+k].toArray]
def AC {a :Np}(h:oZ a=oZ b):a=b:=by
 injection h with h
 injection h with h
 injection h with h
 omega
def qU (s:Np):((N2 s).map oZ).Nodup:=by
 unfold List.Nodup;rw[Rk];show List.nodup_range.imp λh e=>h (AC e)
def xy (h:k<26):Name (oZ k):=#[Ny 1,(by decide:1<=8),λc hc=>by
 cases NX.mp hc;omega]
abbrev bY:Nb Nu:=["marks","ways","bar","some","each","not","and","or","is"]
def qV (b:Nb Nu):(b.map W.str).all cw=true:=by
 rw[NB];intro x a;obtain⟨z,_,rfl⟩:=NN.mp a;rfl
def vp (a:Nb Nu)(y:Nu):((a.map W.str).any λz=>CD z (.str y))=decide (y∈a):=by
 induction a with
 |nil=>rfl
 |cons z a ih=>
  rw[Ol,Pz,ih];show((z==y)||_)=_
  by_cases h:z=y
  ·subst h;simp
  ·have:(z==y)=false:=by simpa using h
   rw[this,Sq];have h2:(y∈z::a)=(y∈a):=by simp[Ne.symm h]
   revert h2
def xz {a:Nb Nu}(h:S[t]?=aB (.lst (a.map W.str))):ci .isin (.str y) (.ref t) S=aB (.bl (decide (y∈a)),S):=by
 (delta ci yX dH BE xX d8;simp only[oU h,aG h])
 rw[NK (by rw[qV];rfl),vp]
 rfl
def HB :gT .mul (.str #[[k].toArray]) (.int 1) S=aB (.str #[[k].toArray],S):=by
 delta gT Cq;rw[NK #[#v[],#v[],by change 1*1<=sizeLine;rw[OF];decide]]
 rfl
def dB :gW xs ba (aB k)=xs.take k:=by
 unfold gW;rw[HT.kR,HT.uj,VX,Wv]
 by_cases h:k<=↥xs
 ·rw[Vy h]
 ·rw[Vf ∅,Pj (Ny _),Pj ∅]
def eC :gW xs (aB k) ba=xs.drop k:=by
 unfold gW;rw[HT.kR,HT.uj]
 by_cases h:k<=↥xs
 ·rw[Vy h,Pj (by rw[P2];show Ny _)]
 ·rw[Vf ∅,SS (Ny _),SS ∅];show List.take_nil
def DU {a:Nb Nu}{K:Fm->aa->Prop}{Q:QO}(u:30<fuel)(C:Name y)(e:S[t]?=aB (.lst (a.map W.str)))(hl:↥a<=21)
  (k:∀y s,Name y->y∉a->K [aB (.ref r),aB m,aB z,aB (.ref t),aB w,aB (.str y),aB s] S) :
  wS M fuel (.whl (.cmp .isin (.v 5) (.v 3)) #v[.set 5 (.op .mul (.ix (.c (.str "abcdefghijklmnopqrstuvwxyz")) (.op .mod (.v 6) (.c (.int 26)))) (.op .add (.c (.int 1)) (.op .fdiv (.v 6) (.c (.int 26))))),.set 6 (.op .add (.v 6) (.c (.int 1)))])
   [aB (.ref r),aB m,aB z,aB (.ref t),aB w,aB (.str y),aB (.int 0)] S K Q:=by
 delta wS;show Fa (λj Z S'=>∃(s:Np) (y:Nu),Z=[aB (.ref r),aB m,aB z,aB (.ref t),aB w,aB (.str y),aB (.int s)]/\S'=S/\j+s=24/\s<=22/\Name y/\(0<s->y=oZ (s-1))/\∀k,k+1<s->oZ k∈a) 24 rfl rfl ∅ #[0,y,rfl,rfl,rfl,∅,C,λh=>absurd h ∅,λk h=>absurd h ∅] ?_
 rintro j Z S' ⟨s,H,rfl,rfl,E,G,g,c,d⟩;delta wT wE wV wG;show ae (xz e) #[λf=>?_,λb=>k _ _ g (P9 b)]
 have all:∀k,k<s->oZ k∈a:=λk hk=>by
  by_cases h:k+1<s
  ·show d k h
  ·have e:k=s-1:=∅
   rw[e,<- c ∅];show N3 f
 have l:s<=21:=by
  have q:=ie ((N2 s).map oZ) a (qU s) λx B=>by
   obtain⟨k,hk,rfl⟩:=NN.mp B;show all k (Oh.mp hk)
  rw[Ni,Oz]at q;omega
 show#[j-1,∅,λD A _=>?_]
 have p:((s:NI) % 26)=s:=Int.emod_eq_of_lt ∅ ∅
 have o:((s:NI)/26)=0:=Int.ediv_eq_zero_of_lt ∅ ∅
 show st ?_;delta wS wE wV wG Nv;show ae (m9 #v[]) ?_
 rw[p];show ae (E3 (i:=(s:NI)) vn (NW s) (AA #[s,∅])) ?_
 have n:gT .fdiv (.int s) (.int 26) S'=aB (.int 0,S'):=by rw[Aj ∅ ∅,o]
 dsimp only;rw[n];delta dM gk;rw[show(1:NI)+0=1 from rfl]
 show ae HB ?_;show st ?_;delta wS wE wV wG Nv dM gk;show cW (A _ _ #[s+1,oZ s,rfl,rfl,∅,∅,xy ∅,λ_=>rfl,λk hk=>all k ∅])
def vt (I:30<fuel)(G:Gen defs)(hf:Fl S r)(h1:m<=12)(k:∀ g S',↥g=m->(∀y∈g,Name y)->(bY++g).Nodup->Fl S' r->Kp r S S'->Q (.tup (g.map W.str),S')) :
  wO (bh (ag defs fuel (d+4)) "_law_names" 2 [.ref r,.int m] S) Q:=by
 show aK G.names rfl rfl λu T=>?_
 replace k:∀(g:Nb Nu) S',↥g=m->(∀y∈g,Name y)->(bY++g).Nodup->Fl S' r->Kp r S S'->u (.rt (.tup (g.map W.str)),S'):=λz S' a b c e f=>T _ _ (k z S' a b c e f)
 clear T;change wZ _ _ b9 [aB (.ref r),aB (.int m),ba,ba,ba,ba,ba] S u;have aO:∀(z:Nu) (S2:aa),↥z.cps.toList<=6->vo z->Fl S2 r->Kp r S S2->wZ (ag defs fuel (d+3)) fuel (dr 2 b9) [aB (.ref r),aB (.int m),aB (.str z),ba,ba,ba,ba] S2 u:=by
  intro z S2 N O A k2;delta dr b9;have J:=A.lt;have H:=k2.len;show st ?_;left;nofun
  show oY (m:NI) (λi Z S'=>∃B C D g,Z=[aB (.ref r),aB (.int m),aB (.str z),aB (.ref ↥S2),B,C,D]/\S'[↥S2]?=aB (.lst ((bY++g).map W.str))/\↥g=i/\(∀y∈g,Name y)/\(bY++g).Nodup/\Fl S' r/\Kp r S S') rfl rfl ∅ ?_ ?_ ?_
  ·delta wE wV wG;show#[rfl,ba,ba,ba,[],rfl,ah,rfl,λ_ h=>(nomatch h),#v[],A.ka .push,k2.trans .push]
  ·rintro i Z o hi ⟨B,C,D,g,rfl,E,j,l,n,p,k3⟩ P q _;clear hK;show st ?_;left;show HA (d:=d) G p N O λy S4 hy V U=>?_
   have w:=U.get _ _ ∅ E
   show st ?_;left;show st (DU I hy w (by rw[Nq,j];show 9+i<=21;omega) λy' s M t=>?_)
   show st ?_;left;show#[jE w,vm w (by rw[Ni,Nq,j];show 9+i<1000;omega) ?_]
   show cW (q _ _ #[_,_,_,g++[y'],rfl,?_,by rw[Nq,j];rfl,λx hx=>?_,?_,V.own J,(k3.trans U).late H])
   ·rw[dA w,<- O5,Oj (l₁:=bY++g)];rfl
   ·rcases Op.mp hx with h|h
    ·show l x h
    ·rw[NX.mp h];show M
   ·rw[<- O5,PH];show#[n,by simp,λa X b Y e=>?_]
    rw[NX.mp Y]at e;show t (e▸X)
  ·rintro Z o ⟨B,C,D,g,rfl,E,j,l,n,p,k3⟩;show hK _ _ (st ?_);delta wS wE wA wV wG wP wN;have L:fA (.ref ↥S2) (aB 9) ba o=aB (.ref ↥o,o++[.lst (g.map W.str)]):=by
    have:gW ((bY++g).map W.str) (aB ((9:Np):NI)) ba=g.map W.str:=by
     rw[eC,Oj];show Vz rfl
    simp only[fA,aG E];rw[show(aB 9:Nf NI)=aB ((9:Np):NI)from rfl,this]
   show ae L (dO ah (k _ _ ?_ l n (p.ka .push) (k3.trans .push)));rw[j];show NQ m
 delta b9;show st ?_;delta wS wE Nv;nofun
 delta wS wT wE wA wV wG;show aR (d:=d+2) G.pick hf #v[] #v[] λv S1 v0 v1 R k1=>?_
 delta hG wO wB;show aE (Q0:=u) (λ_ P q _=>?_) (λ_ P q _=>?_)
 ·show st ?_;left;show aR (d:=d+2) G.pick R #v[] #v[] λv S2 v0 v1 A k2=>?_
  delta dM wO;show jG (d:=d+1) G A ∅ ∅ λz o hz L p k3=>cW (q _ _ (hK _ _ (aO z o ∅ L p (k1.trans (k2.trans k3)))))
 ·show cW (q _ _ (hK _ _ (aO "" S1 #v[] (λc hc=>nomatch hc) R k1)))
noncomputable abbrev Pt:=NI×Nb NI
noncomputable abbrev Wd:=Nb Pt
abbrev bH (p:Pt):W:=.tup [.int p.1,.tup (p.2.map W.int)]
abbrev au (u:Wd):W:=.tup (u.map bH)
abbrev fu (p:Pt):T:=.tup [.int p.1,.tup (p.2.map T.int)]
abbrev ce (u:Wd):T:=.tup (u.map fu)
def vw:∀xs:Nb NI,T.ws (xs.map T.int)=xs.map W.int
 |[]=>rfl
 |x::xs=>by simp[T.ws,T.w,vw xs]
def Kn (p:Pt):(fu p).w=bH p:=by(delta fu bH T.w T.ws;simp[vw])
def tf:∀u:Wd,T.ws (u.map fu)=u.map bH
 |[]=>rfl
 |p::u=>by simp[T.ws,Kn,tf u]
def AD (u:Wd):(ce u).w=au u:=by(delta ce au T.w;simp[tf])
def AE (u:Wd):W.t (au u)=aB (ce u):=by rw[<- AD];show T.w_t _
def AG:∀us:Nb Wd,T.ws (us.map ce)=us.map au
 |[]=>rfl
 |u::us=>by simp[T.ws,AD,AG us]
def Fc (us:Nb Wd):W.ts (us.map au)=aB (us.map ce):=by rw[<- AG];show T.ws_ts _
def lQ:∀xs:Nb NI,T.depths (xs.map T.int)=0
 |[]=>rfl
 |x::xs=>by simp[T.depths,T.depth,lQ xs]
def AH (p:Pt):(fu p).depth=2:=by simp[fu,T.depth,T.depths,lQ]
def jH:∀u:Wd,T.depths (u.map fu)<=2
 |[]=>by simp[T.depths]
 |p::u=>by
  have:=jH u;revert Ol T.depths AH;omega
def ja (u:Wd):(ce u).depth<=3:=by
 have:=jH u;delta ce T.depth;omega
def jI:∀us:Nb Wd,T.depths (us.map ce)<=3
 |[]=>by simp[T.depths]
 |u::us=>by
  have:=jI us;have:=ja u;revert Ol T.depths;omega
def HC (u:Wd):mq (au u)=aB (ce u):=by
 unfold mq;rw[AE];show(if (ce u).isTup=true/\(ce u).depth<=aX then _ else _)=_
 rw[NK #[rfl,by have:=ja u;show NO ‹_› (No rfl)]]
mutual
def tj:T->T->ND
 |.int _,.int _=>true
 |.str _,.str _=>true
 |.tup xs,.tup a=>jb xs a
 |_,_=>false
def jb:Nb T->Nb T->ND
 |[],_=>true
 |_,[]=>true
 |x::xs,y::a=>tj x y&&jb xs a
end
mutual
theorem tq:∀x y:T,tj x y=true->(dU x y).isSome=true
 |.int _,.int _,_=>rfl
 |.str _,.str _,_=>rfl
 |.tup xs,.tup ys,h=>by
  dsimp only[tj]at h;delta dU;show vx xs ys h
 |.int _,.str _,h|.int _,.tup _,h|.str _,.int _,h|.str _,.tup _,h|.tup _,.int _,h|.tup _,.str _,h=>by cases h
theorem vx:∀xs ys:Nb T,jb xs ys=true->(bR xs ys).isSome=true
 |[],[],_=>rfl
 |[],_::_,_=>rfl
 |_::_,[],_=>rfl
 |x::xs,y::ys,h=>by
  dsimp only[jb]at h;simp only[Nj]at h
  delta bR;split
  ·show vx xs ys h.2
  ·show tq x y h.1
end
def qW:∀xs a:Nb NI,jb (xs.map T.int) (a.map T.int)=true
 |[],_=>rfl
 |_::_,[]=>rfl
 |x::xs,y::a=>by delta WJ jb tj;simp[qW xs a]
def AI (p q:Pt):tj (fu p) (fu q)=true:=by delta fu tj jb;simp[qW]
def vy:∀u v:Wd,jb (u.map fu) (v.map fu)=true
 |[],_=>rfl
 |_::_,[]=>rfl
 |p::u,q::v=>by delta WJ jb;simp[AI,vy u v]
def HD (u v:Wd):tj (ce u) (ce v)=true:=by show vy _ _
def eD (us:Nb Wd):fg (us.map ce)=true:=by
 unfold fg;rw[NB];intro x a;obtain⟨u,_,rfl⟩:=NN.mp a;rw[NB];intro y b;obtain⟨v,_,rfl⟩:=NN.mp b;show tq _ _ (HD u v)
def HE (us:Nb Wd)(h:∀u∈us,u≠[]):(CN (us.map ce)).isSome=true:=by
 unfold CN;split
 ·rfl
 ·split
  ·rfl
  ·split
   ·rfl
   ·split
    ·rfl
    ·split
     ·rfl
     ·rename_i a;exfalso;apply a;rw[NB];intro x c;obtain⟨u,b,rfl⟩:=NN.mp c;cases u with
      |nil=>show absurd rfl (h [] b)
      |cons p u=>rfl
abbrev cv (bs:Nb NI)(u:Wd)(i j:Np):NI:=if j<i then((u.getD i (0,[])).2).getD j 0 else bs.getD (((u.getD j (0,[])).2).getD i 0).toNat 0
abbrev aw (bs:Nb NI)(u:Wd)(ps:Nb Np):Wd:=(N2 ↥ps).map λk=>((u.getD (ps.getD k 0) (0,[])).1,(ps.take k).map λj=>cv bs u (ps.getD k 0) j)
abbrev aH:Nb (Nb Np):=[[0,1,2],[0,2,1],[1,0,2],[1,2,0],[2,0,1],[2,1,0]]
abbrev ig (bs:Nb NI)(u:Wd):Wd:=(aH.map (aw bs u)).getD (jq ((aH.map (aw bs u)).map ce)) []
abbrev ap (n:Nu)(b:NI):W:=.tup [.str n,.int b]
structure GoodW (a n:Np)(u:Wd):Prop where
 mark:∀(k:Np) (p:Pt),u[k]?=aB p->0<=p.1/\p.1<a
 len:∀(k:Np) (p:Pt),u[k]?=aB p->↥p.2=k
 way:∀(k:Np) (p:Pt),u[k]?=aB p->∀w∈p.2,0<=w/\w<n
abbrev GoodB (bs:Nb NI):Prop:=bs=[0]\/bs=[0,1]\/bs=[1,0]\/bs=[0,1,2]\/bs=[1,0,2]\/bs=[0,2,1]
def GoodB.rng (h:GoodB bs):∀k:Np,k<↥bs->∃b:NI,bs[k]?=aB b/\0<=b/\b<↥bs:=by
 rcases h with rfl|rfl|rfl|rfl|rfl|rfl<;>intro k hk
 ·match k,hk with
  |0,_=>show#[0,rfl,#v[],#v[]]
 ·match k,hk with
  |0,_=>show#[0,rfl,#v[],#v[]]
  |1,_=>show#[1,rfl,#v[],#v[]]
 ·match k,hk with
  |0,_=>show#[1,rfl,#v[],#v[]]
  |1,_=>show#[0,rfl,#v[],#v[]]
 ·match k,hk with
  |0,_=>show#[0,rfl,#v[],#v[]]
  |1,_=>show#[1,rfl,#v[],#v[]]
  |2,_=>show#[2,rfl,#v[],#v[]]
 ·match k,hk with
  |0,_=>show#[1,rfl,#v[],#v[]]
  |1,_=>show#[0,rfl,#v[],#v[]]
  |2,_=>show#[2,rfl,#v[],#v[]]
 ·match k,hk with
  |0,_=>show#[0,rfl,#v[],#v[]]
  |1,_=>show#[2,rfl,#v[],#v[]]
  |2,_=>show#[1,rfl,#v[],#v[]]
def getD_some {α:Type}{xs:Nb α}{x d:α}(h:xs[i]?=aB x):xs.getD i d=x:=by simp[h]
def aL {α:Type}{xs:Nb α}{d:α}(h:i<↥xs):xs[i]?=aB (xs.getD i d):=by simp[h]
def tu (a:ns[k]?=aB n)(h2:bs[k]?=aB b):(Nn ap ns bs)[k]?=aB (ap n b):=by
 rw[Rp,a,h2]
abbrev aJ (ps:Nb Np):Nb W:=ps.map λ(p:Np)=>W.int (p:NI)
def o4 {ps:Nb Np}{ p:Np}(h:ps[k]?=aB p):(aJ ps)[k]?=aB (.int p):=by(delta aJ;simp[h])
def bD (bs:Nb NI)(u:Wd)(ps:Nb Np):(aw bs u ps).length=↥ps:=by unfold aw;rw[Ni,Oz]
def nk {u:Wd}(hi:i<↥u):(u.map bH)[(i:NI).toNat]?=aB (bH (u.getD i (0,[]))):=by
 rw[NQ,Nw,aL hi];rfl
def AJ {a:Np}{Q:QO}(r:GoodB bs)(hl:↥ns=↥bs)(m:GoodW a ↥bs u)(hi:i<↥u)(o:j<↥u)(w:i≠j)(k:Q (.rt (.int (cv bs u i j)),S)) :
  wZ M fuel cJ [aB (.tup [m0,.tup (Nn ap ns bs),b0]),aB (au u),aB (.int i),aB (.int j)] S Q:=by
 have l:=aL (d:=(0,[])) hi;have f:=aL (d:=(0,[])) o;unfold cv at k;delta cJ;nofun
 delta wS wT wE wV wG DA wO wB au;show aE (Q0:=Q) (λh p _ x=>?_) (λh p g _=>?_)
 ·have c:j<i:=by have:=N3 h;omega
  rw[NK c]at k;have hw:j<(u.getD i (0,[])).2.length:=by rw[m.len i _ l];show c
  show st ?_;delta wS wE wV wG;show aC (NW i) (nk hi) (aC #v[] rfl (aC (NW j) ?_ (x _ _ k)))
  rw[NQ,Nw,aL (d:=0) hw];rfl
 ·have c:¬ j<i:=by have:=P9 h;omega
  rw[N1 c]at k;show cW (g _ _ (hK _ _ ?_));clear g hK;have hw:i<(u.getD j (0,[])).2.length:=by rw[m.len j _ f];omega
  have n:=aL (d:=0) hw;obtain⟨q,y⟩:=m.way j _ f _ (NT n);obtain⟨b,e,s,t⟩:=r.rng ((u.getD j (0,[])).2.getD i 0).toNat ∅
  have g:((u.getD j (0,[])).2.getD i 0).toNat<↥ns:=∅
  rw[getD_some e]at k;show st ?_;delta wS wE wV wG;show aC #v[] rfl (aC (NW j) (nk o) (aC #v[] rfl (aC (NW i) ?_ (aC q (tu (Nt g) e) (aC #v[] rfl k)))))
  rw[NQ,Nw,n];rfl
def xA (G:Gen defs){a:Np}(e:GoodB bs)(hl:↥ns=↥bs)(g:GoodW a ↥bs u)(hi:i<↥u)(f:j<↥u)(b:i≠j)(k:Q (.int (cv bs u i j),S)) :
  wO (bh (ag defs fuel (d+1)) "_law_between" 4 [.tup [m0,.tup (Nn ap ns bs),b0],au u,.int i,.int j] S) Q:=
 aK G.between rfl rfl λh c=>AJ e hl g hi f b (c _ _ k)
def AK (G:Gen defs){a:Np}{ps:Nb Np}(E:GoodB bs)(hl:↥ns=↥bs)(I:GoodW a ↥bs u)(f:∀p∈ps,p<↥u)(r:ps.Nodup)(hsz:↥ps<1000)(k:∀S',Ka S S'->Q (au (aw bs u ps),S')) :
  wO (bh (ag defs fuel (d+2)) "_law_part" 3 [.tup [m0,.tup (Nn ap ns bs),b0],au u,.tup (aJ ps)] S) Q:=by
 show aK G.part rfl rfl λB D=>?_
 replace k:=λS' a=>D _ _ (k S' a)
 change wZ _ _ ic [aB (.tup [m0,.tup (Nn ap ns bs),b0]),aB (au u),aB (.tup (aJ ps)),ba,ba,ba] S B;generalize o:W.tup [m0,.tup (Nn ap ns bs),b0]=R;show st ?_;left;nofun
 have J:(aJ ps).length=↥ps:=Ni ..;show oY ↥ps (λk Z S'=>∃m n,Z=[aB R,aB (au u),aB (.tup (aJ ps)),aB (.ref ↥S),m,n]/\S'[↥S]?=aB (.lst (((aw bs u ps).take k).map bH))/\Ka S S') rfl rfl ∅ ?_ ?_ ?_
 ·left;show aS ?_;rw[J];show#[rfl,ba,ba,rfl,ah,.push]
 ·rintro i Z S1 hi ⟨m,n,rfl,c,k1⟩ L H _;have b:i<↥ps:=by show Wn.mp ‹_›
  have A:=Nt b;have g:=f _ (N7 b);show st ?_;show aC (NW i) (by show o4 A) ?_
  show st ?_;left;show#[jE c,aC (NW _) (nk g) (aC #v[] rfl ?_)]
  show vh (aJ (ps.take i)) (λj t l S2=>(∃x,l=[ba,x,aB (.int ps[i]),aB R,aB (au u)])/\t=((ps.take i).take j).map (λq=>W.int (cv bs u ps[i] q))/\Ka S1 S2) rfl rfl rfl ?_ ?_ ?_
  ·delta wE wP wV wG wN;show ae (a:=(.tup (aJ (ps.take i)),S1)) ?_ #[rfl,#[ba,rfl],rfl,.refl];revert fA dB;unfold aJ;rw[Q1]
  ·rintro j w t l S2 hw ⟨⟨x,rfl⟩,rfl,k2⟩;have e:j<(ps.take i).length:=by
    have:=(NA.mp hw).1;unfold aJ at this
    rwa [Ni]at this
   have s:=Nt e;cases(o4 s).symm.trans hw;have M:j<i:=by rw[Os]at e;omega
   have eq:(ps.take i)[j]=ps[j]'(by show UF ‹_› ‹_›):=Sk
   generalize(ps.take i)[j]=q at s eq ⊢;show ae rfl ?_;delta wC;subst o;show#[λ_=>xA  G E hl I g (by rw[eq];show f _ (N7 _)) ?_ #[#[_,rfl],?_,k2],λz=>by cases z]
   ·rw[eq];intro h;have:=(Ql r).mp h;omega
   ·rw[O7,s];simp
  ·rintro t l S2 ⟨_,rfl,k2⟩;rw[show(aJ (ps.take i)).length=(ps.take i).length from Ni ..,P5]
   show#[few (by rw[Ni,Os];omega),dO ah ?_]
   have y:=aD (u:=O.lst ((ps.take i).map λq=>W.int (cv bs u ps[i] q))) (k2.get _ _ c)
   show vm y (by rw[Ni,Os];omega) (cW (H _ _ #[_,_,rfl,?_,((k1.trans k2).trans .push).late (Ny _)]))
   rw[dA y];have C:(aw bs u ps)[i]?=aB ((u.getD ps[i] (0,[])).1,(ps.take i).map λq=>cv bs u ps[i] q):=by
    unfold aw;rw[Nw,Qk b,OD,getD_some A]
   rw[O7,C];simp[bH,UP]
 ·rintro Z S1 ⟨m,n,rfl,c,k1⟩;rw[NQ,<- bD bs u ps,P5]at c;show hK _ _ (st ?_);left;show dO c (k _ k1)
def vz (G:Gen defs)(k:Q (.ref ↥S,S++[.lst (aH.map λt=>W.tup (aJ t))])):wO (bh (ag defs fuel (d+1)) "_law_turns" 0 [] S) Q:=by
 show aK G.turns rfl rfl λb a=>?_
 show st ?_;left;show a _ _ k
def dC (bt:Np->Np->ND):∀n:Np,argBest bt n<=n
 |0=>Ny _
 |n+1=>by have:=dC bt n;revert argBest;split<;>omega
def AM (G:Gen defs){a:Np}(o:GoodB bs)(hl:↥ns=↥bs)(r:GoodW a ↥bs u)(n:↥u=3)(k:∀S',Ka S S'->Q (au (ig bs u),S')) :
  wO (bh (ag defs fuel (d+3)) "_law_figure" 2 [.tup [m0,.tup (Nn ap ns bs),b0],au u] S) Q:=by
 show aK G.figure rfl rfl λl m=>?_
 replace k:∀S',Ka S S'->l (.rt (au (ig bs u)),S'):=λS' a=>m _ _ (k S' a)
 clear m;change wZ _ _ dg [aB (.tup [m0,.tup (Nn ap ns bs),b0]),aB (au u)] S l;generalize h:W.tup [m0,.tup (Nn ap ns bs),b0]=R;delta dg;show st ?_;delta wS wE wA;show DS ↥S (aH.map λt=>W.tup (aJ t)) (λi f c S2=>(∃g,c=[ba,g,aB R,aB (au u)])/\f=((aH.take i).map λt=>au (aw bs u t))/\Ka (S++[.lst (aH.map λt=>W.tup (aJ t))]) S2) rfl rfl rfl ?_ ?_ ?_ ?_
 ·delta wE wA;show vz (d:=d+1) G #[rfl,#[ba,rfl],rfl,.refl]
 ·rintro i f c S2 ⟨_,_,k2⟩;show k2.get _ _ ah
 ·rintro i w f c S2 hw ⟨⟨g,rfl⟩,rfl,k2⟩;rw[Nw,Nk]at hw;obtain⟨t,ht,rfl⟩:=hw;have b:(∀p∈t,p<3)/\t.Nodup/\↥t<1000:=by
   have:∀t∈aH,(∀p∈t,p<3)/\t.Nodup/\↥t<1000:=by decide
   show this t (NT ht)
  show ae (show rO (.nm 1) (.tup (aJ t)) [ba,g,aB R,aB (au u)] S2=aB ([ba,aB (.tup (aJ t)),aB R,aB (au u)],S2)from rfl) ?_
  delta jF wC wE wA wV wG;subst h;show#[λ_=>AK (d:=d) G o hl r (λp q=>by rw[n];show b.1 p q) b.2.1 b.2.2 λs k3=>#[#[_,rfl],?_,k2.trans k3],λz=>by cases z]
  rw[O7,ht];simp
 ·rintro f c S2 ⟨_,rfl,k2⟩;have e:((aH.take (aH.map λt=>W.tup (aJ t)).length).map λt=>au (aw bs u t))=(aH.map (aw bs u)).map au:=by
   rw[Ni,P5,O2];rfl
  rw[e];show#[iY rfl,ae (a:=(au (ig bs u),S2++[.lst ((aH.map (aw bs u)).map au)])) ?_ (k _ ((Ka.push.trans k2).trans .push))]
  (delta Bi.fn zj;simp only[aG ah,Fc])
  rw[NK #[by have:=jI (aH.map (aw bs u));unfold dc;omega,eD _]]
  unfold ig;have j:jq ((aH.map (aw bs u)).map ce)<(aH.map (aw bs u)).length:=Q9 (dC _ _) (by decide:5<6)
  rw[Nw,aL (d:=[]) j];rfl
abbrev fj (xs:Nb NI):Nb W:=xs.map W.int
abbrev fk (us:Nb Wd):Nb Wd:=dJ (om (us.map ce)) [] us
def qX {d:α}{f:α->β}:dJ lt d' (us.map f)=(dJ lt d us).map f:=by
 unfold dJ;rw[Ni];split
 ·rfl
 ·rw[O2];show O4 λi hi=>?_
  have hl:=oq ∅ i hi
  simp[hl]
def tz {us:Nb Wd}(h:eQ S x=aB (us.map au))(a:↥us<64)(b:∀u∈us,u≠[]):iF [x] S=aB (.ref ↥S,S++[.lst ((fk us).map au)]):=by
 have ok:oo (us.map ce)=true:=by
  unfold oo;revert Nj Pa NZ Ni;show#[#[a,by have:=jI us;unfold dc;show NO ‹_› (No rfl)],.inr #[HE us b,eD us]]
 revert iF h Fc;rw[NK ok,qX ];rfl
abbrev bE (a ns:Nb Nu)(bs:Nb NI)(us:Nb Wd):W:=.tup [.tup (a.map W.str),.tup (Nn ap ns bs),.tup (us.map au)]
structure GoodN (ms ns:Nb Nu):Prop where
 name:∀y∈ms++ns,Name y
 nd:(bY++(ms++ns)).Nodup
def GoodW.nil {a :Np}:GoodW a n []:=#[λk p h=>(by simp at h),λk p h=>(by simp at h),λk p h=>(by simp at h)]
def GoodW.snoc {a :Np}{m:NI}(h:GoodW a n u)(c:0<=m/\m<a)(h2:↥ws=↥u)(d:∀w∈ws,0<=w/\w<(n:NI)):GoodW a n (u++[(m,ws)]):=by
 have b:∀k p,(u++[(m,ws)])[k]?=aB p->u[k]?=aB p\/(k=↥u/\p=(m,ws)):=λk p e=>by
  rcases Ww k ↥u with hk|hk
  ·rw[Od hk]at e;show .inl e
  ·rw[QI hk]at e;have:=by
    have:=(NA.mp e).1;simp at this;show ‹_›
   rw[this]at e;cases e;show .inr #[∅,rfl]
 show#[λk p e=>?_,λk p e=>?_,λk p e=>?_]<;>rcases b k p e with e|⟨rfl,rfl⟩
 ·show h.mark k p e
 ·show c
 ·show h.len k p e
 ·show h2
 ·show h.way k p e
 ·show d
def GoodB.inv (h:GoodB bs):∀k:Np,k<↥bs->bs.getD (bs.getD k 0).toNat 0=k:=by
 rcases h with rfl|rfl|rfl|rfl|rfl|rfl<;>decide
def GoodB.at (h:GoodB bs){x:NI}(c:0<=x)(d:x<↥bs):bs[x.toNat]?=aB (bs.getD x.toNat 0)/\0<=bs.getD x.toNat 0/\bs.getD x.toNat 0<↥bs:=by
 obtain⟨b,h2,a⟩:=h.rng x.toNat ∅
 rw[getD_some h2];show#[h2,a]
def o5 {us:Nb Wd}(h:eQ S x=aB (us.map au))(a:↥us<64)(b:∀u∈us,u≠[])(q:Q (.ref ↥S,S++[.lst ((fk us).map au)])):wO (Bi.sorted.fn [x] S) Q:=by
 show ae ?_ q;show tz h a b
abbrev AN:Nb (Np×Np):=[(1,1),(2,1),(3,1),(1,2),(1,2),(2,2),(2,2),(3,2),(1,3),(1,3),(2,3)]
def AO:∀p∈AN,1<=p.1/\p.1<=3/\1<=p.2/\p.2<=3/\p.1*p.2<=6:=by decide
abbrev lR:Np->Nb (Nb NI)
 |1=>[[0]]
 |2=>[[0,1],[1,0]]
 |_=>[[0,1,2],[1,0,2],[0,2,1]]
def AQ:∀n:Np,1<=n->n<=3->(∀b∈lR n,GoodB b/\↥b=n)/\0<(lR n).length/\(lR n).length<=3
 |1,_,_=>#[λb h=>by cases NX.mp h;show#[.inl rfl,rfl],#v[],#v[]]
 |2,_,_=>#[λb h=>by
   rcases NE.mp h with rfl|h
   ·show#[.inr (.inl rfl),rfl]
   ·cases NX.mp h;show#[.inr (.inr (.inl rfl)),rfl],#v[],#v[]]
 |3,_,_=>#[λb h=>by
   rcases NE.mp h with rfl|h
   ·show#[.inr (.inr (.inr (.inl rfl))),rfl]
   ·rcases NE.mp h with rfl|h
    ·show#[.inr (.inr (.inr (.inr (.inl rfl)))),rfl]
    ·cases NX.mp h;show#[.inr (.inr (.inr (.inr (.inr rfl)))),rfl],#v[],#v[]]
 |0,h,_=>absurd h #v[]
 |n+4,_,h=>absurd h ∅
def DV (G:Gen defs)(b:Fl S r)(k:∀(a n:Np) S',1<=a->a<=3->1<=n->n<=3->a*n<=6->Fl S' r->Kp r S S'->Q (.tup [.int a,.int n],S')) :
  wO (bh (ag defs fuel (d+2)) "_law_sizes" 1 [.ref r] S) Q:=by
 show aK G.sizes rfl rfl λq j=>?_
 show st ?_;left;show st ?_;left;show aR  G.pick (b.ka .push) #v[] #v[] λv S1 o s i k1=>?_
 have e:=k1.get _ _ (On b.lt) ah;obtain⟨p,l,h⟩:=sZ (f:=λp=>W.tup [.int p.1,.int p.2]) (xs:=AN)  (by change v.toNat<11;omega)
 obtain⟨c,g,m,n3,an⟩:=AO p l;show ni e o h (j _ _ (k _ _ _ c g m n3 an i (Kp.push.trans k1)))
def DY (G:Gen defs)(j:Fl S r)(u:1<=n)(w:n<=3)(k:∀ bs S',GoodB bs->↥bs=n->Fl S' r->Kp r S S'->Q (.tup (fj bs),S')) :
  wO (bh (ag defs fuel (d+2)) "_law_backs" 2 [.ref r,.int n] S) Q:=by
 show aK G.backs rfl rfl λl x=>?_
 replace k:=λz S' a b c e=>x _ _ (k z S' a b c e)
 change wZ _ _ _ [aB _,aB _,ba] S l;nofun
 left;obtain⟨f,q,s⟩:=AQ n u w;have fin:∀t S1,↥S<=t->S1[t]?=aB (.lst ((lR n).map λb=>.tup (fj b)))->Ka S S1->K [aB (.ref r),aB (.int n),aB (.ref t)] S1:=by
  intro t S1 ht g ka;show hK _ _ (st ?_);left;show j5 g ?_;rw[Ni];show aR  G.pick (j.ka ka) ∅ ∅ λv S2 y A p k2=>?_
  have m:=k2.get _ _ (by have:=j.lt;omega) g
  obtain⟨b,h,o⟩:=sZ  (xs:=lR n) (i:=v.toNat) ∅
  show ni m y o (k b S2 (f b h).1 (f b h).2 p ((ka.kp r).trans k2))
 clear hK q s f;rcases(show n=1\/n=2\/n=3 by omega)with rfl|rfl|rfl
 ·show cO  ah rfl (fin _ _ (Ny _) (aD (aD (aD ah))) (Ka.push.trans (Ka.push.trans (Ka.push.trans .push))))
 ·show cO  ah rfl (fin _ _ (by simp) (aD (aD ah)) (Ka.push.trans (Ka.push.trans (Ka.push.trans .push))))
 ·show cO  ah rfl (fin _ _ (by revert Nq;omega) (aD ah) (Ka.push.trans (Ka.push.trans (Ka.push.trans .push))))
def xC (p:30<fuel)(G:Gen defs){a:Np}{us:Nb Wd}(H:Fl S r)(N:a<=3)(P:↥bs<=3)(J:∀S',Kp r S S'->eQ S' x=aB (us.map au))(o:↥us<64)(q:∀u∈us,u≠[])
  (k:∀ h ns S',↥h=a->↥ns=↥bs->GoodN h ns->Fl S' r->Kp r S S'->Q (bE h ns bs (fk us),S')) :
  wO (bh (ag defs fuel (d+5)) qd 4 [.ref r,.int a,.tup (fj bs),x] S) Q:=by
 show aK G.rule_of rfl rfl λv C=>?_
 replace k:∀(h ns:Nb Nu) S',↥h=a->↥ns=↥bs->GoodN h ns->Fl S' r->Kp r S S'->v (.rt (bE h ns bs (fk us)),S'):=λz y S' a b c e f=>C _ _ (k z y S' a b c e f)
 clear C;change wZ _ _ cK [aB (.ref r),aB (.int a),aB (.tup (fj bs)),aB x,ba,ba] S v;have j:(fj bs).length=↥bs:=Ni ..;delta cK;nofun
 left;show aS ?_;rw[j];delta dM gk;show vt (d:=d) (m:=a+↥bs) p G H ∅ λg S1 R L M E k1=>hK _ _ ?_
 clear hK K;have s:(Nn ap (g.drop a) bs).length=↥bs:=by
  rw[O3,P2];omega
 nofun
 delta wS wE wA Nv;show kH (↥bs:NI) (λk t n S2=>(∃A,n=[ba,A,aB (.tup (fj bs)),aB (.int a),aB (.tup (g.map W.str))])/\t=((Nn ap (g.drop a) bs).take k)/\S2=S1) rfl rfl rfl ∅ ?_ ?_ ?_
 ·delta wE wA wV wG;show aS ?_;rw[j];show#[rfl,#[ba,rfl],rfl,rfl]
 ·rintro i t n S2 hi ⟨⟨A,rfl⟩,rfl,rfl⟩;clear hK;have l:i<↥bs:=∅
  have B:a+i<↥g:=∅
  delta jF wC wE wA wV wG Nv dM gk;show#[λ_=>aC ∅ (w:=.str g[a+i]) ?_ (aC ∅ (w:=.int bs[i]) ?_ #[#[_,rfl],?_,rfl]),λz=>by cases z]
  ·rw[show((a:NI)+(i:NI)).toNat=a+i by omega,Nw,Nt B];rfl
  ·unfold fj;rw[NQ,Nw,Nt l];rfl
  ·have D:(Nn ap (g.drop a) bs)[i]?=aB (ap g[a+i] bs[i]):=tu (by rw[Uo];show Nt B) (Nt l)
   rw[O7,D];rfl
 ·rintro t n S2 ⟨_,rfl,rfl⟩;rw[NQ,<- s,P5];show#[few ∅,dO ah (hK _ _ ?_)]
  clear hK K;show st ?_;delta wS wE wA wP wV wG wN;have I:fA (.tup (g.map W.str)) ba (aB (a:NI)) (S2++[O.lst (Nn ap (g.drop a) bs)])=aB (.tup ((g.take a).map W.str),S2++[O.lst (Nn ap (g.drop a) bs)]):=by
   revert fA dB;rw[Q1]
  show ae I (o5 (J _ (k1.trans .push)) o q (dO ah ?_));show k (g.take a) (g.drop a) _ ?_ ?_ #[?_,?_] ((E.ka .push).ka .push) (k1.trans (Kp.push.trans .push))
  ·rw[Os];omega
  ·rw[P2];omega
  ·rw[QC];show L
  ·rw[QC];show M
def tD (b:30<fuel)(G:Gen defs){a:Np}(g:Fl S r)(e:a<=3)(f:↥bs<=3)
  (k:∀ c ns S',↥c=a->↥ns=↥bs->GoodN c ns->Fl S' r->Kp r S S'->Q (bE c ns bs [],S')) :
  wO (bh (ag defs fuel (d+5)) qd 4 [.ref r,.int a,.tup (fj bs),.tup []] S) Q:=
 xC b G g e f (us:=[]) (λ_ _=>rfl) #v[] (λ_ h=>nomatch h) k
def draws { e:E}{f:Nb (Nf Np)}{n i:Np}{R:Fm}(y:cq c=true)(A:cq e=true)(G:i<=1000)(hc:cC f Z=ba::ba::R)(t:Fl S r)(s:∀Q:QW,Q (.int i,S)->wE M e Z S Q)
  (u:∀ a S1 Q,Fl S1 r->(∀v S',0<=v->v<(n:NI)->Fl S' r->Kp r S1 S'->Q (.int v,S'))->wE M c (ba::a::R) S1 Q)
  (k:∀(vs:Nb NI) S',↥vs=i->(∀w∈vs,0<=w/\w<n)->Fl S' r->Kp r S S'->Q (.ref ↥S',S'++[.lst (fj vs)])) :
  Wp (aF M (.comp c (.nm 1) (.rng #v[e]) .nil f) Z S) Q:=by
 show kH (i:NI) (λj o g d=>(∃p,g=ba::p::R)/\(∃vs:Nb NI,o=fj vs/\↥vs=j/\∀w∈vs,0<=w/\w<(n:NI))/\Fl d r/\Kp r S d) A y rfl ∅ (s _ #[rfl,#[ba,hc],#[[],rfl,rfl,λ_ h=>nomatch h],t,.refl]) ?_ ?_
 ·rintro j o g d H ⟨⟨p,rfl⟩,⟨vs,rfl,b,m⟩,l,k3⟩;show#[λ_=>u _ _ _ l λv D B C q x=>#[#[_,rfl],#[vs++[v],(Oj (l₁:=vs) (l₂:=[v])).symm,by rw[Nq,b];rfl,λw hw=>?_],q,k3.trans x],λz=>by cases z]
  rcases Op.mp hw with h|h
  ·show m w h
  ·rw[NX.mp h];show#[B,C]
 ·rintro o g d ⟨_,⟨vs,rfl,b,m⟩,l,k3⟩;rw[NQ]at b;show#[few (by rw[show(fj vs).length=↥vs from Ni ..];omega),k vs d b m l k3]
def o6 (G:Gen defs){a :Np}(w:Fl S r)(N:0<a)(C:a<=3)(P:0<n)(D:n<=3)(k:∀ u S',↥u=3->GoodW a n u->Fl S' r->Kp r S S'->Q (au u,S')) :
  wO (bh (ag defs fuel (d+2)) "_law_free_three" 3 [.ref r,.int a,.int n] S) Q:=by
 show aK G.free_three rfl rfl λJ B=>?_
 replace k:=λz S' a b c e=>B _ _ (k z S' a b c e)
 have o:=w.lt;show st ?_;left;nofun
 show oY 3 (λk Z S'=>∃j u,Z=[aB _,aB _,aB _,aB _,j]/\S'[↥S]?=aB (.lst (u.map bH))/\↥u=k/\GoodW a n u/\Fl S' r/\Kp r S S') rfl rfl #v[] #[rfl,ba,[],rfl,ah,rfl,.nil,w.ka .push,.push] ?_ ?_
 ·rintro i Z S1 hi ⟨j,u,rfl,h,g,p,l,k1⟩ L m _;show st ?_;left;show#[jE h,aR  G.pick l ∅ ∅ λv S2 H I y k2=>?_]
  have x:=k2.get _ _ ∅ h
  show draws    rfl rfl ∅ rfl y (λQ q=>q) (λa S1 Q f q=>aR  G.pick f ∅ ∅ q) λvs M s E A k3=>?_
  have t:=aD (u:=O.lst (fj vs)) (k3.get _ _ ∅ x)
  show dO ah (vm t (by rw[Ni];omega) (cW (m _ _ #[_,u++[(v,vs)],rfl,?_,by rw[Nq,g];rfl,p.snoc #[H,I] (s.trans g.symm) E,(A.ka .push).own o,(k1.trans (k2.trans (k3.trans .push))).late (Ny _)])))
  rw[dA t,Oj];rfl
 ·rintro Z S1 ⟨j,u,rfl,h,g,p,l,k1⟩;show hK _ _ (st ?_);show dO h (k u _ g p l k1)
abbrev qY (n:Np):Nb NI:=(N2 n).map λ(k:Np)=>(k:NI)
abbrev qZ (a n:Np):Nb Wd:=(qY a).flatMap λm0=>(qY a).flatMap λb=>(qY a).flatMap λc=>(qY n).flatMap λd=>(qY n).flatMap λw2=>(qY n).map λw3=>[(m0,[]),(b,[d]),(c,[w2,w3])]
abbrev bx (a:Np)(bs:Nb NI):Nb Wd:=((qZ a ↥bs).map (ig bs)).eraseDups
def eE {n:Np}{x:NI}(a:0<=x)(b:x<n):x∈qY n:=NN.mpr #[x.toNat,Oh.mpr ∅,∅]
def xD {a :Np}(h:GoodW a n u)(i:↥u=3):u∈qZ a n:=by
 match u,i with
 |[(m0,l),(j,m),(k,w2)],_=>
  have e:=h.len 0 _ rfl;have f:=h.len 1 _ rfl;have g:=h.len 2 _ rfl;simp only at e f g
  match l,e with
  |[],_=>
   match m,f with
   |[x],_=>
    match w2,g with
    |[y,z],_=>
     have b:=h.mark 0 _ rfl;have c:=h.mark 1 _ rfl;have d:=h.mark 2 _ rfl;have b1:=h.way 1 _ rfl x (by simp)
     have b2:=h.way 2 _ rfl y (by simp)
     have b3:=h.way 2 _ rfl z (by simp)
     unfold qZ;revert Rv NN;show#[m0,eE b.1 b.2,j,eE c.1 c.2,k,eE d.1 d.2,x,eE b1.1 b1.2,y,eE b2.1 b2.2,z,eE b3.1 b3.2,rfl]
def DZ {a:Np}(h:GoodW a ↥bs u)(b:↥u=3):ig bs u∈bx a bs:=by
 unfold bx;rw[R9];show NN.mpr #[u,xD h b,rfl]
structure SizeOk (a:Np)(bs:Nb NI):Prop where
 pos:0<a
 good:GoodB bs
 most:a*↥bs<=6
 a3:a<=3
def SizeOk.n3 {a:Np}(h:SizeOk a bs):0<↥bs/\↥bs<=3:=by
 rcases h.good with rfl|rfl|rfl|rfl|rfl|rfl<;>decide
def L5:(bx 1 [0]).length<60/\(bx 2 [0]).length<60/\(bx 3 [0]).length<60:=by decide +kernel
def Ko:(bx 1 [0,1]).length<60/\(bx 2 [0,1]).length<60/\(bx 1 [1,0]).length<60/\(bx 2 [1,0]).length<60:=by decide +kernel
def L6:(bx 1 [0,1,2]).length<60/\(bx 1 [1,0,2]).length<60/\(bx 1 [0,2,1]).length<60:=by decide +kernel
def L7:(bx 3 [0,1]).length<60:=by decide +kernel
def L8:(bx 3 [1,0]).length<60:=by decide +kernel
def L9:(bx 2 [0,1,2]).length<60:=by decide +kernel
def Ma:(bx 2 [1,0,2]).length<60:=by decide +kernel
def Mb:(bx 2 [0,2,1]).length<60:=by decide +kernel
def o7 {a:Np}(h:SizeOk a bs):(bx a bs).length<60:=by
 obtain⟨e,d,b,f⟩:=h;have c:a=1\/a=2\/a=3:=∅
 rcases d with rfl|rfl|rfl|rfl|rfl|rfl<;>rcases c with rfl|rfl|rfl
 ·show L5.1
 ·show L5.2.1
 ·show L5.2.2
 ·show Ko.1
 ·show Ko.2.1
 ·show L7
 ·show Ko.2.2.1
 ·show Ko.2.2.2
 ·show L8
 ·show L6.1
 ·show L9
 ·simp at b
 ·show L6.2.1
 ·show Ma
 ·simp at b
 ·show L6.2.2
 ·show Mb
 ·simp at b
def AR (bs:Nb NI)(u:Wd):∃t∈aH,ig bs u=aw bs u t:=by
 have b:(aH.map (aw bs u)).length=6:=by rw[Ni];rfl
 have d:((aH.map (aw bs u)).map ce).length=6:=by rw[Ni,b]
 have a:jq ((aH.map (aw bs u)).map ce)<(aH.map (aw bs u)).length:=by
  unfold jq;have c:=dC (om ((aH.map (aw bs u)).map ce)) (((aH.map (aw bs u)).map ce).length-1);rw[b];omega
 unfold ig;rw[getD_some (Nt a)];obtain⟨t,ht,e⟩:=NN.mp (N7 a);show#[t,ht,e.symm]
def D0 (bs:Nb NI)(u:Wd):ig bs u≠[]:=by
 obtain⟨t,ht,e⟩:=AR bs u;rw[e];have:∀t∈aH,t≠[]:=by decide
 have h:=this t ht;intro z;have hl:(aw bs u t).length=↥t:=by(delta aw;simp)
 rw[z]at hl;show h (SE.mp hl.symm)
def q8:∀{xs a:Nb NI},xs.map T.int=a.map T.int->xs=a
 |[],[],_=>rfl
 |[],_::_,h=>by cases h
 |_::_,[],h=>by cases h
 |x::xs,y::a,h=>by
  injection h with h1 h2
  injection h1 with h1
  rw[h1,q8 h2]
def D1 {p :Pt}(h:fu p=fu q):p=q:=by
 injection h with h
 injection h with h1 h2
 injection h1 with h1
 injection h2 with h2 _
 injection h2 with h2
 show Xi h1 (q8 h2)
def jc (h:ce u=ce v):u=v:=by
 injection h with h
 have inj:∀{u v:Wd},u.map fu=v.map fu->u=v:=by
  intro u
  induction u with
  |nil=>intro v h;cases v with
   |nil=>rfl
   |cons _ _=>cases h
  |cons p u ih=>intro v h;cases v with
   |nil=>cases h
   |cons q v=>
    injection h with h1 h2
    rw[D1 h1,ih h2]
 show inj h
def nq {k:T}:(mo U k v).map (·.1)=if k∈U.map (·.1)then U.map (·.1)else U.map (·.1)++[k]:=by
 have a:(U.any λp=>decide (p.1=k))=decide (k∈U.map (·.1)):=by
  induction U with
  |nil=>rfl
  |cons p U ih=>
   rw[Pz,ih,Ol]
   by_cases e:p.1=k
   ·subst e;simp
   ·rw[N5 e,Sq];have:(k∈p.1::U.map (·.1))=(k∈U.map (·.1)):=by simp[Ne.symm e]
    revert this
 unfold mo;rw[a]
 by_cases h:k∈U.map (·.1)
 ·rw[NK h,NK (N4 h),O2];show O4 λp _=>?_
  show(if p.1=k then(p.1,v)else p).1=p.1
  split<;>rfl
 ·rw[N1 h,N1 (by simpa using h),Oj]
  rfl
structure FigD (L:Nb Wd)(U:Nb (T×W))(fs:Nb Wd):Prop where
 keys:U.map (·.1)=fs.map ce
 nd:fs.Nodup
 mem:∀f∈fs,f∈L
def FigD.nil :FigD L [] []:=#[rfl,Tr,λ_ h=>nomatch h]
def FigD.len (h:FigD L U fs):↥U=↥fs/\↥fs<=↥L:=by
 have:=congrArg Vl h.keys;rw[Ni,Ni]at this;show#[this,ie fs L h.nd h.mem]
def FigD.put {f:Wd}(h:FigD L U fs)(l:f∈L):∃c,FigD L (mo U (ce f) v) c:=by
 by_cases i:f∈fs
 ·show#[fs,?_,h.nd,h.mem];rw[nq,NK (by rw[h.keys];show NN.mpr #[f,i,rfl]),h.keys]
 ·show#[fs++[f],?_,?_,λg d=>?_]
  ·rw[nq,N1,h.keys,Oj]
   ·rfl
   ·rw[h.keys];intro z;obtain⟨g,d,e⟩:=NN.mp z;show i (jc e▸d)
  ·rw[PH];show#[h.nd,by simp,λa j b k e=>?_]
   rw[NX.mp k]at e;show i (e▸j)
  ·rcases Op.mp d with h'|h'
   ·show h.mem g h'
   ·rw[NX.mp h'];show l
def FigD.items (h:FigD L U fs)(e:S[t]?=aB (.dic U)):eQ S (.ref t)=aB (fs.map au):=by
 simp only[eQ,DD e,DC e,OD];congr 1;have:(U.map (·.1)).map T.w=(fs.map ce).map T.w:=by rw[h.keys]
 rw[O2,O2]at this
 calc U.map (λp=>p.1.w)=U.map _:=rfl
  _=fs.map _:=this
  _=fs.map au:=by
   show O4 λf _=>?_
   show AD f
def AS {a:Np}{f:Wd}(h:f∈bx a bs):f≠[]:=by
 unfold bx at h;rw[R9]at h;obtain⟨u,_,rfl⟩:=NN.mp h;show D0 bs u
def Kq (h:S[t]?=aB (.dic U))(hl:↥U<sizeLine):kn (.ref t) (au u) v S=aB (S.set t (.dic (mo U (ce u) v))):=by
 have hk:=HC u;unfold au at hk ⊢
 (delta kn yV;revert h hk)
 rw[NK hl]
structure RuleAt (a:Np)(bs:Nb NI)(ms ns:Nb Nu)(gs:Nb Wd):Prop where
 size:SizeOk a bs
 ml:↥ms=a
 nl:↥ns=↥bs
 nm:GoodN ms ns
 nd:gs.Nodup
 mem:∀g∈gs,g∈bx a bs
abbrev tF (w:W):Prop:=∃a bs c ns b,w=bE c ns bs (fk b)/\RuleAt a bs c ns b
section
variable{K:Fm->aa->Prop}{Q:QO}
def q9 {e:E}(m:cq e=true)(ok:iO b=true)(h:wE M e Z S λp=>∃(j:NI) (I:Np->Fm->aa->Prop),p.1=.int j/\(-(2^62)<=j/\j<2^62)/\I 0 Z p.2/\
  (∀(i:Np) Z S,i<j->I i Z S->IB M fuel b (Z.set d (aB (.int i))) S (I (i+1)) Q)/\∀Z S,I j.toNat Z S->K Z S):Wp (cj M fuel (.loop (.nm d) (.rng #v[e]) b) Z S) (xq K Q):=by
 obtain⟨w,S1,f,j,I,rfl,k,g,l,a⟩:=bC m h;have hl:(fK 0 j.toNat).length=j.toNat:=by simp[fK]
 show oX (mi:=.its (fK 0 j.toNat)) (S1:=S1) (xs:=fK 0 j.toNat) I ok ?_ (λ_ _ _ _=>rfl) rfl g (λi w Z S hw c=>?_) λZ S c=>a Z S (hl▸c)
 ·(delta ip bW b6 gA oH;revert f)
  rw[NK k]
 ·rw[fM]at hw;split at hw
  next hk=>cases hw;rw[SR];show l i Z S ∅ c
  ·cases hw
end
def Kr {a:Np}{d :Nb Nu}(l:S[q]?=aB (.dic U))(c:FigD (bx a bs) U fs)(i:SizeOk a bs)(e:↥d=a)(g:↥ns=↥bs)(h:GoodN d ns)(k:∀w S',tF w->Ka S S'->Q (w,S')) :
  wO (mR (bE d ns bs b) (.int 0) S) λp=>wO (mR (bE d ns bs b) (.int 1) p.2) λj=>wO (Bi.sorted.fn [.ref q] j.2) λs=>wO (Bi.tuple.fn [s.1] s.2) λz=>Q (.tup [p.1,j.1,z.1],z.2):=by
 show aC #v[] rfl (aC #v[] rfl ?_)
 have hl:=c.len;show o5 (c.items l) (by have:=o7 i;omega) (λf m=>AS (c.mem f m)) (dO ah (k _ _ #[a,bs,d,ns,fs,rfl,i,e,g,h,c.nd,c.mem] .push))
def Ks {a:Np}{Q:aa->Prop}(d:S[q]?=aB (.dic U))(e:FigD (bx a bs) U fs)(g:SizeOk a bs)(h:GoodW a ↥bs u)(c:↥u=3)
  (k:∀o,(∃U fs,(S.set q o)[q]?=aB (.dic U)/\FigD (bx a bs) U fs)->Q (S.set q o)):wO (kn (.ref q) (au (ig bs u)) (.bl true) S) Q:=by
 have hl:=e.len;have:=o7 g;obtain⟨b,f⟩:=e.put (v:=.bl true) (DZ h c);show ae (Kq d (by rw[OF];omega)) (k _ #[_,b,dA d,f])
abbrev vA:Ss:=
 #v[.ite (.cmp .gt (.v 2) (.v 3)) #v[.ret (.ix (.ix (.ix (.v 1) (.v 2)) (.c (.int 1))) (.v 3))] .nil,.ret (.ix (.ix (.ix (.v 0) (.c (.int 1))) (.ix (.ix (.ix (.v 1) (.v 3)) (.c (.int 1))) (.v 2))) (.c (.int 1)))]
abbrev dh:Ss:=
 #v[.ret (.tup #v[.ix (.ix (.v 1) (.v 3)) (.c (.int 0)),.bi .tuple #v[.comp (.own "way" 4 #v[.v 3,.v 4,.v 2,.v 1]) (.nm 1) (.seq (.v 2)) .nil [ba,ba,aB 3,aB 0,aB 1]]])]
def AT {a:Np}{Q:QO}(r:GoodB bs)(hl:↥ns=↥bs)(m:GoodW a ↥bs u)(hi:i<↥u)(o:j<↥u)(w:i≠j)(k:Q (.rt (.int (cv bs u i j)),S)) :
  wZ M fuel vA [aB (.tup [m0,.tup (Nn ap ns bs),b0]),aB (au u),aB (.int i),aB (.int j)] S Q:=by
 have l:=aL (d:=(0,[])) hi;have f:=aL (d:=(0,[])) o;unfold cv at k;delta vA;nofun
 delta wS wT wE wV wG J2 wO wB au;show aE (Q0:=Q) (λh p _ x=>?_) (λh p g _=>?_)
 ·have c:j<i:=by have:=N3 h;omega
  rw[NK c]at k;have hw:j<(u.getD i (0,[])).2.length:=by rw[m.len i _ l];show c
  show st ?_;delta wS wE wV wG;show aC (NW i) (nk hi) (aC #v[] rfl (aC (NW j) ?_ (x _ _ k)))
  rw[NQ,Nw,aL (d:=0) hw];rfl
 ·have c:¬ j<i:=by have:=P9 h;omega
  rw[N1 c]at k;show cW (g _ _ (hK _ _ ?_));clear g hK;have hw:i<(u.getD j (0,[])).2.length:=by rw[m.len j _ f];omega
  have n:=aL (d:=0) hw;obtain⟨q,y⟩:=m.way j _ f _ (NT n);obtain⟨b,e,s,t⟩:=r.rng ((u.getD j (0,[])).2.getD i 0).toNat ∅
  have g:((u.getD j (0,[])).2.getD i 0).toNat<↥ns:=∅
  rw[getD_some e]at k;show st ?_;delta wS wE wV wG;show aC #v[] rfl (aC (NW j) (nk o) (aC #v[] rfl (aC (NW i) ?_ (aC q (tu (Nt g) e) (aC #v[] rfl k)))))
  rw[NQ,Nw,n];rfl
structure Parts (defs:Nb (Nu×Df)):Prop where
 way:Is defs ("way": Nu) 4 4 vA
 over:Is defs ("point_over": Nu) 4 4 dh
def Kt (P:Parts defs){a:Np}(e:GoodB bs)(hl:↥ns=↥bs)(g:GoodW a ↥bs u)(hi:i<↥u)(f:j<↥u)(b:i≠j)(k:Q (.int (cv bs u i j),S)) :
  wO (bh (ag defs fuel (d+1)) "way" 4 [.tup [m0,.tup (Nn ap ns bs),b0],au u,.int i,.int j] S) Q:=
 aK P.way rfl rfl λh c=>AT e hl g hi f b (c _ _ k)
def HF (P:Parts defs){a:Np}{ps:Nb Np}(s:GoodB bs)(hl:↥ns=↥bs)(t:GoodW a ↥bs u)(f:∀p∈ps,p<↥u/\i≠p)(hi:i<↥u)(hsz:↥ps<=1000)(k:∀S',Ka S S'->Q (bH ((u.getD i (0,[])).1,ps.map λq=>cv bs u i q),S')) :
  wO (bh (ag defs fuel (d+2)) "point_over" 4 [.tup [m0,.tup (Nn ap ns bs),b0],au u,.tup (aJ ps),.int i] S) Q:=by
 show aK P.over rfl rfl λm n=>?_
 replace k:∀S',Ka S S'->m (.rt (bH ((u.getD i (0,[])).1,ps.map λq=>cv bs u i q)),S'):=λS' a=>n _ _ (k S' a)
 clear n;change wZ _ _ dh [aB (.tup [m0,.tup (Nn ap ns bs),b0]),aB (au u),aB (.tup (aJ ps)),aB (.int i)] S m;generalize e:W.tup [m0,.tup (Nn ap ns bs),b0]=R;delta dh;show st ?_;left;show aC (NW i) (nk hi) (aC #v[] rfl ?_)
 show vh (aJ ps) (λj l b S2=>(∃c,b=[ba,c,aB (.int i),aB R,aB (au u)])/\l=(ps.take j).map (λq=>W.int (cv bs u i q))/\Ka S S2) rfl rfl rfl #[rfl,#[ba,rfl],rfl,.refl] ?_ ?_
 ·rintro j w l b S2 hw ⟨⟨c,rfl⟩,rfl,k2⟩;unfold aJ at hw;rw[Nw,Nk]at hw;obtain⟨q,r,rfl⟩:=hw;obtain⟨h,g⟩:=f q (NT r);show ae (show rO (.nm 1) (.int (q:NI)) [ba,c,aB (.int i),aB R,aB (au u)] S2=aB ([ba,aB (.int (q:NI)),aB (.int i),aB R,aB (au u)],S2)from rfl) ?_
  delta jF wC wE wA wV wG;subst e;show#[λ_=>Kt (d:=d) P s hl t hi h g #[#[_,rfl],?_,k2],λz=>by cases z]
  rw[O7,r];simp
 ·rintro l b S2 ⟨_,rfl,k2⟩;rw[show(aJ ps).length=↥ps from Ni ..,P5]
  show#[few (by rw[Ni];show hsz),dO ah ?_]
  have:=k _ (k2.trans (Ka.push (o:=O.lst (ps.map λq=>W.int (cv bs u i q)))))
  unfold bH at this;rw[O2]at this;show this
def Ku {a :E}(e:∀Q:QW,Q (.int x,S)->wE M a Z S Q)(f:∀Q:QW,Q (.int y,S)->wE M b Z S Q)(d : -(2^64)<y)(h2:y<2^64)(q:Q (.int (x*y),S)):wE M (.op .mul a b) Z S Q:=by
 have c:gT .mul (.int x) (.int y) S=aB (.int (x*y),S):=vc d h2;delta wE;show e _ ?_;show f _ ?_;dsimp only;rw[c];show q
abbrev rc (bs:Nb NI)(v:Wd)(ps:Nb Np)(i:Np):Pt:=((v.getD i (0,[])).1,ps.map λq=>cv bs v i q)
abbrev aM (n:Np)(os:Nb (Nb Np)):Nb (Nb Np):=os.flatMap λo=>((N2 n).filter λp=>decide (p∉o)).map λp=>o++[p]
def jJ (bs:Nb NI)(v:Wd)(o:Nb Np)(p:Np):aw bs v (o++[p])=aw bs v o++[rc bs v o p]:=by
 unfold aw rc;rw[Nq,Rn,VA,Oj];congr 1
 ·show O4 λk hk=>?_
  have hk:=Oh.mp hk;rw[show(o++[p]).getD k 0=o.getD k 0 by simp[Od hk],Qs (by show Px ‹_›)]
 ·simp
def jd :∀os:Nb (Nb Np),(aM n os).length<=↥os*n
 |[]=>by simp[aM]
 |o::os=>by
  have ih:=jd (n:=n) os;unfold aM at ih ⊢;rw[List.flatMap_cons,Nq,Ni,Og,Wo];have:=Pr (λp=>decide (p∉o)) (N2 n)
  rw[Oz]at this;omega
def xE {os:Nb (Nb Np)}:(aM n (os.take i)).length<=↥os*n:=by
 show NO (jd _) (Tt _ ?_);rw[Os];omega
def gp {f:W->W->Nf ND}{a :ND}(h:f x y=aB a)(h2:gU f xs c=aB b):gU f (x::xs) (y::c)=aB (a&&b):=by
 show(match f x y,gU f xs c with
  |some a,aB b=>aB (a&&b)
  |_,_=>ba)=_
 rw[h,h2]
def nr :∀xs a:Nb NI,gU (jP S d) (xs.map W.int) (a.map W.int)=aB (decide (xs=a))
 |[],[]=>rfl
 |[],_::_=>rfl
 |_::_,[]=>rfl
 |x::xs,y::a=>by
  have e:jP S d (.int x) (.int y)=aB (x==y):=by cases d<;>rfl
  rw[Ol,Ol,gp e (nr xs a)]
  by_cases h:x=y
  ·subst h;by_cases h2:xs=a<;>simp[h2]
  ·have h':(x==y)=false:=by simpa using h
   simp[h,h']
def AU (p q:Pt):jP S (d+2) (bH p) (bH q)=aB (decide (p=q)):=by
 obtain⟨m,ws⟩:=p;obtain⟨b,a⟩:=q;change gU _ _ _=_;have e:jP S (d+1) (.int m) (.int b)=aB _:=rfl;have c:jP S (d+1) (.tup _) (.tup _)=aB _:=nr ws a;rw[gp e (gp c rfl)]
 by_cases h:m=b
 ·subst h;by_cases h2:ws=a<;>simp[h2]
 ·have h':(m==b)=false:=by simpa using h
  simp[h,h']
def re :∀u v:Wd,gU (jP S (d+2)) (u.map bH) (v.map bH)=aB (decide (u=v))
 |[],[]=>rfl
 |[],_::_=>rfl
 |_::_,[]=>rfl
 |x::xs,y::a=>by
  rw[Ol,Ol,gp (AU x y) (re xs a)]
  by_cases h:x=y
  ·by_cases h2:xs=a<;>simp[h2]
  ·simp[h]
def Kv {p :Pt}:ci .eq (bH p) (bH q) S=aB (.bl (decide (p=q)),S):=by
 show(jP S (18+2) (bH p) (bH q)).map _=_;rw[AU];rfl
def AV :ci .eq (au u) (au v) S=aB (.bl (decide (u=v)),S):=by
 show(gU _ _ _).map _=_;rw[re];rfl
def rh {p:Np}:∀ps:Nb Np,((aJ ps).any λz=>CD z (.int p))=decide (p∈ps)
 |[]=>rfl
 |q::ps=>by
  show(q==(p:NI)||(aJ ps).any _)=_
  rw[rh ps]
  by_cases h:q=p
  ·subst h;simp
  ·have a:(q==(p:NI))=false:=by simp;omega
   have h2:¬ p=q:=λe=>h e.symm
   rw[a];simp[h2]
def xH (ps:Nb Np):(aJ ps).all cw=true:=by
 rw[NB];intro x a;obtain⟨p,_,rfl⟩:=NN.mp a;rfl
def AW {p:Np}{ps:Nb Np}:ci .notin (.int p) (.tup (aJ ps)) S=aB (.bl (decide (p∉ps)),S):=by
 change dH _ _ _ S=_;have a:(cw (.int p)&&(aJ ps).all cw)=true:=by rw[xH];rfl
 show(Dz (G7 rfl a (rh ps))).trans ?_;congr 3
 by_cases h:p∈ps<;>simp[h]
def rj :gW xs ba (aB (-1))=xs.dropLast:=by
 unfold gW;rw[HT.kR,VX,Wv,List.dropLast_eq_take];congr 1;show(if (-1:NI)<0 then((-1:NI)+(↥xs:NI)).toNat else min (-1:NI).toNat ↥xs)=_
 rw[NK #v[]];omega
def xI (ps:Nb Np):(aJ ps).dropLast=aJ ps.dropLast:=by unfold aJ;rw[List.map_dropLast]
def D2 {ps:Nb Np}(h:ps≠[]):mR (.tup (aJ ps)) (.int (-1)) S=aB (.int (ps.getLastD 0),S):=by
 have hl:(aJ ps).length=↥ps:=Ni ..;have c:0<↥ps:=TR.mpr h;have b:rN (aJ ps).length (-1)=aB (↥ps-1):=by
  rw[hl];unfold rN;rw[N1 #v[]]
  show(NK ∅).trans (by congr 1;omega)
 have a:(aJ ps)[↥ps-1]?=aB (.int (ps.getLastD 0:Np)):=by
  show o4 ?_;rw[List.getLastD_eq_getLast?,List.getLast?_eq_getElem?];have:↥ps-1<↥ps:=∅
  simp[this]
 (delta mR wo mG;revert b a Pe OD)
abbrev aN:Ss:=
 #v[.set 2 (.lst .nil),.loop (.nm 3) (.seq (.v 0)) #v[.ex (.me .extend (.v 2) #v[.comp (.op .add (.v 2) (.tup #v[.v 1])) (.nm 1) (.rng #v[.v 1]) #v[.cmp .notin (.v 1) (.v 2)] [ba,ba,aB 3]])],.ret (.v 2)]
abbrev cY (os:Nb (Nb Np)):Nb W:=os.map λo=>.tup (aJ o)
def HG { a:Nb W}(h:S[t]?=aB (.lst xs))(h2:S[l]?=aB (.lst a))(hl:↥xs+↥a<=1000000)(q:Q (.non,S.set t (.lst (xs++a)))):wO (Me.extend.fn (.ref t) [.ref l] S) Q:=by
 show ae ?_ q;unfold Me.fn ky;dsimp only
 rw[dN h,dN h2];dsimp only
 rw[NK (by rw[OF];show NO ‹_› (No rfl))]
def dj (h:n<=1000000):n<=sizeLine:=by rw[OF];show NO ‹_› (No rfl)
def AX (E:Is defs ("longer_orders") 2 4 aN){os:Nb (Nb Np)}(e:S[l]?=aB (.lst (cY os)))(B:n<=100)(r:∀o∈os,↥o<=100)(J:↥os*n<=100000)
  (k:∀ q S',S'[q]?=aB (.lst (cY (aM n os)))->↥S<=q->Ka S S'->Q (.ref q,S')) :
  wO (bh (ag defs fuel (d+1)) "longer_orders" 2 [.ref l,.int n] S) Q:=by
 show aK E rfl rfl λL D=>?_
 replace k:=λa b c e f=>D _ _ (k a b c e f)
 have G:=iN e;show st ?_;left;nofun
 show DR l (cY os) (λi Z S'=>(∃t,Z=[aB (.ref l),aB (.int n),aB (.ref ↥S),t])/\S'[l]?=aB (.lst (cY os))/\S'[↥S]?=aB (.lst (cY (aM n (os.take i))))/\Ka S S') rfl rfl #[rfl,#[ba,rfl],aD e,ah,.push] (λi Z S' h=>h.2.1) ?_ ?_
 ·rintro i w Z S1 hw ⟨⟨t,rfl⟩,y,g,k1⟩;unfold cY at hw;rw[Nw,Nk]at hw;obtain⟨o,C,rfl⟩:=hw;have r:=r o (NT C);show ae rfl ?_;intro M B _;show st ?_;left;show#[jE g,?_];show kH n (λj v s S2=>(∃x,s=[ba,x,aB (.tup (aJ o))])/\v=cY (((N2 j).filter λp=>decide (p∉o)).map λp=>o++[p])/\S2=S1) rfl rfl rfl ∅ #[rfl,#[ba,rfl],rfl,rfl] ?_ ?_
  ·rintro j v s S2 N ⟨⟨x,rfl⟩,rfl,rfl⟩;delta jF wE wA wV wG Nv;show ae AW ?_;delta wB;have z:(N2 (j+1)).filter (λp=>decide (p∉o))=(N2 j).filter (λp=>decide (p∉o))++(if j∉o then[j]else[]):=by
    rw[VA,Sc];congr 1
    by_cases h:j∈o<;>simp[h]
   show#[λh=>?_,λh=>#[#[_,rfl],?_,rfl]]
   ·have h:=N3 h;show ae (bX (dj (by rw[Nq,show(aJ o).length=↥o from Ni ..];show _+1<=_;omega))) #[#[_,rfl],?_,rfl]
    rw[z,NK h,Oj];unfold cY;simp[aJ]
   ·have h:=P9 h;rw[z,N1 h,ON]
  ·rintro v s S2 ⟨_,rfl,rfl⟩;rw[NQ];have A:(cY (((N2 n).filter λp=>decide (p∉o)).map λp=>o++[p])).length<=n:=by
    unfold cY;rw[Ni,Ni];show NO (Pr _ _) (by rw[Oz];show Ny _)
   have m:=aD (u:=O.lst (cY (((N2 n).filter λp=>decide (p∉o)).map λp=>o++[p]))) g
   have H:=xE (n:=n) (os:=os) (i:=i);have I:(cY (aM n (os.take i))).length=(aM n (os.take i)).length:=Ni ..;show#[dj ∅,HG m ah ∅ (cW (B _ _ #[#[_,rfl],?_,?_,(k1.trans .push).late (Ny _)]))]
   ·rw[gJ (by show On ‹_›)];show aD y
   ·rw[dA m];unfold aM cY;rw[O7,C];simp
 ·rintro Z S1 ⟨⟨t,rfl⟩,y,g,k1⟩;rw[show(cY os).length=↥os from Ni ..,P5]at g
  show hK _ _ (st (k _ _ g (Ny _) k1))
def HH (h:S[t]?=aB (.lst xs))(hl:↥xs<1000000)(q:Q (.non,S.set t (.lst (xs++[y])))):wO (Me.append.fn (.ref t) [y] S) Q:=ae (E5 h (by rw[OF];omega)) q
def rm:∀xs:Nb NI,dL (xs.map T.int)=true
 |[]=>rfl
 |_::xs=>rm xs
def kI:∀u:Wd,dL (u.map fu)=true
 |[]=>rfl
 |p::u=>by
  revert Ol dL Nj;show#[?_,kI u]
  (delta fu jo dL;simp[rm])
def ii (u:Wd):jo (ce u)=true:=kI u
def AY {us:Nb Wd}(h:us.Nodup):Nice (us.map ce):=by
 show#[λx b=>?_,eD us,?_]
 ·obtain⟨u,_,rfl⟩:=NN.mp b;show ii u
 ·rw[QN,Rk];show h.imp λa e=>a (jc e)
def xJ :(fk us).map ce=uQ (us.map ce):=by
 unfold fk uQ;rw[qX (d:=[])]
def o8 {α:Type}{a:E}{e:Nb (Nf Np)}(L:Nb α)(f:α->W)(p:α->ND)(g:α->W)(j:Fm->Prop)(n:α->Fm)(u:∀x Z S,j Z->rO tg (f x) Z S=aB (n x,S)/\j (n x))(C:cq a=true)(oc:pH m=true)(hc:j (cC e Z))(hl:↥L<=1000000)(hi:ip M it Z S=aB (mi,S1))(k1:Ka S S1)(o:∀i S',Ka S1 S'->mi.at S' i=aB (L.map f)[i]?)(A:mi.len S1=aB (L.map f).length)
  (b:∀x∈L,∀S',Ka S S'->jF M a m (n x) S' (λy _ S2=>p x=true/\y=g x/\Ka S' S2) (λ_ S2=>p x=false/\Ka S' S2))
  (k:∀S',Ka S S'->Q (.ref ↥S',S'++[.lst ((L.filter p).map g)])):Wp (aF M (.comp a tg it m e) Z S) Q:=by
 rw[Ai];show#[_,hi,_,A,?_];show(de (xs:=L.map f) (Q:=λq=>↥q.1<=sizeLine/\Q (.ref ↥q.2,q.2++[.lst q.1])) (λi l d S'=>j d/\l=((L.take i).filter p).map g/\Ka S1 S') (λi l d S' h=>o i S' h.2.2) (λi w l d S' hw h=>?_) (λl d S' h=>?_) (L.map f).length 0 [] _ S1 ∅ #[hc,rfl,.refl]).mono λq B=>by simpa using B
 ·obtain⟨v,rfl,k2⟩:=h;rw[Nw,Nk]at hw;obtain⟨x,r,rfl⟩:=hw;obtain⟨t,h2⟩:=u x d S' v;show#[_,t,?_];show(Fb oc (b x (NT r) S' (k1.trans k2))).mono λc hc=>#[λz=>(aP a C (hc.1 z)).mono λy s=>#[h2,?_,k2.trans s.2.2],λz=>#[h2,?_,k2.trans (hc.2 z).2]]
  ·rw[O7,r,Sc,show(We (aB x)).filter p=[x]from List.filter_cons_of_pos s.1,Oj,s.2.1];rfl
  ·rw[O7,r,Sc,show(We (aB x)).filter p=[]from List.filter_cons_of_neg (by rw[(hc.2 z).1];show Oe),ON]
 ·obtain⟨_,rfl,k2⟩:=h;dsimp only;rw[show(L.map f).length=↥L from Ni ..,P5]
  show#[dj ?_,k S' (k1.trans k2)];rw[Ni];show NO (Pr _ _) hl
def tH {α:Type}{d:Nb (Nf Np)}(L:Nb α)(f:α->W)(p:α->ND)(g:α->W)(R:Fm)(n:cq b=true)(oc:pH j=true)(hc:cC d Z=ba::ba::R)(hl:↥L<=1000000)(hi:ip M it Z S=aB (mi,S1))(k1:Ka S S1)(l:∀i S',Ka S1 S'->mi.at S' i=aB (L.map f)[i]?)(m:mi.len S1=aB (L.map f).length)
  (c:∀x∈L,∀S',Ka S S'->jF M b j (ba::aB (f x)::R) S' (λy _ S2=>p x=true/\y=g x/\Ka S' S2) (λ_ S2=>p x=false/\Ka S' S2))
  (k:∀S',Ka S S'->Q (.ref ↥S',S'++[.lst ((L.filter p).map g)])):Wp (aF M (.comp b (.nm 1) it j d) Z S) Q:=
 o8 L f p g (λZ=>∃a,Z=ba::a::R) (λx=>ba::aB _::R) (λ_ _ _ h=>let ⟨_,e⟩:=h;e ▸ #[rfl,_,rfl]) n oc #[_,hc] hl hi k1 l m c k
def tJ {α:Type}{a e:E}{d:Es}(L:Nb α)(f:α->W)(p:α->ND)(g:α->W)(R:Fm)(n:cq e=true)(m:cq a=true)(oc:pH d=true)(hc:cC c Z=ba::ba::R)(hl:↥L<=1000000)
  (l:wE M e Z S λq=>∃t,q.1=.ref t/\q.2[t]?=aB (.lst (L.map f))/\Ka S q.2)
  (b:∀x∈L,∀S',Ka S S'->jF M a d (ba::aB (f x)::R) S' (λy _ S2=>p x=true/\y=g x/\Ka S' S2) (λ_ S2=>p x=false/\Ka S' S2))
  (k:∀S',Ka S S'->Q (.ref ↥S',S'++[.lst ((L.filter p).map g)])):Wp (aF M (.comp a (.nm 1) (.seq e) d c) Z S) Q:=by
 obtain⟨w,S1,j,t,rfl,ht,k1⟩:=bC n l;show tH (mi:=.live t) L f p g R m oc hc hl (by simp only[ip,cU,j,aG ht]) k1 (λi S' h=>by simp only[MI.at,aG (h.get _ _ ht)]) (by simp only[MI.len,aG ht,OD]) b k
def AZ {α:Type}{a e:E}{d:Es}(L:Nb α)(f:α->W)(p:α->ND)(g:α->W)(R:Fm)(l:cq e=true)(j:cq a=true)(oc:pH d=true)(hc:cC c Z=ba::ba::R)(hl:↥L<=1000000)
  (i:wE M e Z S λq=>q.1=.tup (L.map f)/\Ka S q.2)
  (b:∀x∈L,∀S',Ka S S'->jF M a d (ba::aB (f x)::R) S' (λy _ S2=>p x=true/\y=g x/\Ka S' S2) (λ_ S2=>p x=false/\Ka S' S2))
  (k:∀S',Ka S S'->Q (.ref ↥S',S'++[.lst ((L.filter p).map g)])):Wp (aF M (.comp a (.nm 1) (.seq e) d c) Z S) Q:=by
 obtain⟨w,S1,h,rfl,k1⟩:=bC l i;show tH (mi:=.its (L.map f)) L f p g R j oc hc hl (by revert ip cU h) k1 (λ_ _ _=>rfl) rfl b k
def je (n:Np):fK 0 n=(N2 n).map λi=>W.int (i:Np):=by
 show O4 λi _=>?_
 rw[SR]
def A6 {a e:E}{d:Es}(n:Np)(p:Np->ND)(g:Np->W)(R:Fm)(m:cq e=true)(l:cq a=true)(oc:pH d=true)(hc:cC c Z=ba::ba::R)(hl:n<=1000000)
  (h:wE M e Z S λq=>q.1=.int n/\Ka S q.2)
  (b:∀x<n,∀S',Ka S S'->jF M a d (ba::aB (.int x)::R) S' (λy _ S2=>p x=true/\y=g x/\Ka S' S2) (λ_ S2=>p x=false/\Ka S' S2))
  (k:∀S',Ka S S'->Q (.ref ↥S',S'++[.lst (((N2 n).filter p).map g)])):Wp (aF M (.comp a (.nm 1) (.rng #v[e]) d c) Z S) Q:=by
 obtain⟨w,S1,f,rfl,k1⟩:=bC m h;show tH (mi:=.its (fK 0 n)) (N2 n) (λi=>W.int (i:Np)) p g R l oc hc (by rw[Oz];show hl) ?_ k1 (λi S' _=>by rw[<- je];rfl) (by rw[<- je];rfl) (λx j=>b x (Oh.mp j)) k
 revert ip bW b6 gA oH f;rw[NK #[∅,∅]];rfl
def cL {α:Type}(L:Nb α):L.filter (λ_=>true)=L:=List.filter_eq_self.mpr λ_ _=>rfl
def A7 {a:Nb Nu}:ci .isin (.str y) (.tup (a.map W.str)) S=aB (.bl (decide (y∈a)),S):=by
 show(xX (.str y) (.tup (a.map W.str)) S).map (λk=>(W.bl k,S))=_
 revert xX d8;rw[NK (by rw[qV];rfl),vp]
 rfl
abbrev Ba (c:Np):ND:=decide (97<=c)&&decide (c<=122)
structure Asc (x:Nu):Prop where
 lo:(x.cps.all λc=>decide (c<128))=true
 len:↥x<=1000
inductive Thg (S:aa):W->Prop
 |non:Thg S .non
 |bl {b:ND}:Thg S (.bl b)
 |int {i:NI}:Thg S (.int i)
 |str {x:Nu} (h:Asc x):Thg S (.str x)
 |tup {xs:Nb W} (h:∀x∈xs,Thg S x) (hl:↥xs<=100):Thg S (.tup xs)
 |lst {l:Np} (h:∃xs,S[l]?=aB (O.lst xs)):Thg S (.ref l)
def Thg.mono (h:Thg S w)(k:∀l:Np,(∃xs,S[l]?=aB (O.lst xs))->∃xs,S'[l]?=aB (O.lst xs)):Thg S' w:=by
 induction h with
 |non=>show .non
 |bl=>show .bl
 |int=>show .int
 |str h=>show .str h
 |tup h hl ih=>show .tup ih hl
 |lst h=>show .lst (k _ h)
def Thg.ka (h:Thg S w)(k:Ka S S'):Thg S' w:=h.mono λ_ #[xs,e]=>#[xs,k.get _ _ e]
def Thg.kp (h:Thg S w)(k:Kp r S S')(f:Fl S' r):Thg S' w:=h.mono λl #[xs,e]=>by
 by_cases z:l=r
 ·subst z;obtain⟨_,_,_,_,_,_,f⟩:=f;show#[_,f.at_r]
 ·show#[xs,k.get _ _ z e]
abbrev D3:W->ND|.tup _=>true|_=>false
abbrev fR:W->ND|.int _=>true|_=>false
abbrev D4:W->ND|.bl _=>true|_=>false
abbrev gL:W->ND|.str _=>true|_=>false
def kJ (h:∃xs,S[l]?=aB (.lst xs))(hc:qA.contains c=true):uW S (.ref l) c=aB ("list" == c||("list" == "bool" && c == "int")):=by
 obtain⟨xs,e⟩:=h;have a:KY S (.ref l)=aB "list":=by simp only[KY,aG e]
 unfold uW;rw[a];show NK hc
section
variable{w:W}
def Thg.t (h:Thg S w):uW S w "tuple" = aB (D3 w):=by
 cases h with
 |lst h=>show kJ h rfl
 |_=>rfl
def Thg.n (h:Thg S w):uW S w "int" = aB (fR w||D4 w):=by
 cases h with
 |lst h=>show kJ h rfl
 |_=>rfl
def Thg.b (h:Thg S w):uW S w "bool" = aB (D4 w):=by
 cases h with
 |lst h=>show kJ h rfl
 |_=>rfl
def Thg.s (h:Thg S w):uW S w "str" = aB (gL w):=by
 cases h with
 |lst h=>show kJ h rfl
 |_=>rfl
end
def tK (L:Nb ND):gZ (L.map W.bl)=aB L:=by
 induction L with
 |nil=>rfl
 |cons b L ih=>rw[Ol];delta gZ;rw[ih];rfl
def HI {L:Nb ND}(h:S[l]?=aB (.lst (L.map W.bl)))(q:Q (.bl (L.all id),S)):wO (Bi.all.fn [.ref l] S) Q:=by
 show ae ?_ q;simp only[Bi.fn,Go,aG h,tK,OD]
def HJ (h:↥y<=1000)(q:Q (.int ↥y,S)):wO (Bi.len.fn [.str y] S) Q:=by
 show ae (a:=(.int ↥y,S)) ?_ q;delta Bi.fn Dt qk nV;rw[NK (NO h (by rw[OF];decide))]
section
variable (M:Nu->FF) (Z:Fm)
abbrev Te (t:E)(S:aa)(c:ND):Prop:=∀Q:QB,(∀S',Ka S S'->Q (c,S'))->wT M t Z S Q
abbrev Ve (e:E)(S:aa)(w:W):Prop:=∀Q:QW,(∀S',Ka S S'->Q (w,S'))->wE M e Z S Q
end
section
variable{a b:E}{x y:ND}
def vB (d:Te M Z a S x)(e:x=false->∀S',Ka S S'->Te M Z b S' y):Te M Z (.or a b) S (x||y):=λQ k=>by
 delta wT;show d _ λS' c=>#[λz=>?_,λz=>e z S' c _ λS2 k2=>?_]
 ·have z:x=true:=z;subst z;show k S' c
 ·have z:x=false:=z;subst z;show k S2 (c.trans k2)
def eV (b:Te M Z a S x):Te M Z (.not a) S (!x):=λQ k=>by
 delta wT;show b _ k
def bG (d:Ve M Z a S (.bl x))(e:x=true->∀S',Ka S S'->Ve M Z b S' (.bl y)):Ve M Z (.and a b) S (.bl (x&&y)):=λQ k=>by
 delta wE;show d _ λS' c=>#[λz=>e z S' c _ λS2 k2=>?_,λz=>?_]
 ·subst z;show k S2 (c.trans k2)
 ·subst z;show k S' c
def o9 {f:Nu}{a:Es}(h:Ve M Z (.own f n a) S (.bl x)):Te M Z (.own f n a) S x:=λQ k=>h (λq=>wO (dI q.2 q.1) λk=>Q (k,q.2)) λS' b=>k S' b
def Fd {f:Bi}{a:Es}(h:Ve M Z (.bi f a) S (.bl x)):Te M Z (.bi f a) S x:=λQ k=>h (λq=>wO (dI q.2 q.1) λk=>Q (k,q.2)) λS' b=>k S' b
def tL (h:Ve M Z (.cmp o a b) S (.bl x)):Te M Z (.cmp o a b) S x:=λQ k=>by
 have:=h (λr=>wB r.1 λk=>Q (k,r.2)) λS' c=>k S' c
 dsimp only[wE]at this;delta wT;show this
def pc (b:∀Q:QW,Q (w,S)->wE M a Z S Q)(h:uW S w c=aB x):Ve M Z (.isi c a) S (.bl x):=λQ k=>by
 delta wE;show b _ (ae h (k S .refl))
def tP {  r:W}(c:∀Q:QW,Q (v,S)->wE M a Z S Q)(d:∀Q:QW,Q (w,S)->wE M b Z S Q)(h:ci o v w S=aB (r,S)):Ve M Z (.cmp o a b) S r:=λQ k=>by
 delta wE;show c _ (d _ (ae h (k S .refl)))
def pd {d:E}{p:NI->NI->ND}(c:∀Q:QW,Q (.int i,S)->wE M a Z S Q)(e:∀Q:QW,Q (.int j,S)->wE M b Z S Q)(hd:∀Q:QW,Q (.int n,S)->wE M d Z S Q)(f:dH o (.int j) (.int n) S=aB (.bl (p j n),S)):Ve M Z (.chn .le o a b d) S (.bl (decide (i<=j)&&p j n)):=λQ k=>by
 delta wE;show c _ (e _ ?_);show ae (show BE .le (.int i) (.int j) S=aB (decide (i<=j))from rfl) #[λz=>hd _ (ae f ?_),λz=>?_]
 ·rw[z,P1]at k;show k S .refl
 ·rw[z,Qm]at k;show k S .refl
def tQ {d:E}{p:NI->NI->ND}(c:∀Q:QW,Q (.int i,S)->wE M a Z S Q)(e:∀Q:QW,Q (.int j,S)->wE M b Z S Q)(hd:∀Q:QW,Q (.int n,S)->wE M d Z S Q)(f:dH o (.int j) (.int n) S=aB (.bl (p j n),S)):Te M Z (.chn .le o a b d) S (decide (i<=j)&&p j n):=λQ k=>by
 delta wT;show c _ (e _ ?_);show ae (show BE .le (.int i) (.int j) S=aB (decide (i<=j))from rfl) #[λz=>hd _ (ae f ?_),λz=>?_]
 ·rw[z,P1]at k;show k S .refl
 ·rw[z,Qm]at k;show k S .refl
def gM (h:x=c)(k:Ve M Z a S (.bl x)):Ve M Z a S (.bl c):=h▸k
def Fe (h:x=c)(k:Te M Z a S x):Te M Z a S c:=h▸k
def tR :Ve M Z (.c w) S w:=λQ k=>k S .refl
def rn (h:∀Q:QW,Q (w,S)->wE M a Z S Q):Ve M Z a S w:=λQ k=>h Q (k S .refl)
def pe { e:E}{K:Fm->aa->Prop}{Q:QO}(ht:Te M Z t S x)(d:x=true->∀S',Ka S S'->Ve M Z e S' w/\∀S2,Ka S' S2->Q (.rt w,S2))(hk:x=false->∀S',Ka S S'->K Z S'):wS M fuel (.ite t #v[.ret e] .nil) Z S K Q:=by
 delta wS;show ht _ λS' a b c h2=>#[λz=>?_,λz=>(cW (c _ _ (hk z S' a))).out]
 obtain⟨v,q⟩:=d z S' a;show(st (Q:=b) ?_).out;delta wS;show v _ λS2 k2=>h2 (.rt w) S2 (λ_ z=>nomatch z) (q S2 k2)
def cx {e:E}{Q:QO}(h:Ve M Z e S w)(q:∀S',Ka S S'->Q (.rt w,S')):wZ M fuel (.cons (.ret e) ss) Z S Q:=by
 show st ?_;delta wS;show h _ q
def lS {e:E}{Q:QO}(h:Ve M Z e S w)(q:∀S',Ka S S'->wZ M fuel ss (Z.set i (aB w)) S' Q):wZ M fuel (.cons (.set i e) ss) Z S Q:=by
 nofun
 delta wS;show h _ λS' k=>hK _ _ (q S' k)
def jK {α:Type}{d:Nb (Nf Np)}(L:Nb α)(f:α->W)(c:α->ND)(g:Fm->Prop)(e:α->Fm)(l:∀x Z S,g Z->rO tg (f x) Z S=aB (e x,S)/\g (e x))(o:cq a=true)(hc:g (cC d Z))(hl:↥L<=1000000)(hi:ip M it Z S=aB (mi,S1))(k1:Ka S S1)(h:∀i S',Ka S1 S'->mi.at S' i=aB (L.map f)[i]?)(m:mi.len S1=aB (L.map f).length)
  (b:∀x∈L,∀S',Ka S S'->Ve M (e x) a S' (.bl (c x))):Ve M Z (.bi .all #v[.comp a tg it .nil d]) S (.bl (L.all c)):=λQ k=>by
 delta wE wA;show o8 L f (λ_=>true) (λx=>.bl (c x)) g e l o rfl hc hl hi k1 h m (λx n S' j=>?_) λS' j=>?_
 ·delta jF wC;show#[λ_=>b x n S' j _ λS2 k2=>#[rfl,rfl,k2],λz=>by cases z]
 ·rw[cL];show HI (L:=L.map c) (by rw[O2];show ah) ?_
  rw[UK];show k _ (j.trans .push)
def ik {α:Type}{ e:E}{g:Nb (Nf Np)}(L:Nb α)(f:α->W)(c:α->ND)(R:Fm)(l:cq e=true)(k:cq b=true)(hc:cC g Z=ba::ba::R)(hl:↥L<=1000000)
  (j:wE M e Z S λq=>q.1=.tup (L.map f)/\Ka S q.2)
  (d:∀x∈L,∀S',Ka S S'->Ve M (ba::aB (f x)::R) b S' (.bl (c x))):Ve M Z (.bi .all #v[.comp b (.nm 1) (.seq e) .nil g]) S (.bl (L.all c)):=by
 obtain⟨w,S1,i,rfl,k1⟩:=bC l j;show jK (mi:=.its (L.map f)) L f c (λZ=>∃a,Z=ba::a::R) (λx=>ba::aB (f x)::R) (λ_ _ _ h=>let ⟨_,e⟩:=h;e ▸ #[rfl,_,rfl]) k #[_,hc] hl (by revert ip cU i) k1 (λ_ _ _=>rfl) rfl d
def HK {α:Type}{ e:E}{g:Nb (Nf Np)}(L:Nb α)(f:α->W)(c:α->ND)(R:Fm)(m:cq e=true)(l:cq b=true)(hc:cC g Z=ba::ba::R)(hl:↥L<=1000000)
  (k:wE M e Z S λq=>∃t,q.1=.ref t/\q.2[t]?=aB (.lst (L.map f))/\Ka S q.2)
  (d:∀x∈L,∀S',Ka S S'->Ve M (ba::aB (f x)::R) b S' (.bl (c x))):Ve M Z (.bi .all #v[.comp b (.nm 1) (.seq e) .nil g]) S (.bl (L.all c)):=by
 obtain⟨w,S1,j,t,rfl,ht,k1⟩:=bC m k;show jK (mi:=.live t) L f c (λZ=>∃a,Z=ba::a::R) (λx=>ba::aB (f x)::R) (λ_ _ _ h=>let ⟨_,e⟩:=h;e ▸ #[rfl,_,rfl]) l #[_,hc] hl (by simp only[ip,cU,j,aG ht]) k1 (λi S' h=>by simp only[MI.at,aG (h.get _ _ ht)]) (by simp only[MI.len,aG ht,OD]) d
def HL { e:E}{f:Nb (Nf Np)}(x:Nu)(c:Np->ND)(R:Fm)(m:cq e=true)(l:cq b=true)(hc:cC f Z=ba::ba::R)(hl:↥x.cps.toList<=1000000)(i:(x.cps.all λc=>decide (c<128))=true)
  (j:wE M e Z S λq=>q.1=.str x/\Ka S q.2)
  (d:∀k∈x.cps.toList,∀S',Ka S S'->Ve M (ba::aB (.str #[[k].toArray])::R) b S' (.bl (c k))):Ve M Z (.bi .all #v[.comp b (.nm 1) (.seq e) .nil f]) S (.bl (x.cps.toList.all c)):=by
 obtain⟨w,S1,g,rfl,k1⟩:=bC m j;show jK (mi:=.its (x.cps.toList.map λc=>W.str #[[c].toArray])) x.cps.toList (λc=>W.str #[[c].toArray]) c (λZ=>∃a,Z=ba::a::R) (λc=>ba::aB (.str #[[c].toArray])::R) (λ_ _ _ h=>let ⟨_,e⟩:=h;e ▸ #[rfl,_,rfl]) l #[_,hc] hl (by revert ip cU g i Qv) k1 (λ_ _ _=>rfl) rfl d
def HM { e:E}{f:Nb (Nf Np)}(n:Np)(c:Np->ND)(R:Fm)(m:cq e=true)(l:cq b=true)(hc:cC f Z=ba::ba::R)(hl:n<=1000000)
  (j:wE M e Z S λq=>q.1=.int n/\Ka S q.2)
  (d:∀x<n,∀S',Ka S S'->Ve M (ba::aB (.int x)::R) b S' (.bl (c x))):Ve M Z (.bi .all #v[.comp b (.nm 1) (.rng #v[e]) .nil f]) S (.bl ((N2 n).all c)):=by
 obtain⟨w,S1,g,rfl,k1⟩:=bC m j;show jK (mi:=.its (fK 0 n)) (N2 n) (λi=>W.int (i:Np)) c (λZ=>∃a,Z=ba::a::R) (λx=>ba::aB (.int (x:Np))::R) (λ_ _ _ h=>let ⟨_,e⟩:=h;e ▸ #[rfl,_,rfl]) l #[_,hc] (by rw[Oz];show hl) ?_ k1 (λi S' _=>by rw[<- je];rfl) (by rw[<- je];rfl) (λx k=>d x (Oh.mp k))
 revert ip bW b6 gA oH g;rw[NK #[∅,∅]];rfl
def Bb {α:Type}{d e:E}(L:Nb α)(f:α->W)(c:Np->α->ND)(R:Fm)(r:cq e=true)(o:cq d=true)(hc:cC j Z=ba::ba::ba::R)(hl:↥L<=1000000)
  (m:wE M e Z S λq=>q.1=.tup (L.map f)/\Ka S q.2)
  (g:∀(i:Np) x,L[i]?=aB x->∀S',Ka S S'->Ve M (ba::aB (.int i)::aB (f x)::R) d S' (.bl (c i x))):Ve M Z (.bi .all #v[.comp d (.tp [1,2]) (.enu #v[e]) .nil j]) S (.bl (L.zipIdx.all λp=>c p.2 p.1)):=by
 obtain⟨w,S1,l,rfl,k1⟩:=bC r m;have k:L.zipIdx.map (λp=>W.tup [.int (p.2:Np),f p.1])=qF (L.map f):=by
  unfold qF;rw[List.zipIdx_map,O2];rfl
 show jK (mi:=.its (qF (L.map f))) L.zipIdx (λp=>W.tup [.int (p.2:Np),f p.1]) (λp=>c p.2 p.1) (λZ=>∃a b,Z=ba::a::b::R) (λp=>ba::aB (.int (p.2:Np))::aB (f p.1)::R) (λ_ _ _ h=>let ⟨_,_,e⟩:=h;e ▸ #[rfl,_,_,rfl]) o #[_,_,hc] (by rw[Ul];show hl) (by revert ip bW b6 gA Dr l GH) k1 (λi S' _=>by rw[k];rfl) (by rw[k];rfl) (λp n=>g p.2 p.1 ?_)
 show(List.mem_zipIdx_iff_getElem?.mp n)
def HN {α:Type}{d  :E}{k:Nb (Nf Np)}(L:Nb α)(f g:α->W)(c:α->ND)(R:Fm)(t:cq a=true)(ob:cq b=true)(u:cq d=true)(hc:cC k Z=ba::ba::ba::R)(hl:↥L<=1000000)(xs l:Nb W)(m:iH xs l=L.map λx=>W.tup [f x,g x])
  (s:wE M a Z S λq=>wE M b Z q.2 λn=>q.1=.tup xs/\n.1=.tup l/\Ka S n.2)
  (j:∀x∈L,∀S',Ka S S'->Ve M (ba::aB (f x)::aB (g x)::R) d S' (.bl (c x))):Ve M Z (.bi .all #v[.comp d (.tp [1,2]) (.zip #v[a,b]) .nil k]) S (.bl (L.all c)):=by
 obtain⟨w,y,o,r⟩:=bC t s;obtain⟨w2,S1,p,rfl,rfl,k1⟩:=bC ob r;show jK (mi:=.its (iH xs l)) L (λx=>W.tup [f x,g x]) c (λZ=>∃a b,Z=ba::a::b::R) (λx=>ba::aB (f x)::aB (g x)::R) (λ_ _ _ h=>let ⟨_,_,e⟩:=h;e ▸ #[rfl,_,_,rfl]) u #[_,_,hc] hl (by revert ip bW b6 gA zX o p GH) k1 (λi S' _=>by rw[<- m];rfl) (by rw[<- m];rfl) j
end
def HP:∀k:Fin 128,(!(Rc "abcdefghijklmnopqrstuvwxyz" #[[k.val].toArray] 0 ("abcdefghijklmnopqrstuvwxyz": Nu).length 1).isEmpty)=Ba k.val:=by decide +kernel
def D5 (h:c<128):ci .isin (.str #[[c].toArray]) (.str "abcdefghijklmnopqrstuvwxyz") S=aB (.bl (Ba c),S):=by
 rw[<- HP #[c,h]];rfl
abbrev D6 (x:Nu):ND:=x.cps.toList.all Ba
def HQ {a:Np}(g:GoodB bs)(c:GoodW a ↥bs v)(hi:i<↥v)(l:j<↥v)(k:i≠j):0<=cv bs v i j/\cv bs v i j<(↥bs):=by
 unfold cv
 by_cases h:j<i
 ·rw[NK h];have b:=aL (d:=(0,[])) hi;have hw:j<(v.getD i (0,[])).2.length:=by rw[c.len i _ b];show h
  show c.way i _ b _ (NT (aL  hw))
 ·rw[N1 h];have b:=aL (d:=(0,[])) l;have hw:i<(v.getD j (0,[])).2.length:=by rw[c.len j _ b];omega
  obtain⟨e,f⟩:=c.way j _ b _ (NT (aL  hw));show(g.at e f).2
def nu {a:Np}{ps:Nb Np}(n:GoodB bs)(l:GoodW a ↥bs v)(c:∀p∈ps,p<↥v)(g:ps.Nodup):GoodW a ↥bs (aw bs v ps):=by
 have b:∀k q,(aw bs v ps)[k]?=aB q->∃hk:k<↥ps,q=((v.getD _ _).1,(ps.take k).map λj=>cv bs v _ j):=λk q e=>by
  have hk:=by
   have:=(NA.mp e).1;rw[bD]at this;show this
  show#[hk,?_];unfold aw at e;rw[Nw,Qk hk,OD,show ps.getD k 0=ps[k] by simp[hk]]at e
  show(OC e).symm
 show#[λk q e=>?_,λk q e=>?_,λk q e=>?_]
 ·obtain⟨hk,rfl⟩:=b k q e;have:=l.mark _ _ (aL (d:=(0,[])) (c _ (N7 hk)));show this
 ·obtain⟨hk,rfl⟩:=b k q e;rw[Ni,Os];omega
 ·obtain⟨hk,rfl⟩:=b k q e;intro w hw;obtain⟨j,i,rfl⟩:=NN.mp hw;have f:=Pg i;show HQ n l (c _ (N7 hk)) (c _ f) λe=>?_
  obtain⟨m,o,h⟩:=Rz.mp i;rw[Os]at o;rw[Sk]at h;have:=(Ql g).mp (e.trans h.symm);omega
def HR (hd:Is defs ("_law_flow") 1 1 hZ){ns:Nb NI}(a:S[u]?=aB (.fro (ns.map W.int)))(k:∀r S',Ka S S'->Fl S' r->Q (.ref r,S')) :
  wO (bh (ag defs fuel (d+1)) "_law_flow" 1 [.ref u] S) Q:=by
 show aK hd rfl rfl λf c=>?_
 show st ?_;left;have e:Bi.list.fn [.ref u] S=aB (.ref ↥S,S++[.lst (ns.map W.int)]):=by
  have b:Gi S u=ba:=by unfold Gi;rw[a]
  have h2:mO [.ref u] S=aB (.ref ↥S,S++[.lst (ns.map W.int)]):=by
   unfold mO;dsimp only
   rw[b];dsimp only
   unfold iD;dsimp only
   rw[show d8 S (.ref u)=aB _ from DB a]
  unfold Bi.fn Dt;dsimp only
  rw[h2]
 show ae e (c _ _ (k _ _ (Ka.push.trans .push) #[↥S,ns,0,0,1,0,?_,?_,?_,#v[],#v[],#v[],#v[]]))
 ·show ah
 ·show aD ah
 ·simp
def j6 {bt:Np->Np->ND}{N:Np}(b:∀i<N,bt i i=false)(d:∀i j k,i<N->j<N->k<N->bt i j=true->bt j k=true->bt i k=true):∀n,n<N->∀j≤n,bt j (argBest bt n)=false
 |0,a,j,g=>by
  obtain rfl:j=0:=∅
  show b 0 a
 |n+1,a,j,g=>by
  have ih:=j6 b d n ∅
  have h:=dC bt n;revert argBest;cases c:bt _ (argBest bt n)with
  |true=>
   rw[NK rfl]
   by_cases e:j=n+1
   ·subst e;show b _ a
   ·cases f:bt j _ with
    |false=>rfl
    |true=>
     have:=d j _ _ (by show Q9 ‹_› ‹_›) a ∅ f c
     rw[ih j ∅]at this;cases this
  |false=>
   by_cases e:j=n+1
   ·subst e;show c
   ·show ih j ∅
def rq (f:∀x∈ks,jo x=true)(hl:fg ks=true)(g:ks≠[]):∃x,ks[jq ks]?=aB x/\x∈ks/\∀y∈ks,dU y x=aB false:=by
 have q:=TR.mpr g;have d:jq ks<↥ks:=by
  unfold jq;have:=dC (om ks) (↥ks-1);omega
 have a:∀i j hi b,dU _ _=aB (om ks i j):=λi j hi b=>dy hl hi b
 have o:∀i<↥ks,om ks i i=false:=λi hi=>by
  cases c:om ks i i with
  |false=>rfl
  |true=>
   have e:=a i i hi hi;rw[c]at e;have:=js _ _ (f _ (N7 hi)) e;rw[e]at this;cases this
 have p:=j6   o (λi j k hi b hk m h2=>by
  have h:=a i j hi b;have l:=a j k b hk;rw[m]at h;rw[h2]at l;have:=sE _ _ _ (f _ (N7 hi)) (f _ (N7 b)) h l;rw[a i k hi hk]at this;show OC this) (↥ks-1) ∅
 show#[ks[jq ks],Nt d,N7 d,λy n=>?_]
 obtain⟨j,b,rfl⟩:=Rz.mp n;rw[a j _ b d];congr 1;show p j ∅
def vC (b:jo x=true)(a:dU x y=aB false)(h2:dU y x=aB false):x=y:=by
 by_cases e:x=y
 ·show e
 ·rw[oz x y b e h2]at a;cases a
def rs:∀{xs a as bs:Nb T},↥xs=↥a->bR xs a=aB true->bR (xs++as) (a++bs)=aB true
 |[],[],_,_,_,h=>by cases h
 |x::xs,y::a,as,bs,hl,h=>by
  dsimp only[Vg,bR]at h ⊢
  by_cases e:x=y
  ·rw[NK e]at h ⊢;show rs (by simpa using hl) h
  ·rw[N1 e]at h ⊢;show h
 |[],_::_,_,_,hl,_=>by simp at hl
 |_::_,[],_,_,hl,_=>by simp at hl
def rz :∀xs:Nb T,bR (xs++as) (xs++bs)=bR as bs
 |[]=>rfl
 |x::xs=>by
  revert Vg bR;show rz xs
def HS (a:jo x=true)(h:bR [x] [y]=aB true):dU x y=aB true:=by
 simp only[bR]at h;split at h
 ·cases h
 ·show h
structure Ord (n:Np)(o:Nb Np):Prop where
 nd:o.Nodup
 lt:∀p∈o,p<n
abbrev tU:Np->Nb (Nb Np)
 |0=>[[]]
 |k+1=>(tU k).flatMap λo=>(N2 (k+1)).map λi=>o.take i++[k]++o.drop i
def ph:∀{n:Np}{o:Nb Np},o∈tU n↔Ord n o/\↥o=n
 |0,o=>by
  rw[tU,NX];show#[λh=>by subst h;show#[#[.nil,λp c=>nomatch c],rfl],λh=>Qt h.2]
 |n+1,o=>by
  rw[tU,Rv];constructor
  ·rintro⟨o',f,h2⟩;obtain⟨i,hi,rfl⟩:=NN.mp h2;obtain⟨⟨nd,lt⟩,hl⟩:=ph.mp f;have c:(o'.take i++[n]++o'.drop i).Perm (n::o'):=by
    have e:o'.take i++[n]++o'.drop i=o'.take i++n::o'.drop i:=by simp
    rw[e];show Vh.trans ?_;rw[QC]
   show#[#[c.nodup_iff.mpr (PM.mpr #[λz=>absurd (lt _ z) (OL _),nd]),λp d=>?_],by rw[c.length_eq,Og,hl]]
   rcases NE.mp (c.mem_iff.mp d)with z|z
   ·omega
   ·have:=lt p z;show PK ‹_›
  ·rintro⟨⟨nd,lt⟩,hl⟩;have k:n∈o:=by
    by_cases z:n∈o
    ·show z
    ·have f:=ie o (N2 n) nd λp c=>Oh.mpr (by
      have:=lt p c;have:p≠n:=λe=>z (e▸c)
      omega)
     rw[Oz]at f;omega
   obtain⟨a,b,rfl⟩:=List.append_of_mem k;have c:(a++n::b).Perm _:=Vh;have g:=c.nodup_iff.mp nd;obtain⟨nn,j⟩:=PM.mp g;show#[a++b,ph.mpr #[#[j,λp d=>?_],?_],NN.mpr #[↥a,Oh.mpr ?_,?_]]
   ·have f:=lt p (c.mem_iff.mpr (NL _ d));have:p≠n:=λe=>nn (e▸d)
    omega
   ·have:=c.length_eq;rw[hl,Og]at this;omega
   ·rw[Nq,Og]at hl;omega
   ·rw[List.take_left',Vz]<;>simp
abbrev bv (bs:Nb NI)(u:Wd)(o:Nb Np):Pt:=rc bs u o.dropLast (o.getLastD 0)
abbrev cf (ps:Nb Pt):Pt:=ps.getD (jq (ps.map fu)) (0,[])
abbrev eW (bs:Nb NI)(u:Wd):Np->Nb (Nb Np)
 |0=>[[]]
 |k+1=>(aM ↥u (eW bs u k)).filter λo=>decide (bv bs u o=cf ((aM ↥u (eW bs u k)).map (bv bs u)))
abbrev rP (bs:Nb NI)(u:Wd):Np->Wd
 |0=>[]
 |k+1=>rP bs u k++[cf ((aM ↥u (eW bs u k)).map (bv bs u))]
def Bc (p:Pt):jo (fu p)=true:=by
 have:=kI [p]
 simpa [dL]using this
def nv (ps:Nb Pt):fg (ps.map fu)=true:=by
 unfold fg;rw[NB];intro x a;rw[NB];intro y b;obtain⟨p,_,rfl⟩:=NN.mp a;obtain⟨q,_,rfl⟩:=NN.mp b;show tq _ _ (AI p q)
def nw {ps:Nb Pt}(h:ps≠[]):ps[jq (ps.map fu)]?=aB (cf ps)/\cf ps∈ps/\∀y∈ps,dU (fu y) (fu (cf ps))=aB false:=by
 obtain⟨x,b,h2,c⟩:=rq  (λx d=>by obtain⟨p,_,rfl⟩:=NN.mp d;show Bc p) (nv ps) (by simpa using h)
 rw[Nw,Nk]at b;obtain⟨p,a,rfl⟩:=b;have e:cf ps=p:=by unfold cf;rw[Oa,a];rfl
 rw[e];show#[a,NT a,λy f=>c _ (NN.mpr #[y,f,rfl])]
def eF {os:Nb (Nb Np)}:o'∈aM n os↔∃o∈os,∃p,p<n/\p∉o/\o'=o++[p]:=by
 unfold aM;rw[Rv];constructor
 ·rintro⟨o,b,h⟩;obtain⟨p,c,rfl⟩:=NN.mp h;obtain⟨a,h2⟩:=OS.mp c;show#[o,b,p,Oh.mp a,N3 h2,rfl]
 ·rintro⟨o,b,p,a,h2,rfl⟩;show#[o,b,NN.mpr #[p,OS.mpr #[Oh.mpr a,N4 h2],rfl]]
def gq {p:Np}:bv bs u (o++[p])=rc bs u o p:=by
 unfold bv;rw[Tu,Tv]
def jf {p:Np}:Ord n (o++[p])↔Ord n o/\p<n/\p∉o:=by
 constructor
 ·rintro⟨nd,lt⟩;rw[PH]at nd;show#[#[nd.1,λq c=>lt q (Ob _ c)],lt p (by simp),λz=>nd.2.2 p z p (by simp) rfl]
 ·rintro⟨⟨nd,lt⟩,d,h2⟩;show#[PH.mpr #[nd,by simp,λa f b g e=>?_],λq c=>?_]
  ·rw[NX.mp g]at e;show h2 (e▸f)
  ·rcases Op.mp c with z|z
   ·show lt q z
   ·rw[NX.mp z];show d
def rB (h:Ord n o)(hl:↥o<n):∃p,p<n/\p∉o:=by
 by_cases z:∃p,p<n/\p∉o
 ·show z
 ·have b:=ie _ o Va λp c=>by
   by_cases a:p∈o
   ·show a
   ·show absurd #[p,Oh.mp c,a] z
  rw[Oz]at b;omega
def Kw (u v:Wd):(dU (ce u) (ce v)).isSome=true:=by
 have:=eD [u,v];unfold fg at this;rw[NB]at this;have:=this (ce u) (by simp)
 rw[NB]at this;show this _ (by simp)
def HU (h:dU (ce u) (ce v)≠aB true):dU (ce u) (ce v)=aB false:=by
 obtain⟨b,a⟩:=Oq.mp (Kw u v);cases b with
 |false=>show a
 |true=>show absurd a h
structure GrOk (bs:Nb NI)(u:Wd)(k:Np):Prop where
 mem:∀o,o∈eW bs u k↔Ord ↥u o/\↥o=k/\aw bs u o=rP bs u k
 least:∀o,Ord ↥u o->↥o=k->dU (ce (aw bs u o)) (ce (rP bs u k))=aB false
 ne:eW bs u k≠[]
 len:(rP bs u k).length=k
def vD {o:Nb Np}(h:↥o=k+1):∃o' p,o=o'++[p]/\↥o'=k:=by
 have a:o≠[]:=λz=>by rw[z]at h;cases h
 show#[o.dropLast,o.getLast a,(List.dropLast_concat_getLast a).symm,by rw[RA];omega]
def ny :∀k,k<=↥u->GrOk bs u k
 |0,_=>by
  show#[λo=>?_,λo _ hl=>?_,List.cons_ne_nil _ _,rfl]
  ·(delta eW;rw[NX])
   show#[λh=>by subst h;show#[#[.nil,λp j=>nomatch j],rfl,rfl],λh=>Qt h.2.1]
  ·rw[Qt hl];rfl
 |k+1,hk=>by
  have ih:=ny (bs:=bs) (u:=u) k ∅
  have q:aM ↥u (eW bs u k)≠[]:=by
   obtain⟨o,d⟩:=QT _ ih.ne;obtain⟨a,h2,_⟩:=(ih.mem o).mp d;obtain⟨p,j,b⟩:=rB a ∅
   show Sd (eF.mpr #[o,d,p,j,b,rfl])
  obtain⟨_,b2,b3⟩:=nw (ps:=(aM _ _).map _) (by simpa using q)
  have l:rP bs u (k+1)=rP bs u k++[cf _]:=rfl;have m:eW bs u (k+1)=(aM _ _).filter λo=>decide _:=rfl
  generalize cf _=best at b2 b3 l m;show#[λo=>?_,λo t hl=>?_,?_,by rw[l,Nq,ih.len];rfl]
  ·rw[m,OS,l];constructor
   ·rintro⟨a,h2⟩;obtain⟨o,d,p,j,b,rfl⟩:=eF.mp a;obtain⟨c,f,g⟩:=(ih.mem o).mp d;have h2:=N3 h2;rw[gq]at h2;show#[jf.mpr #[c,j,b],by rw[Nq,f];rfl,by rw[jJ,g,h2]]
   ·rintro⟨a,h2,i⟩;obtain⟨o,p,rfl,hl⟩:=vD h2;obtain⟨c,f,g⟩:=jf.mp a;rw[jJ]at i;obtain⟨r,s⟩:=List.append_inj i (by rw[bD,ih.len,hl])
    show#[eF.mpr #[o,(ih.mem o).mpr #[c,hl,r],p,f,g,rfl],N4 ?_];rw[gq];show List.singleton_inj.mp s
  ·obtain⟨o,p,rfl,n⟩:=vD hl;have hl:=n;obtain⟨c,f,g⟩:=jf.mp t;show HU λz=>?_
   rw[jJ,l]at z;have z:bR _ _=aB _:=z;rw[Oj,Oj]at z
   by_cases e:aw bs u o=rP bs u k
   ·rw[e,rz]at z;have:=HS (Bc _) z;rw[b3 _ (NN.mpr #[o++[p],eF.mpr #[o,(ih.mem o).mpr #[c,hl,e],p,f,g,rfl],gq])]at this;cases this
   ·have a:=oz _ _ (ii _) (λh=>e (jc h).symm) (ih.least o c hl)
    have h2:=rs (as:=[best].map fu) (bs:=[rc bs u o p].map fu) (by rw[Ni,Ni,bD,ih.len,hl]) a
    have i:=oy _ _ (by rw[<- Oj];show kI _) h2
    rw[z]at i;cases i
  ·obtain⟨o,d,e⟩:=NN.mp b2;rw[m];show Sd (OS.mpr #[d,N4 e])
abbrev cQ (bs:Nb NI)(u:Wd):Wd:=rP bs u ↥u
def jg :∃o,Ord ↥u o/\↥o=↥u/\aw bs u o=cQ bs u:=by
 have h:=ny (bs:=bs)  ↥u (Ny _);obtain⟨o,a⟩:=QT _ h.ne;show#[o,(h.mem o).mp a]
def gr (hi:i<↥o):(aw bs u o).getD i (0,[])=((u.getD (o.getD i 0) (0,[])).1,(o.take i).map λj=>cv bs u (o.getD i 0) j):=by
 unfold aw;rw[Oa,Nw,Qk hi];rfl
def rC (hi:i<↥o)(a:j<i):((aw bs u o).getD i (0,[])).2.getD j 0=cv bs u (o.getD i 0) (o.getD j 0):=by
 rw[gr hi];rw[Oa,Nw,So a,aL  (show j<↥o by show UF ‹_› ‹_›)];rfl
def Bd {a:Np}(n:GoodB bs)(k:GoodW a ↥bs u)(c:Ord ↥u o)(hi:i<↥o)(f:j<↥o)(b:i≠j):cv bs (aw bs u o) i j=cv bs u (o.getD i 0) (o.getD j 0):=by
 have l:=aL (d:=0) hi;have p:=c.lt _ (NT l);have ne:o.getD i 0≠o.getD j 0:=λe=>by
  have m:o[i]=o.getD i 0:=by simp[hi]
  have h2:o[j]=o.getD j 0:=by simp[f]
  show b ((Ql c.nd).mp (by rw[m,h2,e]))
 by_cases h:j<i
 ·have:cv bs (aw bs u o) i j=((aw bs u o).getD i (0,[])).2.getD j 0:=by unfold cv;rw[NK h]
  rw[this,rC hi h]
 ·have:cv bs (aw bs u o) i j=bs.getD (((aw bs u o).getD j (0,[])).2.getD i 0).toNat 0:=by unfold cv;rw[N1 h]
  rw[this,rC f ∅]
  generalize o.getD i 0=x at *
  generalize o.getD j 0=y at *
  unfold cv
  by_cases h2:x<y
  ·rw[NK h2,N1 ∅]
  ·rw[N1 h2,NK ∅]
   have g:=aL (d:=(0,[])) p;have hw:y<(u.getD x (0,[])).2.length:=by rw[k.len x _ g];omega
   obtain⟨q,r⟩:=k.way x _ g _ (NT (aL (d:=0) hw));have:=n.inv ((u.getD x (0,[])).2.getD y 0).toNat ∅
   rw[this];omega
def nz {a:Np}{ p:Nb Np}(s:GoodB bs)(x:GoodW a ↥bs u)(r:Ord ↥u o)(d:Ord ↥o p):aw bs (aw bs u o) p=aw bs u (p.map λi=>o.getD i 0):=by
 show Qp (by rw[bD,bD,Ni]) λk b h2=>?_
 rw[bD]at b;have g:=gr (bs:=bs) (u:=aw bs u o)  b;have h:=gr (bs:=bs) (u:=u) (o:=p.map λi=>o.getD i 0)  (by rw[Ni];show b)
 have hk:p.getD k 0<↥o:=d.lt _ (NT (aL  b));have n:(p.map λi=>o.getD i 0).getD k 0=o.getD (p.getD k 0) 0:=by
  rw[Oa,Nw,aL  b];rfl
 rw[n]at h;rw[gr hk]at g;have f:∀(v:Wd) l,v[k]=v.getD k (0,[]):=λv l=>by simp[l]
 rw[f _ (by rw[bD];show b),f _ h2,g,h]
 congr 1;rw[<- Q1,O2];show O4 λj t=>?_
 obtain⟨m,w,rfl⟩:=Rz.mp t;rw[Os]at w;rw[Sk];have c:p[m]=p.getD m 0:=by simp[show m<↥p by omega]
 rw[c];show Bd s x r hk (d.lt _ (NT (aL  (show m<↥p by omega)))) λe=>?_
 have q:p[k]=p.getD k 0:=by simp[b]
 have:=(Ql d.nd).mp (q.trans (e.trans c.symm));omega
def kK (h:Ord n o)(hl:↥o=n){p:Np}(b:p<n):p∈o:=by
 by_cases z:p∈o
 ·show z
 ·have:=(jf   ).mpr #[h,b,z];have a:=ie _ _ this.nd λq c=>Oh.mpr (this.lt q c)
  rw[Nq,Oz,Rn]at a;omega
def Be { p:Nb Np}(h:Ord n o)(c:Ord ↥o p):Ord n (p.map λi=>o.getD i 0):=by
 have g:∀i,i<↥o->o[i]?=aB (o.getD i 0):=λi hi=>aL hi
 show#[?_,λq r=>?_]
 ·rw[QN,Rk];show c.nd.imp_of_mem λ{a b} l m d e=>d ?_
  have k:=c.lt a l;have h2:=c.lt b m;have f:o[a]=o.getD a 0:=by simp[k]
  have j:o[b]=o.getD b 0:=by simp[h2]
  show(Ql h.nd).mp (by rw[f,j,e])
 ·obtain⟨i,hi,rfl⟩:=NN.mp r;show h.lt _ (NT (g i (c.lt i hi)))
def lT {a:Np}(k:GoodB bs)(l:GoodW a ↥bs u)(b:Ord ↥u o)(hl:↥o=↥u):cQ bs (aw bs u o)=cQ bs u:=by
 have pl:(aw bs u o).length=↥u:=by rw[bD,hl]
 obtain⟨p,p1,p2,z⟩:=jg (bs:=bs) (u:=aw bs u o);obtain⟨q,f,A,B⟩:=jg (bs:=bs) (u:=u);rw[pl]at p1 p2;have t:=λo c h2=>(ny (bs:=bs) (u:=u) _ (Ny _)).least o c h2
 have v:=λw c h2=>(ny (bs:=bs) (u:=aw bs u o) _ (Ny _)).least w c h2
 show jc (vC (ii _) ?_ ?_)
 ·rw[<- z,nz k l b (by rw[hl];show p1)]
  show t _ (Be b (by rw[hl];show p1)) (by rw[Ni,p2])
 ·have e:q=(q.map λx=>o.idxOf x).map λi=>o.getD i 0:=by
   rw[O2]
   conv=>lhs;rw[<- Sl q]
   show O4 λx d=>?_
   have r:=kK b hl (f.lt x d);have g:=PV r;change x=o.getD (o.idxOf x) 0;rw[Oa,Nt g,Se];rfl
  have j:Ord ↥o (q.map λx=>o.idxOf x):=by
   show#[?_,λi hi=>?_]
   ·rw[QN,Rk];show f.nd.imp_of_mem λ{x y} d s h e=>h ?_
    have c:=PV (kK b hl (f.lt x d));have h2:=PV (kK b hl (f.lt y s));have m:=Se c;have n:=Se h2;rw[<- m,<- n];congr 1
   ·obtain⟨x,d,rfl⟩:=NN.mp hi;show PV (kK b hl (f.lt x d))
  rw[<- B,e,<- nz k l b j];show v _ (by rw[pl,<- hl];show j) (by rw[Ni,pl,A])
def HV {α:Type}{ a :E}(L:Nb α)(f g:α->W)(p:α->ND)(h:α->W)(R:Fm)(B:cq a=true)(ob:cq b=true)(C:cq c=true)(oc:pH n=true)(hc:cC l Z=ba::ba::ba::R)(hl:↥L<=1000000)
  (A:wE M a Z S λq=>wE M b Z q.2 λm=>∃r t,q.1=.ref r/\m.1=.ref t/\m.2[r]?=aB (.lst (L.map f))/\m.2[t]?=aB (.lst (L.map g))/\Ka S m.2)
  (j:∀x∈L,∀S',Ka S S'->jF M c n (ba::aB (f x)::aB (g x)::R) S' (λy _ S2=>p x=true/\y=h x/\Ka S' S2) (λ_ S2=>p x=false/\Ka S' S2))
  (k:∀S',Ka S S'->Q (.ref ↥S',S'++[.lst ((L.filter p).map h)])):Wp (aF M (.comp c (.tp [1,2]) (.zip #v[a,b]) n l) Z S) Q:=by
 obtain⟨w,D,s,z⟩:=bC B A;obtain⟨w2,S1,u,r,t,rfl,rfl,d,ht,k1⟩:=bC ob z;have d:=d;have o:iH (L.map f) (L.map g)=L.map λx=>W.tup [f x,g x]:=by
  unfold iH;rw[Vi,List.zipWith_self]
 have hi:ip M (.zip #v[a,b]) Z S=aB (.zl r t,S1):=by
  dsimp only at d ht;simp only[ip,bW,b6,gA,zX,s,u,GH,aG d,aG ht]
 dsimp only at d ht k1;show o8 L (λx=>W.tup [f x,g x]) p h (λZ=>∃a b,Z=ba::a::b::R) (λx=>ba::aB (f x)::aB (g x)::R) (λ_ _ _ h=>let ⟨_,_,e⟩:=h;e ▸ #[rfl,_,_,rfl]) C oc #[_,_,hc] hl hi k1 (λi S' h=>by simp only[MI.at,aG (h.get _ _ d),aG (h.get _ _ ht),o]) (by simp only[MI.len,aG d,aG ht,o]) j k
def HW (L:Nb Pt):W.ts (L.map bH)=aB (L.map fu):=by rw[<- tf];show T.ws_ts _
abbrev aW:Ss:=
 #v[.set 2 (.lst .nil),.set 3 (.lst #v[.tup .nil]),.whl (.cmp .lt (.bi .len #v[.v 2]) (.bi .len #v[.v 1])) #v[.set 4 (.own "longer_orders" 2 #v[.v 3,.bi .len #v[.v 1]]),.set 5 (.comp (.own "point_over" 4 #v[.v 2,.v 3,.sl (.v 1) .no (.yes (.neg (.c (.int 1)))),.ix (.v 1) (.neg (.c (.int 1)))]) (.nm 1) (.seq (.v 4)) .nil [ba,ba,aB 0,aB 1]),.set 6 (.bi .min #v[.v 5]),.ex (.me .append (.v 2) #v[.v 6]),.set 3 (.comp (.v 1) (.tp [1,2]) (.zip #v[.v 4,.v 5]) #v[.cmp .eq (.v 2) (.v 3)] [ba,ba,ba,aB 6])],.ret (.bi .tuple #v[.v 2])]
def HX {ps:Nb Pt}(h:S[l]?=aB (.lst (ps.map bH)))(a:ps≠[])(q:Q (bH (cf ps),S)):wO (Bi.min.fn [.ref l] S) Q:=by
 show ae ?_ q;simp only[Bi.fn,zj,aG h,HW];rw[NK #[by have:=jH ps;unfold dc;omega,nv _],Nw,(nw a).1];rfl
def vE :∀k,(eW bs u k).length<=↥u^k
 |0=>Ny _
 |k+1=>by
  have a:=Pr (λo=>decide (bv bs u o=cf ((aM ↥u (eW bs u k)).map (bv bs u)))) (aM ↥u (eW bs u k))
  have h2:=jd (n:=↥u) (eW bs u k);have b:=Tt ↥u (vE (bs:=bs) (u:=u) k);rw[Nat.pow_succ];show NO a (NO h2 b)
def pk (hfu:30<fuel)(P:Parts defs)(H:Is defs ("longer_orders") 2 4 aN)(hg:Is defs ("least_form") 2 7 aW){a:Np}(hb:GoodB bs)(I:↥ns=↥bs)(hu:GoodW a ↥bs u)(r:↥u<=6)
  (A:∀S',Ka S S'->Q (au (cQ bs u),S')) :
  wO (bh (ag defs fuel (d+3)) "least_form" 2 [.tup [m0,.tup (Nn ap ns bs),b0],au u] S) Q:=by
 show aK hg rfl rfl λU hR=>?_
 replace A:∀S',Ka S S'->U (.rt (au (cQ bs u)),S'):=λS' a=>hR _ _ (A S' a)
 clear hR;change wZ _ _ aW [aB (.tup [m0,.tup (Nn ap ns bs),b0]),aB (au u),ba,ba,ba,ba,ba] S U;generalize C:W.tup [m0,.tup (Nn ap ns bs),b0]=R;have ul:(u.map bH).length=↥u:=Ni ..;delta aW;show st ?_;delta wS wE wA Nv;show st ?_;delta wS wE wA Nv;nofun
 show Fa (λm Z S'=>∃(k q:Np) (X Y a6:Nf W),k+m=↥u/\Z=[aB R,aB (au u),aB (.ref ↥S),aB (.ref q),X,Y,a6]/\S'[↥S]?=aB (.lst ((rP bs u k).map bH))/\S'[q]?=aB (.lst (cY (eW bs u k)))/\Ka S S') ↥u rfl rfl ∅ #[0,(S++[O.lst []]).length,ba,ba,ba,∅,rfl,aD ah,ah,Ka.push.trans .push] ?_
 rintro m Z S1 ⟨k,q,X,Y,a6,hkm,rfl,t,e2,k1⟩;have ok:=ny (bs:=bs) (u:=u) k ∅
 have E:=iN t;delta wT wE wA wV wG;show j5 t (aS ?_);rw[ul,Ni,ok.len];delta DA gk wB;show#[λh=>?_,λh=>?_]
 ·have h:(k:NI)<↥u:=N3 h;have hkn:k<↥u:=∅
  show#[m-1,∅,λQ2 hn _=>?_]
  clear hK A;have D:(eW bs u k).length<=7776:=NO (vE k) (NO (Nat.pow_le_pow_left r k) (Nat.pow_le_pow_right (n:=6) #v[] (show k<=5 by omega)))
  have j:(eW bs u k).length*↥u<=46656:=Nat.mul_le_mul D r;have hll:(aM ↥u (eW bs u k)).length<=46656:=NO (jd _) j;show st ?_;left;show aS ?_;rw[ul];show AX (d:=d+1) H e2 ∅ (λo f=>by have:=((ok.mem o).mp f).2.1;omega) ∅ λl S2 B hl k2=>?_
  have hl:↥S1<=l:=hl;have N:aM ↥u (eW bs u k)≠[]:=by
   obtain⟨o,f⟩:=QT _ ok.ne;obtain⟨h1,h2,_⟩:=(ok.mem o).mp f;obtain⟨p,L,g⟩:=rB h1 ∅
   show Sd (eF.mpr #[o,f,p,L,g,rfl])
  show st ?_;delta wS wE Nv;show tJ (aM ↥u (eW bs u k)) (λo=>.tup (aJ o)) (λ_=>true) (λo=>bH (bv bs u o)) [aB R,aB (au u)] rfl rfl rfl rfl ∅ #[l,rfl,B,.refl] (λo f b k3=>?_) λb k3=>?_
  ·obtain⟨o,J,p,L,g,rfl⟩:=eF.mp f;obtain⟨⟨o1,o2⟩,o3,_⟩:=(ok.mem o).mp J;delta jF wC wE wA wP wV wG wN;show#[λ_=>?_,λz=>by cases z]
   show ae (show fA (.tup (aJ (o++[p]))) ba (aB (-1)) b=aB (.tup (aJ o),b) by revert fA rj xI Tu) ?_
   dsimp only;show ae (D2 (by simp)) ?_
   dsimp only;subst C;rw[Tv,gq];show HF (d:=d) P hb I hu (λx hx=>#[o2 x hx,λe=>g (e▸hx)]) L ∅ λs y=>#[rfl,rfl,y]
  rw[cL];have em:(aM ↥u (eW bs u k)).map (λo=>bH (bv bs u o))=((aM ↥u (eW bs u k)).map (bv bs u)).map bH:=by rw[O2];rfl
  rw[em];have w:(b++[O.lst (((aM ↥u (eW bs u k)).map (bv bs u)).map bH)])[↥b]?=aB (.lst (((aM ↥u (eW bs u k)).map (bv bs u)).map bH)):=ah;have i:=aD (u:=O.lst (((aM ↥u (eW bs u k)).map (bv bs u)).map bH)) (k3.get _ _ B);have c:=aD (u:=O.lst (((aM ↥u (eW bs u k)).map (bv bs u)).map bH)) (k3.get _ _ (k2.get _ _ t));have T:↥S<↥b:=NS E (NO k2.len k3.len);have y:Ka S (b++[O.lst (((aM ↥u (eW bs u k)).map (bv bs u)).map bH)]):=((k1.trans k2).trans k3).trans .push;generalize b++[O.lst (((aM ↥u (eW bs u k)).map (bv bs u)).map bH)]=s at w i c y;generalize G:↥b=l5 at w T;clear e2 B k3 k2 G;show st ?_;left;show HX w (by simpa using N) ?_
  show st ?_;left;show#[jE c,HH c (by rw[Ni,ok.len];omega) ?_]
  have s1:=dA (o':=O.lst ((rP bs u k).map bH++[bH (cf ((aM ↥u (eW bs u k)).map (bv bs u)))])) c;have s3:(s.set ↥S (O.lst ((rP bs u k).map bH++[bH (cf ((aM ↥u (eW bs u k)).map (bv bs u)))])))[l]?=aB (.lst (cY (aM ↥u (eW bs u k)))):=by rw[gJ ∅];show i
  have s4:(s.set ↥S (O.lst ((rP bs u k).map bH++[bH (cf ((aM ↥u (eW bs u k)).map (bv bs u)))])))[l5]?=aB (.lst (((aM ↥u (eW bs u k)).map (bv bs u)).map bH)):=by rw[gJ ∅];show w
  have k5:=y.late (o:=O.lst ((rP bs u k).map bH++[bH (cf ((aM ↥u (eW bs u k)).map (bv bs u)))])) (Ny ↥S);generalize s.set ↥S (O.lst ((rP bs u k).map bH++[bH (cf ((aM ↥u (eW bs u k)).map (bv bs u)))]))=S5 at s1 s3 s4 k5;show st ?_;delta wS wE Nv;show HV (aM ↥u (eW bs u k)) (λo=>.tup (aJ o)) (λo=>bH (bv bs u o)) (λo=>decide (bv bs u o=cf ((aM ↥u (eW bs u k)).map (bv bs u)))) (λo=>.tup (aJ o)) [aB (bH (cf ((aM ↥u (eW bs u k)).map (bv bs u))))] rfl rfl rfl rfl rfl ∅ #[l,l5,rfl,rfl,s3,by rw[em];show s4,.refl] (λo f V M=>?_) λV M=>?_
  ·delta jF wC wT wE wV wG;show ae Kv ?_;delta wB;show#[λz=>#[z,rfl,.refl],λz=>#[z,.refl]]
  ·show cW (hn _ _ #[k+1,↥V,_,_,_,∅,rfl,?_,ah,(k5.trans M).trans .push])
   have:=aD (u:=O.lst (((aM ↥u (eW bs u k)).filter λo=>decide (bv bs u o=cf ((aM ↥u (eW bs u k)).map (bv bs u)))).map λo=>W.tup (aJ o))) (M.get _ _ s1)
   rw[this,show rP bs u (k+1)=rP bs u k++[cf ((aM ↥u (eW bs u k)).map (bv bs u))]from rfl,Oj];rfl
 ·have h:¬ (k:NI)<↥u:=P9 h;obtain rfl:k=↥u:=∅
  show hK _ _ (st ?_);left;show dO t (A _ k1)
abbrev lU:Ss:=
 #v[.ret (.and (.isi "int" (.v 0)) (.not (.isi "bool" (.v 0))))]
abbrev gN:Ss:=
 #v[.ret (.and (.isi "tuple" (.v 0)) (.cmp .eq (.bi .len #v[.v 0]) (.v 1)))]
abbrev jh:Ss:=
 #v[.ret (.and (.own pa 2 #v[.v 0,.v 1]) (.bi .all #v[.comp (.own px 1 #v[.v 1]) (.nm 1) (.seq (.v 0)) .nil [ba,ba]]))]
abbrev lV:Ss:=
 #v[.ite (.not (.own qq 2 #v[.v 1,.v 2])) #v[.ret (.c (.bl false))] .nil,.set 3 (.chn .le .lt (.c (.int 0)) (.ix (.v 1) (.c (.int 0))) (.bi .len #v[.ix (.v 0) (.c (.int 0))])),.ret (.and (.v 3) (.bi .all #v[.comp (.chn .le .lt (.c (.int 0)) (.v 1) (.bi .len #v[.ix (.v 2) (.c (.int 1))])) (.nm 1) (.seq (.ix (.v 1) (.c (.int 1)))) .nil [ba,ba,aB 0]]))]
abbrev eG:Ss:=
 #v[.ret (.and (.own pa 2 #v[.v 0,.c (.int 2)]) (.and (.own px 1 #v[.ix (.v 0) (.c (.int 0))]) (.own "is_numbers" 2 #v[.ix (.v 0) (.c (.int 1)),.v 1])))]
abbrev po:Ss:=
 #v[.ret (.ix (.ix (.ix (.v 0) (.c (.int 1))) (.v 1)) (.c (.int 1)))]
abbrev lW:Ss:=
 #v[.ite (.or (.not (.own pa 2 #v[.v 0,.c (.int 3)])) (.not (.bi .all #v[.comp (.isi "tuple" (.v 1)) (.nm 1) (.seq (.v 0)) .nil [ba,ba]]))) #v[.ret (.c (.bl false))] .nil,.set 1 (.bi .all #v[.comp (.isi "str" (.v 1)) (.nm 1) (.seq (.ix (.v 0) (.c (.int 0)))) .nil [ba,ba]]),.ret (.and (.v 1) (.and (.bi .all #v[.comp (.own "is_way" 1 #v[.v 1]) (.nm 1) (.seq (.ix (.v 0) (.c (.int 1)))) .nil [ba,ba]]) (.bi .all #v[.comp (.own "is_three" 1 #v[.v 1]) (.nm 1) (.seq (.ix (.v 0) (.c (.int 2)))) .nil [ba,ba]])))]
abbrev rD:Ss:=
 #v[.ret (.and (.own pa 2 #v[.v 0,.c (.int 2)]) (.and (.isi "str" (.ix (.v 0) (.c (.int 0)))) (.own px 1 #v[.ix (.v 0) (.c (.int 1))])))]
abbrev lX:Ss:=
 #v[.ret (.and (.own pa 2 #v[.v 0,.c (.int 3)]) (.bi .all #v[.comp (.own qq 2 #v[.v 2,.v 1]) (.tp [1,2]) (.enu #v[.v 0]) .nil [ba,ba,ba]]))]
abbrev fS:Ss:=
 #v[.set 1 (.bi .len #v[.ix (.v 0) (.c (.int 0))]),.set 2 (.bi .len #v[.ix (.v 0) (.c (.int 1))]),.ret (.and (.chn .le .le (.c (.int 1)) (.v 1) (.c (.int 3))) (.and (.chn .le .le (.c (.int 1)) (.v 2) (.c (.int 3))) (.cmp .le (.op .mul (.v 1) (.v 2)) (.c (.int 6)))))]
abbrev cr:Ss:=
 #v[.set 1 (.op .add (.bi .list #v[.ix (.v 0) (.c (.int 0))]) (.comp (.ix (.v 1) (.c (.int 0))) (.nm 1) (.seq (.ix (.v 0) (.c (.int 1)))) .nil [ba,ba])),.ret (.and (.bi .all #v[.comp (.own "is_name" 1 #v[.v 1]) (.nm 1) (.seq (.v 1)) .nil [ba,ba]]) (.cmp .eq (.bi .len #v[.bi .set #v[.v 1]]) (.bi .len #v[.v 1])))]
abbrev nA:Ss:=
 #v[.ite (.or (.cmp .isin (.v 0) (.c (.tup (bY.map W.str)))) (.not (.chn .le .le (.c (.int 1)) (.bi .len #v[.v 0]) (.c (.int 8))))) #v[.ret (.c (.bl false))] .nil,.ret (.bi .all #v[.comp (.cmp .isin (.v 1) (.c (.str "abcdefghijklmnopqrstuvwxyz"))) (.nm 1) (.seq (.v 0)) .nil [ba,ba]])]
abbrev dP:Ss:=
 #v[.ret (.bi .all #v[.comp (.own "is_right_back" 2 #v[.v 2,.v 1]) (.nm 1) (.rng #v[.bi .len #v[.ix (.v 0) (.c (.int 1))]]) .nil [ba,ba,aB 0]])]
abbrev fq:Ss:=
 #v[.set 2 (.own "back" 2 #v[.v 0,.v 1]),.ite (.not (.chn .le .lt (.c (.int 0)) (.v 2) (.bi .len #v[.ix (.v 0) (.c (.int 1))]))) #v[.ret (.c (.bl false))] .nil,.ret (.and (.cmp .le (.bi .abs #v[.op .sub (.v 2) (.v 1)]) (.c (.int 1))) (.cmp .eq (.own "back" 2 #v[.v 0,.v 2]) (.v 1)))]
abbrev dE:Ss:=
 #v[.set 1 (.ix (.v 0) (.c (.int 2))),.set 2 (.bi .all #v[.comp (.cmp .lt (.v 1) (.v 2)) (.tp [1,2]) (.zip #v[.v 1,.sl (.v 1) (.yes (.c (.int 1))) .no]) .nil [ba,ba,ba]]),.ret (.and (.v 2) (.bi .all #v[.comp (.own "is_figure" 2 #v[.v 2,.v 1]) (.nm 1) (.seq (.v 1)) .nil [ba,ba,aB 0]]))]
abbrev j7:Ss:=
 #v[.ite (.not (.bi .all #v[.comp (.own "is_point" 3 #v[.v 3,.v 2,.v 1]) (.tp [1,2]) (.enu #v[.v 1]) .nil [ba,ba,ba,aB 0]])) #v[.ret (.c (.bl false))] .nil,.ret (.cmp .eq (.own "least_form" 2 #v[.v 0,.v 1]) (.v 1))]
abbrev eX:Ss:=
 #v[.ite (.not (.own "has_form" 1 #v[.v 0])) #v[.ret (.tup #v[.c (.str "NoRule"),.c (.str "form")])] .nil,.ite (.not (.own p4 1 #v[.v 0])) #v[.ret (.tup #v[.c (.str "NoRule"),.c (.str "bounds")])] .nil,.ite (.not (.own q7 1 #v[.v 0])) #v[.ret (.tup #v[.c (.str "NoRule"),.c (.str "names")])] .nil,.ite (.not (.own qs 1 #v[.v 0])) #v[.ret (.tup #v[.c (.str "NoRule"),.c (.str "backs")])] .nil,.ite (.not (.own q0 1 #v[.v 0])) #v[.ret (.tup #v[.c (.str "NoRule"),.c (.str "barred")])] .nil,.ret (.tup #v[.c .non,.c (.bl true)])]
structure Look (defs:Nb (Nu×Df)):Prop where
 whole:Is defs ("is_whole": Nu) 1 1 lU
 tupof:Is defs ("is_tuple_of": Nu) 2 2 gN
 nums:Is defs ("is_numbers": Nu) 2 2 jh
 point:Is defs ("is_point": Nu) 3 4 lV
 pform:Is defs ("has_point_form": Nu) 2 2 eG
 back:Is defs ("back": Nu) 2 2 po
 form:Is defs ("has_form": Nu) 1 2 lW
 way:Is defs ("is_way": Nu) 1 1 rD
 three:Is defs ("is_three": Nu) 1 1 lX
 bounds:Is defs ("keeps_bounds": Nu) 1 3 fS
 names:Is defs ("has_right_names": Nu) 1 2 cr
 name:Is defs ("is_name": Nu) 1 1 nA
 backs:Is defs ("has_right_backs": Nu) 1 1 dP
 isback:Is defs ("is_right_back": Nu) 2 3 fq
 barred:Is defs ("has_right_barred": Nu) 1 3 dE
 fig:Is defs ("is_figure": Nu) 2 2 j7
 lookX:Is defs ("look_rule!": Nu) 1 1 eX
 look:Is defs ("look_rule": Nu) 1 1 (E8 "look_rule!" 1)
abbrev j8 (n:Np):W->ND|.tup ws=>↥ws==n&&ws.all fR|_=>false
abbrev kL (n:Np):W->ND|.tup [m,t]=>fR m&&j8 n t|_=>false
abbrev bZ:W->ND|.tup [a,b,c]=>kL 0 a&&(kL 1 b&&kL 2 c)|_=>false
abbrev mw:W->ND|.tup [x,n]=>gL x&&fR n|_=>false
abbrev fT:W->ND|.tup [.tup a,.tup N,.tup B]=>a.all gL&&(N.all mw&&B.all bZ)|_=>false
abbrev il (n:Np):W->ND|.tup xs=>↥xs==n|_=>false
abbrev Cv (M:Nu->FF)(f:Nu)(n:Np)(ws:Nb W)(S:aa)(w:W):Prop:=∀Q:QW,(∀S',Ka S S'->Q (w,S'))->wO (bh M f n ws S) Q
def Cv.ve {f:Nu}(h:Cv M f n ws S w)(a:∀Q:Nb W×aa->Prop,Q (ws,S)->wA M b Z S Q):Ve M Z (.own f n b) S w:=λQ k=>by
 delta wE;show a _ (h Q k)
def Cv.eq {f:Nu}(h:Cv M f n ws S (.bl b))(e:b=c):Cv M f n ws S (.bl c):=e▸h
def lY (h:il n w=true):∃xs,w=.tup xs/\↥xs=n:=by
 cases w with
 |tup xs=>show#[xs,rfl,eq_of_beq h]
 |_=>cases h
def Thg.mem (h:Thg S (.tup xs)):(∀x∈xs,Thg S x)/\↥xs<=100:=by
 cases h with
 |tup h hl=>show#[h,hl]
def cZ {f:Nu}{e :Np}(Z:Fm)(i:Is defs f e nn b)(hl:↥ws=e)(ok:iO b=true)(j:ws.map aB++Ox (nn-e) ba=Z)(h:∀c:QO,(∀S',Ka S S'->c (.rt w,S'))->wZ (ag defs fuel d) fuel b Z S c):Cv (ag defs fuel (d+1)) f e ws S w:=λQ k=>aK i hl ok λc g=>j▸h c λS' a=>g _ _ (k S' a)
def pr (L:Look defs)(h:Thg S w):Cv (ag defs fuel (d+1)) px 1 [w] S (.bl (fR w)):=cZ [aB w] L.whole rfl rfl rfl λb k=>by
 show cx (gM (x:=(fR w||D4 w) && !D4 w) (by cases w<;>rfl) (bG (pc (λQ q=>q) h.n) λ_ S' a=>?_)) k
 intro Q q;delta wE wV wG;show ae (h.ka a).b (q _ .refl)
def ji (L:Look defs){n:Np}(h:Thg S w):Cv (ag defs fuel (d+1)) pa 2 [w,.int n] S (.bl (il n w)):=cZ [aB w,aB (.int n)] L.tupof rfl rfl rfl λa k=>by
 show cx (gM (x:=D3 w&&il n w) (by cases w<;>rfl) (bG (pc (λQ q=>q) h.t) λz S' _=>?_)) k
 cases w with
 |tup xs=>
  intro Q q;delta wE wA wV wG;show aS (ae hG ?_);have e:((↥xs:NI)==(n:NI))=(↥xs==n):=by rw[VB,Pu,Pu];omega
  rw[e];show q _ .refl
 |_=>cases z
def HY (L:Look defs){n:Np}(h:Thg S w):Cv (ag defs fuel (d+2)) "is_numbers" 2 [w,.int n] S (.bl (j8 n w)):=cZ [aB w,aB (.int n)] L.nums rfl rfl rfl λf k=>by
 show cx (gM (x:=il n w&&j8 n w) (by cases w with
  |tup xs=>show((↥xs==n)&&((↥xs==n)&&_))=((↥xs==n)&&_);cases ↥xs==n<;>rfl
  |_=>rfl) (bG ((ji (d:=d) L h).ve λQ q=>q) λz S' c=>?_)) k
 obtain⟨xs,rfl,e⟩:=lY z;obtain⟨b,hl⟩:=h.mem;show gM (x:=xs.all fR) (by change _=(↥xs==n&&xs.all fR);rw[e,Ot,P1]) ?_
 show ik xs id fR [] rfl rfl rfl ∅ #[by rw[Sl],.refl] λx a S2 k2=>?_
 show(pr (d:=d) L ((b x a).ka (c.trans k2))).ve λQ q=>q
def vF (L:Look defs){n:Np}(h:Thg S w):Cv (ag defs fuel (d+3)) qq 2 [w,.int n] S (.bl (kL n w)):=cZ [aB w,aB (.int n)] L.pform rfl rfl rfl λc k=>by
 by_cases z:il 2 w=true
 ·obtain⟨xs,rfl,e⟩:=lY z;obtain⟨a,_⟩:=h.mem;obtain⟨m,t,rfl⟩:∃m t,xs=[m,t]:=match xs,e with|[m,t],_=>#[m,t,rfl]
  show cx (gM (x:=true&&(fR m&&j8 n t)) rfl (bG ((ji (d:=d+1) (n:=2) L h).ve λQ q=>q) λ_ S' b=>bG (λQ q=>?_) λ_ S2 k2=>λQ q=>?_)) k
  ·delta wE wA wV wG;show aC #v[] rfl (pr (d:=d+1) L ((a m NH).ka b) Q q)
  ·delta wE wA wV wG;show aC #v[] rfl (HY (d:=d) L ((a t (NL _ NH)).ka (b.trans k2)) Q q)
 ·have z:il 2 w=false:=OU.mpr z;have e:kL n w=false:=by
   unfold kL;split
   ·cases z
   ·rfl
  show cx (gM (x:=il 2 w&&true) (by rw[z,e];rfl) (bG (y:=true) ((ji (d:=d+1) (n:=2) L h).ve λQ q=>q) λy=>by rw[z]at y;cases y)) k
def D7 (L:Look defs)(h:Thg S w):Cv (ag defs fuel (d+2)) "is_way" 1 [w] S (.bl (mw w)):=cZ [aB w] L.way rfl rfl rfl λc k=>by
 by_cases z:il 2 w=true
 ·obtain⟨xs,rfl,e⟩:=lY z;obtain⟨a,_⟩:=h.mem;obtain⟨m,t,rfl⟩:∃m t,xs=[m,t]:=match xs,e with|[m,t],_=>#[m,t,rfl]
  show cx (gM (x:=true&&(gL m&&fR t)) rfl (bG ((ji (d:=d) (n:=2) L h).ve λQ q=>q) λ_ S' b=>bG (λQ q=>?_) λ_ S2 k2=>λQ q=>?_)) k
  ·delta wE wA wV wG;show aC #v[] rfl (ae ((a m NH).ka b).s (q _ .refl))
  ·delta wE wA wV wG;show aC #v[] rfl (pr (d:=d) L ((a t (NL _ NH)).ka (b.trans k2)) Q q)
 ·have z:il 2 w=false:=OU.mpr z;have e:mw w=false:=by
   unfold mw;split
   ·cases z
   ·rfl
  show cx (gM (x:=il 2 w&&true) (by rw[z,e];rfl) (bG (y:=true) ((ji (d:=d) (n:=2) L h).ve λQ q=>q) λy=>by rw[z]at y;cases y)) k
def D8 (L:Look defs)(h:Thg S w):Cv (ag defs fuel (d+4)) "is_three" 1 [w] S (.bl (bZ w)):=cZ [aB w] L.three rfl rfl rfl λj k=>by
 by_cases z:il 3 w=true
 ·obtain⟨xs,rfl,e⟩:=lY z;obtain⟨f,_⟩:=h.mem;obtain⟨a,b,c,rfl⟩:∃a b c,xs=[a,b,c]:=match xs,e with|[a,b,c],_=>#[a,b,c,rfl]
  show cx (gM (x:=true&&([a,b,c].zipIdx.all λp=>kL p.2 p.1)) (by simp[bZ,List.zipIdx]) (bG ((ji (d:=d+2) (n:=3) L h).ve λQ q=>q) λ_ S' g=>?_)) k
  show Bb [a,b,c] id (λi x=>kL i x) [] rfl rfl rfl (by change 3<=1000000;decide) #[rfl,.refl] λi x hi S2 k2=>?_
  show(vF (d:=d) L ((f x (NT hi)).ka (g.trans k2))).ve λQ q=>q
 ·have z:il 3 w=false:=OU.mpr z;have e:bZ w=false:=by
   unfold bZ;split
   ·cases z
   ·rfl
  show cx (gM (x:=il 3 w&&true) (by rw[z,e];rfl) (bG (y:=true) ((ji (d:=d+2) (n:=3) L h).ve λQ q=>q) λy=>by rw[z]at y;cases y)) k
def Bf (L:Look defs)(h:Thg S w):Cv (ag defs fuel (d+5)) "has_form" 1 [w] S (.bl (fT w)):=cZ [aB w,ba] L.form rfl rfl rfl λA k=>by
 by_cases z:il 3 w=true
 ·obtain⟨xs,rfl,e⟩:=lY z;obtain⟨j,_⟩:=h.mem;obtain⟨a,b,c,rfl⟩:∃a b c,xs=[a,b,c]:=match xs,e with|[a,b,c],_=>#[a,b,c,rfl]
  have p:=j a NH;have r:=j b (NL _ NH);have hc:=j c (NL _ (NL _ NH));show bz λK hK=>pe (x:=false ||!([a,b,c].all D3)) (vB (x:=false) (eV (x:=true) (o9 ((ji (d:=d+3) (n:=3) L h).ve λQ q=>q))) λ_ S' i=>eV (Fd (ik [a,b,c] id D3 [] rfl rfl rfl (by change 3<=1000000;decide) #[rfl,.refl] λx f S2 k2=>pc (λQ q=>q) ((j x f).ka (i.trans k2)).t))) (λz S' i=>#[tR,λS2 k2=>?_]) λz S1 k1=>hK _ _ ?_
  ·have:fT (.tup [a,b,c])=false:=by
    unfold fT;split
    next e=>injection e with e;injection e with e1 e;injection e with e2 e;injection e with e3 _;subst e1 e2 e3;cases z
    ·rfl
   rw[this]at k;show k _ (i.trans k2)
  ·clear hK K;cases a with
   |tup g=>
    cases b with
    |tup N=>
     cases c with
     |tup B=>
      obtain⟨t,E⟩:=p.mem;obtain⟨u,G⟩:=r.mem;obtain⟨s,D⟩:=hc.mem;show lS (w:=.bl (g.all gL)) (ik g id gL [] rfl rfl rfl ∅ (by delta wE wV wG;show aC #v[] rfl #[by rw[Sl],.refl]) λx f S2 k2=>pc (λQ q=>q) ((t x f).ka (k1.trans k2)).s) λS2 k2=>?_
      show cx (bG (x:=g.all gL) (rn λQ q=>q) λ_ m k3=>bG (x:=N.all mw) (y:=B.all bZ) ?_ λ_ o l=>?_) λm k3=>k _ (k1.trans (k2.trans k3))
      ·show ik N id mw [] rfl rfl rfl ∅ ?_ λx f o l=>?_
       ·delta wE wV wG Nv;show aC #v[] rfl #[by rw[Sl],.refl]
       ·show(D7 (d:=d+2) L ((u x f).ka (k1.trans (k2.trans (k3.trans l))))).ve λQ q=>q
      ·show ik B id bZ [] rfl rfl rfl ∅ ?_ λx f C k5=>?_
       ·delta wE wV wG Nv;show aC #v[] rfl #[by rw[Sl],.refl]
       ·show(D8 (d:=d) L ((s x f).ka (k1.trans (k2.trans (k3.trans (l.trans k5)))))).ve λQ q=>q
     |_=>cases z
    |_=>cases z
   |_=>cases z
 ·have z:il 3 w=false:=OU.mpr z;have e:fT w=false:=by
   unfold fT;split
   ·cases z
   ·rfl
  rw[e]at k;show bz λK hK=>pe (x:=true||true) (vB (x:=true) (Fe (by rw[z];rfl) (eV (o9 ((ji (d:=d+3) (n:=3) L h).ve λQ q=>q)))) λy=>by cases y) (λz S' i=>#[tR,λS2 k2=>k _ (i.trans k2)]) λy=>by cases y
abbrev dQ (x y:NI):ND:=(decide (1<=x)&&decide (x<=3))&&((decide (1<=y)&&decide (y<=3))&&decide (x*y<=6))
abbrev dF (y:Nu):ND:=!(decide (y∈bY))&&((decide (1<=(↥y:NI))&&decide ((↥y:NI)<=8))&&D6 y)
abbrev dG (L:Nb Nu):ND:=L.all dF&&((ft L).length==↥L)
def vG:∀(ss c:Nb Nu),(ss.foldl fG c).length<=↥c+↥ss/\((ss.foldl fG c).length=↥c+↥ss->ss.Nodup/\∀x∈ss,x∉c)
 |[],c=>#[Ny _,λ_=>#[Tr,λ_ h=>nomatch h]]
 |x::ss,c=>by
  rw[RD,Og];obtain⟨f,h2⟩:=vG ss (fG c x)
  by_cases g:x∈c
  ·have e:fG c x=c:=by unfold fG;rw[NK g]
   rw[e]at f h2 ⊢;show#[∅,λz=>∅]
  ·have e:fG c x=c++[x]:=by unfold fG;rw[N1 g]
   rw[e]at f h2 ⊢;rw[Nq]at f h2;show#[by simp at f;omega,λz=>?_]
   obtain⟨a,b⟩:=h2 (by simp;omega)
   show#[PM.mpr #[λy=>b x y (by simp),a],λy i d=>?_]
   rcases NE.mp i with rfl|i
   ·show g d
   ·show b y i (Ob _ d)
def xK (h:¬ L.Nodup):dG L=false:=by
 unfold dG ft;have:(L.foldl fG []).length≠↥L:=λe=>h ((vG L []).2 (by rw[e];simp)).1
 rw[VC this,OT]
def xL (a:y∈L)(h:dF y=false):dG L=false:=by
 unfold dG;have:L.all dF=false:=OU.mpr λz=>by rw[NB.mp z y a]at h;cases h
 rw[this,Qm]
def HZ (h:S[i]?=aB (.lst (ss.map W.str)))(hl:↥ss<=100)(q:Q (.ref ↥S,S++[.sts (ft ss)])):wO (Bi.set.fn [.ref i] S) Q:=by
 show ae ?_ q;delta Bi.fn nY;simp only[aG h,mN];rw[NK (by unfold scanBound;omega)]
def Ic (h:S[i]?=aB (.sts ss))(q:Q (.int ↥ss,S)):wO (Bi.len.fn [.ref i] S) Q:=by
 show ae (a:=(.int ↥ss,S)) ?_ q;have b:lj S i=ba:=by simp[lj,h]
 have h2:fw S i=ba:=by simp[fw,h]
 have c:Jo S i=aB ss:=by simp[Jo,h]
 delta Bi.fn Dt qk nV Do;revert b h2 c Option.map_none
abbrev cM (bs:Nb NI)(k:Np):ND:=(decide (0<=bs.getD k 0)&&decide (bs.getD k 0<(↥bs:NI)))&&(decide ((if bs.getD k 0-(k:NI)<0 then -(bs.getD k 0-(k:NI))else bs.getD k 0-(k:NI))<=1)&&(bs.getD (bs.getD k 0).toNat 0==(k:NI)))
def Bg (a:↥ns=↥bs)(h:bs[k]?=aB b):∃y,(Nn ap ns bs)[k]?=aB (ap y b):=by
 have hk:=(NA.mp h).1;show#[ns[k]'∅,?_]
 rw[Rp,h,Nt ∅]
def Kx {r:Nf W}(a : -(2^64)<y)(h2:y<2^64):Ve M [r,aB (.int x),aB (.int y)] (.cmp .le (.op .mul (.v 1) (.v 2)) (.c (.int 6))) S (.bl (decide (x*y<=6))):=λQ k=>by
 change wE M (.op .mul (.v 1) (.v 2)) [r,aB (.int x),aB (.int y)] S λp=>wO (ci .le p.1 (.int 6) p.2) Q
 show Ku (x:=x) (y:=y) (λQ q=>q) (λQ q=>q) a h2 ?_
 dsimp only;generalize x*y=z at k;show ae (show ci .le (.int z) (.int 6) S=aB (.bl (decide (z<=6)),S)from rfl) (k _ .refl)
def Bh {r:W}{a:QO}(k:∀S',Ka S S'->a (.rt (.bl (dQ x y)),S')):wZ M fuel #v[.ret (.and (.chn .le .le (.c (.int 1)) (.v 1) (.c (.int 3))) (.and (.chn .le .le (.c (.int 1)) (.v 2) (.c (.int 3))) (.cmp .le (.op .mul (.v 1) (.v 2)) (.c (.int 6)))))] [aB r,aB (.int x),aB (.int y)] S a:=by
 show cx (bG (pd (p:=λj n=>decide (j<=n)) (λQ q=>q) (λQ q=>q) (λQ q=>q) rfl) λ_ S1 k1=>bG (pd (p:=λj n=>decide (j<=n)) (λQ q=>q) (λQ q=>q) (λQ q=>q) rfl) λz S2 k2=>?_) k
 rw[Nj]at z;have b:=N3 z.1;have c:=N3 z.2;show Kx ∅ ∅
def Bj (L:Look defs){ a:Nb W}:Cv (ag defs fuel (d+1)) p4 1 [.tup [.tup xs,.tup a,b0]] S (.bl (dQ ↥xs ↥a)):=cZ [aB (.tup [.tup xs,.tup a,b0]),ba,ba] L.bounds rfl rfl rfl λb k=>by
 show lS (w:=.int ↥xs) (λQ q=>?_) λS1 k1=>lS (w:=.int ↥a) (λQ q=>?_) λS2 k2=>Bh λc k3=>k _ (k1.trans (k2.trans k3))
 ·delta wE wA wV wG;show aC #v[] rfl (aS (q _ .refl))
 ·delta wE wA wV wG Nv;show aC #v[] rfl (aS (q _ .refl))
def Bk (L:Look defs)(h:Asc y):Cv (ag defs fuel (d+1)) "is_name" 1 [.str y] S (.bl (dF y)):=cZ [aB (.str y)] L.name rfl rfl rfl λf k=>by
 have hl:↥y.cps.toList<=1000:=by have:=h.len;rwa [iZ]at this
 have a:∀c∈y.cps.toList,c<128:=λc hc=>by
  have:=h.lo;rw[<- Vj,NB]at this;show N3 (this c hc)
 show bz λK hK=>pe (x:=decide (y∈bY) ||!(decide (1<=(↥y:NI))&&decide ((↥y:NI)<=8))) (vB (tL (tP (λQ q=>q) (λQ q=>q) A7)) λ_ S' _=>eV (tQ (p:=λj n=>decide (j<=n)) (λQ q=>q) (λQ q=>?_) (λQ q=>q) rfl)) (λz S' b=>#[tR,λS2 k2=>?_]) λz S1 k1=>hK _ _ (cx (w:=.bl (D6 y)) ?_ λS2 k2=>?_)
 ·delta wE wA wV wG;show HJ h.len q
 ·have e:dF y=false:=by
   unfold dF;generalize(decide (1<=(↥y:NI))&&decide ((↥y:NI)<=8))=p at z ⊢;generalize decide (y∈bY)=q at z ⊢;cases p<;>cases q<;>first|rfl|cases z
  rw[e]at k;show k _ (b.trans k2)
 ·show HL y Ba [] rfl rfl rfl ∅ h.lo #[rfl,.refl] λc hc S2 _=>tP (λQ q=>q) (λQ q=>q) (D5 (a c hc))
 ·have e:dF y=D6 y:=by
   unfold dF;generalize(decide (1<=(↥y:NI))&&decide ((↥y:NI)<=8))=p at z ⊢;generalize decide (y∈bY)=q at z ⊢;cases p<;>cases q<;>first|rfl|cases z
  rw[e]at k;show k _ (k1.trans k2)
def D9 (L:Look defs){a :Nb Nu}(l:↥ns=↥bs)(hl:(a++ns).length<=100)(g:∀y∈a++ns,Asc y):Cv (ag defs fuel (d+2)) q7 1 [.tup [.tup (a.map W.str),.tup (Nn ap ns bs),b0]] S (.bl (dG (a++ns))):=cZ [aB (.tup [.tup (a.map W.str),.tup (Nn ap ns bs),b0]),ba] L.names rfl rfl rfl λj k=>by
 delta cr;have i:Nn ap ns bs=(ns.zip bs).map λp=>ap p.1 p.2:=by rw[VY,Rw]
 have c:(ns.zip bs).map (λp=>W.str p.1)=ns.map W.str:=by
  rw[show(λp:Nu×NI=>W.str p.1)=W.str∘WK from rfl,<- O2,Vk ∅]
 rw[Nq]at hl;nofun
 left;show aC #v[] rfl ?_
 show ae (show Bi.list.fn [.tup (a.map W.str)] S=aB (.ref ↥S,S++[.lst (a.map W.str)])from rfl) ?_
 show AZ (ns.zip bs) (λp=>ap p.1 p.2) (λ_=>true) (λp=>W.str p.1) [] rfl rfl rfl rfl (by rw[RM];omega) (by delta wE wV wG;show aC #v[] rfl #[congrArg W.tup i,.refl]) (λp _ S' _=>?_) λS1 k1=>?_
 ·delta jF wC wE wA wV wG ap;show#[λ_=>aC #v[] rfl #[rfl,rfl,.refl],λz=>by cases z]
 rw[cL,c];dsimp only;show ae (fP (aD (k1.get _ _ ah)) ah (dj (by rw[Nq,Ni,Ni];omega))) ?_
 rw[<- Oj];show hK _ _ ?_;have b:(S1++[O.lst (ns.map W.str)]++[O.lst ((a++ns).map W.str)])[(S1++[O.lst (ns.map W.str)]).length]?=aB (.lst ((a++ns).map W.str)):=ah;have k2:Ka S (S1++[O.lst (ns.map W.str)]++[O.lst ((a++ns).map W.str)]):=(Ka.push.trans k1).trans (Ka.push.trans .push);generalize S1++[O.lst (ns.map W.str)]++[O.lst ((a++ns).map W.str)]=S2 at b k2 ⊢;generalize(S1++[O.lst (ns.map W.str)]).length=t at b ⊢;clear hK K k1;show cx (w:=.bl (dG (a++ns))) (bG (HK (a++ns) W.str dF [] rfl rfl rfl (by rw[Nq];omega) #[t,rfl,b,.refl] λy h S' _=>(Bk (d:=d) L (g y h)).ve λQ q=>q) λ_ f k3=>λQ q=>?_) λf k3=>k _ (k2.trans k3)
 delta wE wA wV wG;have e:=k3.get _ _ b;show HZ e (by rw[Nq];omega) ?_
 show Ic ah (j5 (aD e) (ae hG ?_));rw[Ni,show(((ft (a++ns)).length:NI)==((a++ns).length:NI))=((ft (a++ns)).length==(a++ns).length) by rw[VB,Pu,Pu];omega]
 show q _ .push
def Ig (L:Look defs)(e:↥ns=↥bs)(h:bs[k]?=aB b)(q:Q (.int b,S)):wO (bh (ag defs fuel (d+1)) "back" 2 [.tup [m0,.tup (Nn ap ns bs),b0],.int k] S) Q:=by
 show aK L.back rfl rfl λa c=>?_
 change wZ _ _ po [aB (.tup [m0,.tup (Nn ap ns bs),b0]),aB (.int (k:Np))] S a;obtain⟨y,f⟩:=Bg e h;delta po;show st ?_;delta wS wE wV wG;show aC #v[] rfl (aC (NW k) (by rw[NQ];show f) (aC #v[] rfl (c _ _ q)))
def Bl (L:Look defs)(e:↥ns=↥bs)(hk:k<↥bs):Cv (ag defs fuel (d+2)) "is_right_back" 2 [.tup [m0,.tup (Nn ap ns bs),b0],.int k] S (.bl (cM bs k)):=cZ [aB (.tup [m0,.tup (Nn ap ns bs),b0]),aB (.int (k:Np)),ba] L.isback rfl rfl rfl λm q=>by
 have l:(Nn ap ns bs).length=↥bs:=by rw[O3,e];omega
 have c:bs[k]?=aB (bs.getD k 0):=by rw[Oa,Nt hk];rfl
 have bk:=λ(S:aa) (Q:QW) (k:Np) (b:NI) (h:bs[k]?=aB b)=>Ig (fuel:=fuel) (d:=d) (S:=S) (Q:=Q) (m0:=m0) (b0:=b0) L e h
 have f:∀(S:aa) (Q:QW),Q (.int (↥bs:NI),S)->wO (mR (.tup [m0,.tup (Nn ap ns bs),b0]) (.int 1) S) λp=>wO (Bi.len.fn [p.1] p.2) Q:=λS Q q=>by
  show aC #v[] rfl (aS ?_)
  rw[l];show q
 generalize W.tup [m0,.tup (Nn ap ns bs),b0]=R at bk f ⊢;unfold cM at q;generalize o:bs.getD k 0=b at c q;show lS (w:=.int b) (λQ a=>?_) λS1 k1=>?_
 ·delta wE wA wV wG;show bk _ _ k b c (a _ .refl)
 show bz λK hK=>pe (x:=!(decide (0<=b)&&decide (b<(↥bs:NI)))) (eV (tQ (p:=λj n=>decide (j<n)) (λQ q=>q) (λQ q=>q) (λQ q=>?_) rfl)) (λz S' a=>#[tR,λS2 k2=>?_]) λz S2 k2=>hK _ _ ?_
 ·delta wE wA wV wG Nv;show f _ _ q
 ·rw[show(decide (0<=b)&&decide (b<(↥bs:NI)))=false from OU.mpr λy=>(by rw[y]at z;cases z),Qm]at q
  show q _ (k1.trans (a.trans k2))
 ·clear hK K;have z:(decide (0<=b)&&decide (b<(↥bs:NI)))=true:=by simpa using z
  rw[z,P1]at q;rw[Nj]at z;have r:=N3 z.1;have s:=N3 z.2;obtain⟨j,rfl⟩:∃j:Np,b=j:=#[b.toNat,∅]
  show cx (bG (x:=decide ((if (j:NI)-(k:NI)<0 then -((j:NI)-(k:NI))else(j:NI)-(k:NI))<=1)) (y:=bs.getD (j:NI).toNat 0==(k:NI)) (λQ q=>?_) λ_ g k3=>λQ q=>?_) λg k3=>q _ (k1.trans (k2.trans k3))
  ·delta wE wA wV wG Nv jV gk;show ae (show Bi.abs.fn [.int ((j:NI)-(k:Np))] S2=aB (.int (if (j:NI)-(k:Np)<0 then -((j:NI)-(k:Np))else(j:NI)-(k:Np)),S2)from rfl) ?_
   show ae LV (q _ .refl)
  ·delta wE wA wV wG Nv;have i:bs[j]?=aB (bs.getD (j:NI).toNat 0):=by rw[NQ,Oa,Nt ∅];rfl
   show bk _ _ j _ i (ae hG (q _ .refl))
def Ea (L:Look defs)(a:↥ns=↥bs)(f:↥bs<=1000):Cv (ag defs fuel (d+3)) qs 1 [.tup [m0,.tup (Nn ap ns bs),b0]] S (.bl ((N2 ↥bs).all (cM bs))):=cZ [aB (.tup [m0,.tup (Nn ap ns bs),b0])] L.backs rfl rfl rfl λe k=>by
 have c:(Nn ap ns bs).length=↥bs:=by rw[O3,a];omega
 show cx (HM ↥bs (cM bs) [aB (.tup [m0,.tup (Nn ap ns bs),b0])] rfl rfl rfl ∅ ?_ λx b S' _=>?_) k
 ·delta wE wA wV wG;show aC #v[] rfl (aS #[by rw[c],.refl])
 ·show(Bl (d:=d) L a b).ve λQ q=>q
def gw :t∈aH↔Ord 3 t/\↥t=3:=by
 rw[show(t∈aH)↔t∈tU 3 by
  constructor
  ·intro h;show(by decide:∀x∈aH,x∈tU 3) t h
  ·intro h;show(by decide:∀x∈tU 3,x∈aH) t h]
 show ph
def Ih :∃t∈aH,ig bs u=aw bs u t/\∀s∈aH,dU (ce (aw bs u s)) (ce (ig bs u))=aB false:=by
 obtain⟨x,a,h2,c⟩:=rq (ks:=(aH.map (aw bs u)).map ce) (λx f=>by obtain⟨p,_,rfl⟩:=NN.mp f;show ii p) (eD _) (by(delta aH;simp))
 rw[Nw,Nk]at a;obtain⟨v,b,rfl⟩:=a;have e:ig bs u=v:=by unfold ig;rw[Oa,b];rfl
 rw[e];obtain⟨t,ht,rfl⟩:=NN.mp (NT b);show#[t,ht,rfl,λs d=>c _ (NN.mpr #[_,NN.mpr #[s,d,rfl],rfl])]
def xP (h:↥u=3):ig bs u=cQ bs u:=by
 obtain⟨t,ht,e,f⟩:=Ih;obtain⟨o,c,h2,d⟩:=jg;have hl:∀t∈aH,dU (ce (aw bs u t)) (ce (cQ bs u))=aB false:=λt ht=>by
  obtain⟨a,b⟩:=gw.mp ht;rw[<- h]at a b;show(ny   ↥u (Ny _)).least t a b
 show jc (vC (ii _) ?_ ?_)
 ·rw[e];show hl t ht
 ·rw[<- d];rw[h]at c h2;show f o (gw.mpr #[c,h2])
def eI (h:x∈qY n):0<=x/\x<n:=by
 obtain⟨k,hk,rfl⟩:=NN.mp h;have:=Oh.mp hk;omega
def tV {a :Np}(h:u∈qZ a n):GoodW a n u/\↥u=3:=by
 unfold qZ at h;simp only[Rv,NN]at h;obtain⟨m0,e,j,f,k,h2,l,b,w2,c,w3,d,rfl⟩:=h;show#[?_,rfl];have g:GoodW a n ([]++[(m0,[])]):=GoodW.nil.snoc (eI e) rfl (λw hw=>nomatch hw)
 have i:=g.snoc (eI f) rfl (λw hw=>by rw[NX.mp hw];show eI b)
 show i.snoc (eI h2) rfl (λw hw=>by
  simp only[NE,Oc,Pk]at hw;rcases hw with rfl|rfl
  ·show eI c
  ·show eI d)
def Ii {a:Np}{g:Wd}(e:GoodB bs)(h:g∈bx a bs):GoodW a ↥bs g/\↥g=3/\cQ bs g=g:=by
 unfold bx at h;rw[R9]at h;obtain⟨u,i,rfl⟩:=NN.mp h;obtain⟨c,f⟩:=tV i;rw[xP f];obtain⟨o,b,h2,d⟩:=jg (bs:=bs) (u:=u);rw[<- d];show#[nu e c b.lt b.nd,by rw[bD,h2,f],by rw[lT e c b h2,d]]
def lZ:∀{us:Nb Wd},Iw (us.map ce)->∀p∈us.zip (us.drop 1),dU (ce p.1) (ce p.2)=aB true
 |[],_,p,a=>nomatch a
 |[_],_,p,a=>nomatch a
 |x::y::us,h,p,a=>by
  have h:List.Pairwise (λx y=>dU x y=aB true) (ce x::ce y::us.map ce):=h
  have a:p∈(x,y)::(y::us).zip ((y::us).drop 1):=a;rw[List.pairwise_cons]at h;rcases NE.mp a with e|a
  ·subst e;show h.1 _ NH
  ·show lZ (us:=y::us) h.2 p a
def Bm:∀(ss a:Nb Nu),(a++ss).Nodup->ss.foldl fG a=a++ss
 |[],a,_=>by rw[ON];rfl
 |x::ss,a,h=>by
  have e:fG a x=a++[x]:=by
   unfold fG;rw[N1];intro z;rw[PH]at h;show h.2.2 x z x NH rfl
  rw[RD,e,Bm ss _ (by rw[O5];show h),O5];rfl
def nB:∀xs a:Nb NI,∃b,bR (xs.map T.int) (a.map T.int)=aB b
 |[],[]=>#[_,rfl]
 |[],_::_=>#[_,rfl]
 |_::_,[]=>#[_,rfl]
 |x::xs,y::a=>by
  change ∃b,(if T.int x=T.int y then bR (xs.map T.int) (a.map T.int)else aB (decide (x<y)))=aB b
  split
  ·show nB xs a
  ·show#[_,rfl]
def Ky (p q:Pt):∃b,dU (fu p) (fu q)=aB b:=by
 change ∃b,(if T.int p.1=T.int q.1 then(if T.tup (p.2.map T.int)=T.tup (q.2.map T.int)then aB false else bR (p.2.map T.int) (q.2.map T.int))else aB (decide (p.1<q.1)))=aB b
 split
 ·split
  ·show#[_,rfl]
  ·show nB _ _
 ·show#[_,rfl]
def Bn:∀u v:Wd,∃b,bR (u.map fu) (v.map fu)=aB b
 |[],[]=>#[_,rfl]
 |[],_::_=>#[_,rfl]
 |_::_,[]=>#[_,rfl]
 |p::u,q::v=>by
  change ∃b,(if fu p=fu q then bR (u.map fu) (v.map fu)else dU (fu p) (fu q))=aB b
  split
  ·show Bn u v
  ·show Ky p q
abbrev BH (u v:Wd):ND:=(dU (ce u) (ce v)).getD false
def Kz :ci .lt (au u) (au v) S=aB (.bl (BH u v),S):=by
 show(match W.t (au u),W.t (au v)with|some a,aB b=>if a.depth<=aX/\b.depth<=aX then(dU a b).map λk=>(W.bl k,S)else ba|_,_=>ba)=_
 rw[AE,AE];dsimp only;obtain⟨b,h⟩:=Bn u v;have h:dU (ce u) (ce v)=aB b:=h;unfold BH;rw[NK #[NO (ja u) #v[],NO (ja v) #v[]],h];rfl
abbrev bM (a n:Np)(p:Pt):ND:=(decide (0<=p.1)&&decide (p.1<(a:NI)))&&p.2.all λx=>decide (0<=x)&&decide (x<(n:NI))
abbrev eJ (a:Np)(bs:Nb NI)(u:Wd):ND:=u.all (bM a ↥bs)&&decide (cQ bs u=u)
abbrev mx (us:Nb Wd):ND:=(us.zip (us.drop 1)).all λp=>BH p.1 p.2
abbrev cy (u:Wd):Prop:=↥u=3/\∀(k:Np) (p:Pt),u[k]?=aB p->↥p.2=k
def Eb {a :Np}(h:cy u)(c:u.all (bM a n)=true):GoodW a n u:=by
 have b:∀(k:Np) (p:Pt),u[k]?=aB p->(0<=p.1/\p.1<(a:NI))/\∀w∈p.2,0<=w/\w<(n:NI):=λk p e=>by
  have:=NB.mp c p (NT e);unfold bM at this;simp only[Nj,NZ,NB]at this;show#[this.1,this.2]
 show#[λk p e=>(b k p e).1,h.2,λk p e=>(b k p e).2]
def tW {a :Np}(h:GoodW a n u):u.all (bM a n)=true:=NB.mpr λp b=>by
 obtain⟨k,e⟩:=Rq.mp b;unfold bM;revert Nj NZ NB;show#[h.mark k p e,h.way k p e]
def Thg.pt {p:Pt}(h:↥p.2<=100):Thg S (bH p):=.tup (λx a=>by
 rcases NE.mp a with rfl|a
 ·show .int
 ·cases NX.mp a;show .tup (λy b=>?_) (by rw[Ni];show h)
  obtain⟨i,_,rfl⟩:=NN.mp b;show .int) (No rfl)
def Ij {ws:Nb NI}:(ws.map W.int).all fR=true:=NB.mpr λx a=>by
 obtain⟨i,_,rfl⟩:=NN.mp a;rfl
def vH {p:Pt}(h:↥p.2=n):kL n (bH p)=true:=by
 show(true&&((p.2.map W.int).length==n&&(p.2.map W.int).all fR))=true;rw[Ni,h,Ij,Ot];rfl
def Ec (L:Look defs){a  :Np}{p:Pt}(g:↥xs=a)(i:↥b=n)(h:↥p.2=s)(o:s<=100):Cv (ag defs fuel (d+4)) "is_point" 3 [.tup [.tup xs,.tup b,b0],bH p,.int s] S (.bl (bM a n p)):=cZ [aB (.tup [.tup xs,.tup b,b0]),aB (bH p),aB (.int s),ba] L.point rfl rfl rfl λl k=>by
 have c:∀(S:aa) (Q:QW),Q (.int (a:NI),S)->wO (mR (.tup [.tup xs,.tup b,b0]) (.int 0) S) λp=>wO (Bi.len.fn [p.1] p.2) Q:=λS Q q=>by
  show aC #v[] rfl (aS ?_)
  rw[g];show q
 have e:∀(S:aa) (Q:QW),Q (.int (n:NI),S)->wO (mR (.tup [.tup xs,.tup b,b0]) (.int 1) S) λp=>wO (Bi.len.fn [p.1] p.2) Q:=λS Q q=>by
  show aC #v[] rfl (aS ?_)
  rw[i];show q
 generalize W.tup [.tup xs,.tup b,b0]=R at c e ⊢;show bz λK hK=>pe (x:=!true) (w:=.bl false) (eV (o9 (((vF (d:=d) L (Thg.pt ∅)).eq (vH h)).ve λQ q=>q))) (λz=>by cases z) λ_ S1 k1=>hK _ _ ?_
 clear hK K;show lS (w:=.bl (decide (0<=p.1)&&decide (p.1<(a:NI)))) (pd (p:=λj n=>decide (j<n)) (λQ q=>q) (λQ q=>?_) (λQ q=>?_) rfl) λS2 k2=>cx (bG (x:=decide (0<=p.1)&&decide (p.1<(a:NI))) (y:=p.2.all λx=>decide (0<=x)&&decide (x<(n:NI))) (rn λQ q=>q) λ_ f k3=>ik p.2 W.int (λx=>decide (0<=x)&&decide (x<(n:NI))) [aB R] rfl rfl rfl ∅ ?_ λx r m t=>pd (p:=λj n=>decide (j<n)) (λQ q=>q) (λQ q=>q) (λQ q=>?_) rfl) λf k3=>k _ (k1.trans (k2.trans k3))
 ·delta wE wA wV wG bH;show aC #v[] rfl q
 ·delta wE wA wV wG;show c _ _ q
 ·delta wE wV wG Nv bH;show aC #v[] rfl #[rfl,.refl]
 ·delta wE wA wV wG Nv;show e _ _ q
def KA (c:30<fuel)(L:Look defs)(P:Parts defs)(e:Is defs ("longer_orders") 2 4 aN)(r:Is defs ("least_form") 2 7 aW){a:Np}{g:Wd}(o:GoodB bs)(n:↥xs=a)(h:↥ns=↥bs)(m:cy g) :
  Cv (ag defs fuel (d+5)) "is_figure" 2 [.tup [.tup xs,.tup (Nn ap ns bs),b0],au g] S (.bl (eJ a bs g)):=cZ [aB (.tup [.tup xs,.tup (Nn ap ns bs),b0]),aB (au g)] L.fig rfl rfl rfl λu k=>by
 have t:(Nn ap ns bs).length=↥bs:=by rw[O3,h];omega
 obtain⟨l,f⟩:=m;have b:(g.zipIdx.all λp=>bM a ↥bs p.1)=g.all (bM a ↥bs):=by
  rw[show(λp:Pt×Np=>bM a ↥bs p.1)=bM a ↥bs∘WK from rfl,<- UK,List.zipIdx_map_fst]
 show bz λK hK=>pe (x:=!(g.all (bM a ↥bs))) (eV (Fe b (Fd (Bb g bH (λ_ p=>bM a ↥bs p) [aB (.tup [.tup xs,.tup (Nn ap ns bs),b0])] rfl rfl rfl ∅ #[rfl,.refl] λi p j S' _=>(Ec (d:=d) L n t (f i p j) (by have:=(NA.mp j).1;omega)).ve λQ q=>q)))) (λz S' s=>#[tR,λS2 k2=>?_]) λz S1 k1=>hK _ _ ?_
 ·have:eJ a bs g=false:=by unfold eJ;rw[show g.all (bM a ↥bs)=false by simpa using z];rfl
  rw[this]at k;show k _ (s.trans k2)
 ·have z:g.all (bM a ↥bs)=true:=by simpa using z
  show st ?_;left;show pk (d:=d+1) c P e r o h (Eb #[l,f] z) ∅ λS2 k2=>?_
  show ae AV ?_;have:eJ a bs g=decide (cQ bs g=g):=by unfold eJ;rw[z,P1]
  rw[this]at k;show k _ (k1.trans k2)
def Bo (b:30<fuel)(L:Look defs)(P:Parts defs)(e:Is defs ("longer_orders") 2 4 aN)(j:Is defs ("least_form") 2 7 aW){a:Np}(i:GoodB bs)(h:↥xs=a)(l:↥ns=↥bs)(m:∀g∈us,cy g)(hl:↥us<=1000) :
  Cv (ag defs fuel (d+6)) q0 1 [.tup [.tup xs,.tup (Nn ap ns bs),.tup (us.map au)]] S (.bl (mx us&&us.all (eJ a bs))):=cZ [aB (.tup [.tup xs,.tup (Nn ap ns bs),.tup (us.map au)]),ba,ba] L.barred rfl rfl rfl λo k=>by
 have n:iH (us.map au) ((us.map au).drop 1)=(us.zip (us.drop 1)).map λp=>W.tup [au p.1,au p.2]:=by
  unfold iH;rw[<- T8,Vi,VY,Rw]
 show lS (w:=.tup (us.map au)) (λQ q=>?_) λS1 k1=>lS (w:=.bl (mx us)) (HN (us.zip (us.drop 1)) (λp=>au p.1) (λp=>au p.2) (λp=>BH p.1 p.2) [] rfl rfl rfl rfl (by rw[RM];omega) _ _ n ?_ λp r S' _=>tP (λQ q=>q) (λQ q=>q) Kz) λS2 k2=>cx (bG (x:=mx us) (rn λQ q=>q) λ_ f k3=>ik us au (eJ a bs) [aB (.tup [.tup xs,.tup (Nn ap ns bs),.tup (us.map au)])] rfl rfl rfl ∅ #[rfl,.refl] λg c S' _=>(KA (d:=d) b L P e j i h l (m g c)).ve λQ q=>q) λf k3=>k _ (k1.trans (k2.trans k3))
 ·delta wE wA wV wG;show aC #v[] rfl (q _ .refl)
 ·delta wE wP wV wG wN Nv;show ae (a:=(.tup ((us.map au).drop 1),S1)) ?_ #[rfl,rfl,.refl];change aB (W.tup (gW (us.map au) (aB ((1:Np):NI)) ba),S1)=_;rw[eC]
abbrev rE (b1 b2 b3 b4 b5:ND):W:=if !b1 then .tup [.str "NoRule",.str "form"]else if !b2 then .tup [.str "NoRule",.str "bounds"]else if !b3 then .tup [.str "NoRule",.str "names"]else if !b4 then .tup [.str "NoRule",.str "backs"]else if !b5 then .tup [.str "NoRule",.str "barred"]else .tup [.non,.bl true]
def KB {f :Nu}{a:QO}(h:Cv M f 1 [w] S (.bl b))(c:b=false->∀S',Ka S S'->a (.rt (.tup [.str "NoRule",.str x]),S'))(ht:b=true->∀S',Ka S S'->wZ M fuel ss [aB w] S' a):wZ M fuel (.cons (.ite (.not (.own f 1 #v[.v 0])) #v[.ret (.tup #v[.c (.str "NoRule"),.c (.str x)])] .nil) ss) [aB w] S a:=by
 show bz λK hK=>pe (x:=!b) (w:=.tup [.str "NoRule",.str x]) (eV (o9 (h.ve λQ q=>q))) (λz S' d=>#[rn λQ q=>q,λS2 k2=>c (by simpa using z) _ (d.trans k2)]) λz S1 k1=>hK _ _ (ht (by simpa using z) _ k1)
def vI (L:Look defs){ b2   :ND}
  (j:Cv (ag defs fuel (d+6)) "has_form" 1 [w] S (.bl b1))
  (l:b1=true->∀S',Cv (ag defs fuel (d+6)) p4 1 [w] S' (.bl b2))
  (m:b1=true->b2=true->∀S',Cv (ag defs fuel (d+6)) q7 1 [w] S' (.bl b3))
  (n:b1=true->b2=true->b3=true->∀S',Cv (ag defs fuel (d+6)) qs 1 [w] S' (.bl b4))
  (o:b1=true->b2=true->b3=true->b4=true->∀S',Cv (ag defs fuel (d+6)) q0 1 [w] S' (.bl b5)) :
  Cv (ag defs fuel (d+7)) "look_rule!" 1 [w] S (rE b1 b2 b3 b4 b5):=cZ [aB w] L.lookX rfl rfl rfl λs k=>by
 unfold eX;unfold rE at k;show KB j (λz S' a=>?_) λb S1 k1=>KB (l b S1) (λz S' a=>?_) λc S2 k2=>KB (m b c S2) (λz S' a=>?_) λe h k3=>KB (n b c e h) (λz S' a=>?_) λf i g=>KB (o b c e f i) (λz S' a=>?_) λr t k5=>cx (w:=.tup [.non,.bl true]) (rn λQ q=>q) λu p=>?_
 ·rw[z]at k;show k _ a
 ·rw[b,z]at k;show k _ (k1.trans a)
 ·rw[b,c,z]at k;show k _ (k1.trans (k2.trans a))
 ·rw[b,c,e,z]at k;show k _ (k1.trans (k2.trans (k3.trans a)))
 ·rw[b,c,e,f,z]at k;show k _ (k1.trans (k2.trans (k3.trans (g.trans a))))
 ·rw[b,c,e,f,r]at k;show k _ (k1.trans (k2.trans (k3.trans (g.trans (k5.trans p)))))
abbrev cN:Ss:=
 #v[.asg [1,2] (.own "_law_sizes" 1 #v[.v 0]),.set 3 (.own qd 4 #v[.v 0,.v 1,.own "_law_backs" 2 #v[.v 0,.v 2],.tup .nil]),.set 4 .dnew,.loop (.nm 5) (.rng #v[.own vr 2 #v[.v 0,.ix (.lst #v[.c (.int 4),.c (.int 9),.c (.int 25)]) (.own vr 2 #v[.v 0,.c (.int 3)])]]) #v[.put (.v 4) (.own "_law_figure" 2 #v[.v 3,.own "_law_free_three" 3 #v[.v 0,.v 1,.v 2]]) (.c (.bl true))],.ret (.tup #v[.ix (.v 3) (.c (.int 0)),.ix (.v 3) (.c (.int 1)),.bi .tuple #v[.bi .sorted #v[.v 4]]])]
abbrev cg:Ss:=
 #v[.ret (.op .add (.op .add (.sl (.v 0) .no (.yes (.v 1))) (.tup #v[.v 2])) (.sl (.v 0) (.yes (.op .add (.v 1) (.c (.int 1)))) .no))]
section
variable{f:Nu}{es:Es}{a:Ss}{S1 S2:aa}{ws:Nb W}{v:W}
def KC (b:bW M es Z S=aB (ws,S1))(hl:↥ws=k)(h2:M f ws S1=aB (v,S2))(a:xV v=aB (cn,us)):iG k (Aq (M f)) (bW M es) Z S=ba/\mZ k (xG (M f)) (bW M es) Z S=aB (cn,us,S2):=by
 have c:xY v=ba:=by
  cases e:xY v with
  |none=>rfl
  |some w=>rw[Kc e]at a;cases a
 constructor
 ·unfold iG;rw[b];dsimp only;rw[NK hl];unfold Aq;rw[h2];dsimp only;rw[c];rfl
 ·unfold mZ;rw[b];dsimp only;rw[NK hl];unfold xG;rw[h2];dsimp only;rw[a];rfl
end
section
variable{cn:Nu}{ws:Nb W}{i j:Np}
def tY {a:Nu->ND}(b:Z[i]?=aB (aB (.ref j)))(h2:S[j]?=aB (.exc cn C gs ws))(c:cl cn=aB (C,gs)):iU cl a i Z S=aB (.bl (a cn),S):=by
 unfold iU IA;rw[b];dsimp only;rw[h2];dsimp only;rw[NK c];rfl
def Ik (a:Z[i]?=aB (aB (.ref j)))(h2:S[j]?=aB (.exc cn C gs ws))(b:cl cn=aB (C,gs))(c:(gs.zip ws).lookup g=aB w):qP cl g i Z S=aB (w,S):=by
 unfold qP IA;rw[a];dsimp only;rw[h2];dsimp only;rw[NK b,c];rfl
end
def fc {α:Type}{P:α->Prop}{a:α}{l:Nb α}(h:P a)(t:∀x∈l,P x):∀x∈a::l,P x:=Tx.mpr #[h,t]
def fn {α:Type}{P:α->Prop}:∀x∈([]),P x:=λ_ h=>nomatch h
def fa {α:Type}{P:α->Prop}{l a:Nb α}(h:∀x∈l,P x)(t:∀x∈a,P x):∀x∈l++a,P x:=λx b=>(Op.mp b).elim (h x) (t x)
def eY (q:Q (.ref ↥S,S++[.lst xs])):wO (Bi.list.fn [.tup xs] S) Q:=by
 show ae ?_ q;revert Bi.fn Dt mO mU iD d8
def Ed (C:30<fuel)(G:Gen defs)(hg:Is defs ("_law_rule") 1 6 cN)(hf:Fl S r)(k:∀w S',tF w->Fl S' r->Kp r S S'->Q (w,S')):wO (bh (ag defs fuel (d+6)) "_law_rule" 1 [.ref r] S) Q:=by
 show aK hg rfl rfl λt O=>?_
 replace k:∀w S',tF w->Fl S' r->Kp r S S'->t (.rt w,S'):=λz S' a b c=>O _ _ (k z S' a b c)
 clear O;change wZ _ _ cN [aB (.ref r),ba,ba,ba,ba,ba] S t;delta cN;nofun
 left;show DV (d:=d+3) G hf λa n S1 a1 x n1 n3 an L k1=>?_
 delta wU;show ae (show bQ [1,2] [.int a,.int n] [aB (.ref r),ba,ba,ba,ba,ba]=aB [aB (.ref r),aB (.int a),aB (.int n),ba,ba,ba]from rfl) (hK _ _ ?_)
 clear hK K;nofun
 left;show DY (d:=d+3) G L n1 n3 λbs S2 P f M k2=>?_
 have hsz:SizeOk a bs:=#[∅,P,by rw[f];show an,x]
 show tD (d:=d) C G M x ∅ λms ns e D g E N k3=>hK _ _ ?_
 clear hK K;have H:=N.lt;replace k3:Kp r S e:=k1.trans (k2.trans k3);clear k1 k2 L M;show st ?_;delta wS wE Nv;nofun
 show q9 rfl rfl ?_;delta wE wA wV wG;show aR (d:=d+4) G.pick ((N.ka .push).ka .push) #v[] #v[] λq Sx w0 w3 fx kx=>?_
 have ex:=kx.get _ _ (by simp;omega) (ah (S:=e++[.dic []]) (o:=.lst [.int 4,.int 9,.int 25]))
 have X:=kx.get _ _ ∅ (aD (u:=.lst [.int 4,.int 9,.int 25]) (ah (S:=e) (o:=.dic [])))
 have hv:∃m:NI,[W.int 4,.int 9,.int 25][q.toNat]?=aB (.int m)/\0<m/\m<26:=by
  have h:q=0\/q=1\/q=2:=∅
  rcases h with rfl|rfl|rfl
  ·show#[4,rfl,#v[],#v[]]
  ·show#[9,rfl,#v[],#v[]]
  ·show#[25,rfl,#v[],#v[]]
 obtain⟨m,hm,m0,m1⟩:=hv;show ni ex w0 hm ?_;show aR (d:=d+4) G.pick fx m0 ∅ λv S4 q v9 Y R=>?_
 show#[v,λk Z S'=>(∃y,Z=[aB (.ref r),aB (.int a),aB (.int n),aB (bE ms ns bs []),aB (.ref ↥e),y])/\(∃U fs,S'[↥e]?=aB (.dic U)/\FigD (bx a bs) U fs)/\Fl S' r/\Kp r S S',rfl,∅,#[#[ba,rfl],#[[],[],R.get _ _ ∅ X,.nil],Y,(((k3.trans .push).trans .push).trans kx).trans R],?_,?_]
 ·rintro i Z T hi ⟨⟨y,rfl⟩,⟨U,fs,A,hd⟩,B,k5⟩ Q2 hn _;clear hK;show st ?_;left;show o6 (d:=d+3) G B ∅ x ∅ n3 λu J j s f6 l=>?_
  have s:GoodW a ↥bs u:=f.symm▸s;show AM (d:=d+2) G P g s j λS7 I=>?_
  have V:=I.get _ _ (l.get _ _ ∅ A)
  show Ks V hd hsz s j λo ho=>cW (hn _ _ #[#[_,rfl],ho,(f6.ka I).own H,((k5.trans l).trans (I.kp r)).late k3.len])
 ·rintro Z T ⟨⟨y,rfl⟩,⟨U,fs,A,hd⟩,B,k5⟩;show hK _ _ (st ?_);left;show Kr (Q:=λp=>t (.rt p.1,p.2)) A hd hsz D g E λw J hw l=>k w J hw (B.ka l) (k5.trans (l.kp r))
def rF (c:Is defs ("_law_put") 3 3 cg)(hl:↥xs<=1000)(k:Q (.tup (xs.take i++[w]++xs.drop (i+1)),S)):wO (bh (ag defs fuel (d+1)) vv 3 [.tup xs,.int (i:Np),w] S) Q:=by
 show aK c rfl rfl λa b=>?_
 replace k:=b _ _ k;change wZ _ _ cg [aB (.tup xs),aB (.int (i:Np)),aB w] S a;delta cg;show st ?_;delta wS wE wA wP wV wG wN;show ae (show fA (.tup xs) ba (aB ((i:Np):NI)) S=aB (.tup (xs.take i),S) by revert fA dB) ?_
 dsimp only;show ae (bX (dj (by rw[Nq,Os];show _+1<=_;omega))) ?_
 dsimp only;show ae dM ?_;dsimp only;show ae (show fA (.tup xs) (aB ((i:NI)+1)) ba S=aB (.tup (xs.drop (i+1)),S) by rw[show(i:NI)+1=((i+1:Np):NI) by omega];revert fA eC) ?_
 dsimp only;show ae (bX (dj (by rw[Nq,Nq,Os,P2];show _+1+_<=_;omega))) k
structure RF (ms ns:Nb Nu)(bs:Nb NI)(us:Nb Wd):Prop where
 nl:↥ns=↥bs
 m:↥ms<=20
 n:↥ns<=20
 u:↥us<=90
 asc:∀y∈ms++ns,Asc y
 three:∀g∈us,cy g
def pA:∀{ns:Nb Nu}{bs:Nb NI}{x:W},x∈Nn ap ns bs->∃y b,y∈ns/\x=ap y b
 |[],_,_,h=>nomatch h
 |_::_,[],_,h=>nomatch h
 |y::ns,b::bs,x,h=>(NE.mp h).elim (λe=>#[y,b,NH,e]) λh=>
  have⟨z,c,m,e⟩:=pA h
  #[z,c,NL _ m,e]
variable{ms:Nb Nu}
section
variable{ns:Nb Nu}{bs:Nb NI}{us:Nb Wd}
def xQ (h:∀y∈ms,Asc y):∀x∈ms.map W.str,Thg S x:=λx a=>by
 obtain⟨y,b,rfl⟩:=NN.mp a;show .str (h y b)
def Bp (h:∀y∈ns,Asc y):∀x∈Nn ap ns bs,Thg S x:=λx a=>by
 obtain⟨y,b,c,rfl⟩:=pA a;show .tup (fc (.str (h y c)) (fc .int fn)) (No rfl)
def Il (h:cy u):Thg S (au u):=.tup (λx b=>by
 obtain⟨p,a,rfl⟩:=NN.mp b;obtain⟨k,e⟩:=Rq.mp a;have:=h.2 k p e;have:=(NA.mp e).1;have:=h.1;show .pt ∅) (by rw[Ni,h.1];decide)
def vJ (h:∀g∈us,cy g):∀x∈us.map au,Thg S x:=λx b=>by
 obtain⟨g,a,rfl⟩:=NN.mp b;show Il (h g a)
def xR (h:↥ns=↥bs):(Nn ap ns bs).length=↥bs:=by rw[O3,h];omega
def Ee (h:cy u):bZ (au u)=true:=by
 obtain⟨a,hl⟩:=h
 match u,a with
 |[p,q,s],_=>
  show(kL 0 (bH p)&&(kL 1 (bH q)&&kL 2 (bH s)))=true;rw[vH (hl 0 p rfl),vH (hl 1 q rfl),vH (hl 2 s rfl)];rfl
def RF.thg (h:RF ms ns bs us):Thg S (bE ms ns bs us):=by
 have z:=xR h.nl;have:=h.nl;have:=h.m;have:=h.n;have:=h.u;show .tup (fc (.tup (xQ λy a=>h.asc y (Ob _ a)) (by rw[Ni];omega)) (fc (.tup (Bp λy a=>h.asc y (NG _ a)) ∅) (fc (.tup (vJ h.three) (by rw[Ni];omega)) fn))) (No rfl)
def Ef:(ms.map W.str).all gL=true:=NB.mpr λx a=>by
 obtain⟨y,_,rfl⟩:=NN.mp a;rfl
def Eg:(Nn ap ns bs).all mw=true:=NB.mpr λx a=>by
 obtain⟨y,b,_,rfl⟩:=pA a;rfl
def xS (h:∀g∈us,cy g):(us.map au).all bZ=true:=NB.mpr λx b=>by
 obtain⟨g,a,rfl⟩:=NN.mp b;show Ee (h g a)
def RF.form (h:RF ms ns bs us):fT (bE ms ns bs us)=true:=by
 show((ms.map W.str).all gL&&((Nn ap ns bs).all mw&&(us.map au).all bZ))=true;rw[Ef,Eg,xS h.three];rfl
end
def eZ {α:Type}{f:α->ND}{x:α}{L:Nb α}(h:x∈L)(e:f x=false):L.all f=false:=OU.mpr λz=>by
 rw[NB.mp z x h]at e;cases e
def Eh (L:Look defs)(h:Thg S w)(e:fT w=false):Cv (ag defs fuel (d+7)) "look_rule!" 1 [w] S (.tup [.str "NoRule",.str "form"]):=
 vI (d:=d) (b1:=false) (b2:=true) (b3:=true) (b4:=true) (b5:=true) L ((Bf (d:=d+1) L h).eq e) (λz=>nomatch z) (λz=>nomatch z) (λz=>nomatch z) (λz=>nomatch z)
def vK (b:30<fuel)(L:Look defs)(P:Parts defs)(c:Is defs ("longer_orders") 2 4 aN)(n:Is defs ("least_form") 2 7 aW){a :Nb Nu}(h:RF a ns bs us){b2   :ND}
  (i:dQ ↥a ↥bs=b2) (j:b2=true->dG (a++ns)=b3) (k:b2=true->b3=true->(N2 ↥bs).all (cM bs)=b4) (l:b2=true->b3=true->b4=true->GoodB bs/\(mx us&&us.all (eJ ↥a bs))=b5) :
  Cv (ag defs fuel (d+7)) "look_rule!" 1 [bE a ns bs us] S (rE true b2 b3 b4 b5):=by
 have z:=xR h.nl;have:=h.nl;have:=h.m;have:=h.n;have:=h.u;show vI (d:=d) L ((Bf (d:=d+1) L h.thg).eq h.form) (λ_ S'=>?_) (λ_ y S'=>?_) (λ_ f g S'=>?_) λ_ f g o S'=>?_
 ·show(Bj (d:=d+5) L).eq ?_;rw[Ni,z];show i
 ·show(D9 (d:=d+4) L h.nl (by rw[Nq];omega) h.asc).eq (j y)
 ·show(Ea (d:=d+3) L h.nl ∅).eq (k f g)
 ·obtain⟨m,e⟩:=l f g o;show(Bo (d:=d) b L P c n m (Ni ..) h.nl h.three ∅).eq e
def l4 (a:GoodB bs):(N2 ↥bs).all (cM bs)=true:=by
 rcases a with rfl|rfl|rfl|rfl|rfl|rfl<;>decide
def rG (h:Name y):Asc y:=by
 obtain⟨b,h2,a⟩:=h;show#[?_,by rw[iZ];omega]
 rw[<- Vj,NB];show λc hc=>N4 (by have:=a c hc;omega)
def xT (h:Name y)(ht:y∉bY):dF y=true:=by
 obtain⟨b,h2,a⟩:=h;have e:=iZ (y:=y);unfold dF D6;rw[N5 ht,N4 (show 1<=(↥y:NI) by omega),N4 (show(↥y:NI)<=8 by omega),NB.mpr λc hc=>?_]
 ·rfl
 ·unfold Ba;rw[N4 (a c hc).1,N4 (a c hc).2];rfl
def tZ (h:∀y∈L,Name y)(nd:(bY++L).Nodup):dG L=true:=by
 rw[PH]at nd;unfold dG;rw[NB.mpr λy a=>xT (h y a) λz=>nd.2.2 y z y a rfl,show ft L=L from Bm L [] nd.2.1,Ot];rfl
def Bq (h:Iw (us.map ce)):mx us=true:=NB.mpr λp a=>by
 unfold BH;rw[lZ h p a];rfl
structure RG (a:Np)(bs:Nb NI)(ms ns:Nb Nu)(us:Nb Wd):Prop where
 size:SizeOk a bs
 ml:↥ms=a
 nl:↥ns=↥bs
 nm:GoodN ms ns
 srt:Iw (us.map ce)
 mem:∀g∈us,g∈bx a bs
 u:↥us<=60
def KD {a:Np}{d :Nb Nu}(b:RuleAt a bs d ns c):RG a bs d ns (fk c):=by
 have pm:(fk c).Perm c:=qo;show#[⇑b,b.ml,b.nl,b.nm,by rw[xJ];show zq (AY b.nd),λg h=>b.mem g (pm.mem_iff.mp h),?_]
 have e:=ie c _ b.nd b.mem;have h2:=o7 ⇑b;rw[pm.length_eq];omega
section
variable{a:Np}{bs:Nb NI}{ms ns:Nb Nu}{us:Nb Wd}
def RG.fig (h:RG a bs ms ns us){g:Wd}(b:g∈us):GoodW a ↥bs g/\↥g=3/\cQ bs g=g:=Ii h.size.good (h.mem g b)
def RG.three (h:RG a bs ms ns us):∀g∈us,cy g:=λg b=>#[(h.fig b).2.1,(h.fig b).1.len]
def RG.rf (h:RG a bs ms ns us):RF ms ns bs us:=by
 have:=h.ml;have:=h.nl;have:=h.size.a3;have:=h.size.n3;have:=h.u;show#[h.nl,∅,∅,∅,λy b=>rG (h.nm.name y b),h.three]
def RG.bounds (h:RG a bs ms ns us):dQ ↥ms ↥bs=true:=by
 have:=h.size.pos;have:=h.size.a3;have:=h.size.n3;have:=h.size.most;rw[h.ml];unfold dQ;rw[N4 (show 1<=(a:NI) by omega),N4 (show(a:NI)<=3 by omega),N4 (show 1<=(↥bs:NI) by omega),N4 (show(↥bs:NI)<=3 by omega),N4 (show(a:NI)*↥bs<=6 by exact_mod_cast this)];rfl
def RG.names (h:RG a bs ms ns us):dG (ms++ns)=true:=tZ h.nm.name h.nm.nd
def RG.barred (h:RG a bs ms ns us):(mx us&&us.all (eJ ↥ms bs))=true:=by
 rw[Bq h.srt,NB.mpr λg d=>?_]
 ·rfl
 ·obtain⟨b,h2,c⟩:=h.fig d;unfold eJ;rw[h.ml,tW b,N4 c];rfl
variable{defs:Nb (Nu×Df)}{fuel d:Np}{S:aa}
def Ei (b:30<fuel)(L:Look defs)(P:Parts defs)(c:Is defs ("longer_orders") 2 4 aN)(e:Is defs ("least_form") 2 7 aW)(h:RG a bs ms ns us):Cv (ag defs fuel (d+7)) "look_rule!" 1 [bE ms ns bs us] S (.tup [.non,.bl true]):=
 vK (d:=d) (b2:=true) (b3:=true) (b4:=true) (b5:=true) b L P c e h.rf h.bounds (λ_=>h.names) (λ_ _=>l4 h.size.good) λ_ _ _=>#[h.size.good,h.barred]
end
abbrev bf:Ss:=
 #v[.loop (.nm 1) (.rng #v[.bi .len #v[.v 0]]) #v[.ite (.or (.cmp .notin (.ix (.v 0) (.v 1)) (.lst #v[.op .sub (.v 1) (.c (.int 1)),.v 1,.op .add (.v 1) (.c (.int 1))])) (.not (.chn .le .lt (.c (.int 0)) (.ix (.v 0) (.v 1)) (.bi .len #v[.v 0])))) #v[.ret (.c (.bl false))] .nil,.ite (.cmp .ne (.ix (.v 0) (.ix (.v 0) (.v 1))) (.v 1)) #v[.ret (.c (.bl false))] .nil],.ret (.c (.bl true))]
abbrev bg:Ss:=
 #v[.ret (.ix (.v 1) (.own vr 2 #v[.v 0,.bi .len #v[.v 1]]))]
abbrev aY:Ss:=
 #v[.asg [2,3] (.v 1),.set 4 (.lst #v[.lst #v[.v 2,.v 3],.tup #v[.v 2],.tup #v[.v 2,.v 3,.v 3],.tup #v[.v 2,.bi .list #v[.v 3]],.tup #v[.c (.bl true),.v 3],.tup #v[.c .non,.v 3],.tup #v[.bi .str #v[.v 2],.v 3]]),.set 4 (.op .add (.v 4) (.lst #v[.tup #v[.tup #v[.v 2],.v 3],.tup #v[.v 2,.op .add (.v 3) (.tup #v[.c (.int 0)])],.tup #v[.v 2,.op .add (.v 3) (.tup #v[.c (.bl true)])],.tup #v[.v 2,.c .non],.v 3,.v 2])),.ite (.cmp .ne (.v 3) (.tup .nil)) #v[.set 4 (.op .add (.v 4) (.lst #v[.tup #v[.v 2,.sl (.v 3) .no (.yes (.neg (.c (.int 1))))],.tup #v[.v 2,.op .add (.sl (.v 3) .no (.yes (.neg (.c (.int 1))))) (.tup #v[.c (.bl true)])],.tup #v[.v 2,.op .add (.sl (.v 3) .no (.yes (.neg (.c (.int 1))))) (.tup #v[.c .non])]])),.ex (.me .append (.v 4) #v[.tup #v[.v 2,.op .add (.sl (.v 3) .no (.yes (.neg (.c (.int 1))))) (.tup #v[.c (.str "0")])]])] .nil,.ret (.own uv 2 #v[.v 0,.v 4])]
abbrev bq:Ss:=
 #v[.set 2 (.own vr 2 #v[.v 0,.c (.int 3)]),.ite (.cmp .eq (.own vr 2 #v[.v 0,.c (.int 3)]) (.c (.int 0))) #v[.ret (.own uv 2 #v[.v 0,.lst #v[.bi .list #v[.v 1],.sl (.v 1) .no (.yes (.c (.int 2))),.op .add (.v 1) (.tup #v[.tup #v[.c (.int 0),.tup #v[.c (.int 0),.c (.int 0),.c (.int 0)]]]),.tup .nil,.c .non,.c (.int 0),.c (.str "bar"),.ix (.v 1) (.c (.int 0))]])] .nil,.ret (.own vv 3 #v[.v 1,.v 2,.own "_law_bad_point" 2 #v[.v 0,.ix (.v 1) (.v 2)]])]
abbrev bN:Ss:=
 #v[.asg [2,3,4] (.v 1),.set 5 (.own vr 2 #v[.v 0,.c (.int 4)]),.ite (.cmp .eq (.v 5) (.c (.int 0))) #v[.set 6 (.lst #v[.bi .list #v[.v 1],.tup #v[.v 2,.v 3],.tup #v[.v 2,.v 3,.v 4,.tup .nil],.c .non,.c (.int 0),.c (.bl true),.c (.str "marks a"),.tup .nil,.lst .nil]),.set 6 (.op .add (.v 6) (.lst #v[.tup #v[.bi .list #v[.v 2],.v 3,.v 4],.tup #v[.v 2,.bi .list #v[.v 3],.v 4],.tup #v[.v 2,.v 3,.bi .list #v[.v 4]]])),.set 6 (.op .add (.v 6) (.lst #v[.tup #v[.v 2,.v 3,.c .non],.tup #v[.c (.str "a"),.v 3,.v 4]])),.ret (.own uv 2 #v[.v 0,.v 6])] .nil,.ite (.cmp .eq (.v 5) (.c (.int 1))) #v[.set 7 (.own vr 2 #v[.v 0,.bi .len #v[.v 2]]),.ret (.tup #v[.own vv 3 #v[.v 2,.v 7,.own uv 2 #v[.v 0,.lst #v[.c (.int 0),.c .non,.c (.bl true),.tup #v[.ix (.v 2) (.v 7)],.lst #v[.ix (.v 2) (.v 7)]]]],.v 3,.v 4])] .nil,.ite (.cmp .eq (.v 5) (.c (.int 2))) #v[.set 7 (.own vr 2 #v[.v 0,.bi .len #v[.v 3]]),.asg [8,9] (.ix (.v 3) (.v 7)),.set 6 (.lst #v[.lst #v[.v 8,.v 9],.tup #v[.v 8],.tup #v[.v 8,.v 9,.v 9],.tup #v[.v 9,.v 8],.tup #v[.c .non,.v 9],.tup #v[.v 8,.c .non]]),.set 6 (.op .add (.v 6) (.lst #v[.tup #v[.v 8,.c (.bl true)],.tup #v[.v 8,.bi .str #v[.v 9]],.tup #v[.v 8,.tup #v[.v 9]],.tup #v[.tup #v[.v 8],.v 9],.v 8,.v 9])),.ret (.tup #v[.v 2,.own vv 3 #v[.v 3,.v 7,.own uv 2 #v[.v 0,.v 6]],.v 4])] .nil,.set 10 (.tup #v[.tup #v[.c (.int 0),.tup .nil],.tup #v[.c (.int 0),.tup #v[.c (.int 0)]],.tup #v[.c (.int 0),.tup #v[.c (.int 0),.c (.int 0)]]]),.set 7 (.own vr 2 #v[.v 0,.op .add (.bi .len #v[.v 4]) (.c (.int 1))]),.ite (.cmp .lt (.v 7) (.bi .len #v[.v 4])) #v[.set 10 (.ix (.v 4) (.v 7))] .nil,.ret (.tup #v[.v 2,.v 3,.op .add (.op .add (.sl (.v 4) .no (.yes (.v 7))) (.tup #v[.own xv 2 #v[.v 0,.v 10]])) (.sl (.v 4) (.yes (.op .add (.v 7) (.c (.int 1)))) .no)])]
abbrev bF:Ss:=
 #v[.asg [2,3,4] (.v 1),.set 5 (.own "_law_names" 2 #v[.v 0,.c (.int 12)]),.set 6 (.bi .tuple #v[.comp (.tup #v[.ix (.v 2) (.op .add (.c (.int 8)) (.v 1)),.v 1]) (.nm 1) (.rng #v[.c (.int 4)]) .nil [ba,ba,aB 5]]),.set 7 (.lst #v[.tup #v[.tup .nil,.v 3,.v 4],.tup #v[.sl (.v 5) .no (.yes (.c (.int 4))),.v 3,.v 4],.tup #v[.v 2,.tup .nil,.v 4],.tup #v[.v 2,.v 6,.v 4]]),.set 7 (.op .add (.v 7) (.lst #v[.tup #v[.sl (.v 5) .no (.yes (.c (.int 3))),.sl (.v 6) .no (.yes (.c (.int 3))),.v 4],.tup #v[.sl (.v 5) .no (.yes (.c (.int 8))),.v 6,.v 4],.tup #v[.sl (.v 5) .no (.yes (.c (.int 2))),.v 6,.v 4]])),.ret (.own uv 2 #v[.v 0,.v 7])]
abbrev bI:Ss:=
 #v[.asg [2,3,4] (.v 1),.set 6 (.op .add (.bi .list #v[.v 2]) (.comp (.v 1) (.tp [1,2]) (.seq (.v 3)) .nil [ba,ba,ba])),.set 7 (.own vr 2 #v[.v 0,.bi .len #v[.v 6]]),.set 8 (.lst #v[.c (.str ""),.c (.str "A"),.c (.str "a1"),.c (.str "abcdefghi"),.c (.str "a b"),.c (.str "a/b"),.c (.str " a"),.c (.str "a;"),.c (.str "-"),.c (.str "aB"),.c (.str "a_"),.c (.str "marks"),.c (.str "ways"),.c (.str "bar")]),.set 8 (.op .add (.v 8) (.lst #v[.c (.str "some"),.c (.str "each"),.c (.str "not"),.c (.str "and"),.c (.str "or"),.c (.str "is"),.c (.str "a\n"),.ix (.v 6) (.op .sub (.v 7) (.c (.int 1))),.ix (.v 6) (.op .sub (.v 7) (.c (.int 1)))])),.set 5 (.own uv 2 #v[.v 0,.v 8]),.ite (.cmp .lt (.v 7) (.bi .len #v[.v 2])) #v[.ret (.tup #v[.own vv 3 #v[.v 2,.v 7,.v 5],.v 3,.v 4])] .nil,.set 7 (.op .sub (.v 7) (.bi .len #v[.v 2])),.ret (.tup #v[.v 2,.own vv 3 #v[.v 3,.v 7,.tup #v[.v 5,.ix (.ix (.v 3) (.v 7)) (.c (.int 1))]],.v 4])]
abbrev bJ:Ss:=
 #v[.asg [2,3,4] (.v 1),.set 5 (.comp (.v 2) (.tp [1,2]) (.seq (.v 3)) .nil [ba,ba,ba]),.set 6 (.own vr 2 #v[.v 0,.bi .len #v[.v 3]]),.put (.v 5) (.v 6) (.own uv 2 #v[.v 0,.lst #v[.neg (.c (.int 1)),.bi .len #v[.v 3],.op .pow (.c (.int 10)) (.c (.int 20)),.op .sub (.c (.int 0)) (.op .pow (.c (.int 10)) (.c (.int 20))),.op .mod (.op .add (.ix (.v 5) (.v 6)) (.c (.int 1))) (.bi .len #v[.v 3])]]),.ite (.and (.cmp .eq (.bi .len #v[.v 3]) (.c (.int 3))) (.cmp .eq (.own vr 2 #v[.v 0,.c (.int 4)]) (.c (.int 0)))) #v[.set 5 (.own uv 2 #v[.v 0,.lst #v[.lst #v[.c (.int 2),.c (.int 1),.c (.int 0)],.lst #v[.c (.int 1),.c (.int 2),.c (.int 0)],.lst #v[.c (.int 2),.c (.int 0),.c (.int 1)]]])] .nil,.ite (.own y4 1 #v[.v 5]) #v[.put (.v 5) (.v 6) (.op .sub (.c (.int 0)) (.c (.int 1)))] .nil,.ret (.tup #v[.v 2,.bi .tuple #v[.comp (.tup #v[.ix (.ix (.v 3) (.v 1)) (.c (.int 0)),.ix (.v 2) (.v 1)]) (.nm 1) (.rng #v[.bi .len #v[.v 3]]) .nil [ba,ba,aB 5,aB 3]],.v 4])]
abbrev aV:Ss:=
 #v[.asg [2,3,4] (.v 1),.set 5 (.own vr 2 #v[.v 0,.c (.int 4)]),.ite (.and (.cmp .eq (.v 5) (.c (.int 0))) (.cmp .gt (.bi .len #v[.v 4]) (.c (.int 1)))) #v[.set 6 (.own vr 2 #v[.v 0,.op .sub (.bi .len #v[.v 4]) (.c (.int 1))]),.ret (.tup #v[.v 2,.v 3,.op .add (.op .add (.sl (.v 4) .no (.yes (.v 6))) (.tup #v[.ix (.v 4) (.op .add (.v 6) (.c (.int 1))),.ix (.v 4) (.v 6)])) (.sl (.v 4) (.yes (.op .add (.v 6) (.c (.int 2)))) .no)])] .nil,.ite (.and (.cmp .eq (.v 5) (.c (.int 1))) (.cmp .ne (.v 4) (.tup .nil))) #v[.set 6 (.own vr 2 #v[.v 0,.bi .len #v[.v 4]]),.ret (.tup #v[.v 2,.v 3,.op .add (.sl (.v 4) .no (.yes (.op .add (.v 6) (.c (.int 1))))) (.sl (.v 4) (.yes (.v 6)) .no)])] .nil,.ite (.cmp .eq (.v 5) (.c (.int 2))) #v[.set 7 (.lst .nil),.loop (.nm 8) (.seq (.v 4)) #v[.set 9 (.comp (.own "_law_part" 3 #v[.v 2,.v 3,.v 1]) (.nm 1) (.seq (.own "_law_turns" 0 .nil)) .nil [ba,ba,aB 1,aB 8]),.set 7 (.op .add (.v 7) (.comp (.tup #v[.v 2,.v 1]) (.nm 1) (.seq (.v 9)) #v[.cmp .ne (.v 1) (.v 2)] [ba,ba,aB 8]))],.ite (.cmp .ne (.v 7) (.lst .nil)) #v[.asg [8,10] (.ix (.v 7) (.own vr 2 #v[.v 0,.bi .len #v[.v 7]])),.ret (.tup #v[.v 2,.v 3,.bi .tuple #v[.bi .sorted #v[.op .add (.comp (.v 1) (.nm 1) (.seq (.v 4)) #v[.cmp .ne (.v 1) (.v 2)] [ba,ba,aB 8]) (.lst #v[.v 10])]]])] .nil] .nil,.asg [11,12] (.own uv 2 #v[.v 0,.lst #v[.tup #v[.bi .len #v[.v 2],.c (.int 0)],.tup #v[.neg (.c (.int 1)),.c (.int 0)],.tup #v[.c (.int 0),.bi .len #v[.v 3]],.tup #v[.c (.int 0),.neg (.c (.int 1))],.tup #v[.c (.int 0),.op .pow (.c (.int 10)) (.c (.int 20))],.tup #v[.op .pow (.c (.int 10)) (.c (.int 20)),.c (.int 0)]]]),.set 8 (.tup #v[.tup #v[.c (.int 0),.tup .nil],.tup #v[.c (.int 0),.tup #v[.c (.int 0)]],.tup #v[.v 11,.tup #v[.c (.int 0),.v 12]]]),.ite (.cmp .eq (.own vr 2 #v[.v 0,.c (.int 2)]) (.c (.int 0))) #v[.set 8 (.tup #v[.tup #v[.v 11,.tup .nil],.tup #v[.c (.int 0),.tup #v[.v 12]],.tup #v[.c (.int 0),.tup #v[.c (.int 0),.c (.int 0)]]])] .nil,.ret (.tup #v[.v 2,.v 3,.bi .tuple #v[.bi .sorted #v[.op .add (.v 4) (.tup #v[.v 8])]]])]
abbrev kM:Ss:=
 #v[.set 1 (.own "_law_flow" 1 #v[.v 0]),.set 2 (.own "_law_rule" 1 #v[.v 1]),.ite (.cmp .isnot (.own "look_rule" 1 #v[.v 2]) (.c (.bl true))) #v[.ret (.c (.bl false))] .nil,.ite (.or (.not (.own qc 2 #v[.own "_law_bad_form" 2 #v[.v 1,.v 2],.c (.str "form")])) (.not (.own qc 2 #v[.own "_law_bad_bounds" 2 #v[.v 1,.v 2],.c (.str "bounds")]))) #v[.ret (.c (.bl false))] .nil,.ite (.or (.not (.own qc 2 #v[.own "_law_bad_names" 2 #v[.v 1,.v 2],.c (.str "names")])) (.not (.own qc 2 #v[.own "_law_bad_backs" 2 #v[.v 1,.v 2],.c (.str "backs")]))) #v[.ret (.c (.bl false))] .nil,.ret (.and (.own qc 2 #v[.own "_law_bad_barred" 2 #v[.v 1,.v 2],.c (.str "barred")]) (.cmp .is (.own "look_rule" 1 #v[.v 2]) (.c (.bl true))))]
abbrev j9 (cl:Cl):Ss:=
 .cons (.set 2 (.and (.sem (iU cl (λcn=>fQ cn "NoRule") 3)) (.and (.sem (iU cl (λ_=>true) 3)) (.sem (Ho (qP cl "word" 3) (fV 1))))))
 #v[.set 2 (.and (.v 2) (.not (.sem (iU cl (λcn=>([("BadText": Nu),"NoLaying","NoRow","NoSentence","NoShare","NoWish","NoWorld"]:Nb Nu).any (fQ cn)) 3))))]
abbrev kh:BK:=.ex "look_rule!" 1 #v[.v 0]
abbrev bT (cl:Cl):Ss:=
 .cons (.set 2 (.c (.bl false)))
 #v[.sem (K4 cl "LayError" 3 kh (j9 cl)),.ret (.v 2)]
structure Lw02 (cl:Cl)(defs:Nb (Nu×Df)):Prop where
 gen:Gen defs
 parts:Parts defs
 longer:Is defs ("longer_orders": Nu) 2 4 aN
 least:Is defs ("least_form": Nu) 2 7 aW
 look:Look defs
 flow:Is defs ("_law_flow": Nu) 1 1 hZ
 rule:Is defs ("_law_rule": Nu) 1 6 cN
 put:Is defs ("_law_put": Nu) 3 3 cg
 refused:Is defs ("_law_refused": Nu) 2 4 (bT cl)
 odd:Is defs ("_law_odd": Nu) 2 2 bg
 point:Is defs ("_law_bad_point": Nu) 2 5 aY
 three:Is defs ("_law_bad_three": Nu) 2 3 bq
 form:Is defs ("_law_bad_form": Nu) 2 11 bN
 bounds:Is defs ("_law_bad_bounds": Nu) 2 8 bF
 names:Is defs ("_law_bad_names": Nu) 2 9 bI
 backs:Is defs ("_law_bad_backs": Nu) 2 7 bJ
 barred:Is defs ("_law_bad_barred": Nu) 2 13 aV
 gbacks:Is defs ("_law_good_backs": Nu) 1 2 bf
 law:Is defs ("law": Nu) 1 3 kM
abbrev BF (f:W->ND)(S:aa)(w:W):Prop:=Thg S w/\f w=false
def BF.ka {f:W->ND}(h:BF f S w)(k:Ka S S'):BF f S' w:=#[h.1.ka k,h.2]
def vL {xs:Nb W}(h:i<↥xs):xs.take i++[w]++xs.drop (i+1)=xs.set i w:=by
 rw[List.set_eq_take_append_cons_drop,NK h,O5];rfl
def t2 (a:Thg S x)(b:Thg S y):Thg S (.tup [x,y]):=.tup (fc a (fc b fn)) (No rfl)
def jL (h:((y.cps.all λc=>decide (c<128))&&decide (↥y<=1000))=true):Asc y:=by
 rw[Nj]at h;show#[h.1,N3 h.2]
def l8 (h:↥ws≠n):j8 n (.tup ws)=false:=by
 show(↥ws==n&&_)=false;rw[VC h];rfl
def Ej (h:w∈ws)(e:fR w=false):j8 n (.tup ws)=false:=by
 show(_&&ws.all fR)=false;rw[eZ h e,OT]
def vM (h:j8 n t=false):kL n (.tup [m,t])=false:=by
 show(fR m&&j8 n t)=false;rw[h,OT]
def more {f:W->ND}{ a:Nb W}(e:S1[c]?=aB (.lst xs))(g:∀x∈xs,BF f S1 x)(h2:∀x∈a,BF f S1 x)(d:↥xs<=50)(i:↥a<=50)(h:∀b S2,S2[b]?=aB (.lst (xs++a))->↥S1<=b->(∀x∈xs++a,BF f S2 x)->Ka S1 S2->Q (.ref b,S2)) :
  wO (gT .add (.ref c) (.ref ↥S1) (S1++[.lst a])) Q:=by
 show ae (fP (aD e) ah (dj (by rw[Nq];omega))) (h _ _ ah (by simp) (λx d=>?_) (Ka.push.trans .push))
 show(fa g h2 x d).ka (Ka.push.trans .push)
def nC (G:Gen defs)(j:Is defs ("_law_odd") 2 2 bg){a:Nb W}(e:S[c]?=aB (.lst a))(n:0<↥a)(o:↥a<=100)(hc:r≠c)(i:Fl S r)(k:∀w S',w∈a->Fl S' r->Kp r S S'->Q (w,S')):wO (bh (ag defs fuel (d+2)) uv 2 [.ref r,.ref c] S) Q:=by
 show aK j rfl rfl λf h=>?_
 change wZ _ _ bg [aB (.ref r),aB (.ref c)] S f;delta bg;show st ?_;left;show j5 e (aR (d:=d) G.pick i ∅ ∅ λv S1 l m g k1=>?_)
 have b:v.toNat<↥a:=∅
 show ni (k1.get _ _ (Ne.symm hc) e) l (Nt b) (h _ _ (k _ S1 (N7 b) g k1))
def l9 {f:W->ND}(G:Gen defs)(i:Is defs ("_law_odd") 2 2 bg){a:Nb W}(e:S[c]?=aB (.lst a))(h:∀x∈a,BF f S x)(j:0<↥a)(l:↥a<=100)(hc:r≠c)(g:Fl S r)(k:∀w S',BF f S' w->Fl S' r->Kp r S S'->Q (w,S')):wO (bh (ag defs fuel (d+2)) uv 2 [.ref r,.ref c] S) Q:=
 nC (d:=d) G i e j l hc g λw S' hw b k1=>k w S' #[(h w hw).1.kp k1 b,(h w hw).2] b k1
def vN (h:0<=m/\m<3)(S1:aa):Bi.str.fn [.int m] S1=aB (.str (Qw (toString m)),S1):=by
 revert Bi.fn C9;rw[NK ∅]
def vO {m:NI}(h:0<=m/\m<3):Asc (Qw (toString m)):=by
 have:m=0\/m=1\/m=2:=∅
 rcases this with rfl|rfl|rfl<;>show jL (by decide +kernel)
def Ek (G:Gen defs)(ho:Is defs ("_law_odd") 2 2 bg)(hg:Is defs ("_law_bad_point") 2 5 aY){p:Pt}(P:0<=p.1/\p.1<3)(hl:↥p.2=n)(hn:n<=50)(E:Fl S r)
  (k:∀w S',BF (kL n) S' w->Fl S' r->Kp r S S'->Q (w,S')):wO (bh (ag defs fuel (d+3)) "_law_bad_point" 2 [.ref r,bH p] S) Q:=by
 show aK hg rfl rfl λD hR=>?_
 replace k:∀w S',BF (kL n) S' w->Fl S' r->Kp r S S'->D (.rt w,S'):=λw S' x y z=>hR _ _ (k w S' x y z)
 clear hR;obtain⟨m,b⟩:=p;have A:kL n (.tup (b.map W.int))=false:=by
  match b with
  |[]=>rfl
  |[_]=>rfl
  |[_,_]=>rfl
  |_::_::_::_=>rfl
 have hl:(b.map W.int).length=n:=by rw[Ni];show hl
 dsimp only at P;change wZ _ _ aY [aB (.ref r),aB (.tup [.int m,.tup (b.map W.int)]),ba,ba,ba] S D;have u:∀{S:aa},∀x∈b.map W.int,Thg S x:=λx f=>by
  obtain⟨i,_,rfl⟩:=NN.mp f;show .int
 have B:∀S:aa,ci .ne (.tup (b.map W.int)) (.tup []) S=aB (.bl (!(b.map W.int).isEmpty),S):=λS=>by cases b<;>rfl
 generalize b.map W.int=T at hl u B A;have tT:∀{S:aa},Thg S (.tup T):=.tup u ∅
 have J:∀S:aa,fA (.tup T) ba (aB (-1)) S=aB (.tup (T.dropLast),S):=λS=>by
  revert fA rj
 have dT:∀{S:aa},∀x∈T.dropLast,Thg S x:=λx f=>u x (List.dropLast_subset T f)
 have dl:T.dropLast.length<=50:=by rw[RA];omega
 delta aY;show st ?_;delta wS wE wV wG wU;show ae (show bQ [2,3] [.int m,.tup T] [aB (.ref r),aB (.tup [.int m,.tup T]),ba,ba,ba]=aB [aB (.ref r),aB (.tup [.int m,.tup T]),aB (.int m),aB (.tup T),ba]from rfl) ?_
 nofun
 left;show eY ?_;dsimp only;show ae (vN P _) (hK _ _ ?_);clear hK K;dsimp only;have Y:=vO P;generalize Qw (toString m)=sm at Y ⊢;have k1:Ka S (S++[O.lst [.int m,.tup T]]++[O.lst T]):=Ka.push.trans .push;have U:(S++[O.lst [.int m,.tup T]]++[O.lst T])[↥S]?=aB (O.lst [.int m,.tup T]):=aD ah;have I:(S++[O.lst [.int m,.tup T]]++[O.lst T])[(S++[O.lst [.int m,.tup T]]).length]?=aB (O.lst T):=ah;generalize S++[O.lst [.int m,.tup T]]++[O.lst T]=S1 at k1 U I ⊢;generalize(S++[O.lst [.int m,.tup T]]).length=c0 at I ⊢;have q:∀x∈[W.ref ↥S,.tup [.int m],.tup [.int m,.tup T,.tup T],.tup [.int m,.ref c0],.tup [.bl true,.tup T],.tup [.non,.tup T],.tup [.str sm,.tup T]],BF (kL n) S1 x:=
  fc #[.lst #[_,U],rfl] (fc #[.tup (fc .int fn) (No rfl),rfl] (fc #[.tup (fc .int (fc tT (fc tT fn))) (No rfl),rfl] (fc #[t2 .int (.lst #[_,I]),rfl] (fc #[t2 .bl tT,rfl] (fc #[t2 .non tT,rfl] (fc #[t2 (.str Y) tT,rfl] fn))))))
 have x1:[W.ref ↥S,.tup [.int m],.tup [.int m,.tup T,.tup T],.tup [.int m,.ref c0],.tup [.bl true,.tup T],.tup [.non,.tup T],.tup [.str sm,.tup T]].length=7:=rfl;generalize[W.ref ↥S,.tup [.int m],.tup [.int m,.tup T,.tup T],.tup [.int m,.ref c0],.tup [.bl true,.tup T],.tup [.non,.tup T],.tup [.str sm,.tup T]]=xs at q x1 ⊢;have L:(S1++[O.lst xs])[↥S1]?=aB (.lst xs):=ah;replace q:∀x∈xs,BF (kL n) (S1++[O.lst xs]) x:=λx f=>(q x f).ka .push
 have hS:=k1.len;replace k1:=k1.trans (Ka.push (o:=O.lst xs));generalize S1++[O.lst xs]=S2 at L q k1 ⊢;generalize ↥S1=c1 at L hS ⊢;clear U I;nofun
 left;show ae (bX (dj (by rw[Nq];show _+1<=_;omega))) (ae (bX (dj (by rw[Nq];show _+1<=_;omega))) ?_)
 dsimp only;show more L q (fc #[t2 (.tup (fc .int fn) (No rfl)) tT,rfl] (fc #[t2 .int (.tup (fa u (fc .int fn)) (by rw[Nq];show _+1<=_;omega)),vM (l8 (by rw[Nq];show _+1≠_;omega))] (fc #[t2 .int (.tup (fa u (fc .bl fn)) (by rw[Nq];show _+1<=_;omega)),vM (l8 (by rw[Nq];show _+1≠_;omega))] (fc #[t2 .int .non,rfl] (fc #[tT,A] (fc #[.int,rfl] fn)))))) ∅ (No rfl) λZ X M hc2 h2 k2=>hK _ _ ?_
 clear hK K;have x2:(xs++[W.tup [.tup [.int m],.tup T],.tup [.int m,.tup (T++[.int 0])],.tup [.int m,.tup (T++[.bl true])],.tup [.int m,.non],.tup T,.int m]).length=13:=by rw[Nq,x1];rfl
 generalize xs++[W.tup [.tup [.int m],.tup T],.tup [.int m,.tup (T++[.int 0])],.tup [.int m,.tup (T++[.bl true])],.tup [.int m,.non],.tup T,.int m]=xs2 at M h2 x2;have f3:=(E.ka k1).ka k2;have hr:r<Z:=by have:=E.lt;have:=k1.len;omega
 have k3:=k1.trans k2;have fin:∀(c:aa) (a:Np) (C:Nb W),c[a]?=aB (.lst C)->0<↥C->↥C<=50->(∀x∈C,BF (kL n) c x)->r<a->Ka S c->wZ (ag defs fuel (d+2)) fuel #v[.ret (.own uv 2 #v[.v 0,.v 4])] [aB (.ref r),aB (.tup [.int m,.tup T]),aB (.int m),aB (.tup T),aB (.ref a)] c D:=by
  intro c a C g y0 y1 s q4 H;show st ?_;left;show l9 (d:=d) G ho g s y0 ∅ ∅ (E.ka H) λw S5 hw f5 k5=>k w S5 hw f5 ((H.kp r).trans k5)
 nofun
 delta wS wT wE wA wV wG Nv;show ae (B X) ?_;delta wB;show aE (Q0:=D) (λz Q2 j _=>?_) (λz Q2 j _=>cW (j _ _ (hK _ _ (fin X Z xs2 M ∅ ∅ h2 hr k3))))
 have hd:T.dropLast.length≠n:=by
  rw[RA];cases T with
  |nil=>cases z
  |cons _ _=>simp at hl;rw[Og];omega
 have V:∀{S:aa}{w:W},Thg S w->fR w=false->BF (kL n) S (.tup [.int m,.tup (T.dropLast++[w])]):=λh e=>#[t2 .int (.tup (fa dT (fc h fn)) (by rw[Nq];show _+1<=_;omega)),vM (Ej (NG _ NH) e)]
 show bz λK2 t=>?_
 delta wS wE wA wP wV wG wN Nv;show ae (J _) (ae (J _) (ae (bX (dj (by rw[Nq];show _+1<=_;omega))) (ae (J _) (ae (bX (dj (by rw[Nq];show _+1<=_;omega))) ?_))))
 dsimp only;show more M h2 (fc #[t2 .int (.tup dT ∅),vM (l8 hd)] (fc (V .bl rfl) (fc (V .non rfl) fn))) ∅ (No rfl) λa c g hc4 s H=>t _ _ ?_
 clear t K2;have x4:(xs2++[W.tup [.int m,.tup T.dropLast],.tup [.int m,.tup (T.dropLast++[.bl true])],.tup [.int m,.tup (T.dropLast++[.non])]]).length=16:=by rw[Nq,x2];rfl
 generalize xs2++[W.tup [.int m,.tup T.dropLast],.tup [.int m,.tup (T.dropLast++[.bl true])],.tup [.int m,.tup (T.dropLast++[.non])]]=xs4 at g s x4;have N:↥S<=a:=by have:=k3.len;omega
 have R:r<a:=by have:=E.lt;omega
 show st ?_;delta wS wE wA wP wV wG wN Nv;show#[jE g,ae (J _) (ae (bX (dj (by rw[Nq];show _+1<=_;omega))) ?_)]
 show vm g ∅ (cW (j _ _ (hK _ _ (fin _ a _ (dA g) (by rw[Nq];omega) (by rw[Nq];show _+1<=_;omega) ?_ R ((k3.trans H).late N)))))
 have kt:∀{w:W},Thg c w->Thg (c.set a (.lst (xs4++[.tup [.int m,.tup (T.dropLast++[.str "0"])]]))) w:=λh=>h.mono λl #[us,e]=>by
  by_cases z:a=l
  ·subst z;show#[_,dA g]
  ·show#[us,by rw[gJ z];show e]
 show fa (λx f=>#[kt (s x f).1,(s x f).2]) (fc (V (.str (jL (by decide +kernel))) rfl) fn)
def t4 (G:Gen defs)(E:Is defs ("_law_odd") 2 2 bg)(V:Is defs ("_law_bad_point") 2 5 aY)(t:Is defs ("_law_put") 3 3 cg)(U:Is defs ("_law_bad_three") 2 3 bq)(e:cy u)(l:∀p∈u,0<=p.1/\p.1<3)(T:Fl S r)
  (k:∀w S',BF bZ S' w->Fl S' r->Kp r S S'->Q (w,S')):wO (bh (ag defs fuel (d+4)) xv 2 [.ref r,au u] S) Q:=by
 show aK U rfl rfl λm D=>?_
 replace k:∀w S',BF bZ S' w->Fl S' r->Kp r S S'->m (.rt w,S'):=λw S' x y z=>D _ _ (k w S' x y z)
 clear D;obtain⟨p,q,s,rfl⟩:∃p q s,u=[p,q,s]:=match u,e.1 with|[p,q,s],_=>#[p,q,s,rfl]
 have b0:=e.2 0 p rfl;have b1:=e.2 1 q rfl;have b2:=e.2 2 s rfl;have c:∀{S:aa},Thg S (bH p):=.pt ∅
 have j:∀{S:aa},Thg S (bH q):=.pt ∅
 have b:∀{S:aa},Thg S (bH s):=.pt ∅
 have C:bZ (bH p)=false:=rfl;change wZ _ _ bq [aB (.ref r),aB (.tup [bH p,bH q,bH s]),ba] S m;have a:∀i<3,∃x:Pt,[bH p,bH q,bH s][i]?=aB (bH x)/\(0<=x.1/\x.1<3)/\↥x.2=i:=λi hi=>by
  match i,hi with
  |0,_=>show#[p,rfl,l _ (by simp),b0]
  |1,_=>show#[q,rfl,l _ (by simp),b1]
  |2,_=>show#[s,rfl,l _ (by simp),b2]
 have put:∀{S:aa}{w:W},∀i<3,BF (kL i) S w->BF bZ S (.tup ([bH p,bH q,bH s].take i++[w]++[bH p,bH q,bH s].drop (i+1))):=λ{S w} i hi hw=>by
  obtain⟨o,h2⟩:=hw
  match i,hi with
  |0,_=>show#[.tup (fc o (fc j (fc b fn))) (No rfl),by show(kL 0 w&&_)=false;rw[h2];rfl]
  |1,_=>show#[.tup (fc c (fc o (fc b fn))) (No rfl),by show(_&&(kL 1 w&&_))=false;rw[h2,Qm,OT]]
  |2,_=>show#[.tup (fc c (fc j (fc o fn))) (No rfl),by show(_&&(_&&kL 2 w))=false;rw[h2,OT,OT]]
 clear b0 b1 b2 l e;generalize bH p=P at c C a put ⊢;generalize bH q=Pq at j a put ⊢;generalize bH s=Ps at b a put ⊢;delta bq;nofun
 left;show aR (d:=d+2) G.pick T #v[] #v[] λv S1 Z v1 M k1=>hK _ _ ?_
 clear hK K;obtain⟨i,rfl⟩:∃i:Np,v=i:=#[v.toNat,∅]
 nofun
 delta wS wT wE wA wV wG Nv;show aR (d:=d+2) G.pick M #v[] #v[] λv2 S2 _ _ n k2=>?_
 show ae hG ?_;delta wB;show aE (Q0:=m) (λ_ I _ A=>st ?_) (λ_ I h _=>cW (h _ _ (hK _ _ ?_)))
 ·delta wS wE wA wP wV wG wN Nv;show eY ?_;dsimp only;show ae (show fA (.tup [P,Pq,Ps]) ba (aB 2) _=aB (.tup [P,Pq],_)from rfl) ?_
  dsimp only;show ae (bX (dj (No rfl))) ?_;dsimp only;show aC #v[] rfl ?_
  have kl:Ka S2 (S2++[O.lst [P,Pq,Ps]]):=.push;have H:(S2++[O.lst [P,Pq,Ps]])[↥S2]?=aB (O.lst [P,Pq,Ps]):=ah;have g:r<(S2++[O.lst [P,Pq,Ps]]).length:=by have:=n.lt;simp;omega
  generalize S2++[O.lst [P,Pq,Ps]]=B at kl H g ⊢;show l9 (d:=d+1) (f:=bZ) G E ah (fc #[.lst #[_,aD H],rfl] (fc #[t2 c j,rfl] (fc #[.tup (fc c (fc j (fc b (fc (t2 .int (.tup (fc .int (fc .int (fc .int fn))) (No rfl))) fn)))) (No rfl),rfl] (fc #[.tup fn (OW _),rfl] (fc #[.non,rfl] (fc #[.int,rfl] (fc #[.str (jL (by decide +kernel)),rfl] (fc #[c,C] fn)))))))) (No rfl) (No rfl) (NJ g) ((n.ka kl).ka .push) λw J hw R X=>A _ _ (k w J hw R (k1.trans (k2.trans (((kl.trans .push).kp r).trans X))))
 ·clear hK K h;show st ?_;left;obtain⟨x,L,xm,Y⟩:=a i ∅
  show aC (NW _) (by rw[NQ];show L) ?_
  show Ek (d:=d) G E V xm Y ∅ n λw B hw N k3=>?_
  show rF (d:=d+2) t (No rfl) (k _ B (put i ∅ hw) N (k1.trans (k2.trans k3)))
def Mc {f:Nu}{a:Es}(d:bW M a Z S=aB (ws,S1))(hl:↥ws=k)(h2:M f ws S1=aB (v,S2))(e:xV v=aB (cn,us)):(BK.ex f k a).fs M Z S=ba/\(BK.ex f k a).fx M Z S=aB (cn,us,S2):=by
 obtain⟨b,c⟩:=KC d hl h2 e;show#[?_,c];delta BK.fs;unfold oE;rw[b]
def KF {a :FE}(c:a Z S=aB (.str x,S))(h2:b Z S=aB (.str y,S)):Ho a b Z S=aB (.bl (x==y),S):=by
 unfold Ho;rw[c];dsimp only;rw[h2]
def nD (hc:cl "NoRule" = aB (C,[("word": Nu)]))(o:Is defs ("_law_refused") 2 4 (bT cl))(h:Cv (ag defs fuel d) "look_rule!" 1 [w] S (.tup [.str "NoRule",.str x]))(k:∀S',Ka S S'->Q (.bl true,S')):wO (bh (ag defs fuel (d+1)) qc 2 [w,.str x] S) Q:=by
 show aK o rfl rfl λf i=>?_
 replace k:∀S',Ka S S'->f (.rt (.bl true),S'):=λS' a=>i _ _ (k S' a)
 clear i;change wZ _ _ (bT cl) [aB w,aB (.str x),ba,ba] S f;have e:=h (λp=>p.1=.tup [.str "NoRule",.str x]/\Ka S p.2) λS' q=>#[rfl,q]
 unfold bh at e;rw[NK (show[w].length=1 from rfl)]at e
 obtain⟨⟨v,S1⟩,m,g,l⟩:=bu e;dsimp only at g l;subst g;delta bT;show st ?_;delta wS wE Nv;nofun
 delta wS;have n:bW (ag defs fuel d) #v[.v 0] [aB w,aB (.str x),aB (.bl false),ba] S=aB ([w],S):=rfl;obtain⟨r,s⟩:=Mc (k:=1) n rfl m (show xV (.tup [.str "NoRule",.str x])=aB (("NoRule": Nu),[W.str x])from rfl)
 show Kk (b:=kh) rfl r s hc (by decide +kernel) ?_
 delta j9;have c:(S1++[O.exc "NoRule" C ["word"] [.str x]])[↥S1]?=aB (O.exc "NoRule" C ["word"] [.str x]):=ah;have j:Ka S (S1++[O.exc "NoRule" C ["word"] [.str x]]):=l.trans .push;generalize S1++[O.exc "NoRule" C ["word"] [.str x]]=S2 at c j ⊢;show st ?_;delta wS wE Nv;show ae (tY rfl c hc) ?_;delta wB;show#[λ_=>ae (tY rfl c hc) ?_,λz=>absurd z (by decide +kernel)]
 show#[λ_=>ae (KF (Ik (w:=.str x) rfl c hc rfl) rfl) ?_,λz=>by cases z]
 rw[Ot];show st ?_;delta wS wT wE wV wG Nv;delta wB;show#[λ_=>ae (tY rfl c hc) ?_,λz=>by cases z]
 delta wB;show cW (hK _ _ (st ?_));delta wS wE wV wG Nv;show k S2 j
structure PT (Mqa N:Nb W)(us:Nb Wd):Prop where
 m:∀x∈Mqa,∃y,x=.str y/\Asc y
 n:∀x∈N,∃y b,x=ap y b/\Asc y/\0<=b/\b<3
 u:∀g∈us,cy g/\∀p∈g,0<=p.1/\p.1<3
 ml:0<↥Mqa/\↥Mqa<=20
 nl:0<↥N/\↥N<=20
 ul:↥us<=60
def xU (G:Gen defs)(ho:Is defs ("_law_odd") 2 2 bg)(hp:Is defs ("_law_bad_point") 2 5 aY)(P:Is defs ("_law_put") 3 3 cg)(h3:Is defs ("_law_bad_three") 2 3 bq)(hg:Is defs ("_law_bad_form") 2 11 bN){ N:Nb W}(h:PT c N us)(hf:Fl S r)
  (k:∀w S',BF fT S' w->Fl S' r->Q (w,S')):wO (bh (ag defs fuel (d+5)) "_law_bad_form" 2 [.ref r,.tup [.tup c,.tup N,.tup (us.map au)]] S) Q:=by
 show aK hg rfl rfl λJ hR=>?_
 replace k:∀w S',BF fT S' w->Fl S' r->J (.rt w,S'):=λw S' x y=>hR _ _ (k w S' x y)
 clear hR;obtain⟨hM,hN,hu,⟨m0,m1⟩,⟨n0,n1⟩,u1⟩:=h;have xM:∀{S:aa},∀x∈c,Thg S x:=λx n=>by
  obtain⟨y,rfl,a⟩:=hM x n;show .str a
 have xN:∀{S:aa},∀x∈N,Thg S x:=λx n=>by
  obtain⟨y,b,rfl,a,_⟩:=hN x n;show t2 (.str a) .int
 have xB:∀{S:aa},∀x∈us.map au,Thg S x:=vJ λg hg=>(hu g hg).1
 have R:∀{S:aa},Thg S (.tup c):=.tup xM ∅
 have E:∀{S:aa},Thg S (.tup N):=.tup xN ∅
 have bl:(us.map au).length<=60:=by rw[Ni];show u1
 have tB:∀{S:aa},Thg S (.tup (us.map au)):=.tup xB ∅
 change wZ _ _ bN [aB (.ref r),aB (.tup [.tup c,.tup N,.tup (us.map au)]),ba,ba,ba,ba,ba,ba,ba,ba,ba] S J;delta bN;show st ?_;delta wS wE wV wG wU;show ae (show bQ [2,3,4] [.tup c,.tup N,.tup (us.map au)] [aB (.ref r),aB (.tup [.tup c,.tup N,.tup (us.map au)]),ba,ba,ba,ba,ba,ba,ba,ba,ba]=aB [aB (.ref r),aB (.tup [.tup c,.tup N,.tup (us.map au)]),aB (.tup c),aB (.tup N),aB (.tup (us.map au)),ba,ba,ba,ba,ba,ba]from rfl) ?_
 nofun
 left;show aR (d:=d+3) G.pick hf #v[] #v[] λv S1 v0 v1 U k1=>hK _ _ ?_
 clear hK K;have r1:=U.lt;nofun
 delta wS wT wE wA wV wG Nv;show ae hG ?_;delta wB;show aE (Q0:=J) (λ_ L _ u=>?_) (λ_ L m _=>cW (m _ _ (hK _ _ ?_)))
 ·show bz λq j=>?_
  left;show eY (j _ _ ?_);clear j q;dsimp only;have l1:(S1++[O.lst [.tup c,.tup N,.tup (us.map au)]]++[O.lst []])[↥S1]?=aB (O.lst [.tup c,.tup N,.tup (us.map au)]):=aD ah;have l2:(S1++[O.lst [.tup c,.tup N,.tup (us.map au)]]++[O.lst []])[(S1++[O.lst [.tup c,.tup N,.tup (us.map au)]]).length]?=aB (O.lst []):=ah;have k2:Ka S1 (S1++[O.lst [.tup c,.tup N,.tup (us.map au)]]++[O.lst []]):=Ka.push.trans .push;generalize S1++[O.lst [.tup c,.tup N,.tup (us.map au)]]++[O.lst []]=S2 at l1 l2 k2 ⊢;generalize(S1++[O.lst [.tup c,.tup N,.tup (us.map au)]]).length=c2 at l2 ⊢;have t:∀x∈[W.ref ↥S1,.tup [.tup c,.tup N],.tup [.tup c,.tup N,.tup (us.map au),.tup []],.non,.int 0,.bl true,.str "marks a",.tup [],.ref c2],BF fT S2 x:=
   fc #[.lst #[_,l1],rfl] (fc #[t2 R E,rfl] (fc #[.tup (fc R (fc E (fc tB (fc (.tup fn (OW _)) fn)))) (No rfl),rfl] (fc #[.non,rfl] (fc #[.int,rfl] (fc #[.bl,rfl] (fc #[.str (jL (by decide +kernel)),rfl] (fc #[.tup fn (OW _),rfl] (fc #[.lst #[_,l2],rfl] fn))))))))
  have x1:[W.ref ↥S1,.tup [.tup c,.tup N],.tup [.tup c,.tup N,.tup (us.map au),.tup []],.non,.int 0,.bl true,.str "marks a",.tup [],.ref c2].length=9:=rfl;generalize[W.ref ↥S1,.tup [.tup c,.tup N],.tup [.tup c,.tup N,.tup (us.map au),.tup []],.non,.int 0,.bl true,.str "marks a",.tup [],.ref c2]=xs at t x1 ⊢;have C:(S2++[O.lst xs])[↥S2]?=aB (.lst xs):=ah;replace t:∀x∈xs,BF fT (S2++[O.lst xs]) x:=λx n=>(t x n).ka .push
  have hS:r<↥S2:=by have:=k2.len;omega
  replace k2:=k2.trans (Ka.push (o:=O.lst xs));generalize S2++[O.lst xs]=l at C t k2 ⊢;generalize ↥S2=c3 at C hS ⊢;clear l1 l2;show bz λq j=>?_
  left;show eY (eY (eY ?_));dsimp only;have B:(l++[O.lst c]++[O.lst N]++[O.lst (us.map au)])[↥l]?=aB (O.lst c):=aD (aD ah);have Y:(l++[O.lst c]++[O.lst N]++[O.lst (us.map au)])[(l++[O.lst c]).length]?=aB (O.lst N):=aD ah;have D:(l++[O.lst c]++[O.lst N]++[O.lst (us.map au)])[(l++[O.lst c]++[O.lst N]).length]?=aB (O.lst (us.map au)):=ah;have k3:Ka l (l++[O.lst c]++[O.lst N]++[O.lst (us.map au)]):=(Ka.push.trans .push).trans .push;generalize l++[O.lst c]++[O.lst N]++[O.lst (us.map au)]=S4 at B Y D k3 ⊢;generalize(l++[O.lst c]++[O.lst N]).length=c6 at D ⊢;generalize(l++[O.lst c]).length=c5 at Y ⊢;show more (k3.get _ _ C) (λx n=>(t x n).ka k3) (fc #[.tup (fc (.lst #[_,B]) (fc E (fc tB fn))) (No rfl),rfl] (fc #[.tup (fc R (fc (.lst #[_,Y]) (fc tB fn))) (No rfl),rfl] (fc #[.tup (fc R (fc E (fc (.lst #[_,D]) fn))) (No rfl),rfl] fn))) ∅ (No rfl) λc7 S5 T hc5 Z k5=>j _ _ ?_
  clear j q;have x5:(xs++[W.tup [.ref ↥l,.tup N,.tup (us.map au)],.tup [.tup c,.ref c5,.tup (us.map au)],.tup [.tup c,.tup N,.ref c6]]).length=12:=by rw[Nq,x1];rfl
  generalize xs++[W.tup [.ref ↥l,.tup N,.tup (us.map au)],.tup [.tup c,.ref c5,.tup (us.map au)],.tup [.tup c,.tup N,.ref c6]]=ys at T Z x5;clear B Y D;show bz λq j=>?_
  left;show more T Z (fc #[.tup (fc R (fc E (fc .non fn))) (No rfl),rfl] (fc #[.tup (fc (.str (jL (by decide +kernel))) (fc E (fc tB fn))) (No rfl),rfl] fn)) ∅ (No rfl) λc8 S6 e6 hc6 h6 k6=>j _ _ ?_
  clear j q;show st ?_;left;have:=k2.len;have:=k3.len;have:=k5.len;have:=iN T;show l9 (d:=d+2) G ho e6 h6 (by rw[Nq];show _<_+2;omega) (by rw[Nq];show _+2<=_;omega) ∅ ((U.ka (k2.trans (k3.trans k5))).ka k6) λw S7 hw f7 k7=>u _ _ (k w S7 hw f7)
 clear hK K m;nofun
 delta wS wT wE wA wV wG Nv;show ae hG ?_;delta wB;show aE (Q0:=J) (λ_ L _ u=>?_) (λ_ L m _=>cW (m _ _ (hK _ _ ?_)))
 ·show bz λq j=>?_
  left;show aS (aR (d:=d+3) G.pick U ∅ ∅ λI S2 v3 v4 M k2=>j _ _ ?_)
  clear j q;obtain⟨i,rfl⟩:∃i:Np,I=i:=#[I.toNat,∅]
  have hi:i<↥c:=∅
  obtain⟨y,ey,s⟩:=hM _ (N7 hi);have X:c[i]?=aB (.str y):=by rw[Nt hi,ey]
  show st ?_;left;show aC (NW _) (by rw[NQ];show X) (aC (NW _) (by rw[NQ];show X) ?_)
  dsimp only;have B:(S2++[O.lst [.str y]])[↥S2]?=aB (O.lst [.str y]):=ah;have:=M.lt;have V:r<(S2++[O.lst [.str y]]).length:=by simp;omega
  have A:=M.ka (Ka.push (o:=O.lst [.str y]));generalize S2++[O.lst [.str y]]=l at B V A ⊢;show l9 (d:=d+2) (f:=gL) G ho ah (fc #[.int,rfl] (fc #[.non,rfl] (fc #[.bl,rfl] (fc #[.tup (fc (.str s) fn) (No rfl),rfl] (fc #[.lst #[_,aD B],rfl] fn))))) (No rfl) (No rfl) (NJ V) (A.ka .push) λw S4 hw f4 k4=>?_
  show rF (d:=d+3) P ∅ (u _ _ (k _ S4 #[.tup (fc (.tup ?_ ?_) (fc E (fc tB fn))) (No rfl),?_] f4))
  ·show fa (fa (λx n=>xM x (Pg n)) (fc hw.1 fn)) λx n=>xM x (PD n)
  ·simp;omega
  ·show(_&&_)=false;rw[eZ (Ob _ (NG _ NH)) hw.2];rfl
 clear hK K m;nofun
 delta wS wT wE wA wV wG Nv;show ae hG ?_;delta wB;show aE (Q0:=J) (λ_ L _ u=>?_) (λ_ L m _=>cW (m _ _ (hK _ _ ?_)))
 ·show bz λq j=>?_
  left;show aS (aR (d:=d+3) G.pick U ∅ ∅ λI S2 v3 v4 M k2=>j _ _ ?_)
  clear j q;obtain⟨i,rfl⟩:∃i:Np,I=i:=#[I.toNat,∅]
  have hi:i<↥N:=∅
  obtain⟨y,b,ey,s,b0⟩:=hN _ (N7 hi);have X:N[i]?=aB (ap y b):=by rw[Nt hi,ey]
  show bz λq j=>?_
  left;show aC (NW _) (by rw[NQ];show X) ?_
  delta wU ap;show ae (show bQ [8,9] [.str y,.int b] [aB (.ref r),aB (.tup [.tup c,.tup N,.tup (us.map au)]),aB (.tup c),aB (.tup N),aB (.tup (us.map au)),aB (.int v),ba,aB (.int (i:Np)),ba,ba,ba]=aB [aB (.ref r),aB (.tup [.tup c,.tup N,.tup (us.map au)]),aB (.tup c),aB (.tup N),aB (.tup (us.map au)),aB (.int v),ba,aB (.int (i:Np)),aB (.str y),aB (.int b),ba]from rfl) (j _ _ ?_)
  clear j q;show st ?_;left;have B:(S2++[O.lst [.str y,.int b]])[↥S2]?=aB (O.lst [.str y,.int b]):=ah;have:=M.lt;have V:r<(S2++[O.lst [.str y,.int b]]).length:=by simp;omega
  have A:=M.ka (Ka.push (o:=O.lst [.str y,.int b]));generalize S2++[O.lst [.str y,.int b]]=l at B V A ⊢;have t:∀x∈[W.ref ↥S2,.tup [.str y],.tup [.str y,.int b,.int b],.tup [.int b,.str y],.tup [.non,.int b],.tup [.str y,.non]],BF mw l x:=
   fc #[.lst #[_,B],rfl] (fc #[.tup (fc (.str s) fn) (No rfl),rfl] (fc #[.tup (fc (.str s) (fc .int (fc .int fn))) (No rfl),rfl] (fc #[t2 .int (.str s),rfl] (fc #[t2 .non .int,rfl] (fc #[t2 (.str s) .non,rfl] fn)))))
  have x1:[W.ref ↥S2,.tup [.str y],.tup [.str y,.int b,.int b],.tup [.int b,.str y],.tup [.non,.int b],.tup [.str y,.non]].length=6:=rfl;generalize[W.ref ↥S2,.tup [.str y],.tup [.str y,.int b,.int b],.tup [.int b,.str y],.tup [.non,.int b],.tup [.str y,.non]]=xs at t x1 ⊢;have C:(l++[O.lst xs])[↥l]?=aB (.lst xs):=ah;replace t:∀x∈xs,BF mw (l++[O.lst xs]) x:=λx n=>(t x n).ka .push
  replace A:=A.ka (Ka.push (o:=O.lst xs));generalize l++[O.lst xs]=S4 at C t A ⊢;generalize ↥l=c3 at C V ⊢;show bz λq j=>?_
  left;show ae (vN b0 _) ?_;dsimp only;show more C t (fc #[t2 (.str s) .bl,rfl] (fc #[t2 (.str s) (.str (vO b0)),rfl] (fc #[t2 (.str s) (.tup (fc .int fn) (No rfl)),rfl] (fc #[t2 (.tup (fc (.str s) fn) (No rfl)) .int,rfl] (fc #[.str s,rfl] (fc #[.int,rfl] fn)))))) ∅ (No rfl) λc5 S5 T hc5 Z k5=>j _ _ ?_
  clear j q;show st ?_;left;have:=iN C;show l9 (d:=d+2) G ho T Z (by rw[Nq];omega) (by rw[Nq];show _+6<=_;omega) ∅ (A.ka k5) λw S6 hw f6 k6=>?_
  show rF (d:=d+3) P ∅ (u _ _ (k _ S6 #[.tup (fc R (fc (.tup ?_ ?_) (fc tB fn))) (No rfl),?_] f6))
  ·show fa (fa (λx n=>xN x (Pg n)) (fc hw.1 fn)) λx n=>xN x (PD n)
  ·simp;omega
  ·show(_&&(_&&_))=false;rw[eZ (Ob _ (NG _ NH)) hw.2,Qm,OT]
 clear hK K m;show st ?_;left;nofun
 left;show aS (ae dM (aR (d:=d+3) G.pick U (by rw[Ni];omega) (by rw[Ni];omega) λI S2 v3 v4 M k2=>hK _ _ ?_))
 clear hK K;obtain⟨i,rfl⟩:∃i:Np,I=i:=#[I.toNat,∅]
 have H:∀g:Wd,cy g->(∀p∈g,0<=p.1/\p.1<3)->wZ (ag defs fuel (d+4)) fuel #v[.ret (.tup #v[.v 2,.v 3,.op .add (.op .add (.sl (.v 4) .no (.yes (.v 7))) (.tup #v[.own xv 2 #v[.v 0,.v 10]])) (.sl (.v 4) (.yes (.op .add (.v 7) (.c (.int 1)))) .no)])] [aB (.ref r),aB (.tup [.tup c,.tup N,.tup (us.map au)]),aB (.tup c),aB (.tup N),aB (.tup (us.map au)),aB (.int v),ba,aB (.int (i:Np)),ba,ba,aB (au g)] S2 J:=by
  intro g D gm;show st ?_;delta wS wE wA wP wV wG wN Nv;show ae (show fA (.tup (us.map au)) ba (aB ((i:Np):NI)) S2=aB (.tup ((us.map au).take i),S2) by revert fA dB) ?_
  dsimp only;show t4 (d:=d) G ho hp P h3 D gm M λw l hw A k3=>?_
  show ae (bX (dj (by rw[Nq,Os];show _+1<=_;omega))) (ae dM ?_)
  dsimp only;show ae (show fA (.tup (us.map au)) (aB ((i:NI)+1)) ba l=aB (.tup ((us.map au).drop (i+1)),l) by rw[show(i:NI)+1=((i+1:Np):NI) by omega];revert fA eC) ?_
  dsimp only;show ae (bX (dj (by simp;omega))) (k _ l #[.tup (fc R (fc E (fc (.tup ?_ ?_) fn))) (No rfl),?_] A)
  ·show fa (fa (λx n=>xB x (Pg n)) (fc hw.1 fn)) λx n=>xB x (PD n)
  ·simp;omega
  ·show(_&&(_&&_))=false;rw[eZ (Ob _ (NG _ NH)) hw.2,OT,OT]
 nofun
 delta wS wT wE wA wV wG Nv;show aS (ae DA ?_);delta wB;show aE (Q0:=J) (λz L m _=>st ?_) (λ_ L m _=>cW (m _ _ (hK _ _ ?_)))
 ·have z:=N3 z;rw[Ni]at z;have hi:i<↥us:=∅
  left;obtain⟨D,gm⟩:=hu _ (N7 hi);show aC (NW _) (by rw[NQ,Nw,Nt hi];rfl) (cW (m _ _ (hK _ _ (H _ D gm))))
 ·show H [(0,[]),(0,[0]),(0,[0,0])] #[rfl,λk p e=>?_] λp hp=>?_
  ·match k,e with
   |0,e=>cases e;rfl
   |1,e=>cases e;rfl
   |2,e=>cases e;rfl
   |k+3,e=>cases e
  ·simp only[NE,Oc,Pk]at hp;rcases hp with rfl|rfl|rfl<;>show#[Int.le_refl _,#v[]]
def Br {α:Type}{ e:E}{f:Nb (Nf Np)}(L:Nb α)(i j:α->W)(p:α->ND)(g:α->W)(R:Fm)(r:cq e=true)(o:cq c=true)(oc:pH l=true)(hc:cC f Z=ba::ba::ba::R)(hl:↥L<=1000000)
  (n:wE M e Z S λq=>q.1=.tup (L.map λx=>W.tup [i x,j x])/\Ka S q.2)
  (d:∀x∈L,∀S',Ka S S'->jF M c l (ba::aB (i x)::aB (j x)::R) S' (λy _ S2=>p x=true/\y=g x/\Ka S' S2) (λ_ S2=>p x=false/\Ka S' S2))
  (k:∀S',Ka S S'->Q (.ref ↥S',S'++[.lst ((L.filter p).map g)])):Wp (aF M (.comp c (.tp [1,2]) (.seq e) l f) Z S) Q:=by
 obtain⟨w,S1,m,rfl,k1⟩:=bC r n;show o8 (mi:=.its (L.map λx=>W.tup [i x,j x])) L (λx=>W.tup [i x,j x]) p g (λZ=>∃a b,Z=ba::a::b::R) (λx=>ba::aB (i x)::aB (j x)::R) (λx Z S h=>by
  obtain⟨a,b,rfl⟩:=h;show#[rfl,_,_,rfl]) o oc (by rw[hc];show#[_,_,rfl]) hl (by revert ip cU m) k1 (λ_ _ _=>rfl) rfl d k
abbrev fv (b2 b3 b4 b5:ND)(w:W):Prop:=∃a ns bs us,w=bE a ns bs us/\RF a ns bs us/\dQ ↥a ↥bs=b2/\(b2=true->dG (a++ns)=b3)/\(b2=true->b3=true->(N2 ↥bs).all (cM bs)=b4)/\(b2=true->b3=true->b4=true->GoodB bs/\(mx us&&us.all (eJ ↥a bs))=b5)
def xW (h:¬ ((1<=x/\x<=3)/\(1<=y/\y<=3)/\x*y<=6)):dQ x y=false:=OU.mpr λz=>h (by
 unfold dQ at z;simp only[Nj,NZ]at z;show z)
def vP:∀{ns:Nb Nu}{bs:Nb NI}{i:Np}{b:NI}{y:Nu},bs[i]?=aB b->(Nn ap ns bs).set i (ap y b)=Nn ap (ns.set i y) bs
 |[],_,_,_,_,_=>rfl
 |_::_,[],i,_,_,h=>by simp at h
 |_::_,c::_,0,b,_,h=>by cases h;rfl
 |n::ns,c::bs,i+1,b,y,h=>congrArg (ap n c :: ·) (vP (ns:=ns) (bs:=bs) (i:=i) h)
def El {L:Nb Nu}(a:L[j]?=aB y)(hi:i<↥L)(ne:j≠i):¬ (L.set i y).Nodup:=λh=>ne (iq h (x:=y) (by rw[Qe (Ne.symm ne)];show a) (by rw[Ph hi]))
section
variable{a:Np}{bs:Nb NI}{ms ns:Nb Nu}{us:Nb Wd}
def RG.pt (h:RG a bs ms ns us):PT (ms.map W.str) (Nn ap ns bs) us:=by
 have r:=h.rf;have z:=xR h.nl;have:=h.ml;have:=h.nl;have:=h.size.pos;have:=h.size.a3;have:=h.size.n3;have:=h.u;show#[λx c=>?_,λx c=>?_,λg d=>#[h.three g d,λp b=>?_],by rw[Ni];omega,∅,h.u]
 ·obtain⟨y,f,rfl⟩:=NN.mp c;show#[y,rfl,r.asc y (Ob _ f)]
 ·rw[show Nn ap ns bs=(ns.zip bs).map λp=>ap p.1 p.2 by rw[VY,Rw]]at c
  obtain⟨p,b,rfl⟩:=NN.mp c;show#[p.1,p.2,rfl,r.asc _ (NG _ (Q5 b).1),?_];have:=(Q5 b).2;rcases h.size.good with e|e|e|e|e|e<;>(rw[e]at this;simp at this;omega)
 ·obtain⟨k,e⟩:=Rq.mp b;have:=(h.fig d).1.mark k p e;omega
variable{defs:Nb (Nu×Df)}{fuel d:Np}{S:aa}{r:Np}{Q:QW}
def Im (a:30<fuel)(L:Look defs)(P:Parts defs)(b:Is defs ("longer_orders") 2 4 aN)(i:Is defs ("least_form") 2 7 aW){b2   :ND}(h:fv b2 b3 b4 b5 w):Cv (ag defs fuel (d+7)) "look_rule!" 1 [w] S (rE true b2 b3 b4 b5):=by
 obtain⟨ms,ns,bs,us,rfl,h,c,e,f,g⟩:=h;show vK (d:=d) a L P b i h c e f g
def rH (I:30<fuel)(G:Gen defs)(ho:Is defs ("_law_odd") 2 2 bg)(hg:Is defs ("_law_bad_bounds") 2 8 bF)(h:RG a bs ms ns us)(hf:Fl S r)
  (k:∀w S',fv false true true true w->Fl S' r->Q (w,S')):wO (bh (ag defs fuel (d+5)) "_law_bad_bounds" 2 [.ref r,bE ms ns bs us] S) Q:=by
 show aK hg rfl rfl λM U=>?_
 replace k:∀w S',fv false true true true w->Fl S' r->M (.rt w,S'):=λw S' x y=>U _ _ (k w S' x y)
 clear U;have F:=h.rf;have hml:=h.ml;have B:=h.nl;have:=h.size.a3;have:=h.size.n3;have:=h.size.pos;change wZ _ _ bF [aB (.ref r),aB (.tup [.tup (ms.map W.str),.tup (Nn ap ns bs),.tup (us.map au)]),ba,ba,ba,ba,ba,ba] S M;have mk:∀(f j:Nb Nu) (g:Nb NI) (w:W),w=bE f j g us->↥j=↥g->↥f<=20->↥j<=20->(∀y∈f++j,Asc y)->¬ ((1<=(↥f:NI)/\(↥f:NI)<=3)/\(1<=(↥g:NI)/\(↥g:NI)<=3)/\(↥f:NI)*↥g<=6)->fv false true true true w:=λf j g w e l1 l2 l3 E no=>
  #[f,j,g,us,e,#[l1,l2,l3,F.u,E,F.three],xW no,(λz=>nomatch z),(λz=>nomatch z),λz=>nomatch z]
 delta bF;show st ?_;delta wS wE wV wG wU;show ae (show bQ [2,3,4] [.tup (ms.map W.str),.tup (Nn ap ns bs),.tup (us.map au)] [aB (.ref r),aB (.tup [.tup (ms.map W.str),.tup (Nn ap ns bs),.tup (us.map au)]),ba,ba,ba,ba,ba,ba]=aB [aB (.ref r),aB (.tup [.tup (ms.map W.str),.tup (Nn ap ns bs),.tup (us.map au)]),aB (.tup (ms.map W.str)),aB (.tup (Nn ap ns bs)),aB (.tup (us.map au)),ba,ba,ba]from rfl) ?_
 nofun
 left;show vt (d:=d) (m:=12) I G hf (Ny _) λb S1 yl C _ X _=>hK _ _ ?_
 clear hK K;have A:∀y∈b,Asc y:=λy J=>rG (C y J)
 obtain⟨p,q,s,t,P⟩:∃p q s t,b.drop 8=[p,q,s,t]:=by
  have:(b.drop 8).length=4:=by rw[P2,yl]
  match b.drop 8,this with
  |[p,q,s,t],_=>show#[p,q,s,t,rfl]
 have Z:∀i<4,∀z,[p,q,s,t][i]?=aB z->(b.map W.str)[8+i]?=aB (.str z):=λi _ z e=>by
  rw[<- P,Uo]at e;rw[Nw,e];rfl
 have c:∀y∈[p,q,s,t],Asc y:=λy J=>A y (PD (P▸J))
 have own:(N2 4).map (λi=>ap ([p,q,s,t].getD i "") (i:Np))=Nn ap [p,q,s,t] [0,1,2,3]:=rfl
 nofun
 delta wS wE wA;show A6 4 (λ_=>true) (λi=>ap ([p,q,s,t].getD i "") (i:Np)) [aB (.tup (b.map W.str))] rfl rfl rfl rfl #v[] (by delta wE;show#[rfl,.refl]) (λi hi S' _=>?_) λS2 k2=>?_
 ·delta jF wC wE wA wV wG;show#[λ_=>ae dM ?_,λz=>by cases z]
  dsimp only;obtain⟨z,R⟩:∃z,[p,q,s,t][i]?=aB z:=#[_,Nt (by simpa using hi)]
  show aC ∅ (by rw[show((8:NI)+(i:Np)).toNat=8+i by omega];show Z i hi z R) #[rfl,?_,.refl]
  rw[Oa,R];rfl
 rw[cL,own];show dO ah (hK _ _ ?_);clear hK K;have H:=(X.ka k2).ka (Ka.push (o:=O.lst (Nn ap [p,q,s,t] [0,1,2,3])));generalize S2++[O.lst (Nn ap [p,q,s,t] [0,1,2,3])]=S3 at H;have r3:=H.lt;have N:∀y∈ms,Asc y:=λy C=>F.asc y (Ob _ C)
 have an:∀y∈ns,Asc y:=λy C=>F.asc y (NG _ C)
 have tk:∀n:Np,gW (b.map W.str) ba (aB (n:NI))=(b.take n).map W.str:=λn=>by rw[dB,Q1]
 have u:∀n≤12,(b.take n).length=n:=λn h=>by rw[Os];omega
 have l:∀n,∀y∈b.take n,Asc y:=λn y h=>A y (Pg h)
 nofun
 delta wS wE wA wP wV wG wN Nv;show ae (show fA (.tup (b.map W.str)) ba (aB ((4:Np):NI)) S3=aB (.tup ((b.take 4).map W.str),S3) by revert fA tk) (hK _ _ ?_)
 clear hK K;dsimp only;have T:∀x∈[W.tup [.tup [],.tup (Nn ap ns bs),.tup (us.map au)],.tup [.tup ((b.take 4).map W.str),.tup (Nn ap ns bs),.tup (us.map au)],.tup [.tup (ms.map W.str),.tup [],.tup (us.map au)],.tup [.tup (ms.map W.str),.tup (Nn ap [p,q,s,t] [0,1,2,3]),.tup (us.map au)]],fv false true true true x:=
  fc (mk [] ns bs _ rfl B (OW _) F.n an (λz=>absurd z.1.1 #v[])) (fc (mk (b.take 4) ns bs _ rfl B (by rw[u 4 #v[]];decide) F.n (fa (l 4) an) (λz=>absurd z.1.2 (by rw[u 4 #v[]];decide))) (fc (mk ms [] [] _ rfl rfl F.m (OW _) (fa N fn) (λz=>absurd z.2.1.1 #v[])) (fc (mk ms [p,q,s,t] [0,1,2,3] _ rfl rfl F.m (No rfl) (fa N c) (λz=>absurd z.2.1.2 #v[])) fn)))
 have D:[W.tup [.tup [],.tup (Nn ap ns bs),.tup (us.map au)],.tup [.tup ((b.take 4).map W.str),.tup (Nn ap ns bs),.tup (us.map au)],.tup [.tup (ms.map W.str),.tup [],.tup (us.map au)],.tup [.tup (ms.map W.str),.tup (Nn ap [p,q,s,t] [0,1,2,3]),.tup (us.map au)]].length=4:=rfl;generalize[W.tup [.tup [],.tup (Nn ap ns bs),.tup (us.map au)],.tup [.tup ((b.take 4).map W.str),.tup (Nn ap ns bs),.tup (us.map au)],.tup [.tup (ms.map W.str),.tup [],.tup (us.map au)],.tup [.tup (ms.map W.str),.tup (Nn ap [p,q,s,t] [0,1,2,3]),.tup (us.map au)]]=xs at T D ⊢;nofun
 delta wS wE wA wP wV wG wN Nv;have L:=λ(S:aa) (n:Np)=>show fA (.tup (b.map W.str)) ba (aB (n:NI)) S=aB (.tup ((b.take n).map W.str),S) by revert fA tk
 show ae (L _ 3) (ae (show fA (.tup (Nn ap [p,q,s,t] [0,1,2,3])) ba (aB 3) _=aB (.tup (Nn ap [p,q,s] [0,1,2]),_)from rfl) (ae (L _ 8) (ae (L _ 2) ?_)))
 dsimp only;show ae (fP (aD ah) ah (dj (by rw[Nq,D];show No rfl))) (hK _ _ ?_)
 clear hK K;have h2:∀x∈xs++[W.tup [.tup ((b.take 3).map W.str),.tup (Nn ap [p,q,s] [0,1,2]),.tup (us.map au)],.tup [.tup ((b.take 8).map W.str),.tup (Nn ap [p,q,s,t] [0,1,2,3]),.tup (us.map au)],.tup [.tup ((b.take 2).map W.str),.tup (Nn ap [p,q,s,t] [0,1,2,3]),.tup (us.map au)]],fv false true true true x:=
  fa T (fc (mk (b.take 3) [p,q,s] [0,1,2] _ rfl rfl (by rw[u 3 #v[]];decide) (No rfl) (fa (l 3) (fc (c p (by simp)) (fc (c q (by simp)) (fc (c s (by simp)) fn)))) (λz=>absurd z.2.2 (by rw[u 3 #v[]];decide))) (fc (mk (b.take 8) [p,q,s,t] [0,1,2,3] _ rfl rfl (by rw[u 8 #v[]];decide) (No rfl) (fa (l 8) c) (λz=>absurd z.2.1.2 #v[])) (fc (mk (b.take 2) [p,q,s,t] [0,1,2,3] _ rfl rfl (by rw[u 2 #v[]];decide) (No rfl) (fa (l 2) c) (λz=>absurd z.2.1.2 #v[])) fn)))
 show st ?_;left;show nC (d:=d+2) G ho ah (by rw[Nq,D];show No rfl) (by rw[Nq,D];show No rfl) (by simp;omega) (((H.ka .push).ka .push).ka .push) λw V hw Y _=>k w V (h2 w hw) Y
end
def Em {L:Nb Nu}(h:S[l]?=aB (.lst (L.map W.str)))(hi:i<↥L)(h2:2<=↥L):∃j y,j≠i/\L[j]?=aB y/\∀Q:QW,Q (.str y,S)->wO (mR (.ref l) (.int (i-1)) S) Q:=by
 cases i with
 |zero=>
  show#[↥L-1,L[↥L-1],∅,Nt _,λQ q=>ae ?_ q]
  change wo (.ref l) (.int (-1)) S=_;have e:rN (L.map W.str).length (-1)=aB (↥L-1):=by
   unfold rN;rw[Ni,N1 #v[],NK ∅]
   congr 1;omega
  simp only[wo,aG h,mG,e,Pe];rw[Nw,Nt ∅];rfl
 |succ m=>
  show#[m,L[m],∅,Nt _,λQ q=>?_]
  rw[show((m+1:Np):NI)-1=(m:Np) by omega]
  show cO h (by rw[Nw,Nt ∅];rfl) q
abbrev PN (L:Nb Nu)(i:Np)(x:W):Prop:=∃y,x=.str y/\Asc y/\(dF y=false\/∃j,j≠i/\L[j]?=aB y)
def Mf (h:(((y.cps.all λc=>decide (c<128))&&decide (↥y<=1000)) && !dF y)=true):PN L i (.str y):=by
 rw[Nj]at h;show#[y,rfl,jL h.1,.inl (by simpa using h.2)]
def vQ (d:↥ns=n)(h2:↥c=n):(N2 n).map (λk=>ap (ns.getD k "") (c.getD k 0))=Nn ap ns c:=by
 show Qp (by rw[Ni,Oz,O3];omega) λk a b=>?_
 rw[Ni,Oz]at a;rw[Ru,Uq,List.getElem_zipWith,Oa,Oa,Nt ∅,Nt ∅];rfl
def Bs :Nn ap ns bs=(ns.zip bs).map λx=>W.tup [.str x.1,.int x.2]:=by
 rw[VY,Rw];rfl
def Bt (h:S[l]?=aB (.lst [.int (i-1),.int i,.int (i+1)])):ci .notin (.int c) (.ref l) S=aB (.bl (!((i-1==c)||((i==c)||((i+1==c)||false)))),S):=by
 (delta ci yX dH BE xX d8;simp only[oU h,aG h])
 rfl
section
variable{defs:Nb (Nu×Df)}{fuel d:Np}{S:aa}{r:Np}{Q:QW}
def Bu (M:Is defs ("_law_good_backs") 1 2 bf){f:Nb NI}(e:S[l]?=aB (.lst (f.map W.int)))(hl:↥f<=100)(k:∀S',Ka S S'->Q (.bl ((N2 ↥f).all (cM f)),S')):wO (bh (ag defs fuel (d+1)) y4 1 [.ref l] S) Q:=by
 show aK M rfl rfl λE H=>?_
 replace k:∀S' b,Ka S S'->(N2 ↥f).all (cM f)=b->E (.rt (.bl b),S'):=λS' b a z=>H _ _ (z▸k S' a)
 clear H;change wZ _ _ bf [aB (.ref l),ba] S E;delta bf;nofun
 show q9 rfl rfl ?_;delta wE wA wV wG;show j5 e #[_,λi Z S'=>(∃t,Z=[aB (.ref l),t])/\(∀j<i,cM f j=true)/\Ka S S',rfl,by rw[Ni];omega,#[#[_,rfl],λ_ h=>absurd h ∅,.refl],?_,?_]
 ·rintro i Z S1 hi ⟨⟨t,rfl⟩,w,k1⟩ J C m;rw[Ni]at hi;have hi:i<↥f:=∅
  have o:=k1.get _ _ e;have r:(f.map W.int)[i]?=aB (.int (f.getD i 0)):=by rw[Nw,aL hi];rfl
  have no:cM f i=false->(N2 ↥f).all (cM f)=false:=eZ (Oh.mpr hi);have A:∀j<↥f,(f.map W.int)[j]?=aB (.int (f.getD j 0)):=λj B=>by rw[Nw,aL B];rfl
  change wZ (ag defs fuel d) fuel _ [aB (.ref l),aB (.int (i:Np))] S1 J;unfold cM at no;generalize hc:f.getD i 0=c at r no;show bz λT u=>pe (x:=!((((i:NI)-1)==c)||(((i:NI)==c)||((((i:NI)+1)==c)||false))) ||!(decide (0<=c)&&decide (c<(↥f:NI)))) (vB (tL λQ q=>?_) λ_ S' g=>eV (tQ (p:=λj n=>decide (j<n)) (λQ q=>q) (λQ q=>?_) (λQ q=>?_) rfl)) (λz S' g=>#[tR,λS2 k2=>m _ _ (k _ _ (k1.trans (g.trans k2)) (no ?_))]) λz S2 k2=>u _ _ ?_
  ·delta wE wA wV wG;show cO o r (ae jV (ae dM ?_));dsimp only;show ae (Bt ah) (q _ .push)
  ·delta wE wV wG;show cO (g.get _ _ o) r q
  ·delta wE wA wV wG;show j5 (g.get _ _ o) ?_;rw[Ni];show q
  ·show OU.mpr λy=>?_
   simp only[Nj,NZ,Pa,Bool.not_eq_true',QL,Pu,PP]at y z;obtain⟨⟨O,P⟩,R,_⟩:=y;rcases z with z|z
   ·split at R<;>omega
   ·rw[N4 O,N4 P]at z;cases z
  ·have s:0<=c/\c<(↥f:NI):=by
    rw[QL]at z;have:=z.2
    simpa using this
   have I:(if c-(i:NI)<0 then -(c-(i:NI))else c-(i:NI))<=1:=by
    rw[QL]at z;have:=z.1;simp at this;split<;>omega
   obtain⟨j,rfl⟩:∃j:Np,c=j:=#[c.toNat,∅]
   have G:=k2.get _ _ o;rw[N4 s.1,N4 s.2,N4 I,P1,P1,NQ]at no;show bz λU v=>pe (x:=!(f.getD j 0==(i:NI))) (tL λQ q=>?_) (λz S' g=>#[tR,λL k3=>m _ _ (k _ _ (k1.trans (k2.trans (g.trans k3))) (no (by simpa using z)))]) λz L k3=>v _ _ (cW (C _ _ #[#[_,rfl],λD N=>?_,k1.trans (k2.trans k3)]))
   ·delta wE wV wG;show cO G r (cO G (A j ∅) (ae LU (q _ .refl)))
   ·rcases Ww D i with h|h
    ·show w D h
    ·obtain rfl:D=i:=∅
     unfold cM;rw[hc,N4 s.1,N4 s.2,N4 I,NQ]
     simpa using z
 ·rintro Z S1 ⟨⟨t,rfl⟩,w,k1⟩;show hK _ _ (st ?_);delta wS wE;show k _ _ k1 (NB.mpr λj B=>w j ?_)
  rw[Ni,NQ];show Oh.mp B
variable{a:Np}{bs:Nb NI}{ms ns:Nb Nu}{us:Nb Wd}
def t6 (G:Gen defs)(ho:Is defs ("_law_odd") 2 2 bg)(s:Is defs ("_law_put") 3 3 cg)(hg:Is defs ("_law_bad_names") 2 9 bI)(h:RG a bs ms ns us)(Y:Fl S r)
  (k:∀w S',fv true false true true w->Fl S' r->Q (w,S')):wO (bh (ag defs fuel (d+5)) "_law_bad_names" 2 [.ref r,bE ms ns bs us] S) Q:=by
 show aK hg rfl rfl λD X=>?_
 replace k:∀w S',fv true false true true w->Fl S' r->D (.rt w,S'):=λw S' x y=>X _ _ (k w S' x y)
 clear X;have F:=h.rf;have bo:=h.bounds;have hml:=h.ml;have q:=h.nl;have:=h.size.a3;have:=h.size.n3;have:=h.size.pos;have zl:=xR q;have am:∀y∈ms,Asc y:=λy b=>F.asc y (Ob _ b)
 have an:∀y∈ns,Asc y:=λy b=>F.asc y (NG _ b)
 have mk:∀(f g:Nb Nu) (y:Nu) (i:Np),f++g=(ms++ns).set i y->↥f=↥ms->↥g=↥ns->Asc y->i<(ms++ns).length->(dF y=false\/∃j,j≠i/\(ms++ns)[j]?=aB y)->fv true false true true (bE f g bs us):=λf g y i e l1 l2 u hi b=>
  #[f,g,bs,us,rfl,#[∅,∅,∅,F.u,λx C=>by
   rw[e]at C;rcases List.mem_or_eq_of_mem_set C with C|rfl
   ·show F.asc x C
   ·show u,F.three],by rw[l1];show bo,λ_=>by
   rw[e];rcases b with b|⟨j,ne,hj⟩
   ·show xL (List.mem_set hi _) b
   ·show xK (El hj hi ne),(λ_ z=>nomatch z),λ_ z=>nomatch z]
 change wZ _ _ bI [aB (.ref r),aB (.tup [.tup (ms.map W.str),.tup (Nn ap ns bs),.tup (us.map au)]),ba,ba,ba,ba,ba,ba,ba] S D;have L:(ns.zip bs).map (λp=>W.str p.1)=ns.map W.str:=by
  rw[show(λp:Nu×NI=>W.str p.1)=W.str∘WK from rfl,<- O2,Vk ∅]
 delta bI;show st ?_;delta wS wE wV wG wU;show ae (show bQ [2,3,4] [.tup (ms.map W.str),.tup (Nn ap ns bs),.tup (us.map au)] [aB (.ref r),aB (.tup [.tup (ms.map W.str),.tup (Nn ap ns bs),.tup (us.map au)]),ba,ba,ba,ba,ba,ba,ba]=aB [aB (.ref r),aB (.tup [.tup (ms.map W.str),.tup (Nn ap ns bs),.tup (us.map au)]),aB (.tup (ms.map W.str)),aB (.tup (Nn ap ns bs)),aB (.tup (us.map au)),ba,ba,ba,ba]from rfl) ?_
 nofun
 left;show eY ?_;show Br (ns.zip bs) (λp=>.str p.1) (λp=>.int p.2) (λ_=>true) (λp=>W.str p.1) [] rfl rfl rfl rfl (by rw[RM];omega) (by delta wE wV wG;show#[congrArg W.tup Bs,.refl]) (λp _ S' _=>?_) λS1 k1=>?_
 ·delta jF wC wE wV wG;show#[λ_=>#[rfl,rfl,.refl],λz=>by cases z]
 rw[cL,L];dsimp only;show ae (fP (aD (k1.get _ _ ah)) ah (dj (by rw[Nq,Ni,Ni];omega))) (hK _ _ ?_)
 clear hK K;rw[<- Oj];have A:(S1++[O.lst (ns.map W.str)]++[O.lst ((ms++ns).map W.str)])[(S1++[O.lst (ns.map W.str)]).length]?=aB (.lst ((ms++ns).map W.str)):=ah;have k2:Ka S (S1++[O.lst (ns.map W.str)]++[O.lst ((ms++ns).map W.str)]):=(Ka.push.trans k1).trans (Ka.push.trans .push);have Z:r<(S1++[O.lst (ns.map W.str)]).length:=by have:=k1.len;have:=Y.lt;simp at *;omega
 generalize S1++[O.lst (ns.map W.str)]++[O.lst ((ms++ns).map W.str)]=S2 at A k2 ⊢;generalize(S1++[O.lst (ns.map W.str)]).length=t at A Z ⊢;have f2:=Y.ka k2;clear k1;have Ll:(ms++ns).length=↥ms+↥ns:=Nq ..;nofun
 left;show j5 A (aR (d:=d+3) G.pick f2 (by rw[Ni];omega) (by rw[Ni];omega) λv l v0 v1 f3 k3=>hK _ _ ?_)
 clear hK K;rw[Ni]at v1;obtain⟨i,rfl⟩:∃i:Np,v=i:=#[v.toNat,∅]
 have hi:i<(ms++ns).length:=∅
 have P:=k3.get _ _ (On Z) A;have rt:t<↥l:=iN P;nofun
 left;show hK _ _ ?_;clear hK K;have c:∀y:Nu,(((y.cps.all λc=>decide (c<128))&&decide (↥y<=1000)) && !dF y)=true->PN (ms++ns) i (.str y):=λy h=>Mf h
 have I:∀x∈[W.str "",.str "A",.str "a1",.str "abcdefghi",.str "a b",.str "a/b",.str " a",.str "a;",.str "-",.str "aB",.str "a_",.str "marks",.str "ways",.str "bar"],PN (ms++ns) i x:=
  fc (c _ (by decide +kernel)) (fc (c _ (by decide +kernel)) (fc (c _ (by decide +kernel)) (fc (c _ (by decide +kernel)) (fc (c _ (by decide +kernel)) (fc (c _ (by decide +kernel)) (fc (c _ (by decide +kernel)) (fc (c _ (by decide +kernel)) (fc (c _ (by decide +kernel)) (fc (c _ (by decide +kernel)) (fc (c _ (by decide +kernel)) (fc (c _ (by decide +kernel)) (fc (c _ (by decide +kernel)) (fc (c _ (by decide +kernel)) fn)))))))))))))
 have M:[W.str "",.str "A",.str "a1",.str "abcdefghi",.str "a b",.str "a/b",.str " a",.str "a;",.str "-",.str "aB",.str "a_",.str "marks",.str "ways",.str "bar"].length=14:=rfl
 generalize[W.str "",.str "A",.str "a1",.str "abcdefghi",.str "a b",.str "a/b",.str " a",.str "a;",.str "-",.str "aB",.str "a_",.str "marks",.str "ways",.str "bar"]=xs at I M ⊢
 have U:=f3.ka (Ka.push (o:=O.lst xs));have R:(l++[O.lst xs])[t]?=_:=aD P;have B:(l++[O.lst xs])[↥l]?=aB (O.lst xs):=ah;generalize l++[O.lst xs]=S4 at U R B ⊢;generalize ↥l=c3 at B rt ⊢;obtain⟨j,y,ne,E,b⟩:=Em R hi ∅
 nofun
 left;show ae jV (b _ (ae jV (b _ ?_)));dsimp only;have py:PN (ms++ns) i (.str y):=#[y,rfl,F.asc y (NT E),.inr #[j,ne,E]];have h2:∀x∈xs++[W.str "some",.str "each",.str "not",.str "and",.str "or",.str "is",.str "a\n",.str y,.str y],PN (ms++ns) i x:=fa I (fc (c _ (by decide +kernel)) (fc (c _ (by decide +kernel)) (fc (c _ (by decide +kernel)) (fc (c _ (by decide +kernel)) (fc (c _ (by decide +kernel)) (fc (c _ (by decide +kernel)) (fc (c _ (by decide +kernel)) (fc py (fc py fn)))))))))
 show ae (fP (aD B) ah (dj (by rw[Nq,M];show No rfl))) (hK _ _ ?_)
 clear hK K;have x2:(xs++[W.str "some",.str "each",.str "not",.str "and",.str "or",.str "is",.str "a\n",.str y,.str y]).length=23:=by rw[Nq,M];rfl
 generalize xs++[W.str "some",.str "each",.str "not",.str "and",.str "or",.str "is",.str "a\n",.str y,.str y]=ys at h2 x2 ⊢;generalize[W.str "some",.str "each",.str "not",.str "and",.str "or",.str "is",.str "a\n",.str y,.str y]=zs;clear b py ne E y j I;nofun
 left;have:=iN B;show nC (d:=d+2) G ho ah ∅ ∅ (by simp;omega) ((U.ka .push).ka .push) λw N hw V _=>hK _ _ ?_
 clear hK K;obtain⟨y,rfl,u,b⟩:=h2 w hw;nofun
 delta wS wT wE wA wV wG Nv;show aS (ae DA ?_);delta wB;rw[Ni];show aE (Q0:=D) (λz Q2 _ J=>st ?_) (λz Q2 n _=>cW (n _ _ (hK _ _ ?_)))
 ·have z:i<↥ms:=by have:=N3 z;omega
  left;show rF (d:=d+3) s (by rw[Ni];omega) (J _ _ ?_)
  rw[vL (by rw[Ni];show z),<- UR]
  show k _ N (mk (ms.set i y) ns y i (by rw[List.set_append_left _ _ z]) (Qb ..) rfl u hi b) V
 ·have z:↥ms<=i:=by have:=P9 z;omega
  clear hK K n;obtain⟨m,rfl⟩:∃m,i=↥ms+m:=#[i-↥ms,∅]
  have hm:m<↥ns:=∅
  nofun
  left;show aS (ae jV (hK _ _ ?_));clear hK K;dsimp only;rw[Ni,show((↥ms+m:Np):NI)-(↥ms:NI)=(m:Np) by omega]
  have T:bs[m]?=aB bs[m]:=Nt ∅
  obtain⟨y',H⟩:=Bg q T;show st ?_;left;show aC (NW _) (by rw[NQ];show H) (aC #v[] rfl ?_)
  show rF (w:=ap y bs[m]) (d:=d+3) s ∅ ?_
  rw[vL ∅,vP T]
  show k _ N (mk ms (ns.set m y) y (↥ms+m) (by rw[List.set_append_right _ _ (P4 ..),Nat.add_sub_cancel_left]) rfl (Qb ..) u hi b) V
end
section
variable{a:Np}{bs:Nb NI}{ns:Nb Nu}{us:Nb Wd}
def t8 (G:Gen defs)(ho:Is defs ("_law_odd") 2 2 bg)(N:Is defs ("_law_good_backs") 1 2 bf)(hg:Is defs ("_law_bad_backs") 2 7 bJ)(h:RG a bs ms ns us)(hf:Fl S r)
  (k:∀w S',fv true true false true w->Fl S' r->Q (w,S')):wO (bh (ag defs fuel (d+5)) "_law_bad_backs" 2 [.ref r,bE ms ns bs us] S) Q:=by
 show aK hg rfl rfl λj hR=>?_
 replace k:∀w S',fv true true false true w->Fl S' r->j (.rt w,S'):=λw S' x y=>hR _ _ (k w S' x y)
 clear hR;have F:=h.rf;have bo:=h.bounds;have nm:=h.names;have m:=h.nl;have:=h.size.n3;have zl:=xR m;have mk:∀b:Nb NI,↥b=↥bs->(N2 ↥b).all (cM b)=false->fv true true false true (bE ms ns b us):=λb hl M=>
  #[ms,ns,b,us,rfl,#[∅,F.m,F.n,F.u,F.asc,F.three],by rw[hl];show bo,λ_=>nm,λ_ _=>M,λ_ _ z=>nomatch z]
 change wZ _ _ bJ [aB (.ref r),aB (.tup [.tup (ms.map W.str),.tup (Nn ap ns bs),.tup (us.map au)]),ba,ba,ba,ba,ba] S j;have P:(ns.zip bs).map (λp=>W.int p.2)=bs.map W.int:=by
  rw[show(λp:Nu×NI=>W.int p.2)=W.int∘Prod.snd from rfl,<- O2,U8 ∅]
 delta bJ;show st ?_;delta wS wE wV wG wU;show ae (show bQ [2,3,4] [.tup (ms.map W.str),.tup (Nn ap ns bs),.tup (us.map au)] [aB (.ref r),aB (.tup [.tup (ms.map W.str),.tup (Nn ap ns bs),.tup (us.map au)]),ba,ba,ba,ba,ba]=aB [aB (.ref r),aB (.tup [.tup (ms.map W.str),.tup (Nn ap ns bs),.tup (us.map au)]),aB (.tup (ms.map W.str)),aB (.tup (Nn ap ns bs)),aB (.tup (us.map au)),ba,ba]from rfl) ?_
 nofun
 delta wS wE;show Br (ns.zip bs) (λp=>.str p.1) (λp=>.int p.2) (λ_=>true) (λp=>W.int p.2) [] rfl rfl rfl rfl (by rw[RM];omega) (by delta wE wV wG;show#[congrArg W.tup Bs,.refl]) (λp _ S' _=>?_) λS1 k1=>hK _ _ ?_
 ·delta jF wC wE wV wG;show#[λ_=>#[rfl,rfl,.refl],λz=>by cases z]
 clear hK K;rw[cL,P];delta Nv;have H:(S1++[O.lst (bs.map W.int)])[↥S1]?=aB (.lst (bs.map W.int)):=ah;have Z:=(hf.ka k1).ka (Ka.push (o:=O.lst (bs.map W.int)));have n:r<↥S1:=by have:=k1.len;have:=hf.lt;omega
 generalize S1++[O.lst (bs.map W.int)]=S2 at H Z ⊢;generalize ↥S1=t at H n ⊢;clear k1;nofun
 left;show aS (aR (d:=d+3) G.pick Z ∅ ∅ λv S3 v0 v1 f3 k3=>hK _ _ ?_)
 clear hK K;obtain⟨i,rfl⟩:∃i:Np,v=i:=#[v.toNat,∅]
 have hi:i<↥bs:=∅
 have X:=k3.get _ _ (On n) H;have big:∀S:aa,gT .pow (.int 10) (.int 20) S=aB (.int 100000000000000000000,S):=λS=>rfl
 nofun
 delta wS wE wA wV wG wN Nv;show aS (ae (big _) (ae (big _) (ae jV ?_)));dsimp only;show cO (w:=.int bs[i]) X (by rw[Nw,Nt hi];rfl) (ae dM (aS (ae (m9 ∅) ?_)))
 dsimp only;generalize(bs[i]+1) % ((Nn ap ns bs).length:NI)=z5;generalize((Nn ap ns bs).length:NI)=z2;have D:∀x∈[W.int (-1),.int z2,.int 100000000000000000000,.int (0-100000000000000000000),.int z5],∃z:NI,x=.int z:=fc #[_,rfl] (fc #[_,rfl] (fc #[_,rfl] (fc #[_,rfl] (fc #[_,rfl] fn))));have:=f3.lt;show nC (d:=d+2) G ho ah (No rfl) (No rfl) (NJ this) (f3.ka .push) λw U hw f4 k4=>?_
 obtain⟨z,rfl⟩:=D w hw;clear D hw;have Y:=k4.get _ _ (On n) (aD X);show j4 Y (Tf (by rw[Ni];show hi)) (hK _ _ ?_)
 clear hK K;rw[show(bs.map W.int).set i (.int z)=(bs.set i z).map W.int from UR.symm]
 have B:(U.set t (.lst ((bs.set i z).map W.int)))[t]?=aB (.lst ((bs.set i z).map W.int)):=dA Y;have I:=f4.own (o:=O.lst ((bs.set i z).map W.int)) n;have T:(bs.set i z).length=↥bs:=Qb ..;generalize U.set t (.lst ((bs.set i z).map W.int))=S5 at B I ⊢;generalize bs.set i z=b at B T;have f:∀(c:aa) (l:Np) (b:Nb NI),c[l]?=aB (.lst (b.map W.int))->↥b=↥bs->r<l->Fl c r->wZ (ag defs fuel (d+4)) fuel #v[.ite (.own y4 1 #v[.v 5]) #v[.put (.v 5) (.v 6) (.op .sub (.c (.int 0)) (.c (.int 1)))] .nil,.ret (.tup #v[.v 2,.bi .tuple #v[.comp (.tup #v[.ix (.ix (.v 3) (.v 1)) (.c (.int 0)),.ix (.v 2) (.v 1)]) (.nm 1) (.rng #v[.bi .len #v[.v 3]]) .nil [ba,ba,aB 5,aB 3]],.v 4])] [aB (.ref r),aB (.tup [.tup (ms.map W.str),.tup (Nn ap ns bs),.tup (us.map au)]),aB (.tup (ms.map W.str)),aB (.tup (Nn ap ns bs)),aB (.tup (us.map au)),aB (.ref l),aB (.int (i:Np))] c j:=by
  intro c l b C l6 hl q;have fin:∀(g:aa) (b:Nb NI),g[l]?=aB (.lst (b.map W.int))->↥b=↥bs->(N2 ↥b).all (cM b)=false->Fl g r->wZ (ag defs fuel (d+4)) fuel #v[.ret (.tup #v[.v 2,.bi .tuple #v[.comp (.tup #v[.ix (.ix (.v 3) (.v 1)) (.c (.int 0)),.ix (.v 2) (.v 1)]) (.nm 1) (.rng #v[.bi .len #v[.v 3]]) .nil [ba,ba,aB 5,aB 3]],.v 4])] [aB (.ref r),aB (.tup [.tup (ms.map W.str),.tup (Nn ap ns bs),.tup (us.map au)]),aB (.tup (ms.map W.str)),aB (.tup (Nn ap ns bs)),aB (.tup (us.map au)),aB (.ref l),aB (.int (i:Np))] g j:=by
   intro g b e7 l7 M s;show st ?_;left;show A6 ↥bs (λ_=>true) (λk=>ap (ns.getD k "") (b.getD k 0)) [aB (.ref l),aB (.tup (Nn ap ns bs))] rfl rfl rfl rfl ∅ (by delta wE wA wV wG;show aS #[by rw[zl],.refl]) (λx hx S' k'=>?_) λV R=>?_
   ·delta jF wC wE wA wV wG;show#[λ_=>?_,λz=>by cases z]
    have ew:(Nn ap ns bs)[x]?=aB (ap (ns.getD x "") (bs.getD x 0)):=by
     rw[<- vQ m rfl,Nw,Qk hx];rfl
    show aC (NW _) (by rw[NQ];show ew) (aC #v[] rfl (cO (w:=.int (b.getD x 0)) (k'.get _ _ e7) (by rw[Nw,aL ∅];rfl) #[rfl,rfl,.refl]))
   ·rw[cL,vQ m l7];show dO ah (k _ _ (mk b l7 M) ((s.ka R).ka .push))
  nofun
  delta wS wT wE wA wV wG;show Bu (d:=d+3) N C ∅ λg u=>?_
  show ae (show dI g (.bl _)=aB _ from rfl) (aE (Q0:=j) (λz A e _=>st ?_) (λz A e _=>cW (e _ _ (hK _ _ (fin g b (u.get _ _ C) l6 z (q.ka u))))))
  delta wS wE wV wG;show ae jV ?_;show j4 (u.get _ _ C) (Tf (by rw[Ni];omega)) (cW (e _ _ (hK _ _ ?_)))
  dsimp only;rw[show(b.map W.int).set i (.int (0-1))=(b.set i (-1)).map W.int from UR.symm]
  show fin _ (b.set i (-1)) (dA (u.get _ _ C)) (by rw[Qb];show l6) (eZ (Oh.mpr (show i<_ by rw[Qb];omega)) ?_) ((q.ka u).own hl)
  unfold cM;rw[show(b.set i (-1)).getD i 0 = -1 by rw[Oa,Ph ∅];rfl]
  rfl
 nofun
 delta wS wT wE wA wV wG;show aS (ae hG ?_);delta wB;show#[λz=>?_,λz=>aE (Q0:=j) (λy=>by cases y) (λ_ A e _=>cW (e _ _ (hK _ _ (f S5 t b B T n I))))]
 have n3:↥bs=3:=by
  rw[zl,Pu]at z;omega
 show aR (d:=d+3) G.pick I #v[] #v[] λv c _ _ q k6=>ae hG ?_
 delta wB;show aE (Q0:=j) (λ_ A e _=>st ?_) (λ_ A e _=>cW (e _ _ (hK _ _ (f c t b (k6.get _ _ (On n) B) T n q))))
 left;have g1:(c++[O.lst [W.int 2,.int 1,.int 0]]++[O.lst [W.int 1,.int 2,.int 0]]++[O.lst [W.int 2,.int 0,.int 1]])[↥c]?=aB (O.lst ([2,1,0].map W.int)):=aD (aD ah);have J:(c++[O.lst [W.int 2,.int 1,.int 0]]++[O.lst [W.int 1,.int 2,.int 0]]++[O.lst [W.int 2,.int 0,.int 1]])[(c++[O.lst [W.int 2,.int 1,.int 0]]).length]?=aB (O.lst ([1,2,0].map W.int)):=aD ah;have L:(c++[O.lst [W.int 2,.int 1,.int 0]]++[O.lst [W.int 1,.int 2,.int 0]]++[O.lst [W.int 2,.int 0,.int 1]])[(c++[O.lst [W.int 2,.int 1,.int 0]]++[O.lst [W.int 1,.int 2,.int 0]]).length]?=aB (O.lst ([2,0,1].map W.int)):=ah;have r6:=q.lt;have r7:r<(c++[O.lst [W.int 2,.int 1,.int 0]]).length:=by simp;omega
 have r8:r<(c++[O.lst [W.int 2,.int 1,.int 0]]++[O.lst [W.int 1,.int 2,.int 0]]).length:=by simp;omega
 have s:Fl (c++[O.lst [W.int 2,.int 1,.int 0]]++[O.lst [W.int 1,.int 2,.int 0]]++[O.lst [W.int 2,.int 0,.int 1]]) r:=((q.ka .push).ka .push).ka .push;generalize c++[O.lst [W.int 2,.int 1,.int 0]]++[O.lst [W.int 1,.int 2,.int 0]]++[O.lst [W.int 2,.int 0,.int 1]]=g at g1 J L s ⊢;generalize(c++[O.lst [W.int 2,.int 1,.int 0]]++[O.lst [W.int 1,.int 2,.int 0]]).length=c2 at L r8 ⊢;generalize(c++[O.lst [W.int 2,.int 1,.int 0]]).length=c1 at J r7 ⊢;have D:∀x∈[W.ref ↥c,.ref c1,.ref c2],∃l b,x=.ref l/\g[l]?=aB (.lst (WJ W.int b))/\↥b=3/\r<l:=fc #[_,_,rfl,g1,rfl,r6] (fc #[_,_,rfl,J,rfl,r7] (fc #[_,_,rfl,L,rfl,r8] fn));show nC (d:=d+2) G ho ah (No rfl) (No rfl) (NJ s.lt) (s.ka .push) λw V hw f8 R=>cW (e _ _ (hK _ _ ?_))
 obtain⟨l,E,rfl,el,l3,hl⟩:=D w hw;show f V l E (R.get _ _ (On hl) (aD el)) ∅ hl f8
end
def Bv :ci .ne (au u) (au v) S=aB (.bl (!decide (u=v)),S):=by
 have:=AV (S:=S) (u:=u) (v:=v);show((jP S (19+1) (au u) (au v)).map (!·)).map (λk=>(W.bl k,S))=_
 have h:((jP S (19+1) (au u) (au v))).map (λk=>(W.bl k,S))=aB (.bl (decide (u=v)),S):=this
 cases e:jP S (19+1) (au u) (au v)with
 |none=>rw[e]at h;cases h
 |some b=>rw[e]at h;cases h;rfl
def KG (a:S[i]?=aB (.lst xs))(h2:S[j]?=aB (.lst [])):ci .ne (.ref i) (.ref j) S=aB (.bl (!xs.isEmpty),S):=by
 show((jP S (19+1) (.ref i) (.ref j)).map (!·)).map (λk=>(W.bl k,S))=_
 (delta jP;simp only[dN a,dN h2])
 cases xs with
 |nil=>rfl
 |cons x xs=>rfl
def Mg {α:Type}:∀ L x y (a:Nb α),(x,y)∈(L++x::y::a).zip ((L++x::y::a).drop 1)
 |[],x,y,a=>NH
 |[z],x,y,a=>NL _ NH
 |z::b::L,x,y,a=>NL _ (Mg (b::L) x y a)
def Bw { a:Nb Wd}(h:BH x y=false):mx (L++x::y::a)=false:=eZ (Mg L x y a) h
section
variable{a:Np}{bs:Nb NI}{ns:Nb Nu}{us:Nb Wd}
def En (h:Iw (us.map ce)){ a:Nb Wd}(e:us=L++x::y::a):BH y x=false:=by
 subst e;have b:=lZ h _ (Mg L x y a);unfold BH;rw[js _ _ (ii _) b];rfl
def Eo :BH x x=false:=by
 unfold BH;cases e:dU (ce x) (ce x)with
 |none=>rfl
 |some b=>
  cases b with
  |false=>rfl
  |true=>
   have:=js _ _ (ii _) e;rw[e]at this;cases this
def Io (h:i+1<↥us):us=us.take i++us[i]::us[i+1]::us.drop (i+2):=by
 rw[Rl,Rl,QC]
def rJ (G:Gen defs)(ho:Is defs ("_law_odd") 2 2 bg)(j:Is defs ("_law_bad_barred") 2 13 aV)(h:RG a bs ms ns us)(hf:Fl S r)
  (k:∀w S',fv true true true false w->Fl S' r->Q (w,S')):wO (bh (ag defs fuel (d+5)) "_law_bad_barred" 2 [.ref r,bE ms ns bs us] S) Q:=by
 show aK j rfl rfl λH hR=>?_
 replace k:∀w S',fv true true true false w->Fl S' r->H (.rt w,S'):=λw S' x y=>hR _ _ (k w S' x y)
 clear hR;have F:=h.rf;have bo:=h.bounds;have nm:=h.names;have hml:=h.ml;have hnl:=h.nl;have J:=h.size.good;have:=h.size.n3;have:=h.size.a3;have zl:=xR hnl;have u60:=h.u;have hsrt:=h.srt;have X:=λ{g:Wd} (j:g∈us)=>h.fig j
 have mk:∀f:Nb Wd,(∀g∈f,cy g)->↥f<=90->(mx f&&f.all (eJ ↥ms bs))=false->fv true true true false (bE ms ns bs f):=λf h3 hl e=>
  #[ms,ns,bs,f,rfl,#[hnl,F.m,F.n,hl,F.asc,h3],bo,λ_=>nm,λ_ _=>l4 J,λ_ _ _=>#[J,e]]
 have mkR:∀f:Nb Wd,(∀g∈f,g∈us)->↥f<=90->mx f=false->fv true true true false (bE ms ns bs f):=λf h3 hl e=>mk f (λg j=>F.three g (h3 g j)) hl (by rw[e];rfl)
 have mkF:∀(vs:Nb Wd) (g:Wd),(∀v∈vs,v∈us)->↥vs<=60->cy g->eJ ↥ms bs g=false->fv true true true false (bE ms ns bs (fk (vs++[g]))):=λvs g h3 hl D e=>by
  have pm:(fk (vs++[g])).Perm (vs++[g]):=qo;show mk _ (λx N=>fa (λv hv=>F.three v (h3 v hv)) (fc D fn) x (pm.mem_iff.mp N)) (by rw[pm.length_eq,Nq];show _+1<=_;omega) ?_
  rw[eZ (pm.mem_iff.mpr (NG _ NH)) e,OT]
 clear h;change wZ _ _ aV [aB (.ref r),aB (.tup [.tup (ms.map W.str),.tup (Nn ap ns bs),.tup (us.map au)]),ba,ba,ba,ba,ba,ba,ba,ba,ba,ba,ba] S H;delta aV;show st ?_;delta wS wE wV wG wU;show ae (show bQ [2,3,4] [.tup (ms.map W.str),.tup (Nn ap ns bs),.tup (us.map au)] [aB (.ref r),aB (.tup [.tup (ms.map W.str),.tup (Nn ap ns bs),.tup (us.map au)]),ba,ba,ba,ba,ba,ba,ba,ba,ba,ba,ba]=aB [aB (.ref r),aB (.tup [.tup (ms.map W.str),.tup (Nn ap ns bs),.tup (us.map au)]),aB (.tup (ms.map W.str)),aB (.tup (Nn ap ns bs)),aB (.tup (us.map au)),ba,ba,ba,ba,ba,ba,ba,ba]from rfl) ?_
 have Y:=λ{S:aa}{Q:QW}{u:Wd}{ps:Nb Np} (M:GoodW a ↥bs u)=>AK (defs:=defs) (fuel:=fuel) (d:=d+2) (S:=S) (Q:=Q) (m0:=.tup (ms.map W.str)) (b0:=.tup (us.map au)) (ps:=ps) G J hnl M
 have A:∀vs:Nb Wd,W.tup [.tup (ms.map W.str),.tup (Nn ap ns bs),.tup (vs.map au)]=bE ms ns bs vs:=λ_=>rfl
 generalize W.tup [.tup (ms.map W.str),.tup (Nn ap ns bs),.tup (us.map au)]=R at Y ⊢;have lM:(ms.map W.str).length=a:=by rw[Ni];show hml
 have fW:∀vs:Nb Wd,W.tup [.tup (ms.map W.str),.tup (Nn ap ns bs),.tup (vs.map au)]=bE ms ns bs vs:=λ_=>rfl
 nofun
 left;show aR (d:=d+3) G.pick hf #v[] #v[] λv S1 v0 v1 f1 k1=>hK _ _ ?_
 clear hK K;nofun
 delta wS wT wE wA wV wG Nv;show ae hG ?_;delta wB;have c1:K [aB (.ref r),aB R,aB (.tup (ms.map W.str)),aB (.tup (Nn ap ns bs)),aB (.tup (us.map au)),aB (.int v),ba,ba,ba,ba,ba,ba,ba] S1:=hK _ _ ?_
 ·show#[λ_=>aS (ae J2 ?_),λ_=>aE (Q0:=H) (λy=>by cases y) (λ_ I b _=>cW (b _ _ c1))]
  delta wB;rw[Ni];show aE (Q0:=H) (λz I _ E=>?_) (λ_ I b _=>cW (b _ _ c1))
  have z:=N3 z;show bz λK2 l=>?_
  left;show aS (ae jV (aR (d:=d+3) G.pick f1 (by rw[Ni];omega) (by rw[Ni];omega) λv2 S2 v3 v4 s _=>l _ _ ?_))
  clear l K2;rw[Ni]at v4;obtain⟨i,rfl⟩:∃i:Np,v2=i:=#[v2.toNat,∅]
  have hi:i+1<↥us:=∅
  show st ?_;delta wS wE wA wP wV wG wN Nv;show ae (show fA (.tup (us.map au)) ba (aB ((i:Np):NI)) S2=aB (.tup ((us.map au).take i),S2) by revert fA dB) ?_
  dsimp only;show ae dM (aC (w:=au us[i+1]) ∅ (by rw[show((i:NI)+1).toNat=i+1 by omega,Nw,Nt hi];rfl) (aC (w:=au us[i]) (NW _) (by rw[NQ,Nw,Nt ∅];rfl) ?_))
  dsimp only;show ae (bX (dj (by simp;omega))) (ae dM ?_)
  dsimp only;show ae (show fA (.tup (us.map au)) (aB ((i:NI)+2)) ba S2=aB (.tup ((us.map au).drop (i+2)),S2) by rw[show(i:NI)+2=((i+2:Np):NI) by omega];revert fA eC) ?_
  dsimp only;show ae (bX (dj (by simp;omega))) ?_
  have e:(us.map au).take i++[au us[i+1],au us[i]]++(us.map au).drop (i+2)=(us.take i++us[i+1]::us[i]::us.drop (i+2)).map au:=by
   rw[Oj,Ol,Ol,Q1,T8,O5];rfl
  rw[e,A];show E _ _ (k _ S2 (mkR _ (λg j=>?_) (by simp;omega) (Bw (En hsrt (Io hi)))) s)
  rcases Op.mp j with j|j
  ·show Pg j
  ·rcases NE.mp j with rfl|j
   ·show N7 _
   ·rcases NE.mp j with rfl|j
    ·show N7 _
    ·show PD j
 clear hK K;have cut1:∀(S:aa) (i:Np),fA (.tup (us.map au)) ba (aB ((i:NI)+1)) S=aB (.tup ((us.map au).take (i+1)),S):=λS i=>by
  rw[show(i:NI)+1=((i+1:Np):NI) by omega];revert fA dB
 nofun
 delta wS wT wE wA wV wG Nv;show ae hG ?_;delta wB;have c1:K [aB (.ref r),aB R,aB (.tup (ms.map W.str)),aB (.tup (Nn ap ns bs)),aB (.tup (us.map au)),aB (.int v),ba,ba,ba,ba,ba,ba,ba] S1:=hK _ _ ?_
 ·show#[λ_=>ae (show ci .ne (.tup (us.map au)) (.tup []) S1=aB (.bl (!us.isEmpty),S1) by cases us<;>rfl) ?_,λ_=>aE (Q0:=H) (λy=>by cases y) (λ_ I b _=>cW (b _ _ c1))]
  delta wB;show aE (Q0:=H) (λz I _ E=>?_) (λ_ I b _=>cW (b _ _ c1))
  have u0:0<↥us:=by cases us with
   |nil=>cases z
   |cons _ _=>show Wx _
  show bz λK2 l=>?_
  left;show aS (aR (d:=d+3) G.pick f1 (by rw[Ni];omega) (by rw[Ni];omega) λv2 S2 v3 v4 s _=>l _ _ ?_)
  clear l K2;rw[Ni]at v4;obtain⟨i,rfl⟩:∃i:Np,v2=i:=#[v2.toNat,∅]
  have hi:i<↥us:=∅
  show st ?_;delta wS wE wA wP wV wG wN Nv;show ae dM (ae (cut1 _ _) ?_);dsimp only;show ae (show fA (.tup (us.map au)) (aB ((i:Np):NI)) ba S2=aB (.tup ((us.map au).drop i),S2) by revert fA eC) ?_
  dsimp only;show ae (bX (dj (by simp;omega))) ?_
  have e:(us.map au).take (i+1)++(us.map au).drop i=(us.take i++us[i]::us[i]::us.drop (i+1)).map au:=by
   rw[<- Q1,<- T8,<- Oj,O7,Nt hi,O5,Rl];rfl
  rw[e,A];show E _ _ (k _ S2 (mkR _ (λg j=>?_) (by simp;omega) (Bw Eo)) s)
  rcases Op.mp j with j|j
  ·show Pg j
  ·rcases NE.mp j with rfl|j
   ·show N7 _
   ·rcases NE.mp j with rfl|j
    ·show N7 _
    ·show PD j
 clear hK K;have big:∀S:aa,gT .pow (.int 10) (.int 20) S=aB (.int 100000000000000000000,S):=λS=>rfl
 have r1:=f1.lt;have hne:∀(vs:Nb Wd) (g:Wd),(∀v∈vs,v∈us)->cy g->∀u∈vs++[g],u≠[]:=λvs g h3 D u M e=>by
  have:=(fa (λv hv=>F.three v (h3 v hv)) (fc D fn) u M).1
  rw[e]at this;cases this
 have fin:∀(a7 C q n:Nf W) (S2:aa),Fl S2 r->wZ (ag defs fuel (d+4)) fuel (dr 5 aV) [aB (.ref r),aB R,aB (.tup (ms.map W.str)),aB (.tup (Nn ap ns bs)),aB (.tup (us.map au)),aB (.int v),ba,a7,C,q,n,ba,ba] S2 H:=by
  intro a7 C q n S2 s;delta dr aV;nofun
  delta wS wE wA wV wG wN Nv;show aS (aS (ae (big _) (ae (big _) ?_)));dsimp only;rw[lM,zl];have h1:∀x∈[W.tup [.int (a:NI),.int 0],.tup [.int (-1),.int 0],.tup [.int 0,.int (↥bs:NI)],.tup [.int 0,.int (-1)],.tup [.int 0,.int 100000000000000000000],.tup [.int 100000000000000000000,.int 0]],∃m t:NI,x=.tup [.int m,.int t]/\((m<0\/(a:NI)<=m)\/(t<0\/(↥bs:NI)<=t)):=
   fc #[_,_,rfl,∅] (fc #[_,_,rfl,∅] (fc #[_,_,rfl,∅] (fc #[_,_,rfl,∅] (fc #[_,_,rfl,∅] (fc #[_,_,rfl,∅] fn)))))
  show nC (d:=d+2) G ho ah (No rfl) (No rfl) (NJ s.lt) (s.ka .push) λw P hw f3 _=>?_
  obtain⟨m,t,rfl,bad⟩:=h1 w hw;clear h1 hw;delta wU;show ae (show bQ [11,12] [.int m,.int t] [aB (.ref r),aB R,aB (.tup (ms.map W.str)),aB (.tup (Nn ap ns bs)),aB (.tup (us.map au)),aB (.int v),ba,a7,C,q,n,ba,ba]=aB [aB (.ref r),aB R,aB (.tup (ms.map W.str)),aB (.tup (Nn ap ns bs)),aB (.tup (us.map au)),aB (.int v),ba,a7,C,q,n,aB (.int m),aB (.int t)]from rfl) (hK _ _ ?_)
  clear hK K;have U:∀(T:aa) (g:Wd),cy g->eJ ↥ms bs g=false->Fl T r->wZ (ag defs fuel (d+4)) fuel #v[.ret (.tup #v[.v 2,.v 3,.bi .tuple #v[.bi .sorted #v[.op .add (.v 4) (.tup #v[.v 8])]]])] [aB (.ref r),aB R,aB (.tup (ms.map W.str)),aB (.tup (Nn ap ns bs)),aB (.tup (us.map au)),aB (.int v),ba,a7,aB (au g),q,n,aB (.int m),aB (.int t)] T H:=by
   intro T g D hgb f4;show st ?_;left;show ae (bX (dj (by simp;omega))) ?_
   dsimp only;show o5 (us:=us++[g]) (by rw[Oj];rfl) (by rw[Nq];show _+1<_;omega) (hne us g (λ_ h=>h) D) (dO ah ?_)
   rw[A];show k _ _ (mkF us g (λ_ h=>h) u60 D hgb) (f4.ka .push)
  have nop:∀g:Wd,(∃p∈g,bM a ↥bs p=false)->eJ ↥ms bs g=false:=λg #[p,hp,e]=>by
   unfold eJ;rw[hml,eZ hp e];rfl
  have pb:∀m':NI,∀ws:Nb NI,((m'<0\/(a:NI)<=m')\/∃x∈ws,x<0\/(↥bs:NI)<=x)->bM a ↥bs (m',ws)=false:=λm' ws J=>OU.mpr λz=>by
   unfold bM at z;simp only[Nj,NZ,NB]at z;obtain⟨⟨z1,z2⟩,z3⟩:=z;rcases J with J|⟨x,N,J⟩
   ·omega
   ·have:=z3 x N;omega
  have thr:∀(m0 m1 m2 x y z:NI),cy [(m0,[]),(m1,[x]),(m2,[y,z])]:=λm0 m1 m2 x y z=>#[rfl,λk p e=>by
   match k,e with
   |0,e=>cases e;rfl
   |1,e=>cases e;rfl
   |2,e=>cases e;rfl
   |k+3,e=>cases e]
  have g1:eJ ↥ms bs [(0,[]),(0,[0]),(m,[0,t])]=false:=nop _ #[(m,[0,t]),by simp,pb _ _ (bad.imp_right λh=>#[t,by simp,h])]
  have g2:eJ ↥ms bs [(m,[]),(0,[t]),(0,[0,0])]=false:=nop _ (bad.elim (λh=>#[(m,[]),by simp,pb _ _ (.inl h)]) λh=>#[(0,[t]),by simp,pb _ _ (.inr #[t,by simp,h])])
  show st ?_;left;nofun
  delta wS wT wE wA wV wG;show aR (d:=d+3) G.pick f3 #v[] #v[] λv2 T _ _ f4 _=>ae hG ?_
  delta wB;show aE (Q0:=H) (λ_ I b _=>st ?_) (λ_ I b _=>cW (b _ _ (hK _ _ (U T [(0,[]),(0,[0]),(m,[0,t])] (thr ..) g1 f4))))
  left;show cW (b _ _ (hK _ _ (U T [(m,[]),(0,[t]),(0,[0,0])] (thr ..) g2 f4)))
 nofun
 delta wS wT wE wA wV wG Nv;show ae hG ?_;delta wB;show aE (Q0:=H) (λ_ I b E=>?_) (λ_ I b _=>cW (b _ _ (hK _ _ (fin ba ba ba ba S1 f1))))
 have V:=λa7 C q n S2 s=>b _ _ (hK _ _ (fin a7 C q n S2 s))
 clear fin b hK K;show st ?_;delta wS wE wA Nv;nofun
 show for_tup (us.map au) (λi Z S'=>∃c C q xs,Z=[aB (.ref r),aB R,aB (.tup (ms.map W.str)),aB (.tup (Nn ap ns bs)),aB (.tup (us.map au)),aB (.int v),ba,aB (.ref c),C,q,ba,ba,ba]/\S'[c]?=aB (.lst xs)/\(∀x∈xs,∃(g:Wd) (t:Nb Np),g∈us/\t∈aH/\aw bs g t≠g/\x=.tup [au g,au (aw bs g t)])/\↥xs<=6*i/\r<c/\Fl S' r) rfl rfl #[rfl,_,ba,ba,[],rfl,ah,fn,Ny _,r1,f1.ka .push] ?_ ?_
 ·rintro i w Z S2 hw ⟨c,C,q,xs,rfl,e2,N,xl,hc,s⟩;have hi:i<↥us:=by have:=(NA.mp hw).1;rwa [Ni]at this
  rw[Nw,Nk]at hw;obtain⟨g,j,rfl⟩:=hw;have L:=NT j;obtain⟨gg,D,_⟩:=X L;show ae (show rO (.nm 8) (au g) [aB (.ref r),aB R,aB (.tup (ms.map W.str)),aB (.tup (Nn ap ns bs)),aB (.tup (us.map au)),aB (.int v),ba,aB (.ref c),C,q,ba,ba,ba] S2=aB ([aB (.ref r),aB R,aB (.tup (ms.map W.str)),aB (.tup (Nn ap ns bs)),aB (.tup (us.map au)),aB (.int v),ba,aB (.ref c),aB (au g),q,ba,ba,ba],S2)from rfl) λQ3 hn3 _=>?_
  clear hK;show bz λK2 l=>?_
  delta wS wE;show tJ aH (λt=>.tup (aJ t)) (λ_=>true) (λt=>au (aw bs g t)) [aB R,aB (au g)] rfl rfl rfl rfl #v[] (by delta wE wA;show vz (d:=d+3) G #[_,rfl,ah,.push]) (λt ht S' _=>?_) λP k3=>l _ _ ?_
  ·obtain⟨o1,o2⟩:=gw.mp ht;delta jF wC wE wA wV wG;show#[λ_=>Y gg (λp hp=>by rw[D];show o1.lt p hp) o1.nd ∅ λP k3=>#[rfl,rfl,k3],λz=>by cases z]
  clear l K2;rw[cL,show(aH.map λt=>au (aw bs g t))=(aH.map (aw bs g)).map au by rw[O2];rfl]
  delta Nv;have e3:(P++[O.lst ((aH.map (aw bs g)).map au)])[↥P]?=aB (O.lst ((aH.map (aw bs g)).map au)):=ah;have k4:Ka S2 (P++[O.lst ((aH.map (aw bs g)).map au)]):=k3.trans .push;generalize P++[O.lst ((aH.map (aw bs g)).map au)]=T at e3 k4 ⊢;generalize ↥P=c9 at e3 ⊢;clear k3;show bz λK2 l=>?_
  left;show tJ (aH.map (aw bs g)) au (λu=>!decide (u=g)) (λu=>.tup [au g,au u]) [aB (au g)] rfl rfl rfl rfl (by rw[Ni];decide) (by delta wE wV wG;show#[_,rfl,e3,.refl]) (λu M S' _=>?_) λS5 k5=>?_
  ·delta jF wC wT wE wA wV wG;show ae Bv ?_;delta wB;show#[λz=>#[z,rfl,.refl],λz=>#[z,.refl]]
  have fl:(((aH.map (aw bs g)).filter λu=>!decide (u=g)).map λu=>W.tup [au g,au u]).length<=6:=by
   rw[Ni];show NO (Pr ..) (by rw[Ni];decide)
  dsimp only;show ae (fP (aD (k5.get _ _ (k4.get _ _ e2))) ah (dj (by rw[Nq];omega))) (l _ _ (cW (hn3 _ _ #[_,_,_,_,rfl,ah,fa N λx hx'=>?_,by rw[Nq];omega,?_,((s.ka k4).ka k5).ka (Ka.push.trans .push)])))
  ·obtain⟨u,M,rfl⟩:=NN.mp hx';obtain⟨M,B⟩:=OS.mp M;obtain⟨t,ht,rfl⟩:=NN.mp M;show#[g,t,L,ht,by simpa using B,rfl]
  ·have:=s.lt;have:=k4.len;have:=k5.len;simp;omega
 ·rintro Z S2 ⟨c,C,q,xs,rfl,e2,N,xl,hc,s⟩;rw[Ni]at xl;show hK _ _ ?_;clear hK K;nofun
  delta wS wT wE wA wV wG;show ae (KG (aD e2) ah) ?_;delta wB;show aE (Q0:=I) (λz Q3 _ hr3=>?_) (λ_ Q3 hn3 _=>cW (hn3 _ _ (hK _ _ (cW (V _ _ _ _ _ (s.ka .push))))))
  clear hK V;have x0:0<↥xs:=by cases xs with
   |nil=>cases z
   |cons _ _=>show Wx _
  have e3:(S2++[O.lst []])[c]?=_:=aD e2;have f3:=s.ka (Ka.push (o:=O.lst []));generalize S2++[O.lst []]=P at e3 f3;nofun
  left;show j5 e3 (aR (d:=d+3) G.pick f3 ∅ ∅ λv2 T v3 v4 f4 k4=>?_)
  have hv:v2.toNat<↥xs:=∅
  obtain⟨g,t,L,ht,B,ex⟩:=N _ (N7 hv);show ni (w:=.tup [au g,au (aw bs g t)]) (k4.get _ _ (On hc) e3) v3 (by rw[Nt hv,ex]) ?_
  delta wU;show ae (show bQ [8,10] [au g,au (aw bs g t)] [aB (.ref r),aB R,aB (.tup (ms.map W.str)),aB (.tup (Nn ap ns bs)),aB (.tup (us.map au)),aB (.int v),ba,aB (.ref c),C,q,ba,ba,ba]=aB [aB (.ref r),aB R,aB (.tup (ms.map W.str)),aB (.tup (Nn ap ns bs)),aB (.tup (us.map au)),aB (.int v),ba,aB (.ref c),aB (au g),q,aB (au (aw bs g t)),ba,ba]from rfl) (hK _ _ ?_)
  clear hK K;obtain⟨gg,D,gl⟩:=X L;obtain⟨o1,o2⟩:=gw.mp ht;have lp:cQ bs (aw bs g t)=g:=by rw[lT J gg (by rw[D];show o1) (by rw[o2,D]),gl]
  have pg:GoodW a ↥bs (aw bs g t):=nu J gg (λp hp=>by rw[D];show o1.lt p hp) o1.nd
  have p3:cy (aw bs g t):=#[by rw[bD,o2],pg.len]
  have pf:eJ ↥ms bs (aw bs g t)=false:=by
   unfold eJ;rw[lp,N5 λe=>B e.symm,OT]
  generalize aw bs g t=o at B p3 pf ⊢;show st ?_;left;show AZ us au (λu=>!decide (u=g)) au [aB (au g)] rfl rfl rfl rfl ∅ (by delta wE wV wG;show#[rfl,.refl]) (λu M S' _=>?_) λS5 k5=>?_
  ·delta jF wC wT wE wA wV wG;show ae Bv ?_;delta wB;show#[λz=>#[z,rfl,.refl],λz=>#[z,.refl]]
  have fm:∀x∈us.filter λu=>!decide (u=g),x∈us:=λx N=>(OS.mp N).1
  have fl:(us.filter λu=>!decide (u=g)).length<=60:=NO (Pr ..) u60
  generalize(us.filter λu=>!decide (u=g))=vs at fm fl
  dsimp only;show ae (fP (aD ah) ah (dj (by rw[Nq,Ni];show _+1<=_;omega))) ?_
  show o5 (us:=vs++[o]) ?_ (by rw[Nq];show _+1<_;omega) (hne vs o fm p3) (dO ah ?_)
  ·simp only[eQ,aG ah];rw[Oj];rfl
  ·rw[A];show hr3 _ _ (E _ _ (k _ _ (mkF vs o fm fl p3 pf) (((f4.ka k5).ka (Ka.push.trans .push)).ka (Ka.push.trans .push))))
end
def Er {f a:Nu}(c:Is defs f n nn (E8 a n))(hl:↥ws=n)(h:wO (bh (ag defs fuel d) a n ws S) λp=>∃w,xY p.1=aB w/\Q (w,p.2)):wO (bh (ag defs fuel (d+1)) f n ws S) Q:=by
 show aK c hl rfl λi b=>?_
 unfold E8;show st ?_;delta wS;have tk:((ws.map aB++Ox (nn-n) (ba:Nf W)).take n).filterMap id=ws:=by
  subst hl;rw[Qs (by simp),Pj (by simp),R1]
  clear c h b
  induction ws with
  |nil=>rfl
  |cons w ws ih=>simp[Qh]
 rw[tk];unfold bh at h;rw[NK hl]at h;cases e:ag defs fuel d a ws S with
 |none=>rw[e]at h;show h.elim
 |some p=>
  rw[e]at h;obtain⟨w,g,h2⟩:=h;dsimp only;rw[g];show b _ _ h2
def Bx (hfu:50<fuel)(hc:cl "NoRule" = aB (C,[("word": Nu)]))(L:Lw02 cl defs){n:Nb NI}:∃S',ag defs fuel (d+9) "law" [.ref 0] [.fro (n.map W.int)]=aB (.bl true,S'):=by
 suffices h:wO (bh (ag defs fuel (d+9)) "law" 1 [.ref 0] [.fro (n.map W.int)]) (λp=>p.1=.bl true) by
  obtain⟨⟨v,S'⟩,e,q⟩:=bu h;cases(show v=.bl true from q)
  show#[S',e]
 have G:=L.gen;have f:30<fuel:=∅
 show aK L.law rfl rfl λl hR=>?_
 change wZ _ _ kM [aB (.ref 0),ba,ba] [.fro (n.map W.int)] l;unfold kM;nofun
 left;show HR (d:=d+7) L.flow (ns:=n) rfl λr S1 _ I=>hK _ _ ?_
 clear hK K;nofun
 left;show Ed (d:=d+2) f G L.rule I λw S2 hw V _=>hK _ _ ?_
 clear hK K I;obtain⟨a,bs,m,ns,gs,rfl,J⟩:=hw;have g:=KD J;clear J;generalize fk gs=us at g ⊢;have c:∀(S:aa) (Q:QW),(∀S',Ka S S'->Q (.bl true,S'))->wO (bh (ag defs fuel (d+8)) "look_rule" 1 [bE m ns bs us] S) Q:=λS Q k=>Er (d:=d+7) L.look.look rfl (Ei (d:=d) f L.look L.parts L.longer L.least g _ λS' k'=>#[_,rfl,k S' k'])
 have ref:∀(b2 b3 b4 b5:ND) (x:Nu) (w:W) (S:aa) (Q:QW),rE true b2 b3 b4 b5=.tup [.str "NoRule",.str x]->fv b2 b3 b4 b5 w->(∀S',Ka S S'->Q (.bl true,S'))->wO (bh (ag defs fuel (d+8)) qc 2 [w,.str x] S) Q:=λb2 b3 b4 b5 x w S Q e hw k=>nD (d:=d+7) hc L.refused (e▸Im (d:=d) f L.look L.parts L.longer L.least hw) k
 have s:=λ{S:aa}{Q:QW}=>xU (defs:=defs) (fuel:=fuel) (d:=d+3) (S:=S) (r:=r) (Q:=Q) G L.odd L.point L.put L.three L.form g.pt
 have B:=λ{S:aa}{Q:QW}=>rH (defs:=defs) (fuel:=fuel) (d:=d+3) (S:=S) (r:=r) (Q:=Q) f G L.odd L.bounds g
 have D:=λ{S:aa}{Q:QW}=>t6 (defs:=defs) (fuel:=fuel) (d:=d+3) (S:=S) (r:=r) (Q:=Q) G L.odd L.put L.names g
 have E:=λ{S:aa}{Q:QW}=>t8 (defs:=defs) (fuel:=fuel) (d:=d+3) (S:=S) (r:=r) (Q:=Q) G L.odd L.gbacks L.backs g
 have H:=λ{S:aa}{Q:QW}=>rJ (defs:=defs) (fuel:=fuel) (d:=d+3) (S:=S) (r:=r) (Q:=Q) G L.odd L.barred g
 have j:W.tup [.tup (m.map W.str),.tup (Nn ap ns bs),.tup (us.map au)]=bE m ns bs us:=rfl;rw[j]at s;clear g;generalize bE m ns bs us=R at c s B D E H ⊢;nofun
 delta wS wT wE wA wV wG Nv;show c _ _ λA k3=>ae (show ci .isnot (.bl true) (.bl true) A=aB (.bl false,A)from rfl) ?_
 delta wB;show aE (Q0:=l) (λz=>by cases z) (λ_ y b _=>cW (b _ _ (hK _ _ ?_)))
 clear b hK K;have X:=V.ka k3;nofun
 delta wS wT wE wA wV wG Nv;show s X λw S4 hw Y=>nD (d:=d+7) hc L.refused (Eh (d:=d) L.look hw.1 hw.2) λP k5=>ae (show dI P (.bl true)=aB true from rfl) #[λz=>(by cases z),λ_=>?_]
 show B (Y.ka k5) λw S6 hw Z=>ref false true true true _ w _ _ rfl hw λT k7=>ae (show dI T (.bl true)=aB true from rfl) (aE (Q0:=l) (λz=>by cases z) (λ_ y b _=>cW (b _ _ (hK _ _ ?_))))
 clear b hK K;nofun
 delta wS wT wE wA wV wG Nv;show D (Z.ka k7) λw S8 hw f8=>ref true false true true _ w _ _ rfl hw λU k9=>ae (show dI U (.bl true)=aB true from rfl) #[λz=>(by cases z),λ_=>?_]
 show E (f8.ka k9) λw M hw t=>ref true true false true _ w _ _ rfl hw λo u=>ae (show dI o (.bl true)=aB true from rfl) (aE (Q0:=l) (λz=>by cases z) (λ_ y b _=>cW (b _ _ (hK _ _ ?_))))
 clear b hK K;show st ?_;left;show H (t.ka u) λw N hw Ko=>ref true true true false _ w _ _ rfl hw λO k13=>?_
 delta wB;show#[λ_=>c _ _ λi _=>ae (show ci .is (.bl true) (.bl true) i=aB (.bl true,i)from rfl) (hR _ _ rfl),λz=>by cases z]
abbrev Ff:Df:=#[["_law_script"],["_law_script","_law_flow_here","_law_rule_here"],kM]
noncomputable abbrev Tw:=Nu×Np×Df×Np
noncomputable abbrev tw (i:Np)(b:Ss)(a:Np):Tw:=(nm i,i,#[pO i,nO i,b],a)
abbrev RL:Nb (Nu×Nl×Nb Nu):=[("NoRule",44,["word"])]
abbrev vR:Cl:=λcn=>RL.lookup cn
abbrev Mh:Nb (Nu×Nl):=[("LayError",24),("NoRule",44),("BadText",82),("NoLaying",101),("NoRow",177),("NoSentence",158),("NoShare",120),("NoWish",139),("NoWorld",63)]
abbrev By:Nb Nu:=Mh.map (·.1)
abbrev RT:Nb (Nu×Np):=RL.map λp=>(p.1,↥p.2.2)
abbrev TL:Nb Tw:=[tw 11 lU 186,tw 12 gN 193,tw 13 jh 198,tw 15 lV 203,tw 16 eG 210,tw 17 vA 217,tw 19 dh 222,tw 20 aW 227,tw 21 aN 232,tw 30 po 247,tw 31 lW 252,tw 32 rD 259,tw 33 lX 264,tw 34 fS 271,tw 35 cr 276,tw 36 nA 281,tw 37 dP 286,tw 38 fq 293,tw 39 dE 298,tw 40 j7 303,tw 42 hZ 310,tw 43 cG 317,tw 44 gK 322,tw 45 lN 329,tw 46 b9 336,tw 47 cJ 343,tw 48 ic 348,tw 49 jY 355,tw 50 dg 360,tw 51 jZ 367,tw 52 cK 372,tw 53 eB 377,tw 54 j0 384,tw 55 j3 389,tw 56 bf 396,tw 57 cg 403,tw 58 cN 410,tw 59 bg 417,tw 60 aY 424,tw 61 bq 431,tw 62 bN 438,tw 63 bF 443,tw 64 bI 448,tw 65 bJ 453,tw 66 aV 458,("law",68,Ff,472)]
abbrev TT:Nb Tw:=[tw 67 (bT vR) 465]
abbrev TW:Nb Tw:=[tw 29 (E8 "look_rule!" 1) 240]
abbrev TX:Nb (Nu×Nu×Np×Df):=[("look_rule","look_rule!",29,#[["thing"],["thing"],eX])]
abbrev TA:Nb Tw:=TL++(TT++TW)
abbrev eL:Nb (Nu×Df):=(TA.map λp=>(p.1,p.2.2.1))++TX.map λp=>(p.2.1,p.2.2.2)
abbrev Mj:Nb (Nu×Np):=TA.map λp=>(p.1,↥p.2.2.1.ps)
abbrev KH:Nb (Nu×Nu×Np):=TX.map λp=>(p.1,p.2.1,↥p.2.2.2.ps)
abbrev Et:Nb Nu:=["range","len","list","tuple","int","set","sorted","isinstance","bool","str","all","min","zip","enumerate","abs","ValueError"]
abbrev Eu:Nb (Nu×W):=[("LETTERS",.str "abcdefghijklmnopqrstuvwxyz"),("LONGEST_NAME",.int 8),("WORDS",.tup (bY.map W.str)),("MOST_MARKS",.int 3),("MOST_WAYS",.int 3),("MOST_TOGETHER",.int 6)]
abbrev vS:Md:=#[Mj,Et,Eu]
abbrev BD (x:Nu)(st:OE)(df:Df):Prop:=∀(kV doc pm:Nd) (an:Nf Nl) (cdv ct:Nd) (us:Nb Nd),↥us=↥df.ps->bindArgs (O1 x x (bV st) (aI st) (aq st) .none kV doc pm an cdv ct) #[us,[]]=pure (df.ps.zip us)
def Mk (us:Nb Nd):(N2 ↥us).map (λi=>us.getD i .none)=us:=Qp (by rw[Ni,Oz]) λi a h2=>by
 rw[Ru,Uq,Oa,Nt h2];rfl
noncomputable abbrev AF (β:Type):Type:=Nd->Nd->Nd->Nf Nl->Nd->Nd->(Np->Nd)->β
abbrev BL (x:Nu)(st:OE)(df:Df):AF (VZ (Nb (Nu×Nd))):=λkV doc pm an cdv ct t=>bindArgs (O1 x x (bV st) (aI st) (aq st) .none kV doc pm an cdv ct) #[(N2 ↥df.ps).map t,[]]
abbrev BR (df:Df):AF (VZ (Nb (Nu×Nd))):=λ_ _ _ _ _ _ t=>pure (df.ps.zip ((N2 ↥df.ps).map t))
def Ml {st:OE}(h:BL x st df=BR df):BD x st df:=λkV doc pm an cdv ct us a=>by
 have e:BL x st df kV doc pm an cdv ct (λi=>us.getD i .none)=BR df kV doc pm an cdv ct λi=>us.getD i .none:=by rw[h]
 unfold BL BR at e;rw[<- a,Mk]at e;show e
def rK {α β:Type}(f g:α->β)(L:Nb α)(h:L.map f=L.map g){p:α}(a:p∈L):f p=g p:=List.map_inj_left.mp h p a
noncomputable abbrev SK (N ps:Nb Nu)(sc:PX):Prop:=N.Nodup/\(∀x∈ps,sc.names.lookup x=aB .local\/sc.names.lookup x=aB .cell)/\∀y∈sc.names,y.2≠.free
def Mm {N :Nb Nu}(h:(sc.kind,sc.isCoroutine,sc.isGenerator,N.take ↥ps)=(.function,false,false,ps))(k:SK N ps sc):FnScope N ps sc:=#[congrArg (·.1) h,congrArg (·.2.1) h,congrArg (·.2.2.1) h,k.1,congrArg (·.2.2.2) h,k.2.1,k.2.2]
abbrev DG (p:Tw):Prop:=JH vS (top p.2.1) p.2.2.1/\FnScope p.2.2.1.N p.2.2.1.ps (aq (top p.2.1))/\BD p.1 (top p.2.1) p.2.2.1
def gc {α:Type}{F:α->Prop}{p:α}{L:Nb α}(a:F p)(b:∀q∈L,F q):∀q∈p::L,F q:=Tx.mpr #[a,b]
def gn {α:Type}{F:α->Prop}:∀q∈([]),F q:=λ_ h=>nomatch h
set_option maxHeartbeats 0 in
def Bz:∀p∈TL,DG p:=λp a=>#[rK (λp:Tw=>gI (cS 20 (cV vS (top p.2.1) p.2.2.1.N)) (aI (top p.2.1))) (λp=>aB p.2.2.1.body) TL (by kernel_rfl) a,Mm (rK (λp:Tw=>((aq (top p.2.1)).kind,(aq (top p.2.1)).isCoroutine,(aq (top p.2.1)).isGenerator,p.2.2.1.N.take ↥p.2.2.1.ps)) (λp=>(.function,false,false,p.2.2.1.ps)) TL (by kernel_rfl) a) ((by decide +kernel:∀p∈TL,SK p.2.2.1.N p.2.2.1.ps (aq (top p.2.1))) p a),Ml (rK (λp:Tw=>BL p.1 (top p.2.1) p.2.2.1) (λp=>BR p.2.2.1) TL (by kernel_rfl) a)]
abbrev DT (p:Tw):Prop:=gI (IC KH By vR (cV vS (top p.2.1) p.2.2.1.N)) (aI (top p.2.1))=aB p.2.2.1.body/\FnScope p.2.2.1.N p.2.2.1.ps (aq (top p.2.1))/\BD p.1 (top p.2.1) p.2.2.1
def M0 {p:Tw}(a:gI (IC KH By vR (cV vS (top p.2.1) p.2.2.1.N)) (aI (top p.2.1))=aB p.2.2.1.body)(b:FnScope p.2.2.1.N p.2.2.1.ps (aq (top p.2.1)))(c:BD p.1 (top p.2.1) p.2.2.1):DT p:=#[a,b,c]
set_option maxHeartbeats 0 in
def Fg:∀p∈TT,DT p:=by
 unfold TT
 repeat show gc (M0 (by kernel_rfl) (Mm (by kernel_rfl) (by decide +kernel)) (Ml (by kernel_rfl))) ?_
 show gn
abbrev DW (p:Tw):Prop:=(∃a,KH.lookup p.1=aB (a,↥p.2.2.1.ps)/\p.2.2.1.body=E8 a ↥p.2.2.1.ps)/\BD p.1 (top p.2.1) p.2.2.1
def M1 {p:Tw}(d:Nu)(a:KH.lookup p.1=aB (d,↥p.2.2.1.ps))(b:p.2.2.1.body=E8 d ↥p.2.2.1.ps)(c:BD p.1 (top p.2.1) p.2.2.1):DW p:=#[#[d,a,b],c]
def Fh:∀p∈TW,DW p:=by
 unfold TW;show gc (M1 "look_rule!" (by kernel_rfl) (by rfl) (Ml (by kernel_rfl))) ?_
 show gn
abbrev DX (p:Nu×Nu×Np×Df):Prop:=gI (cX RT 20 (cV vS (top p.2.2.1) p.2.2.2.N)) (aI (top p.2.2.1))=aB p.2.2.2.body/\FnScope p.2.2.2.N p.2.2.2.ps (aq (top p.2.2.1))/\eL.lookup p.2.1=aB p.2.2.2/\∃q∈TA,q.1=p.1/\q.2.1=p.2.2.1/\q.2.2.1.ps=p.2.2.2.ps
def M2 {p:Nu×Nu×Np×Df}(a:gI (cX RT 20 (cV vS (top p.2.2.1) p.2.2.2.N)) (aI (top p.2.2.1))=aB p.2.2.2.body)(b:FnScope p.2.2.2.N p.2.2.2.ps (aq (top p.2.2.1)))(c:eL.lookup p.2.1=aB p.2.2.2)(d:∃q∈TA,q.1=p.1/\q.2.1=p.2.2.1/\q.2.2.1.ps=p.2.2.2.ps):DX p:=#[a,b,c,d]
def Mn (h:q∈TW):q∈TA:=NG _ (NG _ h)
set_option maxHeartbeats 0 in
def Fi:∀p∈TX,DX p:=by
 unfold TX;show gc (M2 (by kernel_rfl) (Mm (by kernel_rfl) (by decide +kernel)) (by kernel_rfl) #[_,Mn (.head _),rfl,rfl,rfl]) ?_
 show gn
def M3 {f:Nu}(h:((eL.lookup f).map λd=>(↥d.ps,↥d.N,d.body))=aB (m,n,b)):Is eL f m n b:=by
 rw[Nk]at h;obtain⟨d,a,h2⟩:=h;rw[Wf,Wf]at h2;show#[d,a,h2.1,h2.2.1,h2.2.2]
abbrev ID:Tw:=("_law_alike",55,#[["_law_found","_law_due"],["_law_found","_law_due"],j3],389)
def Fj:ID∈TL:=NT (show TL[33]?=aB ID by kernel_rfl)
set_option maxHeartbeats 0 in
def Mo:xw (cV vS (top 55) ID.2.2.1.N) (aI (top 55))=Aw (xw (cV vS (top 55) ID.2.2.1.N) ((aI (top 55)).drop 4)):=by kernel_rfl
set_option maxHeartbeats 0 in
def KI:Lw02 vR eL:=by
 repeat' first
  |show M3 (by kernel_rfl)
  |constructor
def ma:∀(L:Nb Tw) x n,(L.map λp=>(p.1,↥p.2.2.1.ps)).lookup x=aB n->∃p∈L,p.1=x/\↥p.2.2.1.ps=n/\(L.map λp=>(p.1,p.2.2.1)).lookup x=aB p.2.2.1
 |[],x,n,h=>by cases h
 |p::L,x,n,h=>by
  rw[Ol,Om]at h;rw[Ol,Om];cases e:x==p.1 with
  |true=>
   rw[e]at h;cases h;show#[p,NH ..,(eq_of_beq e).symm,rfl,rfl]
  |false=>
   rw[e]at h;obtain⟨q,a,h2,b,c⟩:=ma L x n h;show#[q,NL _ a,h2,b,c]
section
variable{w:NU}{base:N6}
abbrev vT (K:Nr)(mg:Nu->Nf Nd)(x:Nu)(st:OE)(df:Df):Prop:=∃(f:Nl) (fd:OG),Fun K x x st f fd/\mg x=aB (.ref f)/\OI K (.ref f)=true/\Binds K fd df.ps []
def Ip {st:OE}{kV    :Nd}(X:K.In h)(G:h.Ns mainGlobals mg)
  (b:BD x st df)
  (a:Pb K mainGlobals x=aB (aB (.ref f))) (l:K.lookup f=aB #[oc,od,.func (O1 x x (bV st) (aI st) (aq st) .none kV doc pm an cdv ct),osl]) (c:P6 K cdv x=true) (k:OI K (.ref f)=true):vT K mg x st df:=
 have F:=sh (st:=st) l c k
 #[f,_,F,Q4 X G a,k,F.binds b]
def pB:∀(L:Nb (Nu×Nu×Np×Df)) x y n,(L.map λp=>(p.1,p.2.1,↥p.2.2.2.ps)).lookup x=aB (y,n)->∃p∈L,p.1=x/\p.2.1=y/\↥p.2.2.2.ps=n
 |[],x,y,n,h=>by cases h
 |p::L,x,y,n,h=>by
  rw[Ol,Om]at h;cases e:x==p.1 with
  |true=>
   rw[e]at h;cases h;show#[p,NH ..,(eq_of_beq e).symm,rfl,rfl]
  |false=>
   rw[e]at h;obtain⟨q,a,h2⟩:=pB L x y n h;show#[q,NL _ a,h2]
def pE (h:(TA.map λp=>(p.1,p.2.2.1)).lookup x=aB df):eL.lookup x=aB df:=by
 unfold eL;rw[List.lookup_append,h];rfl
def M4 (a:MdOk w K mg vS)(D:∀p∈TA,vT K mg p.1 (top p.2.1) p.2.2.1):HAl K mg:=by
 obtain⟨fa,fd,F,m,kp,b⟩:=D ID (Ob _ Fj);show#[top 55,fa,fd,_,_,vS,_,F,(Bz ID Fj).2.1,rfl,m,b,a.blt,Mo]
def BA (j:MdOk w K mg vS)(D:∀p∈TA,vT K mg p.1 (top p.2.1) p.2.2.1)(u:XCls K mg base By vR)(v:∀c k,RT.lookup c=aB k->CK P w K mg base vR c k):∀d,u7 P w K mg base vS eL fuel d/\Kj P w K mg base KH vR eL fuel d
 |0=>by
  show#[λf n h=>?_,λf i n h=>?_]
  ·obtain⟨p,a,rfl,h2,l⟩:=ma TA f n h;obtain⟨fa,fd,F,m,kp,b⟩:=D p a;show#[fa,fd,p.2.2.1.ps,#[λvs H Q E z=>?_,λA outer s H args us vs Q E I G r J z=>?_],m,kp,b]
   all_goals
    obtain⟨_,_,_,_,_,_,_,_,z,_⟩:=z;cases z
  ·obtain⟨p,a,rfl,rfl,h2⟩:=pB TX f i n h;obtain⟨_,_,_,q,t,o,x,y⟩:=Fi p a;obtain⟨fa,fd,F,m,kp,b⟩:=D q t;rw[o]at m;show#[fa,fd,q.2.2.1.ps,#[λvs H Q E z=>?_,λA outer s H args us vs Q E I G r J z=>?_],m,kp,b]
   all_goals
    rcases z with⟨_,_,_,_,_,_,_,_,z,_⟩|⟨_,_,_,_,_,_,_,_,_,_,_,z,_⟩
    ·cases z
    ·cases z
 |d+1=>by
  obtain⟨ih,B⟩:=BA j D u v d;show#[λf n h=>?_,λf i n h=>?_]
  ·obtain⟨p,a,rfl,h2,l⟩:=ma TA f n h;rcases Op.mp a with q|q
   ·obtain⟨g,e,_⟩:=Bz p q;obtain⟨fa,fd,F,m,kp,b⟩:=D p a;show#[fa,fd,p.2.2.1.ps,?_,m,kp,b];rw[<- h2];show EV F e (pE l) g j ih
   ·rcases Op.mp q with q|q
    ·obtain⟨g,e,_⟩:=Fg p q;obtain⟨fa,fd,F,m,kp,b⟩:=D p a;show#[fa,fd,p.2.2.1.ps,?_,m,kp,b];rw[<- h2];show Hy F e (pE l) g j ih B u (M4 j D)
    ·obtain⟨⟨i,g,e⟩,_⟩:=Fh p q;obtain⟨fa,fd,ps,F,m,kp,b⟩:=B p.1 i _ g;rw[h2]at F e;show#[fa,fd,ps,He F (pE l) h2 e (O6 _),m,kp,b]
  ·obtain⟨p,a,rfl,rfl,h2⟩:=pB TX f i n h;obtain⟨g,e,C,q,t,o,x,y⟩:=Fi p a;obtain⟨fa,fd,F,m,kp,b⟩:=D q t;rw[o]at m;rw[x]at F;rw[y]at b;show#[fa,fd,p.2.2.2.ps,?_,m,kp,b];rw[<- h2];show Hd F e C g j ih v
abbrev CE (K:Nr)(p:Nu×W):Prop:=∃v u,Pb K mainGlobals p.1=aB (aB u)/\RelV v u/\∀A H,Rel K A H p.2 v
def BB {w:W}:∀{l:Nb (Nu×W)},l.lookup x=aB w->(x,w)∈l
 |[],h=>nomatch h
 |(y,v)::l,h=>by
  rw[Om]at h;split at h
  next e=>cases h;have:=eq_of_beq e;subst this;show NH
  ·show NL _ (BB h)
def Ev (h:L2.BO u=aB (V.str z)):RelV (.str z) u:=by
 cases u with
 |str x t=>cases h;show#[_,rfl]
 |_=>cases h
def rL:∀{us:Nb Nd}{a:Nb Nu},us.map L2.BO=a.map (λz=>aB (V.str z))->Vals (a.map V.str) us
 |[],[],_=>.nil
 |[],_::_,h=>by cases h
 |_::_,[],h=>by cases h
 |u::us,z::a,h=>by
  rw[Ol,Ol]at h;injection h with h1 h2
  show .cons (Ev h1) (rL h2)
def BC {A:Nb Nl}:∀a:Nb Nu,RelL K A H (a.map W.str) (a.map V.str)
 |[]=>.nil
 |_::a=>.cons .str (BC a)
def KJ {b:Nb Nu}(e:Pb K mainGlobals x=aB (aB (.ref a)))(l:K.lookup a=aB #[.type "tuple",ba,.seq its n,#[]])(d:⇑its<=1000)(c:its.toList.map L2.BO=b.map (λz=>aB (V.str z))):CE K (x,.tup (b.map W.str)):=
 #[.ref a,.ref a,e,rfl,λA H=>.tup (.inr #[_,its,n,l,rfl,rfl,rfl,NO d (iY rfl),rL c]) (BC b)]
def KL {t:Np}(e:Pb K mainGlobals x=aB (aB (.str z t))):CE K (x,.str z):=#[.str z,_,e,#[_,rfl],λ_ _=>.str]
def vU {t:Np}(e:Pb K mainGlobals x=aB (aB (.int z t))):CE K (x,.int z):=#[.int z,_,e,#[_,rfl],λ_ _=>.int]
def KM (X:K.In h)(G:h.Ns mainGlobals mg)(z:∀y∈Et,Pb K mainGlobals y=aB ba)(c:∀p∈Eu,CE K p):MdOk w K mg vS:=#[λy b=>PySem.W.mg_none_of X G (z y b),λf g h2 a x v h=>by
 subst h2 a;obtain⟨d,u,e,r,q⟩:=c _ (BB h);show#[d,u,Q4 X G e,r,q]]
end
def Iq {l:SU}{fa :Nl}(X:K.In h)(G:h.Ns mainGlobals mg)(b:mg "law" = aB (.ref fa))(d:MdOk w K mg vS)(D:∀p∈TA,vT K mg p.1 (top p.2.1) p.2.2.1)(g:∀base:N6,K.In base->XCls K mg base By vR)(i:∀ base c k,RT.lookup c=aB k->CK l.prog w K mg base vR c k)
  {kV    :Nd} (a:Pb K mainGlobals "law" = aB (aB (.ref f))) (m:K.lookup f=aB #[oc,od,.func (O1 "law" "law" (bV (top 68)) (aI (top 68)) (aq (top 68)) .none kV doc pm an cdv ct),osl]) (c:P6 K cdv "law" = true) (k:OI K (.ref f)=true) :
  ∃fd:OG,(∀ s v,TD s fd #[[v],[]] [("_law_script",v)])/\∀base:N6,K.In base->base.Ns mainGlobals mg->FnOk l.prog w K mg base kj 11 fa fd ["_law_script"] (spF w K 1 (ag eL 100 9 "law")):=by
 have e:=b.symm.trans (Q4 X G a);cases e;have F:=sh (st:=top 68) m c k;show#[O1 "law" "law" (bV (top 68)) (aI (top 68)) (aq (top 68)) .none kV doc pm an cdv ct,λs v=>.of_eq rfl,λbase j _=>EV (df:=Ff) F #[rfl,rfl,rfl,by decide +kernel,rfl,by decide +kernel,by decide +kernel] (by rfl) (by rfl) d (BA d D (g base j) (i base) 8).1]
def Mp {l:SU}{d:DefRec}{K:Rs->Nr}(i:l.most=aB 63)(b:d.params.defaults=[])
  (g:∀ w h,YP w h->(K w.params).In h)
  (F:∀ w mg fa h,(K w.params).In h->h.Ns mainGlobals mg->mg d.name=aB (.ref fa)->
   ∃fd:OG,(∀ s u,TD s fd #[[u],[]] [("_law_script",u)])/\∀base:N6,(K w.params).In base->base.Ns mainGlobals mg->FnOk l.prog w (K w.params) mg base kj 11 fa fd ["_law_script"] (spF w (K w.params) 1 (ag eL 100 9 "law"))) :
  V6 q loose XP YP l.row.toRowW d [] (λf vs=>VM f vs):=
 L2.Ce (n:=63) (k:=11) (x:="_law_script") (CX:=λ_=>kj) (sp:=λw=>spF w (K w.params) 1 (ag eL 100 9 "law")) i #v[] b #[rfl,#v[],#v[]] g F
  (λw H a ns hl c e=>GR (Bx (defs:=eL) (fuel:=100) (d:=0) #v[] (cl:=vR) (C:=44) rfl KI) c e) λ_ _ _ _ _ z=>z
end Mi
open PySem PySem.W PyProof.Rows L2
namespace Mi
section
abbrev EL (K:Nr)(p:Tw):Prop:=Pb K mainGlobals p.1=aB (aB (.ref p.2.2.2))/\K.lookup p.2.2.2=aB (kf p.2.2.2 (top p.2.1) p.1 (Lz p.2.1) (.ref (p.2.2.2-1))).2/\P6 K (.ref (p.2.2.2-1)) p.1=true/\OI K (.ref p.2.2.2)=true
set_option maxHeartbeats 0 in
def KN (P:Rs):∀p∈TA,EL (K0 P) p:=λp a=>#[rK (λp:Tw=>Pb (K0 P) mainGlobals p.1) (λp=>aB (aB (.ref p.2.2.2))) TA (by kernel_rfl) a,rK (λp:Tw=>(K0 P).lookup p.2.2.2) (λp=>aB (kf p.2.2.2 (top p.2.1) p.1 (Lz p.2.1) (.ref (p.2.2.2-1))).2) TA (by kernel_rfl) a,rK (λp:Tw=>P6 (K0 P) (.ref (p.2.2.2-1)) p.1) (λ_=>true) TA (by kernel_rfl) a,rK (λp:Tw=>OI (K0 P) (.ref p.2.2.2)) (λ_=>true) TA (by kernel_rfl) a]
def KO (P:Rs):∀y∈Et,Pb (K0 P) mainGlobals y=aB ba:=λ_ a=>rK (λy:Nu=>Pb (K0 P) mainGlobals y) (λ_=>aB ba) Et (by kernel_rfl) a
def KP (P:Rs):∀p∈Eu,CE (K0 P) p:=by
 unfold Eu;show gc (KL (t:=474) (by kernel_rfl)) ?_
 show gc (vU (t:=476) (by kernel_rfl)) ?_
 show gc (KJ (a:=233) (its:=EE.toArray) (n:=0) (by kernel_rfl) (by kernel_rfl) (No rfl) rfl) ?_
 show gc (vU (t:=488) (by kernel_rfl)) ?_
 show gc (vU (t:=490) (by kernel_rfl)) ?_
 show gc (vU (t:=492) (by kernel_rfl)) ?_
 show gn
def M5:∀p∈TA,BD p.1 (top p.2.1) p.2.2.1:=λp a=>(Op.mp a).elim (λq=>(Bz p q).2.2) λq=>(Op.mp q).elim (λq=>(Fg p q).2.2) λq=>(Fh p q).2
def M6 (P:Rs):Xc.XL (K0 P) 24 (.type "type"):=#[by kernel_rfl,by kernel_rfl,by kernel_rfl]
def io (P:Rs):XE (K0 P) 44 43 41 "NoRule" [(.ref 24)] [(.ref 24),(.type "ValueError"),(.type "Exception"),(.type "BaseException"),(.type "object")] [] 28 207 215 ["word"]:=
 #[by kernel_rfl,by kernel_rfl,by kernel_rfl,by kernel_rfl,by kernel_rfl,by kernel_rfl,by kernel_rfl,by kernel_rfl,by kernel_rfl,by kernel_rfl,by kernel_rfl,by kernel_rfl,by kernel_rfl,by kernel_rfl,by kernel_rfl]
abbrev MN (K:Nr)(q:Nu×Nl):Prop:=Pb K mainGlobals q.1=aB (aB (.ref q.2))/\DK K q.2/\∀p∈RL,T7 K (.ref p.2.1) (.ref q.2)=aB (fQ p.1 q.1)/\(!(NR p.2.1==NR q.2)||fQ p.1 q.1)=true
def M7 {K:Nr}(a:Pb K mainGlobals q.1=aB (aB (.ref q.2)))(b:DK K q.2)(c:∀p∈RL,T7 K (.ref p.2.1) (.ref q.2)=aB (fQ p.1 q.1)/\(!(NR p.2.1==NR q.2)||fQ p.1 q.1)=true):MN K q:=#[a,b,c]
def M8 (P:Rs):∀q∈Mh,MN (K0 P) q:=by
 unfold Mh
 repeat show gc (M7 (by kernel_rfl) #[by kernel_rfl,by kernel_rfl,by kernel_rfl,by kernel_rfl] (gc #[by kernel_rfl,by kernel_rfl] gn)) ?_
 show gn
def M9 {w:NU}(c:(K0 w.params).In h)(G:h.Ns mainGlobals mg)(base:N6)(k:(K0 w.params).In base):XCls (K0 w.params) mg base By vR:=by
 have a:∀p∈RL,(∃d,Xc.XK (K0 w.params) p.2.1 d)/\base.get? p.2.1≠ba/\Xc.XT (K0 w.params) p.2.1 (.type "ValueError") true/\∀g∈p.2.2,Qr (K0 w.params) (.ref p.2.1) g=aB ba:=(gc ((io w.params).all k) gn);show#[λcn C f hc=>a _ (iX hc),λD i=>?_]
 obtain⟨q,j,rfl⟩:=NN.mp i;obtain⟨e,b,x⟩:=M8 w.params q j;show#[q.2,Q4 c G e,b.xd,λcn C f hc=>let ⟨x1,x2⟩:=x _ (iX hc);b.xt x1 x2]
def t9 (a:(K0 w.params).In h)(G:h.Ns mainGlobals mg)(base:N6):CK P w (K0 w.params) mg base vR "NoRule" 1:=by
 have F:=(sh (st:=LA 2) (oc:=.type "function") (od:=ba) (an:=ba) (osl:=#[]) (kV:=.none) (doc:=.none) (pm:=(.str "layworld.errors" 187)) (cdv:=(.ref 40)) (ct:=.none) (by kernel_rfl) (by kernel_rfl) (by kernel_rfl):Fun (K0 w.params) "__init__" "NoRule.__init__" (LA 2) 41 _)
 have b:mg "LayError" = aB (.ref 24):=Q4 a G (by kernel_rfl)
 obtain⟨c,m⟩:=(io w.params).xm;show .one m ((io w.params).fd _ NH) (Hz (k:=0) F #[rfl,rfl,rfl,by decide +kernel,rfl,by decide +kernel,by decide +kernel] #[_,_,_,_,_,_,_,_,_,_,rfl,rfl] rfl rfl rfl b (M6 _) #v[] #v[] #v[] #v[] #v[]) (Q4 a G (by kernel_rfl)) (F.binds λ_ _ _ _ _ _ us h=>match us,h with|[_,_],_=>rfl) rfl
def Na (b:(K0 w.params).In h)(G:h.Ns mainGlobals mg)(base:N6):∀c k,RT.lookup c=aB k->CK P w (K0 w.params) mg base vR c k:=λc k h=>
 have a:∀p∈RT,CK P w (K0 w.params) mg base vR p.1 p.2:=(gc (t9 b G base) gn)
 a _ (iX h)
end
end Mi
end
end ZZ.Lean
open ZZ.Lean
theorem PySem.Challenge.cw_layworld_k02_each_thing_amiss_in_rules_holds : PySem.Challenge.rw_layworld_k02_each_thing_amiss_in_rules.Holds := by
 w_on
 show PySem.W.holds_law (Of (Of (Of (Of (Of (Of (Of (Of (Of (Of (Of (Of (Of (Of (Of (Of (Of (Of (Mi.s0) (by kernel_rfl)) (by kernel_rfl)) (by kernel_rfl)) (by kernel_rfl)) (by kernel_rfl)) (by kernel_rfl)) (by kernel_rfl)) (by kernel_rfl)) (by kernel_rfl)) (by kernel_rfl)) (by kernel_rfl)) (by kernel_rfl)) (by kernel_rfl)) (by kernel_rfl)) (by kernel_rfl)) (by kernel_rfl)) (by kernel_rfl)) (by kernel_rfl)) (λsaid=>?_)
 show PySem.W.holds_open (q:=Mi.vq) (loose:=Mi.lo) (Xt:=λs=>Wq Mi.vq [] s&&V7 [] s) (XP:=PySem.W.XL Mi.vq []) (Yf:=Mi.hk.obs) (Ya:=Mi.hk.val) (YP:=Mi.hk.says) (N:=7410) Mi.hl Mi.hk.of Mi.hk.keeps (λs e=>PySem.W.xl_of s (Tz.mp e).1) Xe (by rfl) (by rfl) (by rfl) (λs e=>PySem.W.recFacts_of (Tz.mp e).2) (by rfl) said (by decide +kernel) #[rfl,rfl,rfl,rfl,rfl,by decide +kernel] ?hw ?hc
 case hw=>w_witness2
 case hc=>
 show Mi.Mp (l:=Ry) (K:=Mi.K0) rfl rfl (λw h Yj=>PySem.W.kIn_of Yj) ?F
 case F=>
  intro w mg fa h KX G hmg;show Mi.Iq KX G hmg (Mi.KM KX G (Mi.KO w.params) (Mi.KP w.params)) (λp hp=>let ⟨e,l,c,k⟩:=Mi.KN w.params p hp;Mi.Ip KX G (Mi.M5 p hp) e l c k) (Mi.M9 KX G) (Mi.Na KX G)
   (f:=472) (oc:=.type "function") (od:=ba) (an:=ba) (osl:=#[]) (kV:=.none) (doc:=.none) (pm:=(.str "law_layworld_k02_each_thing_amiss_in_rules" 576)) (cdv:=.ref 471) (ct:=.none) (by kernel_rfl) (by kernel_rfl) (by kernel_rfl) (by kernel_rfl)
