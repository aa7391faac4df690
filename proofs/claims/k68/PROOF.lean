import PyProof.Rows.All
import Wide.All
import OpenK.AllK
import Wide.FinOn
import PyProof.EqAt
import PyProof.EqKinds
import PyProof.TupleCall
import PySem.Challenge.RW_layworld_k68_whole_worlds_by_wishes
import KE.KDictList
import PyProof.SetKind
import PyProof.IsRules
import KE.KSortTup
import PyProof.ZipIter
import PyProof.Draws
import PyProof.EnumMake
import PyProof.WalksEnum
noncomputable section
open Option renaming some->ba,none->gV
set_option linter.all false
set_option hygiene false
local macro_rules|`(abbrev $i:declId $s:optDeclSig $v:declVal)=>`(noncomputable def $i:declId $s:optDeclSig $v:declVal)|`(def $i:declId $b* :$t $v:declVal)=>`(theorem $i:declId $b* :$t $v:declVal)|`(tactic|omega)=>`(tactic|first|lia|omega (config:={}))|`(tactic|show $e:term)=>`(tactic|refine $e:term)|`(↥$x)=>`(($x).length)|`(⇑$x)=>`(($x).size)|`(tactic|delta $x*)=>`(tactic|dsimp only[$[$x:ident],*])|`(tactic|left)=>`(tactic|dsimp only[wS,wE,wA,wV,wG,List.set])|`(tactic|nofun)=>`(tactic|refine aN λK hK=>?_)
local macro_rules|`(#v[])=>`((by decide))|`(#v[$x:term])=>`(.cons $x .nil)|`(#v[$x:term,$y:term,*])=>`(.cons $x #v[$y,*])
local macro_rules|`(#[$x:term])=>`(⟨$x⟩)|`(#[$x:term,$y:term,*])=>`(⟨$x,$y,*⟩)
local macro_rules|`(∅)=>`((by omega))
open _root_ renaming List->Lf,Nat->Ll,Option->Ln,Int->LC,decide_eq_true_eq->LJ,if_pos->LU,Array->LY,if_neg->L1,Bool->L7,of_decide_eq_true->Mq,decide_eq_false->Mt,beq_self_eq_true->MK,if_false->M8,False->Nb,decide_eq_true->Nc,String->Ng,if_true->NC,or_false->NE,DecidableEq->Od,of_decide_eq_false->OD,decide_eq_false_iff_not->Pe,beq_eq_false_iff_ne->QP,forall_congr'->Ta,bne_self_eq_false->TZ,not_or->Uk,decide_true->UC,True->UE,decide_false->VL,dif_pos->Wu,Unit->WL
open PySem renaming wpAny_bind->Lg,Value->Lj,Shared->Lm,wpAny_pure->Lo,Addr->Lv,Str->LW,Expr->L6,SetTable->Mc,Program->Mn,Around->Ms,World->MB,wpAny_newObj_type->MC,Heap->MD,sizeLine_eq->MF,wpAny_callSpecial?_slot->MP,wpAny_call_entry->MU,wpAny_holding->MY,codeAny_builtin->M4,wpAny_setState_of->Nd,wpAny_seqItems->Nn,Obj->Nr,wpAny_field->Nu,wpAny_mono->NR,NameKind->NU,plainId_quiet->NY,wpAny_typeNameOfWhole_keyiter->Oe,wpAny_truthy_bool->Oi,DictEntry->Oj,Pos->Oy,Spec->Oz,FuncData->OA,wpAny_setField_rec->OC,wpAny_passesOwn->OL,wpAny_pyIter_list->OQ,wpAny_typeNameOf_keyiter->OX,Stmt->O0,mem_of_lookup->O2,Builtin->O3,wpAny_askSetting->O7,wpAny_isInstance->O8,wpAny_typeOf->Ph,wpAny_ite_split->Pp,wpAny_attempt->Pr,Scope->Pu,wpAny_letGo->PD,wpAny_forIn_list->PK,wpAny_updateSeq->P3,wpAny_Call_Name_kw->P5,wpAny_of_eq->Qd,codeAny_mono->Qf,wpAny_runValue->Qk,wpAny_dictEntries->Qm,IsPair->Qw,wpAny_standAt->Qx,wpAny_loadPart'->QH,wpAny_setEntries_of->QQ,wpAny_rule->Q1,IsPart->Q7,call_meets->Q9,isSubtype_stop->Rc,wpAny_fieldsOf->Re,wpAny_newTuple->Rf,wpAny_setField->Rh,wpAny_tryCatch->Ri,wpAny_pyIter_slot->Rw,wpAny_newList->RD,wpAny_comprehension_free->RE,noFill_tuple_add->RG,Paired->RM,wpAny_load->RO,ItemsOf->RT,wpAny_execs_nil->R0,codeAny_of_tree->R4,wpAny_specialOf->R5,wpAny_dictEpoch->R6,builtinLookup_eq_fast->Se,wpAny_isSame_ref_self->Sh,wpAny_isOneOf_keyiter->Sk,GenState->Sq,wpAny_pyIter_keyiter->Sw,wpAny_updateSeq_pair->SA,PassesOwn->SI,Keyword->SJ,rangeSize_one->SR,seq_tuple_add->SS,wpAny_handled->SV,IsZip->SY,Params->Ti,sub_set_self->Tj,wpAny_pyIter_tuple->Ts,Env->Tz,wpAny_assign_Name->TB,Operator->TD,BindsTo->TF,concat_meets->TJ,wpAny_sequenceKey->TK,seqIndex_neg->TM,list_append->TN,wpAny_setEpoch_of->TV,wpAny_pyIter_enum->T6,wpAny_pyHash_int->Ua,wpAny_pyHash_str->Ub,Result->Ud,wpAny_pyIter_zip->Ur,seqIndex_of->Uy,wpAny_throw->Uz,Walks->UA,wpAny_mkInt->UB,typeLookup_type->UJ,wpAny_Name->UT,wpAny_bindName->UU,typeIs_int->UW,fitsIndex_both->UY,call->tx,isSubtype_type->U5,entryFor_alias->U6,callType_newIn->Vb,intBits_le_64->Vh,evalPart_none->Vj,call_list_seq->Vk,wpAny_onRaise->Vy,small_one->VB,CmpOp->VC,call_range_1->VF,IsRangeIter->VS,wpAny_alloc->V0,Sem->V8,BoolOp->Wo,IsEnum->Wq,IsRange->Ww,Fin->WA,Drawn->WJ,Model->WK,Tok->WT
open List renaming length_map->Lh,getElem?_eq_getElem->Lq,mem_map->Lr,getElem?_map->Lu,length_append->Lx,mem_singleton->LA,getElem?_eq_some_iff->LB,mem_of_getElem?->LD,mem_range->LG,set->LH,zipWith->LK,size_toArray->LM,all_eq_true->LN,mem_cons->LQ,range->LR,getD_eq_getElem?_getD->LS,length_range->L0,length_cons->L3,take_add_one->L8,mem_append->Ma,map_append->Mb,mem_append_right->Mf,take_length->Mg,map_cons->Mj,map_congr_left->Mm,mem_filter->Mo,getElem_mem->Mp,replicate->Mu,length_take->Mv,getElem?_append_left->Mw,not_mem_nil->My,mem_flatMap->ML,getElem?_eq_none_iff->MN,mem_cons_of_mem->MO,length_eq_zero_iff->MQ,all_cons->MT,nodup_cons->MV,mem_append_left->MZ,nodup_range->M0,flatMap_cons->M1,mem_cons_self->M3,dropLast_concat_getLast->M5,length_singleton->Na,mem_iff_getElem->Nf,length_pos_of_mem->Nk,map_map->Nl,getElem?_append_right->Nt,mem_of_mem_take->Nw,length_dropLast->Nz,append_nil->NA,getElem_inj->NB,lookup_cons->ND,replicate_succ->NG,pairwise_map->NI,nodup_append->NJ,length_filter_le->NK,filter_append->NS,ext_getElem->NV,sum_cons->N1,append_assoc->N2,getElem?_set->N3,getElem?_range->N5,length_zipWith->N6,length_nil->N8,take_append_of_le_length->Og,eq_nil_of_length_eq_zero->Oh,filter_cons_of_pos->On,filter_cons_of_neg->Oo,range_succ->Oq,idxOf_lt_length_of_mem->Ou,any_cons->Ov,length_drop->Ow,zip_cons_cons->OB,nodup_iff_pairwise_ne->OE,getElem_idxOf->OF,take_append_drop->OG,pairwise_iff_getElem->OI,exists_mem_of_ne_nil->OJ,flatten_cons->OO,getElem_take->OS,filter_congr->OU,length_erase_of_mem->OY,idxOf_lt_length_iff->OZ,filterMap_cons->O1,flatMap_append->O5,foldlM_cons->Pc,append_inj'->Pf,append_cancel_left->Pg,take_of_length_le->Pl,find?_cons->Pq,getElem?_eq_none->Ps,mem_erase_of_ne->PF,getLastD_eq_getLast?->PR,getElem?_take_of_lt->PX,filter_filter->Qb,drop_of_length_le->Ql,length_replicate->Qp,getElem_map->Qv,map_take->Qz,mem_of_mem_drop->QC,getElem?_of_mem->QD,dropLast_concat->QE,getLast?_eq_some_getLast->QF,forIn_cons->QJ,mem_filterMap->Q6,length_eraseIdx_of_lt->Rb,drop_zero->Rg,pairwise_cons->Rk,perm_ext_iff_of_nodup->Rl,nodup_nil->Rm,mem_eraseDups->Rn,ne_nil_of_mem->Ro,extract_eq_take_drop->Rp,rel_of_pairwise_cons->Rq,getElem?_zip_eq_some->Rr,ext_getElem?->Rx,perm_middle->RK,getLast_mem->RL,getElem?_set_self->RN,range_succ_eq_map->RQ,of_mem_zip->R1,find?_some->Sc,getElem?_zipWith->Sn,dropLast_sublist->So,getElem?_set_ne->Sr,pairwise_append->Sy,forIn_nil->Sz,replicate_succ'->SC,getLastD_concat->SD,eraseDups_cons->SN,length_pos_iff->SO,mem_map_of_mem->SQ,find?_eq_none->To,Nodup->Tp,getElem_range->Tq,take_sublist->TH,zip_nil_left->TU,any_toArray->Ul,isEmpty_iff->Ut,cons_ne_nil->Uv,cons_append->Uw,length->Ux,foldl_cons->UH,nil_append->UI,sum_append->UO,foldr_cons->UP,drop_left'->UR,foldl->UX,take_zero->Vc,map_nil->VG,all_map->VI,map->V3,map_id->V5
open PySem.Heap renaming get?_push_of_some->Li,get?_push_size->LI,lt_size->LO,get?_update_other->ME,get?_update_self->No,size_push->Nv,SameBut->NN,get?_update_ne->PV,ExtBut->Sv,size_update->Um,push->WB
open Option renaming map_eq_some_iff->Lk,map_some->MA,isSome_iff_exists->MM,map_eq_none_iff->Qj,toList->RF,getD_none->Uf,getD_some->Us,map_map->U7
open Bool renaming and_eq_true->Lp,false_ne_true->L5,false_eq_true->L9,or_eq_true->NP,not_true->OW,not_eq_true'->Pw,and_true->PZ,true_and->Qy,eq_iff_iff->QL,and_false->Ra,false_or->RB,and_eq_false_iff->Sg,not_false->Su,and_eq_true_iff->SF,or_false->SU,eq_false_iff->T8
open Nat renaming le_refl->Ls,le_trans->Lw,le_of_ble_eq_true->LL,ne_of_lt->LX,lt_of_lt_of_le->LZ,ne_of_gt->Mk,lt_of_le_of_lt->MH,zero_le->MS,lt_irrefl->M6,lt_succ_self->M7,le_of_lt->Ni,lt_trans->Np,pow_le_pow_right->Nx,pow_le_pow_left->N7,div_lt_of_lt_mul->Of,lt_succ_of_lt->Ol,le_add_right->Ox,not_lt_zero->OM,le_succ->OP,mul_le_mul_right->OT,succ_mul->Pi,lt_or_gt_of_ne->Pj,eq_or_lt_of_le->Pk,eq_zero_or_pos->Pn,lt_succ_of_le->Px,le_succ_of_le->Py,mul_le_mul->PH,mul_comm->PJ,mod_lt->P6,pow_succ->Qn,lt_trichotomy->Qo,succ_le_succ->Qt,add_comm->QT,mul_zero->QX,le_of_lt_succ->Ry,not_lt->RS,zero_add->RV,div_div_eq_div_mul->RW,succ_pos->RX,le_antisymm->Sd,mul_div_cancel->Tu,add_zero->T0,lt_or_ge->T3,sub_zero->T4,succ_le_of_lt->T7,le_of_not_lt->Ui,succ_ne_zero->Uj,div_eq_of_lt->Uo,min_eq_right->Uu,min_eq_left->UQ,add_assoc->Vq,min_self->VJ,sub_self->VQ,mul_pos->V6,pow_pos->V7,ble->WW
open Array renaming length_toList->Lz,getElem?_eq_some_iff->Ml,getElem?_eq_getElem->Mx,getElem?_toList->MX,size_map->M9,getD->NH,mem_toList_iff->NW,mem_of_getElem?->Oa,map->Pb,toList_extract->PC,getElem?_replicate->P1,forIn_toList->P7,getElem?_map->P8,getElem_toList->QA,toList_append->QR,perm_iff_toList_perm->Rj,toList_push->Rv,toList_map->RI,replicate->R9,append_assoc->Td,filterMap->UK,map_map->Vr,toList->VE
open PySem.W renaming Frag->LF,look_both->MJ,keepIn->Nm,fnOf->Oc,kia_one->ON,codeIn->O6,kas_sort->Pd,nsIn->PM,methodObj->Rt,cellsFrom_some->RP,OpenLaw->R3,kat_nil->R8,KdlSrc->Sx,WalkO->Vl,recOk->Vm,Looks->Vt,mg_of->VA,xlAt->VH
open Int renaming toNat_natCast->LP,natCast_nonneg->LV,ofNat_lt->N4,emod_lt_of_pos->Ob,emod_nonneg->Op,natCast_mul->Po,toNat_of_nonneg->PU,ediv_nonneg->QM,zero_add->RZ,natCast_add->US
open PySem.SetTable renaming insertAt->L4,below->Mz,turns->Ny,bits->NZ,layClean->OR,Probe->O9,grown->Pa,advance->PL,runEnd->P4,sizeAbove->P9,fits->SW,leap->SX,tooFull->Uq,relaid->UN,fresh->Va,laid->Vv,slot->Vw,fill->Vx,has->VP,sameMemory->Wi,probeStart->Wj,gaveWay->WE,put->WV
open Option.some renaming injEq->Mh,inj->MR
open PySem.Value renaming ref->Mr,none->MG,type->NF,bool->Pz,int->Qq,str->Qr
open PySem.Around renaming under_plainId->MW
open Classical renaming byContradiction->Nh,propDecidable->VD
open PySem.Obj renaming mapSeq->Nj,data_mapFields->Qa,isFreed_of_fields->Sl,cls_mapFields->TX,mapFields->Vs
open PySem.Builtin.List renaming listExtendWith->Nq,listTooLong->OV,listLengthHint->QU,listSameRef->RA,listFitsIndex->UZ
open PySem.Builtin.Tuple renaming tupleExact->NL,tupleItemsOf->PB,tupleHashOf->PP,tupleCompareSizes->T9,tupleIsExact->tv
open PySem.Builtin.SmallTypes renaming ownedTupleIsFree->NM,ownedTupleHandOut->Os,nextOf->Rs
open PySem.Str renaming ofString->NO,length->Wl,join->WP
open ForInStep renaming yield->NQ
open PySem.Builtin.Range renaming rangeSize->NT,small->QS
open PyProof.Rows renaming callWith_type1->NX,slot_tuple_getitem->N9,subscriptTail_builtinR->Qh,assignInOrder_cons->QZ,AllBare->Ru,listUpdate_at->RC,SortKind->RH,get?_update_seq->R7,entry_tuple_getitem->SL,lt_int->SM,args_tuple_getitem->Tf,IsTup->Tx,assignInOrder_nil->TC,IntsAre->TR,listItems_at->TY,callWith_builtin1->Ue,seqEpoch_at->UD,entry_list_sort->UM,slicePart_none->UV,slot_list_sort->U8,args_list_sort->U9,tupleItemsOf_->Vi,plain_sorted->VM,entry_sorted->VN,args_sorted1->VO,boot_sum->VR,kind_sorted->V4,Call_->WM
open PySem.SetTable.probe renaming go->Om
open PySem.SetTable.layClean renaming free->Ot
open PySem.Builtin.Slice renaming slicePlaces->OH,sliceAdjust->PN,sliceApplied->Q8,slicePartIndex->UF,sliceFields->Vd
open PySem.Heap.SameBut renaming update->O4,refl->TW
open PySem.Calls renaming call_function_entry->PQ,Name_function_global->QY,Constant_str->Te
open PySem.F renaming args_tuple_add_2->PY,entry_tuple_add->Qc,plainAttrs_list->Qe,slot_tuple_add->Qg,slot_dict_get->Si
open List.Pairwise renaming imp_of_mem->P0,filter->QG,nil->Wt,imp->Wv
open PySem.NameKind renaming free->P2,cell->WS
open PySem.SetTable.below renaming go->Qi
open PySem.SeqAt renaming EqAt->Qs,notIn_listAt->Th,in_tupleAt->Ug,in_listAt->UG
open True renaming intro->Qu
open PySem.Challenge renaming pw_layworld_k68_whole_worlds_by_wishes->QI,rw_layworld_k68_whole_worlds_by_wishes->QN
open PySem.Builtin.Dict_items renaming ownsTuple->QK
open PySem.Builtin.Builtins renaming bindParams->QV
open PySem.Paired renaming length->Rz
open PySem.SetTable.Probe.mk renaming injEq->RJ
open PySem.Env renaming kindOf->RY
open PySem.Builtin.Dict renaming showsAll->Sj,dictSlotNone->Vf,pendingCount->Vg
open Sum renaming inl->SG,inr->SH
open PySem.Expr renaming Name->SK
open Function renaming comp->SZ,comp_def->T5
open PySem.SeqAt.EqAt renaming int_str->Tb,str_int->Tc,none_bool->VU,bool_none->VW,bool_bool->VX,none_int->V9,none_str->Wa,bool_int->Wb,bool_str->Wc,int_none->We,int_bool->Wf,str_none->Wg,str_bool->Wh,int_int->Wm,str_str->Wn,same->WG
open PUnit renaming unit->Tk
open PySem.Code renaming quiet_builtin->Tl
open PySem.Walks renaming list->Tn
open PySem.ScopeKind renaming function->Tt
open PySem.AutoListH renaming list___mul___list_int_3->Tv
open PySem.AutoSeq1 renaming list_extend_list_list_0->TQ,sub_tuple_tuple->Vn
open PyProof.Rows.IsTup renaming new->Uc
open PySem.IsL renaming update->Uh
open PySem.Builtin.Frozenset renaming updateFrom->UL,newClass->U4,sizeOf->Vo
open PySem.Builtin.Str renaming tooLong->Ve,glued->Wx
open PySem.Moved renaming eq_with->Vp
open List.Perm renaming map->Vu,nil_eq->WD,swap->WO
open Prod.mk renaming injEq->Vz
open Prod renaming ext->VT,fst->WQ,snd->WR
open PySem.MeetsSeq renaming list_pop_at->VY
open PySem.Txt renaming join->VZ,mul->WU
open PySem.Heap.IsSliceOf renaming new->Wk
open List.Sublist renaming refl->Wy
open PySem.Flow renaming next->Wz
open PySem.W.Looks renaming ld->WC
open PySem.W.XL renaming keeps->WF
open PySem.PassesOwn renaming never->WH
open List.cons renaming injEq->WI
open Or renaming inr->WN
open Nat.succ renaming inj->WX
set_option genSizeOf false
namespace ZZ.Lean
noncomputable section
set_option Elab.async false
set_option maxRecDepth 100000
namespace L2
open PySem PySem.Spec PyProof.Rows
noncomputable abbrev oH:=Sum LC LW
abbrev Ed:oH->Lj->L7
 |.inl k,v=>Value.isInt k v
 |.inr x,v=>Value.isStrOf x v
abbrev JG (w:MB):oH->LC
 |.inl k=>hashInt k
 |.inr x=>hashStr w x
def bx:∀{k:oH}{v:Lj},Ed k v=true->(∃i t,k=SG i/\v=Qq i t)\/(∃x t,k=SH x/\v=Qr x t)
 |.inl i,v,h=>by
  obtain⟨t,e⟩:=Value.isInt_shape (k:=i) (v:=v) h;show .inl #[i,t,rfl,e]
 |.inr x,v,h=>by
  obtain⟨t,e⟩:=Value.isStrOf_shape (x:=x) (v:=v) h;show .inr #[x,t,rfl,e]
def EK (a b:LC):decide ((SG a:oH)=SG b)=(a==b):=by
 by_cases e:a=b
 ·subst e;simp
 ·have h:¬ (SG a:oH)=SG b:=λq=>e (Sum.inl.inj q)
  rw[Mt h];show(QP.mpr e).symm
def EM (a b:LW):decide ((SH a:oH)=SH b)=decide (a=b):=by
 by_cases e:a=b
 ·subst e;simp
 ·have h:¬ (SH a:oH)=SH b:=λq=>e (Sum.inr.inj q)
  rw[Mt h,Mt e]
def EN (a:LC)(b:LW):decide ((SG a:oH)=SH b)=false:=Mt (λq=>nomatch q)
def EO (a:LW)(b:LC):decide ((SH a:oH)=SG b)=false:=Mt (λq=>nomatch q)
abbrev oJ (prog:Mn)(w:MB):PySem.KeyKind prog w oH where
 is:=Ed
 hash:=JG w
 inj:=λv a b f d=>by
  rcases bx f with⟨i,t,rfl,rfl⟩|⟨x,t,rfl,rfl⟩
  ·rcases bx d with⟨j,u,rfl,e⟩|⟨y,u,rfl,e⟩
   ·injection e with e1 _;rw[e1]
   ·show nomatch e
  ·rcases bx d with⟨j,u,rfl,e⟩|⟨y,u,rfl,e⟩
   ·show nomatch e
   ·injection e with e1 _;rw[e1]
 byValue:=λk v h=>by
  rcases bx h with⟨i,t,rfl,rfl⟩|⟨x,t,rfl,rfl⟩<;>rfl
 pyHash:=λc h=>by
  rcases bx c with⟨i,t,rfl,rfl⟩|⟨x,t,rfl,rfl⟩
  ·show Ua h
  ·show Ub h
 eqBool:=λg c h=>by
  rcases bx g with⟨i,t,rfl,rfl⟩|⟨x,t,rfl,rfl⟩
  ·rcases bx c with⟨j,u,rfl,rfl⟩|⟨y,u,rfl,rfl⟩
   ·rw[EK]at h;show wpAny_eqBool_int h
   ·rw[EN]at h;show Tb i t y u _ _ _ _ h
  ·rcases bx c with⟨j,u,rfl,rfl⟩|⟨y,u,rfl,rfl⟩
   ·rw[EO]at h;show Tc x t j u _ _ _ _ h
   ·rw[EM]at h;show wpAny_eqBool_str h
 «strs»:=λk x t v h=>by
  rcases bx h with⟨i,u,rfl,e⟩|⟨y,u,rfl,e⟩
  ·show nomatch e
  ·injection e with e1 _
   subst e1;cases v<;>rfl
set_option genInjectivity false in
inductive V where
 |non|bl (b:L7)|int (i:LC)|str (x:LW)|byt (b:LY UInt8)|flt (b:UInt64)|ref (a:Lv)|ty (n:Ng)
 deriving Od
abbrev RelV:V->Lj->Prop
 |.non,u=>u=MG
 |.bl b,u=>u=Pz b
 |.int i,u=>∃t,u=Qq i t
 |.str x,u=>∃t,u=Qr x t
 |.byt b,u=>∃t,u=Value.bytes b t
 |.flt b,u=>∃t,u=Value.float b t
 |.ref a,u=>u=Mr a
 |.ty n,u=>u=NF n
noncomputable abbrev Vals:Lf V->Lf Lj->Prop:=RM RelV
def Vals.length {xs:Lf V}{us:Lf Lj}(r:Vals xs us):↥xs=↥us:=Rz r
def Vals.get:∀{xs:Lf V}{us:Lf Lj}{i:Ll}{x:V},Vals xs us->xs[i]?=ba x->∃u,us[i]?=ba u/\RelV x u
 |_,_,_,_,.nil,e=>by simp at e
 |_,_,0,_,.cons r _,e=>by simp at e;subst e;show#[_,rfl,r]
 |_,_,i+1,x,.cons _ t,e=>by
  obtain⟨u,a,b⟩:=Vals.get (i:=i) (x:=x) t (by simpa using e)
  show#[u,by simpa using a,b]
def Vals.set {x:V}{u:Lj}(r:RelV x u):∀{xs:Lf V}{us:Lf Lj} (i:Ll),Vals xs us->Vals (xs.set i x) (us.set i u)
 |_,_,_,.nil=>.nil
 |_,_,0,.cons _ t=>.cons r t
 |_,_,i+1,.cons q t=>.cons q (Vals.set r i t)
def Vals.append:∀{xs ys:Lf V}{us ws:Lf Lj},Vals xs us->Vals ys ws->Vals (xs++ys) (us++ws)
 |_,_,_,_,.nil,s=>s
 |_,_,_,_,.cons r t,s=>.cons r (Vals.append t s)
def Vals.take:∀{xs:Lf V}{us:Lf Lj} (n:Ll),Vals xs us->Vals (xs.take n) (us.take n)
 |_,_,0,_=>.nil
 |_,_,_+1,.nil=>.nil
 |_,_,n+1,.cons r t=>.cons r (Vals.take n t)
def Vals.drop:∀{xs:Lf V}{us:Lf Lj} (n:Ll),Vals xs us->Vals (xs.drop n) (us.drop n)
 |_,_,0,r=>r
 |_,_,_+1,.nil=>.nil
 |_,_,n+1,.cons _ t=>Vals.drop n t
abbrev Hc:Ln V->Ln Lj->Prop
 |some v,ba u=>RelV v u
 |none,gV=>UE
 |_,_=>Nb
abbrev KV {κ:Type}:Lf (κ×V)->Lf (κ×Lj)->Prop:=RM λ(p:κ×V) (q:κ×Lj)=>p.1=q.1/\RelV p.2 q.2
abbrev kV:oH->V
 |.inl i=>.int i
 |.inr x=>.str x
set_option genInjectivity false in
inductive HO where
 |lst (xs:Lf V)
 |tup (xs:Lf V)
 |dK (U:Lf (oH×V))|dT (U:Lf (Lf oH×V))
 |set (S:LC->L7) (n:Ll)
 |ins (C dx:Lv) (fs:Lf (LW×V))
 |own (x:Lv)
 |xd (fs:Lf (LW×V))
 |met (f x:Lv)
 |rng (lo hi:LC)
 |frz (o:Nr) (u:HO)
 |tbl (ps:LY Lj)
 |ext (φ:MD->Prop)
noncomputable abbrev Hp:=Lv->Ln HO
abbrev bE (H:Hp)(a:Lv)(o:HO):Hp:=λb=>if b=a then ba o else H b
def aP {H:Hp}{a:Lv}{o:HO}:bE H a o a=ba o:=by unfold bE;rw[LU rfl]
def aF {H:Hp}{a b:Lv}{o:HO}(h:b≠a):bE H a o b=H b:=by unfold bE;rw[L1 h]
def eG {H:Hp}{a b:Lv}{o:HO}(h:H a=ba o)(h':H b=gV):a≠b:=by
 intro e;subst e;rw[h]at h';cases h'
section
variable (P:Mn) (w:MB)
abbrev ObjOk (H:Hp)(h:MD)(a:Lv):HO->Prop
 |.lst xs=>↥xs<=sizeLine/\∃(b:Lf Lj) (n:Ll),Vals xs b/\h.get? a=ba {cls:=.type "list",data:=.seq b.toArray n}
 |.tup xs=>↥xs<=sizeLine/\∃b:Lf Lj,Vals xs b/\Tx h a b.toArray
 |.dK U=>↥U<=sizeLine/\(a==sysModules)=false/\∃vs,KV U vs/\h.DictOf (oJ P w) a vs
 |.dT U=>↥U<=sizeLine/\(a==sysModules)=false/\∃xs:Lf (Lf oH×Lv×Lj),
   RM (λ(p:Lf oH×V) (q:Lf oH×Lv×Lj)=>p.1=q.1/\H q.2.1=ba (.tup (p.1.map kV))/\RelV p.2 q.2.2) U xs/\
   ∃o es j,h.get? a=ba o/\o.ExactDict/\o.data=.dict es j/\es.toList=xs.map (entryOfKey (tupleKind (oJ P w)))/\(xs.map (·.1)).Nodup
 |.set S n=>h.SetOf (intKind P w) a S n
 |.ins C e d=>H e=ba (.own a)/\↥d<=1000/\e≠a/\h.get? a=ba (PySem.W.instObj C e)/\
   ∃c,h.Ns1 e c/\(∀f,Hc (d.lookup f) (c f))/\PySem.Within c (d.map (·.1))
 |.own _=>∃o,h.get? a=ba o
 |.xd d=>∃c,h.Ns1 a c/\∀f,Hc (d.lookup f) (c f)
 |.rng lo hi=>∃t u v,h.get? a=ba {cls:=.type "range",data:=.fields [.int lo t,.int hi u,.int 1 v].toArray}
 |.frz o u=>h.get? a=ba o/\ObjOk H h a u
 |.tbl ps=>h.get? a=ba {cls:=.none,data:=.fields ps}
 |.met f x=>h.get? a=ba (Rt (.ref f) (.ref x))
 |.ext φ=>φ h/\(∃o,h.get? a=ba o)/\∀g i:MD,φ g->(∀o,g.get? a=ba o->i.get? a=ba o)->φ i
abbrev HOk (H:Hp)(h:MD):Prop:=∀a o,H a=ba o->ObjOk P w H h a o
end
section
variable{P:Mn}{w:MB}{H H':Hp}{h h':MD}{a:Lv}{o:HO}
def ObjOk.lt (x:ObjOk P w H h a o):a<⇑h.objs:=by
 cases o with
 |lst xs=>obtain⟨_,_,_,_,e⟩:=x;show LO e
 |tup xs=>obtain⟨_,_,_,p⟩:=x;show p.lt
 |dK U=>obtain⟨_,_,_,_,o,_,_,e,_⟩:=x;show LO e
 |dT U=>obtain⟨_,_,_,_,o,_,_,e,_⟩:=x;show LO e
 |set S n=>obtain⟨o,_,_,_,e,_⟩:=x;show LO e
 |ins C c b=>obtain⟨_,_,_,e,_⟩:=x;show LO e
 |own y=>obtain⟨_,e⟩:=x;show LO e
 |xd b=>obtain⟨_,⟨_,_,_,e,_⟩,_⟩:=x;show LO e
 |rng lo hi=>obtain⟨_,_,_,e⟩:=x;show LO e
 |frz ob u=>obtain⟨e,_⟩:=x;show LO e
 |tbl ps=>show LO (show h.get? a=ba _ from x)
 |met f y=>show LO (show h.get? a=ba _ from x)
 |ext φ=>obtain⟨_,⟨_,e⟩,_⟩:=x;show LO e
def Paired.mapP {α β:Type}{F G:α->β->Prop}:∀{l₁:Lf α}{l₂:Lf β},RM F l₁ l₂->(∀a b,F a b->G a b)->RM G l₁ l₂
 |_,_,.nil,_=>.nil
 |_,_,.cons r t,f=>.cons (f _ _ r) (Paired.mapP t f)
def ObjOk.stay (x:ObjOk P w H h a o)(k:∀b u,(b=a\/H b=ba (.own a))->h.get? b=ba u->h'.get? b=ba u)
  (s:∀b,H b=ba (.own a)->H' b=ba (.own a)) (A:∀b xs,H b=ba (.tup xs)->H' b=ba (.tup xs)):ObjOk P w H' h' a o:=by
 induction o with
 |lst xs=>obtain⟨z,i,n,r,e⟩:=x;show#[z,i,n,r,k _ _ (.inl rfl) e]
 |tup xs=>obtain⟨z,i,r,ob,e,c⟩:=x;show#[z,i,r,ob,k _ _ (.inl rfl) e,c]
 |dK U=>obtain⟨z,y,vs,r,ob,es,g,e,c⟩:=x;show#[z,y,vs,r,ob,es,g,k _ _ (.inl rfl) e,c]
 |dT U=>
  obtain⟨z,y,xs,r,ob,es,g,e,c⟩:=x;show#[z,y,xs,Paired.mapP r λp q z=>#[z.1,A _ _ z.2.1,z.2.2],ob,es,g,k _ _ (.inl rfl) e,c]
 |set S n=>obtain⟨ob,es,g,t,e,c⟩:=x;show#[ob,es,g,t,k _ _ (.inl rfl) e,c]
 |ins C B m=>
  obtain⟨d,z,ne,e,j,⟨od,es,g,l,c⟩,r⟩:=x;show#[s _ d,z,ne,k _ _ (.inl rfl) e,j,#[od,es,g,k _ _ (.inr d) l,c],r]
 |own y=>obtain⟨ob,e⟩:=x;show#[ob,k _ _ (.inl rfl) e]
 |xd m=>obtain⟨j,⟨od,es,g,e,c⟩,r⟩:=x;show#[j,#[od,es,g,k _ _ (.inl rfl) e,c],r]
 |rng lo hi=>obtain⟨t,u,v,e⟩:=x;show#[t,u,v,k _ _ (.inl rfl) e]
 |frz ob u ih=>obtain⟨e,q⟩:=x;show#[k _ _ (.inl rfl) e,ih q]
 |tbl ps=>
  have e:h.get? a=ba {cls:=.none,data:=.fields ps}:=x;change h'.get? a=ba {cls:=.none,data:=.fields ps};show k a _ (.inl rfl) e
 |met f y=>
  have e:h.get? a=ba (Rt (.ref f) (.ref y)):=x;change h'.get? a=ba (Rt (.ref f) (.ref y));show k a _ (.inl rfl) e
 |ext φ=>obtain⟨p,⟨o,e⟩,st⟩:=x;show#[st _ _ p λo q=>k _ _ (.inl rfl) q,#[o,k _ _ (.inl rfl) e],st]
def HOk.lt (x:HOk P w H h)(e:H a=ba o):a<⇑h.objs:=(x a o e).lt
def HOk.fresh (x:HOk P w H h)(e:⇑h.objs<=a):H a=gV:=by
 cases q:H a with
 |none=>rfl
 |some u=>show absurd (LZ (x.lt q) e) (M6 _)
def HOk.kept (x:HOk P w H h)(k:∀b u,h.get? b=ba u->h'.get? b=ba u):HOk P w H h':=λa o e=>
 (x a o e).stay (λb u _ q=>k b u q) (λ_ q=>q) λ_ _ q=>q
def HOk.laid (x:HOk P w H h)(k:∀b u,h.get? b=ba u->h'.get? b=ba u)(i:⇑h.objs<=a)(d:ObjOk P w (bE H a o) h' a o):HOk P w (bE H a o) h':=λb u e=>by
 have g:=x.fresh i
 by_cases f:b=a
 ·subst f;rw[aP]at e;cases e;show d
 ·rw[aF f]at e;show(x b u e).stay (λc v _ q=>k c v q) (λc q=>by rw[aF (eG q g)];show q) λc xs q=>by rw[aF (eG q g)];show q
end
abbrev Rd (H:Hp)(a:Lv)(u:HO):Prop:=H a=ba u\/∃o,H a=ba (.frz o u)
def Rd.ok {P:Mn}{w:MB}{H:Hp}{h:MD}{a:Lv}{u:HO}(r:Rd H a u)(x:HOk P w H h):ObjOk P w H h a u:=by
 rcases r with r|⟨o,r⟩
 ·show x a u r
 ·obtain⟨_,q⟩:=x a _ r;show q
abbrev Hd:Ln HO->Prop
 |some (.lst _)=>UE
 |some (.dK _)=>UE
 |some (.dT _)=>UE
 |some (.set _ _)=>UE
 |some (.ins _ _ _)=>UE
 |some (.ext _)=>UE
 |_=>Nb
section
variable{P:Mn}{w:MB}{H:Hp}{h h':MD}{x e:Lv}{o':HO}
def HOk.write (ok:HOk P w H h)(j:Hd (H x))(n:e=x\/H e=ba (.own x))(k:∀b u,b≠e->h.get? b=ba u->h'.get? b=ba u)(l:∃u,h'.get? e=ba u)
  (m:ObjOk P w (bE H x o') h' x o'):HOk P w (bE H x o') h':=λb u q=>by
 have d:∀c y,H c=ba (.own y)->c≠x:=λc y r z=>by subst z;rw[r]at j;show j
 have f:∀c xs,H c=ba (.tup xs)->c≠x:=λc xs r z=>by subst z;rw[r]at j;show j
 by_cases g:b=x
 ·subst g;rw[aP]at q;cases q;show m
 ·rw[aF g]at q
  by_cases a:b=e
  ·have o:H b=ba (.own x):=by
    rcases n with z|z
    ·show absurd (a.trans z) g
    ·rw[a];show z
   rw[q]at o;cases o
   obtain⟨v,p⟩:=l;show#[v,by rw[a];show p]
  ·show(ok b u q).stay (λc v i r=>k c v ?_ r) (λc r=>by rw[aF (d c b r)];show r) λc xs r=>by rw[aF (f c xs r)];show r
   rcases i with rfl|i
   ·show a
   ·rintro rfl;rcases n with z|z
    ·show d c b i z
    ·rw[i]at z;cases z;show g rfl
end
structure Un (fs ex:Lf Lv)(H H':Hp)(h h':MD):Prop where
 keep:∀b o,h.get? b=ba o->H b=gV->b∉fs->b∉ex->h'.get? b=ba o
 slot:∀b o,h.get? b=ba o->H b=gV->b∈fs->b∉ex->∃sl,h'.get? b=ba {o with slots:=sl}
 free:∀b o,h.get? b=ba o->H b=gV->b∉ex->H' b=gV
 there:∀b o,h.get? b=ba o->b∉ex->∃o',h'.get? b=ba o'
 tups:∀b xs,H b=ba (.tup xs)->H' b=ba (.tup xs)
 frzs:∀b o u,H b=ba (.frz o u)->H' b=ba (.frz o u)
 tbls:∀b ps,H b=ba (.tbl ps)->∃more,H' b=ba (.tbl (ps++more))
section
variable{fs fs' ex ex':Lf Lv}{H H1 H2:Hp}{h h1 h2 h':MD}{a x e:Lv}{o:HO}
def Un.any (u:Un fs ex H H1 h h1){b:Lv}{ob:Nr}(q:h.get? b=ba ob)(n:H b=gV)(c:b∉ex):∃sl,h1.get? b=ba {ob with slots:=sl}:=by
 by_cases a:b∈fs
 ·show u.slot b ob q n a c
 ·show#[ob.slots,u.keep b ob q n a c]
def Un.trans (a:Un fs ex H H1 h h1)(b:Un fs ex H1 H2 h1 h2):Un fs ex H H2 h h2 where
 keep:=λc ob q n f d=>b.keep c ob (a.keep c ob q n f d) (a.free c ob q n d) f d
 slot:=λc ob q n f d=>by
  obtain⟨sl,e⟩:=a.slot c ob q n f d;obtain⟨i,g⟩:=b.slot c _ e (a.free c ob q n d) f d;show#[i,g]
 free:=λc ob q n d=>by
  obtain⟨o',e⟩:=a.there c ob q d;show b.free c o' e (a.free c ob q n d) d
 there:=λc ob q d=>by
  obtain⟨o',e⟩:=a.there c ob q d;show b.there c o' e d
 tups:=λc xs q=>b.tups c xs (a.tups c xs q)
 frzs:=λc ob xs q=>b.frzs c ob xs (a.frzs c ob xs q)
 tbls:=λc ps q=>by
  obtain⟨j,e⟩:=a.tbls c ps q;obtain⟨k,g⟩:=b.tbls c _ e;show#[j++k,by rw[g,Td]]
def Un.kept (k:∀b u,h.get? b=ba u->h'.get? b=ba u):Un fs ex H H h h':=
 #[λb ob q _ _ _=>k b ob q,λb ob q _ _ _=>#[ob.slots,k b ob q],λ_ _ _ n _=>n,λb ob q _=>#[ob,k b ob q],λ_ _ q=>q,λ_ _ _ q=>q,λ_ ps q=>#[#[],by rw[q];simp]]
def Un.refl:Un fs ex H H h h:=Un.kept λ_ _ q=>q
def Un.laid (k:∀b u,h.get? b=ba u->h'.get? b=ba u)(d:⇑h.objs<=a)(c:H a=gV):Un fs ex H (bE H a o) h h' where
 keep:=λb u q _ _ _=>k b u q
 slot:=λb u q _ _ _=>#[u.slots,k b u q]
 free:=λb u q n _=>by rw[aF (LX (LZ (LO q) d))];show n
 there:=λb u q _=>#[u,k b u q]
 tups:=λb xs q=>by rw[aF (eG q c)];show q
 frzs:=λb u xs q=>by rw[aF (eG q c)];show q
 tbls:=λb ps q=>#[#[],by rw[aF (eG q c),q];simp]
def Un.write (c:Hd (H x))(j:e=x\/H e=ba (.own x))(k:∀b u,b≠e->h.get? b=ba u->h'.get? b=ba u)(d:∃u,h'.get? e=ba u):Un fs ex H (bE H x o) h h':=by
 have i:∀b,H b=gV->b≠x:=λb n z=>by subst z;rw[n]at c;show c
 have g:∀b,H b=gV->b≠e:=λb n z=>by
  subst z;rcases j with r|r
  ·show i b n r
  ·rw[n]at r;cases r
 have f:∀b u,H b=ba u->¬ Hd (ba u)->b≠x:=λb u q l z=>by subst z;rw[q]at c;show l c
 show#[λb u q n _ _=>k b u (g b n) q,λb u q n _ _=>#[u.slots,k b u (g b n) q],λb u q n _=>by rw[aF (i b n)];show n,λb u q _=>?_,
  λb xs q=>by rw[aF (f b _ q λz=>z)];show q,λb u xs q=>by rw[aF (f b _ q λz=>z)];show q,λb ps q=>#[#[],by rw[aF (f b _ q λz=>z),q];simp]]
 by_cases a:b=e
 ·subst a;show d
 ·show#[u,k b u a q]
end
abbrev Ju (h:MD)(H:Hp):Lf Lv:=(LR ⇑h.objs).filter λa=>(H a).isSome
abbrev oK (h:MD)(H:Hp):MD:=PySem.W.hideAll h (Ju h H)
def wy (h:MD)(H:Hp):(oK h H).objs.size=⇑h.objs:=PySem.W.hideAll_size _ _
def yr {h:MD}{H:Hp}{b:Lv}{o:Nr}(e:h.get? b=ba o)(n:H b=gV):(oK h H).get? b=ba o:=
 PySem.W.hideAll_get _ e λa=>by
  have q:(H b).isSome=true:=(Mo.mp a).2;rw[n]at q;simp at q
def B4 {h:MD}{H:Hp}{b:Lv}{o:Nr}(e:(oK h H).get? b=ba o):h.get? b=ba o/\H b=gV:=by
 have a:h.get? b=ba o:=PySem.W.of_hideAll (Ju h H) e;show#[a,?_];cases q:H b with
 |none=>rfl
 |some x=>
  have c:b∈Ju h H:=Mo.mpr #[LG.mpr (LO a),by simp[q]]
  have z:(oK h H).get? b=gV:=PySem.W.hideAll_none (Ju h H) c;rw[z]at e;cases e
abbrev B5 (g h:MD)(L:Lv):Lf (Lv×Nr):=(LR ⇑h.objs).filterMap λa=>if a=L\/(g.get? a).isSome=true then gV else(h.get? a).map λo=>(a,o)
abbrev aU (g h:MD)(L d:Lv):Lf (Lv×Nr):=(B5 g h L).filter λp=>decide (p.1≠d)
structure Mod (K:LF)(mg:LW->Ln Lj)(base:MD):Prop where
 kin:K.In base
 glob:base.Ns mainGlobals mg
 blt:∃mb,base.Ns builtinsNs mb/\∀x:LW,x≠"__name__"->mb x=bootBuiltins x
 nolimit:base.NoLimit
structure Cx where
 prog:Mn
 w:MB
 K:LF
 mg:LW->Ln Lj
 base:MD
 A:Ms
 N:Lf LW
 s₀:Lm
 H₀:Hp
 env:Tz
 outer:Lf Tz
 stack:Lf Tz
 ex:Lf Lv
 fn:LW->L7
 calm:L7
 pn:Lf (Lv×Nr)
 xe:Lj->Lm->Prop
abbrev sO (l:Lf Tz):Lf Lv:=l.filterMap (·.frame)
noncomputable abbrev Cx.fs (X:Cx):Lf Lv:=sO X.outer
abbrev Jv (sc:Pu)(x:LW):Prop:=sc.names.lookup x=ba .local\/sc.names.lookup x=ba .cell\/sc.names.lookup x=ba .free
abbrev B6 (sc:Pu)(x:LW):Prop:=sc.names.lookup x=ba .local\/sc.names.lookup x=ba .cell
abbrev JH (env:Tz)(h:MD)(m:LW->Ln Lj)(x:LW)(u:Lj):Prop:=
 (env.kindOf x=ba .local/\m x=ba u)\/((env.kindOf x=ba .cell\/env.kindOf x=ba .free)/\∃c,env.cells.lookup x=ba c/\h.IsCell c (ba u))
structure Cx.Ok (X:Cx):Prop where
 mod:Mod X.K X.mg X.base
 kind:X.env.scope.kind=.function
 glob:X.env.globals=mainGlobals
 blt:X.env.builtins=builtinsNs
 above:⇑X.s₀.heap.objs<=X.env.locals
 inj:∀x y c,X.env.cells.lookup x=ba c->X.env.cells.lookup y=ba c->x=y
 has:∀x,(X.env.kindOf x=ba .cell\/X.env.kindOf x=ba .free)->∃c,X.env.cells.lookup x=ba c
 cab:∀x c,X.fn x=true->X.env.cells.lookup x=ba c->⇑X.s₀.heap.objs<=c
 hd:X.calm=true->X.A.handled=gV
 frames:X.A.frames=ba X.stack
 stk:X.stack=X.outer\/(X.stack=X.env::X.outer/\X.env.frame=ba X.env.locals)
 exf:∀b∈X.ex,b≠X.env.locals/\∀x c,X.env.cells.lookup x=ba c->c≠b
 bs:∀b o,X.base.get? b=ba o->X.s₀.heap.get? b=ba o/\X.H₀ b=gV
 bsz:⇑X.base.objs<=⇑X.s₀.heap.objs
 noex:∀b o,X.base.get? b=ba o->b∉X.ex
 exfs:∀b∈X.ex,b∉X.fs
 funs:X.s₀.heap.FunFrames X.base X.outer
 frf:∀b∈X.fs,X.H₀ b=gV
structure Inv (X:Cx)(J:Lf (Lv×Nr))(Y:Lf (Ln V))(H:Hp)(s:Lm):Prop where
 ok:X.Ok
 os:s.os=X.s₀.os
 bare:Ru s.gens
 base:Un X.fs X.ex X.H₀ H X.s₀.heap s.heap
 loc:∃m,s.heap.Ns X.env.locals m/\∀(i:Ll) (x:LW) (v:V),X.N[i]?=ba x->Y[i]?=ba (ba v)->Jv X.env.scope x->∃u,RelV v u/\JH X.env s.heap m x u
 cell:∀x c,X.env.cells.lookup x=ba c->∃v,s.heap.IsCell c v
 free:H X.env.locals=gV
 freeC:∀x c,X.env.cells.lookup x=ba c->H c=gV
 pin:∀p∈X.pn++J,s.heap.get? p.1=ba p.2/\H p.1=gV/\p.1≠X.env.locals/\p.1∉X.fs/\∀v,p.2.data≠.cell v
 hok:HOk X.prog X.w H s.heap
 len:↥Y=↥X.N
section
variable{X:Cx}{J:Lf (Lv×Nr)}{Y:Lf (Ln V)}{H H':Hp}{s:Lm}{h':MD}
def Cx.Ok.nofr (ok:X.Ok){b:Lv}{o:Nr}(e:X.base.get? b=ba o):b∉X.fs:=λa=>by
 have:=(ok.funs.mem a).1;rw[e]at this;cases this
def Inv.bs (I:Inv X J Y H s):∀b o,X.base.get? b=ba o->s.heap.get? b=ba o/\H b=gV:=λb o e=>
 #[I.base.keep b o (I.ok.bs b o e).1 (I.ok.bs b o e).2 (I.ok.nofr e) (I.ok.noex b o e),I.base.free b o (I.ok.bs b o e).1 (I.ok.bs b o e).2 (I.ok.noex b o e)]
def Inv.bk (I:Inv X J Y H s):∀b o,X.base.get? b=ba o->s.heap.get? b=ba o:=λb o e=>(I.bs b o e).1
def Inv.mod (I:Inv X J Y H s):Mod X.K X.mg X.base:=I.ok.mod
def Inv.kIn (I:Inv X J Y H s):X.K.In s.heap:=I.ok.mod.kin.keeps I.bk
def Inv.lt (I:Inv X J Y H s):X.env.locals<⇑s.heap.objs:=let ⟨_,hn,_⟩:=I.loc;hn.lt
def Inv.sz (I:Inv X J Y H s):⇑X.s₀.heap.objs<=⇑s.heap.objs:=Lw I.ok.above (Ni I.lt)
def Inv.nofs (I:Inv X J Y H s){a:Lv}(h:⇑s.heap.objs<=a):a∉X.fs:=λb=>by
 obtain⟨_,o,c,_⟩:=I.ok.funs.mem b;show absurd (LZ (LO c) (Lw I.sz h)) (M6 _)
def Inv.cne (I:Inv X J Y H s):∀x c,X.env.cells.lookup x=ba c->c≠X.env.locals:=λx c e z=>by
 obtain⟨v,o,d,hd⟩:=I.cell x c e;obtain⟨m,⟨o',es,f,b,a,_⟩,_⟩:=I.loc;rw[z,b]at d;cases d;rw[a]at hd;cases hd
def Inv.funs (I:Inv X J Y H s):s.heap.FunFrames X.base X.outer:=by
 have all:∀(l:Lf Tz),(∀b∈sO l,b∈X.fs)->X.s₀.heap.FunFrames X.base l->s.heap.FunFrames X.base l:=by
  intro l
  induction l with
  |nil=>intro _ _;trivial
  |cons env r ih=>
   intro hs hl;obtain⟨hk,⟨L,o,hf,d,f,hd⟩,g⟩:=hl;have a:L∈X.fs:=hs L (by unfold sO;rw[O1,hf];show M3)
   obtain⟨sl,e⟩:=I.base.slot L o f (I.ok.frf L a) a λz=>I.ok.exfs L z a
   show#[hk,#[L,_,hf,d,e,hd],ih (λb c=>hs b (by unfold sO;rw[O1,hf];show MO _ c)) g]
 show all X.outer (λ_ c=>c) I.ok.funs
def Inv.stack (I:Inv X J Y H s):s.heap.FunFrames X.base X.stack:=by
 rcases I.ok.stk with e|⟨e,hf⟩
 ·rw[e];show I.funs
 ·rw[e];obtain⟨m,a,_⟩:=I.loc;show .cons (by rw[I.ok.kind];decide) hf a ?_ I.funs
  show Heap.get?_none_of_le (Lw I.ok.bsz I.ok.above)
def Inv.stkSub (I:Inv X J Y H s):∀b∈sO X.stack,b∈X.env.locals::X.fs:=λb a=>by
 rcases I.ok.stk with e|⟨e,hf⟩
 ·rw[e]at a;show MO _ a
 ·rw[e]at a;unfold sO at a;rw[O1,hf]at a;show a
def Inv.stkFree (I:Inv X J Y H s):∀b∈sO X.stack,H b=gV:=λb a=>by
 rcases LQ.mp (I.stkSub b a)with e|a
 ·rw[e];show I.free
 ·obtain⟨_,o,c,_⟩:=I.ok.funs.mem a;show I.base.free b o c (I.ok.frf b a) λz=>I.ok.exfs b z a
def Inv.step {g':LY Sq}{t':Ll}{d':WJ}{ch:Lf Lv}(I:Inv X J Y H s)
  (g:∀b∈ch,(b∈X.ex\/⇑X.s₀.heap.objs<=b)/\b≠X.env.locals/\(∀x c,X.env.cells.lookup x=ba c->c≠b)/\∀p∈X.pn++J,p.1≠b)
  (keep:∀b o,b≠X.env.locals->b∉X.fs->b∉ch->s.heap.get? b=ba o->H b=gV->h'.get? b=ba o)
  (slot:∀b o,b≠X.env.locals->b∈X.fs->b∉ch->s.heap.get? b=ba o->H b=gV->∃sl,h'.get? b=ba {o with slots:=sl}) (free:∀b o,b∉ch->s.heap.get? b=ba o->H b=gV->H' b=gV)
  (there:∀b o,b∉ch->s.heap.get? b=ba o->∃o',h'.get? b=ba o')
  (tups:∀b xs,H b=ba (.tup xs)->H' b=ba (.tup xs)) (frzs:∀b o u,H b=ba (.frz o u)->H' b=ba (.frz o u)) (tbls:∀b ps,H b=ba (.tbl ps)->∃more,H' b=ba (.tbl (ps++more)))
  (ns:∀m,s.heap.Ns X.env.locals m->h'.Ns X.env.locals m) (C:HOk X.prog X.w H' h') (N:Ru g') :
  Inv X J Y H' {s with heap:=h',gens:=g',drawn:=d',toks:=t'}:=by
 have B:∀b o,X.s₀.heap.get? b=ba o->b≠X.env.locals:=λb o e=>LX (LZ (LO e) I.ok.above)
 have t:∀b o,X.s₀.heap.get? b=ba o->b∉X.ex->b∉ch:=λb o e a w=>by
  rcases(g b w).1 with z|z
  ·show a z
  ·show absurd (LZ (LO e) z) (M6 _)
 have f:∀x c,X.env.cells.lookup x=ba c->∀v,s.heap.IsCell c v->h'.IsCell c v:=λx c e v #[o,y,hd]=>by
  have h:c∉ch:=λz=>(g c z).2.2.1 x c e rfl
  by_cases E:c∈X.fs
  ·obtain⟨sl,q⟩:=slot c o (I.cne x c e) E h y (I.freeC x c e);show#[_,q,hd]
  ·show#[o,keep c o (I.cne x c e) E h y (I.freeC x c e),hd]
 show#[I.ok,I.os,N,#[λb o e n w a=>?_,λb o e n w a=>?_,λb o e n a=>?_,λb o e a=>?_,λb xs e=>tups b xs (I.base.tups b xs e),λb o xs e=>frzs b o xs (I.base.frzs b o xs e),λb ps e=>?_],?_,λx c e=>?_,?_,λx c e=>?_,λp G=>?_,C,I.len]
 ·show keep b o (B b o e) w (t b o e a) (I.base.keep b o e n w a) (I.base.free b o e n a)
 ·obtain⟨sl,j⟩:=I.base.slot b o e n w a;obtain⟨D,A⟩:=slot b _ (B b o e) w (t b o e a) j (I.base.free b o e n a);show#[D,A]
 ·obtain⟨o',j⟩:=I.base.there b o e a;show free b o' (t b o e a) j (I.base.free b o e n a)
 ·obtain⟨o',j⟩:=I.base.there b o e a;show there b o' (t b o e a) j
 ·obtain⟨P,j⟩:=I.base.tbls b ps e;obtain⟨Q,A⟩:=tbls b _ j;show#[P++Q,by rw[A,Td]]
 ·obtain⟨m,O,hl⟩:=I.loc;show#[m,ns m O,λi x v j A M=>?_]
  obtain⟨u,r,l⟩:=hl i x v j A M;show#[u,r,?_];rcases l with l|⟨k,c,e,z⟩
  ·show .inl l
  ·show .inr #[k,c,e,f x c e _ z]
 ·obtain⟨v,z⟩:=I.cell x c e;show#[v,f x c e v z]
 ·obtain⟨m,⟨o,_,_,y,_⟩,_⟩:=I.loc;show free _ o (λz=>(g _ z).2.1 rfl) y I.free
 ·obtain⟨v,o,y,hd⟩:=I.cell x c e;show free c o (λz=>(g c z).2.2.1 x c e rfl) y (I.freeC x c e)
 ·obtain⟨e,n,ne,L,d⟩:=I.pin p G;have h:p.1∉ch:=λz=>(g p.1 z).2.2.2 p G rfl
  show#[keep p.1 p.2 ne L h e n,free p.1 p.2 h e n,ne,L,d]
def Inv.un {t':Ll}(I:Inv X J Y H s)(u:Un X.fs [] H H' s.heap h')(g:HOk X.prog X.w H' h'):Inv X J Y H' {s with heap:=h',toks:=t'}:=by
 obtain⟨m,⟨o,es,l,h,r⟩,_⟩:=id I.loc;obtain⟨sl,i⟩:=u.any h I.free (by simp)
 show I.step (g':=s.gens) (d':=s.drawn) (ch:=[]) (λ_ z=>nomatch z) (λb o _ f _ e n=>u.keep b o e n f (by simp)) (λb o _ f _ e n=>u.slot b o e n f (by simp)) (λb o _ e n=>u.free b o e n (by simp)) (λb o _ e=>u.there b o e (by simp)) u.tups u.frzs u.tbls (λp j=>by
  obtain⟨o',d,c,a,k⟩:=j;rw[h]at a;cases a
  show#[_,d,c,i,k]) g I.bare
def Inv.call {g':LY Sq}{t':Ll}{d':WJ}{ch:Lf Lv}(I:Inv X J Y H s)(u:Un (sO X.stack) ch H H' s.heap h')(j:HOk X.prog X.w H' h')(q:Ru g')
  (d:∀b∈ch,(b∈X.ex\/⇑X.s₀.heap.objs<=b)/\b≠X.env.locals/\(∀x c,X.env.cells.lookup x=ba c->c≠b)/\∀p∈X.pn++J,p.1≠b) :
  Inv X J Y H' {s with heap:=h',gens:=g',drawn:=d',toks:=t'}:=by
 obtain⟨m,⟨o,es,w,k,r⟩,_⟩:=id I.loc;obtain⟨sl,i⟩:=u.any k I.free λz=>(d _ z).2.1 rfl
 show I.step (ch:=ch) d (λb o i l a e n=>u.keep b o e n (λz=>(LQ.mp (I.stkSub b z)).elim i l) a) (λb o _ _ a e n=>u.any e n a) (λb o a e n=>u.free b o e n a) (λb o a e=>u.there b o e a) u.tups u.frzs u.tbls (λy t=>by
  obtain⟨o',h,g,f,v⟩:=t;rw[k]at f;cases f
  show#[_,h,g,i,v]) j q
def Inv.turned {t':Ll}{it:Lv}(I:Inv X J Y H s)(k:∀b o,b≠it->s.heap.get? b=ba o->h'.get? b=ba o)(w:H it=gV)(f:it≠X.env.locals)
  (h:it∈X.ex\/⇑X.s₀.heap.objs<=it) (i:∀x c,X.env.cells.lookup x=ba c->c≠it) (j:∀p∈X.pn++J,p.1≠it):Inv X J Y H {s with heap:=h',toks:=t'}:=by
 have d:∀b u,H b=ba u->b≠it:=λb u e z=>by rw[z,w]at e;cases e
 show I.step (g':=s.gens) (d':=s.drawn) (ch:=[it]) (λb l=>?_) (λb o _ _ a e _=>k b o (λz=>a (by simp[z])) e) (λb o _ _ a e _=>#[o.slots,k b o (λz=>a (by simp[z])) e]) (λ_ _ _ _ n=>n)
  (λb o a e=>#[o,k b o (λz=>a (by simp[z])) e]) (λ_ _ e=>e) (λ_ _ _ e=>e) (λb ps e=>#[#[],by rw[e];simp]) (λm t=>?_) (λb u e=>?_) I.bare
 ·have e:b=it:=by simpa using l
  subst e;show#[h,f,i,j]
 ·obtain⟨o,es,g,y,r⟩:=t;show#[o,es,g,k _ o (Ne.symm f) y,r]
 ·show(I.hok b u e).stay (λc v a q=>k c v ?_ q) (λ_ q=>q) λ_ _ q=>q
  rcases a with z|z
  ·rw[z];show d b u e
  ·show d c _ z
def Inv.tok (I:Inv X J Y H s)(t:Ll):Inv X J Y H {s with toks:=t}:=I.un (h':=s.heap) (t':=t) Un.refl I.hok
def Inv.kept {t':Ll}(I:Inv X J Y H s)(k:∀b u,s.heap.get? b=ba u->h'.get? b=ba u):Inv X J Y H {s with heap:=h',toks:=t'}:=I.un (Un.kept k) (I.hok.kept k)
def Inv.laid {a:Lv}{o:HO}{t':Ll}(I:Inv X J Y H s)(k:∀b u,s.heap.get? b=ba u->h'.get? b=ba u)(c:⇑s.heap.objs<=a)(d:ObjOk X.prog X.w (bE H a o) h' a o) :
  Inv X J Y (bE H a o) {s with heap:=h',toks:=t'}:=I.un (Un.laid k c (I.hok.fresh c)) (I.hok.laid k c d)
def Inv.write {x e:Lv}{o:HO}{t':Ll}(I:Inv X J Y H s)(f:Hd (H x))(d:e=x\/H e=ba (.own x))(k:∀b u,b≠e->s.heap.get? b=ba u->h'.get? b=ba u)(a:∃u,h'.get? e=ba u)
  (c:ObjOk X.prog X.w (bE H x o) h' x o):Inv X J Y (bE H x o) {s with heap:=h',toks:=t'}:=I.un (Un.write f d k a) (I.hok.write f d k a c)
def Inv.pins_of {a:Lf (Lv×Nr)}(I:Inv X J Y H s)(h:∀p∈a,s.heap.get? p.1=ba p.2/\H p.1=gV/\p.1≠X.env.locals/\p.1∉X.fs/\∀v,p.2.data≠.cell v):Inv X a Y H s:=
 #[I.ok,I.os,I.bare,I.base,I.loc,I.cell,I.free,I.freeC,λp b=>(Ma.mp b).elim (λz=>I.pin p (MZ _ z)) (h p),I.hok,I.len]
def qt {N:Lf LW}(e:N.Nodup){i j:Ll}{x:LW}(a:N[i]?=ba x)(b:N[j]?=ba x):i=j:=by
 obtain⟨f,c⟩:=LB.mp a;obtain⟨g,d⟩:=LB.mp b;show(NB e).mp (c.trans d.symm)
def wz {Mqa:WK}{A:Ms}{E:Lj->Lm->Prop}{i:Ll}{x:LW}{v:V}{u:Lj}{Q:WL->Lm->Prop}(I:Inv X J Y H s)(hN:X.N.Nodup)(hi:X.N[i]?=ba x)(t:B6 X.env.scope x)(r:RelV v u)
  (h:∀s',Inv X J (Y.set i (ba v)) H s'->(∃a,NN a s.heap s'.heap/\(a=X.env.locals\/X.env.cells.lookup x=ba a))->Q () s') (hf:X.fn x=true\/X.env.scope.names.lookup x=ba .local):wpAny Mqa A (storeName X.env x u) Q E s:=by
 obtain⟨m,U,hl⟩:=id I.loc;have N:(X.env.scope.kind==.class||(X.env.scope.kind==.module&&X.env.locals != X.env.globals))=false:=by rw[I.ok.kind];rfl
 have hiσ:i<↥Y:=by rw[I.len];show(LB.mp hi).1
 have cne:=I.cne;have g:∀{a:Lv}{h':MD},(∃o,s.heap.get? a=ba o/\H a=gV)->NN a s.heap h'->HOk X.prog X.w H h':=λ{a h'} ha hs b ob e=>by
  obtain⟨_,_,w⟩:=ha;show(I.hok b ob e).stay (λc S l q=>(hs.2 c ?_).trans q) (λ_ q=>q) λ_ _ q=>q
  rintro rfl;rcases l with rfl|l
  ·rw[w]at e;cases e
  ·rw[w]at l;cases l
 rcases t with hk|hk
 ·show wpAny_storeName_local hk U (λh' W hs=>?_) N
  obtain⟨oL,_,_,Z,_⟩:=id U;show h _ #[I.ok,I.os,I.bare,#[λb o e n C t=>?_,λb o e n C t=>?_,I.base.free,λb o e t=>?_,I.base.tups,I.base.frzs,I.base.tbls],#[_,W,λj y v' f B T=>?_],λy c e=>?_,I.free,I.freeC,λp hp=>?_,g #[oL,Z,I.free] hs,by simpa using I.len] #[_,hs,.inl rfl]
  ·show(hs.2 b (LX (LZ (LO e) I.ok.above))).trans (I.base.keep b o e n C t)
  ·obtain⟨sl,f⟩:=I.base.slot b o e n C t;show#[sl,(hs.2 b (LX (LZ (LO e) I.ok.above))).trans f]
  ·obtain⟨o',f⟩:=I.base.there b o e t;show#[o',(hs.2 b (LX (LZ (LO e) I.ok.above))).trans f]
  ·by_cases G:j=i
   ·subst G;rw[hi]at f;cases f
    rw[RN hiσ]at B;cases B;show#[u,r,.inl #[hk,by simp]]
   ·rw[Sr (Ne.symm G)]at B;obtain⟨u',r',q⟩:=hl j y v' f B T;show#[u',r',?_];rcases q with⟨k,e⟩|⟨k,c,e,z⟩
    ·show .inl #[k,?_];have:y≠x:=λe=>G (qt hN f (e▸hi))
     simp[this,e]
    ·show .inr #[k,c,e,z.sameBut hs (cne y c e)]
  ·obtain⟨S,z⟩:=I.cell y c e;show#[S,z.sameBut hs (cne y c e)]
  ·obtain⟨e,n,ne,nf,d⟩:=I.pin p hp;show#[(hs.2 p.1 ne).trans e,n,ne,nf,d]
 ·have D:X.fn x=true:=by
   rcases hf with z|z
   ·show z
   ·rw[z]at hk;cases hk
  obtain⟨c,l⟩:=I.ok.has x (.inl hk);obtain⟨S,z⟩:=I.cell x c l;show wpAny_storeName_cell I.ok.kind hk l z (λh' L hs=>?_)
  obtain⟨oc,O,P⟩:=id z;show h {s with heap:=h'} #[I.ok,I.os,I.bare,#[λb o e n C t=>?_,λb o e n C t=>?_,I.base.free,λb o e t=>?_,I.base.tups,I.base.frzs,I.base.tbls],#[m,U.sameBut hs (Ne.symm (cne x c l)),λj y v' f B T=>?_],λy R e=>?_,I.free,I.freeC,λp hp=>?_,g #[oc,O,I.freeC x c l] hs,by simpa using I.len] #[c,hs,.inr l]
  ·show(hs.2 b (LX (LZ (LO e) (I.ok.cab x c D l)))).trans (I.base.keep b o e n C t)
  ·obtain⟨sl,f⟩:=I.base.slot b o e n C t;show#[sl,(hs.2 b (LX (LZ (LO e) (I.ok.cab x c D l)))).trans f]
  ·obtain⟨o',f⟩:=I.base.there b o e t;show#[o',(hs.2 b (LX (LZ (LO e) (I.ok.cab x c D l)))).trans f]
  ·by_cases G:j=i
   ·subst G;rw[hi]at f;cases f
    rw[RN hiσ]at B;cases B;show#[u,r,.inr #[.inl hk,c,l,L]]
   ·rw[Sr (Ne.symm G)]at B;obtain⟨u',r',q⟩:=hl j y v' f B T;show#[u',r',?_];rcases q with q|⟨k,R,e,z'⟩
    ·show .inl q
    ·show .inr #[k,R,e,z'.sameBut hs ?_];rintro rfl;show G (qt hN f (I.ok.inj _ _ _ e l▸hi))
  ·by_cases M:R=c
   ·subst M;show#[_,L]
   ·obtain⟨w2,z2⟩:=I.cell y R e;show#[w2,z2.sameBut hs M]
  ·obtain⟨e,n,ne,nf,d⟩:=I.pin p hp;show#[(hs.2 p.1 ?_).trans e,n,ne,nf,d];intro q;rw[q,O]at e;have q':oc=p.2:=MR e;show d S (by rw[<- q'];show P)
def jh {Mqa:WK}{A:Ms}{E:Lj->Lm->Prop}{i:Ll}{x:LW}{v:V}{u:Lj}{Q:WL->Lm->Prop}(I:Inv X J Y H s)(c:X.N.Nodup)(hi:X.N[i]?=ba x)(d:B6 X.env.scope x)(r:RelV v u)
  (h:∀a,Inv X J (Y.set i (ba v)) H a->Q () a) (hf:X.fn x=true\/X.env.scope.names.lookup x=ba .local):wpAny Mqa A (storeName X.env x u) Q E s:=
 wz I c hi d r (λa b _=>h a b) hf
def Inv.call' {a:Lm}{ch:Lf Lv}(I:Inv X J Y H s)(h:a.os=s.os)(u:Un (sO X.stack) ch H H' s.heap a.heap)(f:HOk X.prog X.w H' a.heap)(g:Ru a.gens)
  (d:∀b∈ch,(b∈X.ex\/⇑X.s₀.heap.objs<=b)/\b≠X.env.locals/\(∀x c,X.env.cells.lookup x=ba c->c≠b)/\∀p∈X.pn++J,p.1≠b):Inv X J Y H' a:=by
 obtain⟨h',g',d',t',o'⟩:=a;have e:o'=s.os:=h;subst e;show I.call (g':=g') (t':=t') (d':=d') u f g d
end
noncomputable abbrev XK:=Lj->Ln Lv->Hp->Prop
noncomputable abbrev St:=Lf (Ln V)
noncomputable abbrev VK:=V->Hp->Prop
noncomputable abbrev TE:=St->Hp->VK->Prop
noncomputable abbrev TT:=St->Hp->(L7->Hp->Prop)->Prop
noncomputable abbrev TA:=St->Hp->(Lf V->Hp->Prop)->Prop
set_option genInjectivity false in
structure Ends where
 nx:St->Hp->Prop
 rt:VK
 bk:St->Hp->Prop:=λ_ _=>Nb
 ct:St->Hp->Prop:=λ_ _=>Nb
noncomputable abbrev TS:=Ends->St->Hp->Prop
inductive EP (X:Cx)(J:Lf (Lv×Nr))(Y:St)(Q:VK)(u:Lj)(s':Lm):Prop
 |mk (v:V) (H':Hp) (i:Inv X J Y H' s') (r:RelV v u) (q:Q v H'):EP X J Y Q u s'
inductive TP (X:Cx)(J:Lf (Lv×Nr))(Y:St)(Q:L7->Hp->Prop)(b:L7)(s':Lm):Prop
 |mk (H':Hp) (i:Inv X J Y H' s') (q:Q b H'):TP X J Y Q b s'
inductive AP (X:Cx)(J:Lf (Lv×Nr))(Y:St)(Q:Lf V->Hp->Prop)(us:Lf Lj)(s':Lm):Prop
 |mk (vs:Lf V) (H':Hp) (i:Inv X J Y H' s') (r:Vals vs us) (q:Q vs H'):AP X J Y Q us s'
abbrev SP (X:Cx)(J:Lf (Lv×Nr))(D:Ends)(f:Flow)(c:Lm):Prop:=
 match f with
 |.next=>∃b a,Inv X J b a c/\D.nx b a
 |.brk=>∃b a,Inv X J b a c/\D.bk b a
 |.cont=>∃b a,Inv X J b a c/\D.ct b a
 |.ret u=>∃v b a,Inv X J b a c/\RelV v u/\D.rt v a
abbrev PE (X:Cx)(e:L6)(t:TE):Prop:=
 ∀(J:Lf (Lv×Nr)) (s:Lm) (Y:St) (H:Hp) (Q:VK),Inv X J Y H s->t Y H Q->wpAny (model X.prog X.w) X.A (eval e X.env) (EP X J Y Q) X.xe s
abbrev PT (X:Cx)(e:L6)(t:TT):Prop:=
 ∀(J:Lf (Lv×Nr)) (s:Lm) (Y:St) (H:Hp) (Q:L7->Hp->Prop),Inv X J Y H s->t Y H Q->wpAny (model X.prog X.w) X.A (isTrue e X.env (eval e X.env)) (TP X J Y Q) X.xe s
abbrev PW (X:Cx)(e:L6)(t:TT):Prop:=
 ∀(a:V8 Lj) (J:Lf (Lv×Nr)) (s:Lm) (Y:St) (H:Hp) (Q:L7->Hp->Prop),Inv X J Y H s->t Y H Q->wpAny (model X.prog X.w) X.A (isTrue e X.env a) (TP X J Y Q) X.xe s
def PW.pt {X:Cx}{e:L6}{t:TT}(h:PW X e t):PT X e t:=h _
abbrev PA (X:Cx)(es:Lf L6)(t:TA):Prop:=
 ∀(pos:Oy) (J:Lf (Lv×Nr)) (s:Lm) (Y:St) (H:Hp) (Q:Lf V->Hp->Prop),Inv X J Y H s->t Y H Q->wpAny (model X.prog X.w) X.A (spliced (backTo pos (starEach es X.env))) (AP X J Y Q) X.xe s
abbrev PS (X:Cx)(st:O0)(t:TS):Prop:=
 ∀(J:Lf (Lv×Nr)) (s:Lm) (Y:St) (H:Hp) (D:Ends),Inv X J Y H s->t D Y H->wpAny (model X.prog X.w) X.A (exec st X.env) (SP X J D) X.xe s
abbrev PSs (X:Cx)(st:Lf O0)(t:TS):Prop:=
 ∀(J:Lf (Lv×Nr)) (s:Lm) (Y:St) (H:Hp) (D:Ends),Inv X J Y H s->t D Y H->wpAny (model X.prog X.w) X.A (execs st X.env) (SP X J D) X.xe s
def bF {α:Type}{t:V8 α}{Q b:α->Lm->Prop}{Mqa:WK}{A:Ms}{E:Lj->Lm->Prop}{s:Lm}(h:wpAny Mqa A t Q E s)(c:∀a s,Q a s->b a s):wpAny Mqa A t b E s:=NR h c λ_ _ x=>x
section
variable{X:Cx}
abbrev EQ (i:Ll):TE:=λY H Q=>∃v,Y[i]?=ba (ba v)/\Q v H
abbrev tC (v:V):TE:=λ_ H Q=>Q v H
def yt {i:Ll}{x:LW}{pos:Oy}(g:X.N[i]?=ba x)(n:Jv X.env.scope x)(hd:(x==("__debug__": LW))=false:=by decide)(d:(x==("__classdict__": LW))=false:=by decide):PE X (.Name x pos) (EQ i):=by
 intro J s Y H Q I h;obtain⟨v,e,h⟩:=h;obtain⟨m,k,hl⟩:=I.loc;obtain⟨u,r,l⟩:=hl i x v g e n;have b:EP X J Y Q u s:=#[v,H,I,r,h];rcases l with⟨hk,j⟩|⟨hk,c,f,a⟩
 ·show UT (wpAny_loadName_local I.ok.kind hk k j b) hd
 ·rcases hk with hk|hk
  ·show UT (wpAny_loadName_cell I.ok.kind hk f a b) hd
  ·show UT (wpAny_loadName_free I.ok.kind hk f a b d) hd
def yu {i j pos}:PE X (.Constant (.int i) j pos) (tC (.int i)):=λ_ _ _ H _ I h=>wpAny_Constant_int #[.int i,H,I.tok _,#[_,rfl],h]
def Ee {b j pos}:PE X (.Constant (.bool b) j pos) (tC (.bl b)):=λ_ _ _ H _ I h=>Constant_bool #[.bl b,H,I,rfl,h]
def yv {j pos}:PE X (.Constant .none j pos) (tC .non):=λ_ _ _ H _ I h=>Constant_none #[.non,H,I,rfl,h]
def yw {x j pos}:PE X (.Constant (.str x) j pos) (tC (.str x)):=λ_ _ _ H _ I h=>Te #[.str x,H,I.tok _,#[_,rfl],h]
abbrev Gl (X:Cx)(x:LW):Prop:=X.env.kindOf x=ba .globalImplicit
def uL {E:Lj->Lm->Prop}{J:Lf (Lv×Nr)}{s:Lm}{Y:St}{H:Hp}{x:LW}{u:Lj}{pos:Oy}{Q:Lj->Lm->Prop}(I:Inv X J Y H s)(a:Gl X x)(b:X.mg x=ba u)(h:Q u s)
  (hd:(x==("__debug__": LW))=false:=by decide):wpAny (model X.prog X.w) X.A (eval (.Name x pos) X.env) Q E s:=
 QY I.ok.kind a (Calls.loadGlobal_global (by rw[I.ok.glob];show I.mod.glob.keeps I.bk) b h) hd
def iS {E:Lj->Lm->Prop}{J:Lf (Lv×Nr)}{s:Lm}{Y:St}{H:Hp}{x:LW}{u:Lj}{pos:Oy}{Q:Lj->Lm->Prop}(I:Inv X J Y H s)(c:Gl X x)(d:X.mg x=gV)(f:bootBuiltins x=ba u)(h:Q u s)
  (e:x≠"__name__":=by decide) (hd:(x==("__debug__": LW))=false:=by decide):wpAny (model X.prog X.w) X.A (eval (.Name x pos) X.env) Q E s:=by
 obtain⟨g,a,b⟩:=I.mod.blt;show QY I.ok.kind c (Calls.loadGlobal_builtin (by rw[I.ok.glob];show I.mod.glob.keeps I.bk) d (by rw[I.ok.blt];show a.keeps I.bk) ((b x e).trans f) h) hd
def B7 {x:LW}{v:V}{u:Lj}{pos:Oy}(a:Gl X x)(b:X.mg x=gV)(d:bootBuiltins x=ba u)(r:RelV v u)(c:x≠"__name__":=by decide)(hd:(x==("__debug__": LW))=false:=by decide):PE X (.Name x pos) (tC v):=
 λ_ _ _ H _ I h=>iS I a b d #[v,H,I,r,h] c hd
variable{a b:L6}{ta tb:TE}{pos:Oy}
variable{tA tB':TT}{aU:Lf L6}
abbrev He (t u:TT):TT:=λY H Q=>t Y H λc a=>if c=true then u Y a Q else Q false a
abbrev KO (t u:TT):TT:=λY H Q=>t Y H λc a=>if c=true then Q true a else u Y a Q
abbrev JI (t:TT):TT:=λY H Q=>t Y H λc a=>Q (!c) a
def B8 (b:PT X a tA):PW X (.BoolOp .And [a] pos) tA:=by
 intro f J s Y H Q I h;show isTrue_and (bF (b J s Y H Q I h) λc d e=>?_)
 cases c with
 |true=>show isTrue_and_nil e
 |false=>show e
def ER (b:PT X a tA):PW X (.BoolOp .Or [a] pos) tA:=by
 intro f J s Y H Q I h;show isTrue_or (bF (b J s Y H Q I h) λc d e=>?_)
 cases c with
 |false=>show isTrue_or_nil e
 |true=>show e
def ES (e:PT X a tA)(f:PW X (.BoolOp .And (b::aU) pos) tB'):PW X (.BoolOp .And (a::b::aU) pos) (He tA tB'):=by
 intro i J s Y H Q I h;show isTrue_and (bF (e J s Y H _ I h) λc g #[d,I1,q1]=>?_)
 cases c with
 |true=>show f i J g Y d Q I1 q1
 |false=>show#[d,I1,q1]
def Hf (e:PT X a tA)(f:PW X (.BoolOp .Or (b::aU) pos) tB'):PW X (.BoolOp .Or (a::b::aU) pos) (KO tA tB'):=by
 intro i J s Y H Q I h;show isTrue_or (bF (e J s Y H _ I h) λc g #[d,I1,q1]=>?_)
 cases c with
 |true=>show#[d,I1,q1]
 |false=>show f i J g Y d Q I1 q1
def ET (d:PT X a tA):PT X (.UnaryOp .Not a pos) (JI tA):=by
 intro J s Y H Q I h;show isTrue_not (bF (d J s Y H (λc b=>Q (!c) b) I h) λ_ _ #[b,i,q]=>#[b,i,q])
abbrev Hg (ta tb:TE):TE:=λY H Q=>ta Y H λx a=>∃c,x=.bl c/\if c=true then tb Y a Q else Q (.bl false) a
abbrev JJ (ta tb:TE):TE:=λY H Q=>ta Y H λx a=>∃c,x=.bl c/\if c=true then Q (.bl true) a else tb Y a Q
abbrev Hh (ta:TE):TE:=λY H Q=>ta Y H λx a=>∃c,x=.bl c/\Q (.bl (!c)) a
def EU {op}{t:TE}(h:PE X a t):PE X (.BoolOp op [a] pos) t:=λJ s Y H Q I b=>BoolOp_one (h J s Y H Q I b)
def EV (e:PE X a ta)(f:PE X (.BoolOp .And (b::aU) pos) tb):PE X (.BoolOp .And (a::b::aU) pos) (Hg ta tb):=by
 intro J s Y H Q I h;show BoolOp_and (bF (e J s Y H _ I h) λv g #[x,H1,I1,r1,d]=>?_)
 obtain⟨c,rfl,d⟩:=d;cases r1;show Oi ?_;cases c with
 |true=>show f J g Y H1 Q I1 d
 |false=>show#[.bl false,H1,I1,rfl,d]
def Hi (e:PE X a ta)(f:PE X (.BoolOp .Or (b::aU) pos) tb):PE X (.BoolOp .Or (a::b::aU) pos) (JJ ta tb):=by
 intro J s Y H Q I h;show BoolOp_or (bF (e J s Y H _ I h) λv g #[x,H1,I1,r1,d]=>?_)
 obtain⟨c,rfl,d⟩:=d;cases r1;show Oi ?_;cases c with
 |false=>show f J g Y H1 Q I1 d
 |true=>show#[.bl true,H1,I1,rfl,d]
def EW (d:PE X a ta):PE X (.UnaryOp .Not a pos) (Hh ta):=by
 intro J s Y H Q I h;show UnaryOp_ (bF (d J s Y H _ I h) λv e #[x,H1,I1,r1,b]=>?_)
 obtain⟨c,rfl,b⟩:=b;cases r1;show not_of (Oi #[.bl (!c),H1,I1,rfl,b])
end
abbrev SqL (K:LF)(H:Hp)(a:Lv)(xs:Lf V):Prop:=
 Rd H a (.lst xs)\/
  ∃(o:Nr) (its:LY Lj) (n:Ll),K.lookup a=ba o/\o.cls=.type "list"/\o.dict=gV/\o.data=.seq its n/\⇑its<=sizeLine/\Vals xs its.toList
abbrev SqT (K:LF)(H:Hp)(a:Lv)(xs:Lf V):Prop:=
 Rd H a (.tup xs)\/
  ∃(o:Nr) (its:LY Lj) (n:Ll),K.lookup a=ba o/\o.cls=.type "tuple"/\o.data=.seq its n/\⇑its<=sizeLine/\Vals xs its.toList
abbrev JK:Lj->Ln V
 |.none=>ba .non
 |.bool b=>ba (.bl b)
 |.int i _=>ba (.int i)
 |.str x _=>ba (.str x)
 |.bytes b _=>ba (.byt b)
 |.float b _=>ba (.flt b)
 |.ref a=>ba (.ref a)
 |.type n=>ba (.ty n)
 |_=>gV
def RelV.abs {x:V}{u:Lj}(r:RelV x u):JK u=ba x:=by
 cases x with
 |non=>cases r;rfl
 |bl _=>cases r;rfl
 |int _=>obtain⟨t,rfl⟩:=r;rfl
 |str _=>obtain⟨t,rfl⟩:=r;rfl
 |byt _=>obtain⟨t,rfl⟩:=r;rfl
 |flt _=>obtain⟨t,rfl⟩:=r;rfl
 |ref _=>cases r;rfl
 |ty _=>cases r;rfl
def RelV.inj {x y:V}{u:Lj}(r:RelV x u)(q:RelV y u):x=y:=MR (r.abs.symm.trans q.abs)
def Vals.inj:∀{xs ys:Lf V}{us:Lf Lj},Vals xs us->Vals ys us->xs=ys
 |_,_,_,.nil,.nil=>rfl
 |_,_,_,.cons r t,.cons a t'=>by rw[r.inj a,Vals.inj t t']
section
variable{X:Cx}{J:Lf (Lv×Nr)}{Y:St}{H:Hp}{s:Lm}{a:Lv}{xs ys:Lf V}
def SqL.of {K:LF}(h:H a=ba (.lst xs)):SqL K H a xs:=.inl (.inl h)
def SqT.of {K:LF}(h:H a=ba (.tup xs)):SqT K H a xs:=.inl (.inl h)
def Inv.list (I:Inv X J Y H s)(h:SqL X.K H a xs):∃b:Lf Lj,Vals xs b/\PlainL s.heap a b.toArray/\↥xs<=sizeLine:=by
 rcases h with h|⟨o,b,n,hk,c,hd,hs,hz,r⟩
 ·obtain⟨z,b,n,r,e⟩:=h.ok I.hok;show#[b,r,#[_,n,e,rfl,rfl,rfl],z]
 ·show#[b.toList,r,#[o,n,I.kIn a o hk,c,hd,by simpa using hs],?_]
  have e:=↥r;simp only[Lz]at e;omega
def Inv.tuple (I:Inv X J Y H s)(h:SqT X.K H a xs):∃b:Lf Lj,Vals xs b/\Tx s.heap a b.toArray/\↥xs<=sizeLine:=by
 rcases h with h|⟨o,b,n,hk,c,hs,hz,r⟩
 ·obtain⟨z,b,r,p⟩:=h.ok I.hok;show#[b,r,p,z]
 ·show#[b.toList,r,#[o,I.kIn a o hk,c,n,by simpa using hs],?_]
  have e:=↥r;simp only[Lz]at e;omega
def Inv.list_inj (I:Inv X J Y H s)(h:SqL X.K H a xs)(h':SqL X.K H a ys):xs=ys:=by
 obtain⟨b,r,⟨o,n,e,_,_,d⟩,_⟩:=I.list h;obtain⟨its',f,⟨o',g,c,_,_,d'⟩,_⟩:=I.list h';rw[e]at c;cases c
 rw[d]at d';injection d' with d1 _
 have:b=its':=by simpa using congrArg VE d1
 subst this;show r.inj f
def Inv.tuple_inj (I:Inv X J Y H s)(h:SqT X.K H a xs)(h':SqT X.K H a ys):xs=ys:=by
 obtain⟨b,r,⟨o,e,_,n,d⟩,_⟩:=I.tuple h;obtain⟨its',f,⟨o',c,_,g,d'⟩,_⟩:=I.tuple h';rw[e]at c;cases c
 rw[d]at d';injection d' with d1 _
 have:b=its':=by simpa using congrArg VE d1
 subst this;show r.inj f
end
noncomputable abbrev Cx.wish (X:Cx)(E:Lj->Lm->Prop):Cx:={X with xe:=E}
noncomputable abbrev Cx.nox (X:Cx):Cx:=X.wish λ_ _=>Nb
def Cx.Ok.wish {X:Cx}(ok:X.Ok)(E:Lj->Lm->Prop):(X.wish E).Ok:=
 #[ok.mod,ok.kind,ok.glob,ok.blt,ok.above,ok.inj,ok.has,ok.cab,ok.hd,ok.frames,ok.stk,ok.exf,ok.bs,ok.bsz,ok.noex,ok.exfs,ok.funs,ok.frf]
def Cx.Ok.unwish {X:Cx}{E:Lj->Lm->Prop}(ok:(X.wish E).Ok):X.Ok:=
 #[ok.mod,ok.kind,ok.glob,ok.blt,ok.above,ok.inj,ok.has,ok.cab,ok.hd,ok.frames,ok.stk,ok.exf,ok.bs,ok.bsz,ok.noex,ok.exfs,ok.funs,ok.frf]
section
variable{X:Cx}{J:Lf (Lv×Nr)}{Y:St}{H:Hp}{s:Lm}{E:Lj->Lm->Prop}
def Inv.wish (I:Inv X J Y H s)(E:Lj->Lm->Prop):Inv (X.wish E) J Y H s:=#[I.ok.wish E,I.os,I.bare,I.base,I.loc,I.cell,I.free,I.freeC,I.pin,I.hok,I.len]
def Inv.unwish (I:Inv (X.wish E) J Y H s):Inv X J Y H s:=#[I.ok.unwish,I.os,I.bare,I.base,I.loc,I.cell,I.free,I.freeC,I.pin,I.hok,I.len]
def SP.unwish {D:Ends}{f:Flow}{c:Lm}(h:SP (X.wish E) J D f c):SP X J D f c:=by
 cases f with
 |next=>obtain⟨b,a,I,q⟩:=h;show#[b,a,I.unwish,q]
 |brk=>obtain⟨b,a,I,q⟩:=h;show#[b,a,I.unwish,q]
 |cont=>obtain⟨b,a,I,q⟩:=h;show#[b,a,I.unwish,q]
 |ret u=>obtain⟨v,b,a,I,r,q⟩:=h;show#[v,b,a,I.unwish,r,q]
def PSs.nox {st:Lf O0}{t:TS}(h:PSs X.nox st t):PSs X st t:=λJ s Y H D I a=>
 NR (h J s Y H D (I.wish _) a) (λ_ _ q=>q.unwish) λ_ _ z=>Nb.elim z
end
section
variable{X:Cx}{st:O0}{aU:Lf O0}{t u:TS}{e:L6}{te:TE}{pos:Oy}
abbrev yy:TS:=λD Y H=>D.nx Y H
abbrev JL (t u:TS):TS:=λD Y H=>t {D with nx:=u D} Y H
def B9:PSs X [] yy:=λ_ _ Y H _ I h=>R0 #[Y,H,I,h]
def yz (d:PS X st t)(e:PSs X aU u):PSs X (st::aU) (JL t u):=by
 intro J s Y H D I h;show wpAny_execs_cons (bF (d J s Y H {D with nx:=u D} I h) λf g q=>?_)
 cases f with
 |next=>
  obtain⟨c,a,b,q⟩:=q;show e J g c a D b q
 |ret v=>show q
 |brk=>show q
 |cont=>show q
def Cc:PS X (.Pass pos) yy:=λ_ _ Y H _ I h=>wpAny_Pass #[Y,H,I,h]
def Inv.quiet {J:Lf (Lv×Nr)}{Y:St}{H:Hp}{s:Lm}(I:Inv X J Y H s):interactive X.env=false:=by simp[interactive,I.ok.kind]
def EX {x j pos pos'}:PS X (.Expr (.Constant (.str x) j pos) pos') yy:=λ_ s Y H _ I h=>wpAny_Expr (Te (show SP X _ _ .next {s with toks:=s.toks+1} from#[Y,H,I.tok _,h])) I.quiet
abbrev Hj (te:TE):TS:=λD Y H=>te Y H λ_ a=>D.nx Y a
def Cd (a:PE X e te)(hs:swapsWith e gV pos.line X.env=pure false:=by rfl):PS X (.Expr e pos) (Hj te):=by
 intro J s Y H D I h;show wpAny_Expr_any (bF (a J s Y H _ I h) λv b #[x,H1,I1,r1,q1]=>#[Y,H1,I1,q1]) I.quiet hs
abbrev JM (te:TE):TS:=λD Y H=>te Y H D.rt
def EY (a:PE X e te):PS X (.Return (ba e) pos) (JM te):=by
 intro J s Y H D I h;show wpAny_Return_some (bF (a J s Y H _ I h) λv b #[x,H1,I1,r1,q1]=>#[x,Y,H1,I1,r1,q1])
abbrev JN (c:TT)(t u:TS):TS:=λD Y H=>c Y H λb a=>if b=true then t D Y a else u D Y a
def Hk {c:L6}{a b:Lf O0}{g:TT}(k:PT X c g)(i:PSs X a t)(j:PSs X b u):PS X (.If c a b pos) (JN g t u):=by
 intro J s Y H D I h;show wpAny_If (bF (k J s Y H _ I h) λd f #[e,I1,q1]=>?_)
 cases d with
 |true=>show i J f Y e D I1 q1
 |false=>show j J f Y e D I1 q1
end
noncomputable abbrev TG:=V->St->Hp->(St->Hp->Prop)->Prop
noncomputable abbrev EZ:=Lf V->St->Hp->(St->Hp->Prop)->Prop
abbrev PG (X:Cx)(a:L6)(t:TG):Prop:=
 ∀(J:Lf (Lv×Nr)) (s:Lm) (Y:St) (H:Hp) (v:V) (u:Lj) (Q:St->Hp->Prop),Inv X J Y H s->RelV v u->t v Y H Q->
  wpAny (model X.prog X.w) X.A (assign a X.env u) (λ_ d=>∃c b,Inv X J c b d/\Q c b) X.xe s
abbrev Hl (X:Cx)(ts:Lf L6)(t:EZ):Prop:=
 ∀(J:Lf (Lv×Nr)) (s:Lm) (Y:St) (H:Hp) (vs:Lf V) (us:Lf Lj) (Q:St->Hp->Prop),Inv X J Y H s->Vals vs us->t vs Y H Q->
  wpAny (model X.prog X.w) X.A (assignInOrder ((assignEach ts X.env).map (·.2)) us) (λ_ c=>∃b a,Inv X J b a c/\Q b a) X.xe s
noncomputable abbrev E1:=V->V->V->Hp->(Hp->Prop)->Prop
abbrev E2 (X:Cx)(t:E1):Prop:=
 ∀(J:Lf (Lv×Nr)) (s:Lm) (Y:St) (H:Hp) (o i v:V) (ov iv u:Lj) (Q:Hp->Prop),Inv X J Y H s->RelV o ov->RelV i iv->RelV v u->t o i v H Q->
  wpAny (model X.prog X.w) X.A (setItem ov iv u) (λ_ b=>∃a,Inv X J Y a b/\Q a) X.xe s
section
variable{X:Cx}{pos:Oy}
abbrev Hm (i:Ll):TG:=λv Y H Q=>Q (Y.set i (ba v)) H
def uM {i:Ll}{x:LW}(b:X.N.Nodup)(hi:X.N[i]?=ba x)(c:B6 X.env.scope x)(hf:X.fn x=true\/X.env.scope.names.lookup x=ba .local):PG X (.Name x pos) (Hm i):=by
 intro J s Y H v u Q I r h;show TB (jh I b hi c r (λd a=>#[_,H,a,h]) hf)
abbrev JO:EZ:=λvs Y H Q=>vs=[]/\Q Y H
abbrev Hn (t:TG)(u:EZ):EZ:=λvs Y H Q=>∃v r,vs=v::r/\t v Y H λb a=>u r b a Q
def Ce:Hl X [] JO:=by
 intro J s Y H vs us Q I r h;obtain⟨e,h⟩:=h;subst e;cases r;show TC #[Y,H,I,h]
def yA {e:L6}{es:Lf L6}{t:TG}{u:EZ}(c:PG X e t)(d:Hl X es u)
  (hs:(assignEach (e::es) X.env).map (·.2)=assign e X.env::(assignEach es X.env).map (·.2):=by rfl):Hl X (e::es) (Hn t u):=by
 intro J s Y H vs us Q I r h;obtain⟨v,i,b,h⟩:=h;subst b;cases r with
 |cons r f=>
  rw[hs];show QZ (bF (c J s Y H _ _ _ I r h) λ_ g #[a,H1,I1,q1]=>?_)
  show d J g a H1 _ _ Q I1 f q1
abbrev JP (K:LF)(n:Ll)(t:EZ):TG:=λv Y H Q=>∃a xs,v=.ref a/\SqT K H a xs/\↥xs=n/\t xs Y H Q
def E3 {es:Lf L6}{k:Ll}{t:EZ}{n:Ll}(j:X.calm=true)(h:Hl X es t)
  (l:(assignEach es X.env).length=n:=by rfl) (c:(assignEach es X.env).findIdx? (·.1)=gV:=by rfl):PG X (.Tuple es k pos) (JP X.K n t):=by
 intro J s Y H v u Q I r d;obtain⟨a,xs,i,m,hl,d⟩:=d;subst i;cases r;obtain⟨w,f,p,hz⟩:=I.tuple m;show assign_Tuple_tuple (I.ok.hd j) p (by simp[l,<- hl,↥f]) c λh' q=>?_
 have g:Inv X J Y H {s with heap:=h'}:=I.kept (t':=s.toks) λb o e=>q b o (LX (LO e)) e
 show h J _ Y H xs _ Q g (by simpa using f) d
abbrev JQ (e d:TE)(t:E1):TG:=λv Y H Q=>e Y H λo a=>d Y a λi b=>t o i v b λc=>Q Y c
def E4 {o i:L6}{d c:TE}{t:E1}(g:PE X o d)(hi:PE X i c)(hs:E2 X t)
  (f:∀v,assign (.Subscript o i pos) X.env v=(do
   let a <- holding [v] (eval o X.env)
   let b <- holding [v,a] (eval i X.env)
   standAt pos
   holding [v,a,b] (setItem a b v)
   release [v,a,b] []):=by intro _;rfl):PG X (.Subscript o i pos) (JQ d c t):=by
 intro J s Y H v u Q I r h;rw[f];show Lg (MY (bF (g J s Y H _ I h) λa j #[x,H1,I1,r1,q1]=>?_))
 show Lg (MY (bF (hi J j Y H1 _ I1 q1) λb k #[y,H2,I2,r2,q2]=>?_))
 show Lg (Qx (Lg (MY (bF (hs J k Y H2 x y v a b u _ I2 r1 r2 r q2) λ_ l #[e,I3,q3]=>?_))))
 show wpAny_release #[Y,e,I3,q3]
abbrev JR (b:TE)(g:TG):TS:=λD Y H=>b Y H λx a=>g x Y a D.nx
def E5 {tg e:L6}{a:TE}{g:TG}(c:PE X e a)(d:PG X tg g)(hs:swapsWithSole [tg] e pos.line X.env=pure false:=by rfl)(f:swappedStores [tg] e X.env=pure gV:=by rfl)
  (b:(assignEach [tg] X.env).map (·.2)=[assign tg X.env]:=by rfl):PS X (.Assign [tg] e pos) (JR a g):=by
 intro J s Y H D I h;show wpAny_Assign_stores (bF (c J s Y H _ I h) λv i #[x,H1,I1,r1,q1]=>?_) hs f
 rw[b];show bF (d J i Y H1 x v _ I1 r1 q1) λ_ j q=>q
abbrev JS (i j:Ll)(b:TA):TS:=λD Y H=>b Y H λvs a=>∃v w,vs=[v,w]/\D.nx ((Y.set i (ba v)).set j (ba w)) a
def E6 {i j:Ll}{x y:LW}{a b:L6}{A:TA}{l py pt:Oy}{kt k2 pt2}(M:X.calm=true)(t:X.N.Nodup)(hi:X.N[i]?=ba x)(N:X.N[j]?=ba y)(g:i≠j)
  (u:X.env.scope.names.lookup x=ba .local) (z:X.env.scope.names.lookup y=ba .local) (L:PA X [a,b] A)
  (O:swappedStores [.Tuple [.Name x l,.Name y py] kt pt] (.Tuple [a,b] k2 pt2) X.env=pure (ba [x,y]))
  (hs:swapsWithSole [.Tuple [.Name x l,.Name y py] kt pt] (.Tuple [a,b] k2 pt2) pos.line X.env=pure false:=by rfl) :
  PS X (.Assign [.Tuple [.Name x l,.Name y py] kt pt] (.Tuple [a,b] k2 pt2) pos) (JS i j A):=by
 intro J s Y H D I h;rw[exec_Assign_arm];show Lg (Qx ?_);rw[hs];show Lg (Lo ?_);rw[L1 #v[]]
 show Lg (Tuple_ (bF (L _ J s Y H _ I h) λus c #[vs,H1,I1,r1,m]=>?_))
 obtain⟨v,w,G,m⟩:=m;subst G;obtain⟨d,f,rfl,R,n⟩:∃d f,us=[d,f]/\RelV v d/\RelV w f:=by
  cases r1 with
  |cons p q=>
   cases q with
   |cons P Q=>
    cases Q;show#[_,_,rfl,p,P]
 show MC ?_ (by change 2<=sizeLine;decide)
 have B:Inv X J Y H1 {c with heap:=c.heap.push {cls:=.type "tuple",data:=.seq [d,f].toArray}}:=I1.kept (t':=c.toks) λb o e=>Li _ e
 rw[O];show Lg (Lo ?_);change wpAny (model X.prog X.w) X.A (do rule "assign.swapped-stores";let items <- unpackItems (.ref ⇑c.heap.objs) 2 gV;assignInOrder [λv=>bindName X.env y v,λv=>bindName X.env x v] items.reverse;pure Wz) _ _ _
 show Lg (Q1 (Lg (unpackItems_tuple (items:=[d,f].toArray) (I.ok.hd M) (Uc c.heap _) λh' k=>?_)))
 have C:=B.kept (h':=h') (t':=c.toks) λb o e=>k b o (LX (LO e)) e
 change wpAny _ _ (assignInOrder [λv=>bindName X.env y v,λv=>bindName X.env x v] [f,d] >>= λ_=>pure Wz) _ _ _
 show Lg (QZ (UU (jh C t N (.inl z) n (λS E=>?_) (.inr z))))
 show QZ (UU (jh E t hi (.inl u) R (λT r=>TC (Lo ?_)) (.inr u)))
 rw[List.set_comm _ _ (Ne.symm g)]at r;show#[_,H1,r,m]
abbrev E7 (c:TT)(g:TS):TS:=λD Y H=>∃W:Ll->St->Hp->Prop,(∃m,W m Y H)/\∀m Y H,W m Y H->
 c Y H λb d=>if b=true then ∃N:St->Hp->Prop,(∀e a,N e a->∃f,f<m/\W f e a)/\g {D with nx:=N,ct:=N,bk:=D.nx} Y d else D.nx Y d
def yB {c:L6}{body:Lf O0}{y:TT}{x:TS}(w:SI (model X.prog X.w) X.A X.env X.xe)(B:PT X c y)(A:PSs X body x):PS X (.While c body [] pos) (E7 y x):=by
 intro J s Y H D I h;obtain⟨W,⟨m0,L⟩,e⟩:=h;show wpAny_While (codeAny_whileLoop (λn C=>∃t p,Inv X J t p C/\W n t p) ?_ m0 #[Y,H,I,L])
 rintro n E ⟨g,q,z,M⟩;show OL w (bF (B J E g q _ z (e n g q M)) λb G #[r,I2,i]=>?_)
 cases b with
 |true=>
  obtain⟨N,u,i⟩:=i;rw[LU rfl];show OL w (bF (A J G g r _ I2 i) λf O j=>?_)
  cases f with
  |next=>
   obtain⟨d,a,k,n3⟩:=j;obtain⟨m,l,o⟩:=u d a n3;show#[m,l,d,a,k,o]
  |cont=>
   obtain⟨d,a,k,n3⟩:=j;obtain⟨m,l,o⟩:=u d a n3;show#[m,l,d,a,k,o]
  |brk=>show j
  |ret v=>show j
 |false=>
  rw[L1 L5];show R0 #[g,r,I2,i]
end
set_option genInjectivity false in
structure It where
 go:Ll->Hp->Prop
 yld:Ll->Hp->V->Hp->Prop
 stop:Ll->Hp->Prop
abbrev iT (X:Cx)(J:Lf (Lv×Nr))(H:Hp)(b:Lv):Prop:=
 H b=gV/\b≠X.env.locals/\b∉X.fs/\(b∈X.ex\/⇑X.s₀.heap.objs<=b)/\(∀x c,X.env.cells.lookup x=ba c->c≠b)/\∀p∈X.pn++J,p.1≠b
def Inv.fpOk {X:Cx}{J:Lf (Lv×Nr)}{Y:St}{H d:Hp}{s:Lm}{b:Lv}(I:Inv X J Y H s)(a:⇑s.heap.objs<=b)(f:d b=gV):iT X J d b:=by
 show#[f,Mk (LZ I.lt a),I.nofs a,.inr (Lw I.sz a),λx c e z=>?_,λp g z=>?_]
 ·obtain⟨v,q⟩:=I.cell x c e;show absurd (LZ q.lt (by rw[z];show a)) (M6 _)
 ·show absurd (LZ (LO (I.pin p g).1) (by rw[z];show a)) (M6 _)
structure Turn (P:Mn)(w:MB)(K:LF)(tg:L6)(td:It)(fp:Lf Lv)(it:Lv)(tn:Ll->MD->Prop):Prop where
 mem:it∈fp
 obj:∀i h,tn i h->∀b∈fp,∃o,h.get? b=ba o/\∀v,o.data≠.cell v
 keep:∀i h h',tn i h->(∀b∈fp,∀o,h.get? b=ba o->h'.get? b=ba o)->tn i h'
 item:∀(X:Cx),X.prog=P->X.w=w->X.K=K->X.calm=true->∀(i:Ll) (J:Lf (Lv×Nr)) (s:Lm) (Y:St) (H:Hp) (E:Lj->Lm->Prop),Inv X J Y H s->(∀b∈fp,iT X J H b)->tn i s.heap->td.go i H->
  wpAny (model P w) X.A (pyNext (.ref it)) (λr s1=>∃u,r=ba u/\
   wpAny (model P w) X.A (letOwnedTupleGo tg (.ref it) u) (λ_ s2=>∃x H',Inv X J Y H' s2/\RelV x u/\td.yld i H x H'/\tn (i+1) s2.heap/\∀b∈fp,H' b=gV) E s1) E s
 done:∀(X:Cx),X.prog=P->X.w=w->X.K=K->X.calm=true->∀(i:Ll) (J:Lf (Lv×Nr)) (s:Lm) (Y:St) (H:Hp) (E:Lj->Lm->Prop),Inv X J Y H s->(∀b∈fp,iT X J H b)->tn i s.heap->td.stop i H->
  wpAny (model P w) X.A (pyNext (.ref it)) (λr s1=>r=gV/\Inv X J Y H s1) E s
 self:∀(A:Ms) (i:Ll) (s:Lm) (Q:Lj->Lm->Prop) (E:Lj->Lm->Prop),tn i s.heap->Q (.ref it) s->wpAny (model P w) A (pyIter (.ref it)) Q E s
noncomputable abbrev TI:=St->Hp->(It->Hp->Prop)->Prop
abbrev Ho (X:Cx)(J:Lf (Lv×Nr))(Y:St)(tg:L6)(R:It->Hp->Prop)(a:Lj)(d:Lm):Prop:=
 ∃(it:Lv) (c:Lf Lv) (tn:Ll->MD->Prop) (td:It) (H':Hp),a=.ref it/\Inv X J Y H' d/\Turn X.prog X.w X.K tg td c it tn/\tn 0 d.heap/\(∀b∈c,iT X J H' b)/\R td H'
abbrev PI (X:Cx)(tg iter:L6)(b:TI):Prop:=
 ∀(J:Lf (Lv×Nr)) (s:Lm) (Y:St) (H:Hp) (R:It->Hp->Prop),Inv X J Y H s->b Y H R->
  wpAny (model X.prog X.w) X.A (eval iter X.env) (λv a=>wpAny (model X.prog X.w) X.A (pyIter v) (Ho X J Y tg R) X.xe a) X.xe s
def uN {Mqa:WK}{A:Ms}{E:Lj->Lm->Prop}{s:Lm}{tg:L6}{it:Lv}{u:Lj}{o:Nr}{n:Ng}{vs:LY Lj}{Q:WL->Lm->Prop}(d:s.heap.get? it=ba o)(b:o.cls=.type n)(hd:o.data=.fields vs)
    (c:["enumerate","zip","dict_itemiterator","dict_reverseitemiterator","odict_iterator","itertools.zip_longest","itertools.pairwise"].contains n=false) (a:Q () s):wpAny Mqa A (letOwnedTupleGo tg (.ref it) u) Q E s:=by
  unfold letOwnedTupleGo;cases tg<;>first
    |show Lo a
    |(cases u<;>first
        |show Lo a
        | (show Lg (RO d ?_)
           rw[b,hd];change wpAny Mqa A (if (["enumerate","zip","dict_itemiterator","dict_reverseitemiterator","odict_iterator","itertools.zip_longest","itertools.pairwise"].contains n&&vs[0]?==ba (rawInt _))=true then _ else _) Q E s
           rw[L1 (by intro h;rw[c,Bool.false_and]at h;cases h)]
           show Lo a))
abbrev JT (K:LF)(a:Lv):It:=
 #[λi H=>∃xs x,SqL K H a xs/\xs[i]?=ba x,λi H x b=>b=H/\∀xs,SqL K H a xs->xs[i]?=ba x,λi H=>∃xs,SqL K H a xs/\↥xs<=i]
abbrev G1 (K:LF)(a:Lv):It:=
 #[λi H=>∃xs x,SqT K H a xs/\xs[i]?=ba x,λi H x b=>b=H/\∀xs,SqT K H a xs->xs[i]?=ba x,λi H=>∃xs,SqT K H a xs/\↥xs<=i]
abbrev Hq (lo:LC)(n:Ll):It:=#[λi _=>i<n,λi H x a=>a=H/\x=.int (lo+i),λi _=>n<=i]
def wD {P:Mn}{w:MB}{K:LF}{tg:L6}(a it:Lv):Turn P w K tg (JT K a) [it] it (λi h=>h.IsListIter it a i) where
 mem:=by simp
 obj:=λi h st b f=>by
  have e:b=it:=by simpa using f
  subst e;obtain⟨o,e,c,d⟩:=st;show#[o,e,λv z=>by rw[d]at z;cases z]
 keep:=λi h h' st k=>st.at λo e=>k it (by simp) o e
 item:=by
  intro X t A hK G i J s Y H E I hf st y;subst t A hK;obtain⟨xs,x,j,B⟩:=y;obtain⟨C,D,p,hz⟩:=I.list j;obtain⟨u,O,R⟩:=D.get B;obtain⟨l,m,N,n,q,r⟩:=hf it (by simp)
  show wpAny_pyNext_list_item st p.isList (x:=u) (by simpa using O) λh' g S=>?_
  have L:Inv X J Y H {s with heap:=h'}:=I.turned (t':=s.toks) (λb o f e=>(S.2 b f).trans e) l m n q r
  obtain⟨o,e,c,d⟩:=id g;show#[u,rfl,uN (s:={s with heap:=h'}) e c d #v[] #[x,H,L,R,#[rfl,λys Q=>by rw[I.list_inj Q j];show B],g,λb f=>(hf b f).1]]
 done:=by
  intro X t A hK G i J s Y H E I hf st y;subst t A hK;obtain⟨xs,j,B⟩:=y;obtain⟨C,D,p,hz⟩:=I.list j;obtain⟨l,m,N,n,q,r⟩:=hf it (by simp)
  have hl:=↥D;show wpAny_pyNext_list_end (I.ok.hd G) st p.isList (by simp;omega) λh' M=>#[rfl,I.turned (t':=s.toks) (λb o f e=>M b o f e) l m n q r]
 self:=λ_ _ _ _ _ st h=>wpAny_pyIter_listiter st h
def sP {P:Mn}{w:MB}{K:LF}{tg:L6}(a it:Lv):Turn P w K tg (G1 K a) [it] it (λi h=>h.IsTupleIter it a i) where
 mem:=by simp
 obj:=λi h st b f=>by
  have e:b=it:=by simpa using f
  subst e;obtain⟨o,e,c,d⟩:=st;show#[o,e,λv z=>by rw[d]at z;cases z]
 keep:=λi h h' st k=>st.at λo e=>k it (by simp) o e
 item:=by
  intro X y B hK G i J s Y H E I hf st A;subst y B hK;obtain⟨xs,x,l,C⟩:=A;obtain⟨g,D,p,hz⟩:=I.tuple l;obtain⟨u,O,R⟩:=D.get C;obtain⟨m,n,N,q,r,t⟩:=hf it (by simp)
  show wpAny_pyNext_tuple_item st (show s.heap.IsTuple a g.toArray from p) (x:=u) (by simpa using O) λh' j S=>?_
  have L:Inv X J Y H {s with heap:=h'}:=I.turned (t':=s.toks) (λb o f e=>(S.2 b f).trans e) m n q r t
  obtain⟨o,e,c,d⟩:=id j;show#[u,rfl,uN (s:={s with heap:=h'}) e c d #v[] #[x,H,L,R,#[rfl,λys Q=>by rw[I.tuple_inj Q l];show C],j,λb f=>(hf b f).1]]
 done:=by
  intro X y B hK G i J s Y H E I hf st A;subst y B hK;obtain⟨xs,l,C⟩:=A;obtain⟨g,D,p,hz⟩:=I.tuple l;obtain⟨m,n,N,q,r,t⟩:=hf it (by simp)
  have hl:=↥D;show wpAny_pyNext_tuple_end (I.ok.hd G) st (show s.heap.IsTuple a g.toArray from p) (by simp;omega) λh' M=>#[rfl,I.turned (t':=s.toks) (λb o f e=>M b o f e) m n q r t]
 self:=λ_ _ _ _ _ st h=>wpAny_pyIter_tupleiter st h
def sQ {P:Mn}{w:MB}{K:LF}{tg:L6}(it:Lv)(lo:LC)(n:Ll):Turn P w K tg (Hq lo n) [it] it (λi h=>VS h it (lo+(i:Ll)*1) ((n:LC)-(i:Ll)) 1) where
 mem:=by simp
 obj:=λi h st b a=>by
  have e:b=it:=by simpa using a
  subst e;show#[_,st,λv z=>by
   have D:Data.fields _=Data.cell v:=z;cases D]
 keep:=λi h h' st k=>k it (by simp) _ st
 item:=by
  intro X m r hK p i J s Y H E I hf st q;subst m r hK;obtain⟨d,f,A,g,j,l⟩:=hf it (by simp)
  have W:=Walks.range (prog:=X.prog) (w:=X.w) (I.ok.hd p) it lo 1 n;show W.item i s _ _ q st λv h' u B c C=>?_
  obtain⟨t,rfl⟩:=B;have x:Inv X J Y H {s with heap:=h',toks:=u}:=I.turned (λb o a e=>C b o (by simpa using a) e) d f g j l
  show#[_,rfl,uN (s:={s with heap:=h',toks:=u}) (n:="range_iterator") c rfl rfl #v[] #[.int (lo+i),H,x,#[t,?_],#[rfl,rfl],c,λb a=>(hf b a).1]]
  rw[Int.mul_one]
 done:=by
  intro X m r hK p i J s Y H E I hf st q;subst m r hK;obtain⟨d,f,A,g,j,l⟩:=hf it (by simp)
  show wpAny_pyNext_range_end (I.ok.hd p) st (by have:n<=i:=q;omega) λh' y=>#[rfl,I.turned (t':=s.toks) (λb o a e=>y b o a e) d f g j l]
 self:=λ_ _ _ _ _ st h=>wpAny_pyIter_rangeiter st h
section
variable{X:Cx}{tg:L6}
def qu {J:Lf (Lv×Nr)}{Y:St}{H:Hp}{s:Lm}{R:It->Hp->Prop}{E:Lj->Lm->Prop}{lo hi:LC}{t u v:WT}{c:Ll}(I:Inv X J Y H s)(g : -(2^62)<=lo)(h:lo<2^62)(i : -(2^62)<=hi)(j:hi<2^62)
  (q:R (Hq lo (hi-lo).toNat) H):wpAny (model X.prog X.w) X.A (pyIter (.ref ⇑s.heap.objs)) (Ho X J Y tg R) E {s with heap:=s.heap.push {cls:=.type "range",data:=.fields [.int lo t,.int hi u,.int 1 v].toArray},toks:=c}:=by
 show wpAny_pyIter_range (IsRange.new ..) (VB g h i j) ?_;have a:Inv X J Y H {s with heap:=s.heap.push {cls:=.type "range",data:=.fields [.int lo t,.int hi u,.int 1 v].toArray},toks:=c}:=I.kept λb o e=>Li _ e
 show#[(s.heap.push {cls:=.type "range",data:=.fields [.int lo t,.int hi u,.int 1 v].toArray}).objs.size,[(s.heap.push {cls:=.type "range",data:=.fields [.int lo t,.int hi u,.int 1 v].toArray}).objs.size],_,_,H,rfl,
  a.kept (t':=c) λb o e=>Li _ e,sQ _ lo (hi-lo).toNat,?_,λb k=>?_,q]
 ·have d:lo+((0:Ll):LC)*1=lo:=by simp
  have f:(((hi-lo).toNat:Ll):LC)-((0:Ll):LC)=NT lo hi 1:=by rw[SR];split<;>omega
  change VS _ _ (lo+((0:Ll):LC)*1) ((((hi-lo).toNat:Ll):LC)-((0:Ll):LC)) 1;rw[d,f];show LI _ rfl
 ·have e:b=(s.heap.push {cls:=.type "range",data:=.fields [.int lo t,.int hi u,.int 1 v].toArray}).objs.size:=by simpa using k
  subst e;show a.fpOk (Ls _) (a.hok.fresh (Ls _))
abbrev Hr (b:TA):TI:=λY H R=>b Y H λvs a=>∃j:LC,vs=[.int j]/\-(2^62)<=j/\j<2^62/\R (Hq 0 j.toNat) a
abbrev iRng2 (b:TA):TI:=λY H R=>b Y H λvs a=>∃i j:LC,vs=[.int i,.int j]/\(-(2^62)<=i/\i<2^62/\-(2^62)<=j/\j<2^62)/\R (Hq i (j-i).toNat) a
def wF {a:L6}{c:TA}{p pos:Oy}(f:Gl X "range")(g:X.mg "range" = gV)(d:PA X [a] c)(hs:starEach [a] X.env=[(false,eval a X.env)]:=by rfl):PI X tg (.Call (.Name "range" p) [a] [] pos) (Hr c):=by
 intro J s Y H R I h;show WM (iS I f g boot_range (NX (bF (d pos J s Y H _ I h) λus l #[vs,H1,I1,r1,b]=>?_) hs rfl))
 obtain⟨j,e,b,i,q⟩:=b;subst e;cases r1 with
 |cons r k=>
  cases k;obtain⟨t,rfl⟩:=r;show VF (qu I1 ∅ ∅ b i (by simpa using q))
def wH {a b:L6}{g:TA}{p pos:Oy}(l:Gl X "range")(m:X.mg "range" = gV)(k:PA X [a,b] g)(hs:starEach [a,b] X.env=[(false,eval a X.env),(false,eval b X.env)]:=by rfl)(c:starEach [b] X.env=[(false,eval b X.env)]:=by rfl) :
  PI X tg (.Call (.Name "range" p) [a,b] [] pos) (iRng2 g):=by
 intro J s Y H R I h;show WM (iS I l m boot_range (NX (bF (k pos J s Y H _ I h) λus w #[vs,H1,I1,r1,d]=>?_) (by rw[hs,c]) (by rw[c];rfl)))
 obtain⟨i,j,e,⟨d,n,o,u⟩,q⟩:=d;subst e;cases r1 with
 |cons r f=>
  cases f with
  |cons v f=>
   cases f;obtain⟨t,rfl⟩:=r;obtain⟨t',rfl⟩:=v;show call_range_2 (qu I1 d n o u q)
abbrev JU (k:TI)(g:TG)(j:TS):TS:=λD Y H=>k Y H λb e=>∃W:Ll->Ll->St->Hp->Prop,(∃m,W 0 m Y e)/\∀i m Y H,W i m Y H->
 (b.stop i H/\D.nx Y H)\/(b.go i H/\∃N:St->Hp->Prop,(∀c a,N c a->∃d,d<m/\W (i+1) d c a)/\∀x a,b.yld i H x a->g x Y a λh f=>j {D with nx:=N,ct:=N,bk:=D.nx} h f)
abbrev jU (a:Lf Lv)(h:MD):Lf (Lv×Nr):=a.filterMap λb=>(h.get? b).map λo=>(b,o)
def gk {a:Lf Lv}{h:MD}{b:Lv}{o:Nr}(c:b∈a)(e:h.get? b=ba o):(b,o)∈jU a h:=Q6.mpr #[b,c,by rw[e];rfl]
def wI {a:Lf Lv}{h:MD}{p:Lv×Nr}(f:p∈jU a h):p.1∈a/\h.get? p.1=ba p.2:=by
 obtain⟨b,d,e⟩:=Q6.mp f;cases q:h.get? b with
 |none=>rw[q]at e;cases e
 |some o=>
  rw[q]at e;have c:(b,o)=p:=MR e;subst c;show#[d,q]
def Inv.pinned {J:Lf (Lv×Nr)}{Y:St}{H:Hp}{s:Lm}{a:Lf Lv}(I:Inv X J Y H s)(hf:∀b∈a,iT X J H b)(j:∀b∈a,∃o,s.heap.get? b=ba o/\∀v,o.data≠.cell v):Inv X (J++jU a s.heap) Y H s:=
 I.pins_of λp k=>(Ma.mp k).elim (λz=>I.pin p (Mf _ z)) λz=>by
  obtain⟨f,e⟩:=wI z;obtain⟨g,h,i,_⟩:=hf p.1 f;obtain⟨o,c,d⟩:=j p.1 f;rw[e]at c;cases c
  show#[e,g,h,i,d]
def Inv.unpinned {J b:Lf (Lv×Nr)}{Y:St}{H:Hp}{s:Lm}(I:Inv X (J++b) Y H s):Inv X J Y H s:=I.pins_of λp a=>I.pin p (Mf _ (MZ _ a))
def E8 {iter:L6}{body:Lf O0}{wi:TI}{g:TG}{tb:TS}{pos:Oy}(A:SI (model X.prog X.w) X.A X.env X.xe)(S:X.calm=true)(hi:PI X tg iter wi)(hg:PG X tg g)(k:PSs X body tb)
  (hs:∀x,foldedSetIterable iter X.env x=pure x:=by intro _;rfl):PS X (.For tg iter body [] pos) (JU wi g tb):=by
 intro J s Y H D I h;show wpAny_For (bF (hi J s Y H _ I h) λv s1 h1=>bF h1 λitv s2 h2=>?_) hs
 obtain⟨it,y,tn,td,H2,e,I2,T,aN,R,W,⟨m0,w0⟩,G⟩:=h2;subst e;have l:∀{p:Hp},(∀b∈y,p b=gV)->∀b∈y,iT X J p b:=λhn b k=>#[hn b k,(R b k).2]
 show codeAny_forLoop_any (λn U=>∃i t p,Inv X J t p U/\tn i U.heap/\(∀b∈y,p b=gV)/\W i n t p) ?_ m0 #[0,Y,H2,I2,aN,λb k=>(R b k).1,w0]
 rintro n V ⟨i,w,L,Q,C,z,w3⟩;rcases G i n w L w3 with⟨E,qn⟩|⟨go,N,hN,step⟩
 ·show OL A (bF (T.done X rfl rfl rfl S i J V w L X.xe Q (l z) C E) λr s4 #[O,I4]=>?_)
  subst O;show R0 #[w,L,I4,qn]
 ·show OL A (bF (T.item X rfl rfl rfl S i J V w L X.xe Q (l z) C go) λr s4 #[u,O,h4]=>?_)
  subst O;show OL A (bF h4 λ_ Z #[x,H5,I5,r5,y5,G4,fr5]=>?_)
  have M:=I5.pinned (l fr5) (T.obj _ _ G4);show OL A (bF (hg _ Z w H5 x u _ M r5 (step x H5 y5)) λ_ s6 #[Y6,H6,I6,q6]=>?_)
  show OL A (bF (k _ s6 Y6 H6 _ I6 q6) λf P q=>?_)
  have again:∀{j:St}{a:Hp},Inv X (J++jU y Z.heap) j a P->N j a->∃m,m<n/\∃i t p,Inv X J t p P/\tn i P.heap/\(∀b∈y,p b=gV)/\W i m t p:=λ{j a} c B=>by
   obtain⟨m',hm,w7⟩:=hN j a B;show#[m',hm,i+1,j,a,c.unpinned,T.keep _ _ _ G4 λb k o e=>(c.pin (b,o) (Mf _ (Mf _ (gk k e)))).1,λb k=>?_,w7]
   obtain⟨o,e,d⟩:=T.obj _ _ G4 b k;show(c.pin (b,o) (Mf _ (Mf _ (gk k e)))).2.1
  cases f with
  |next=>obtain⟨j,a,c,B⟩:=q;show again c B
  |cont=>obtain⟨j,a,c,B⟩:=q;show again c B
  |brk=>obtain⟨j,a,c,q⟩:=q;show#[j,a,c.unpinned,q]
  |ret v=>obtain⟨x7,j,a,c,r7,q⟩:=q;show#[x7,j,a,c.unpinned,r7,q]
end
noncomputable abbrev R2:=V->V->Hp->VK->Prop
abbrev OpR (X:Cx)(f:Lj->Lj->V8 Lj)(r:R2):Prop:=
 ∀(J:Lf (Lv×Nr)) (s:Lm) (Y:St) (H:Hp) (x y:V) (v u:Lj) (Q:VK),Inv X J Y H s->RelV x v->RelV y u->r x y H Q->
  wpAny (model X.prog X.w) X.A (f v u) (EP X J Y Q) X.xe s
abbrev JV (X:Cx)(f:Lj->V8 Lj)(r:V->Hp->VK->Prop):Prop:=
 ∀(J:Lf (Lv×Nr)) (s:Lm) (Y:St) (H:Hp) (x:V) (v:Lj) (Q:VK),Inv X J Y H s->RelV x v->r x H Q->
  wpAny (model X.prog X.w) X.A (f v) (EP X J Y Q) X.xe s
abbrev CallR (X:Cx)(f:Lj)(r:Lf V->Hp->VK->Prop):Prop:=
 ∀(J:Lf (Lv×Nr)) (s:Lm) (Y:St) (H:Hp) (xs:Lf V) (us:Lf Lj) (Q:VK),Inv X J Y H s->Vals xs us->r xs H Q->
  wpAny (model X.prog X.w) X.A (call f us) (EP X J Y Q) X.xe s
abbrev JW (X:Cx)(r:V->Hp->(L7->Hp->Prop)->Prop):Prop:=
 ∀(J:Lf (Lv×Nr)) (s:Lm) (Y:St) (H:Hp) (x:V) (v:Lj) (Q:L7->Hp->Prop),Inv X J Y H s->RelV x v->r x H Q->
  wpAny (model X.prog X.w) X.A (truthy v) (TP X J Y Q) X.xe s
abbrev Jw (r:R2)(c d:TE):TE:=λY H Q=>c Y H λx a=>d Y a λy b=>r x y b Q
abbrev K5 (r:V->Hp->VK->Prop)(b:TE):TE:=λY H Q=>b Y H λx a=>r x a Q
abbrev rI (C:LC->LC->Prop)(g:LC->LC->V):R2:=λx y H Q=>∃i j,x=.int i/\y=.int j/\C i j/\Q (g i j) H
abbrev Ef (g:LC->LC->V):R2:=λx y H Q=>∃i j,x=.int i/\y=.int j/\Q (g i j) H
abbrev rU (g:LC->V):V->Hp->VK->Prop:=λx H Q=>∃i,x=.int i/\Q (g i) H
section
variable{X:Cx}{a b c:L6}{ta tb tc:TE}{pos:Oy}
def E9 (j:PE X a ta)(k:PE X b tb){J:Lf (Lv×Nr)}{s:Lm}{Y:St}{H:Hp}{R:V->V->Hp->Prop}(I:Inv X J Y H s)
  (h:ta Y H λx i=>tb Y i λy c=>R x y c) {Q:Lj->Lm->Prop}{f:Lj->Lj->V8 Lj}
  (hf:∀v u g x y c,Inv X J Y c g->RelV x v->RelV y u->R x y c->wpAny (model X.prog X.w) X.A (f v u) Q X.xe g) :
  wpAny (model X.prog X.w) X.A (eval a X.env) (λv d=>wpAny (model X.prog X.w) X.A (eval b X.env) (λu e=>wpAny (model X.prog X.w) X.A (f v u) Q X.xe e) X.xe d) X.xe s:=by
 show bF (j J s Y H _ I h) λv l #[x,i,I1,r1,q1]=>?_
 show bF (k J l Y i _ I1 q1) λu g #[y,c,I2,r2,q2]=>?_
 show hf v u g x y c I2 r1 r2 q2
def Hs {op:TD}{r:R2}(g:OpR X (binaryOp op) r)(e:PE X a ta)(f:PE X b tb):PE X (.BinOp a op b pos) (Jw r ta tb):=by
 intro J s Y H Q I h;show wpAny_BinOp (E9 e f I h λv u k x y c d i j q=>g J k Y c x y v u Q d i j q)
def Ht {op:UnaryOp}{r:V->Hp->VK->Prop}(c:JV X (unaryOp op) r)(b:PE X a ta):PE X (.UnaryOp op a pos) (K5 r ta):=by
 intro J s Y H Q I h;show UnaryOp_ (bF (b J s Y H _ I h) λv d #[x,H1,I1,r1,q1]=>c J d Y H1 x v Q I1 r1 q1)
def Jx {f:Lj->Lj->V8 Lj}{C:LC->LC->Prop}{g:LC->LC->LC}
  (a:∀(i j:LC) (t u:WT) (s:Lm) (Q:Lj->Lm->Prop) (E:Lj->Lm->Prop),C i j->Q (.int (g i j) s.toks) {s with toks:=s.toks+1}->wpAny (model X.prog X.w) X.A (f (.int i t) (.int j u)) Q E s) :
  OpR X f (rI C λi j=>.int (g i j)):=by
 intro J s Y H x y v u Q I c d h;obtain⟨i,j,rfl,rfl,b,q⟩:=h;obtain⟨t,rfl⟩:=c;obtain⟨t',rfl⟩:=d;show a i j t t' s _ _ b #[.int (g i j),H,I.tok _,#[_,rfl],q]
def Hu {f:Lj->Lj->V8 Lj}{g:LC->LC->LC}
  (a:∀(i j:LC) (t u:WT) (s:Lm) (Q:Lj->Lm->Prop) (E:Lj->Lm->Prop),Q (.int (g i j) s.toks) {s with toks:=s.toks+1}->wpAny (model X.prog X.w) X.A (f (.int i t) (.int j u)) Q E s) :
  OpR X f (Ef λi j=>.int (g i j)):=by
 intro J s Y H x y v u Q I b c h;obtain⟨i,j,rfl,rfl,q⟩:=h;obtain⟨t,rfl⟩:=b;obtain⟨t',rfl⟩:=c;show a i j t t' s _ _ #[.int (g i j),H,I.tok _,#[_,rfl],q]
def Cf {f:Lj->Lj->V8 Lj}{g:LC->LC->L7}
  (a:∀(i j:LC) (t u:WT) (s:Lm) (Q:Lj->Lm->Prop) (E:Lj->Lm->Prop),Q (.bool (g i j)) s->wpAny (model X.prog X.w) X.A (f (.int i t) (.int j u)) Q E s) :
  OpR X f (Ef λi j=>.bl (g i j)):=by
 intro J s Y H x y v u Q I b c h;obtain⟨i,j,rfl,rfl,q⟩:=h;obtain⟨t,rfl⟩:=b;obtain⟨t',rfl⟩:=c;show a i j t t' s _ _ #[.bl (g i j),H,I,rfl,q]
abbrev JX (i j:LC):Prop:=0<j/\j<1073741824
abbrev JY (i j:LC):Prop:=0<=j/\j<=1000000/\i.natAbs<2^64
abbrev CMul (i j:LC):Prop:=(-(2^64)<i/\i<2^64)\/(-(2^64)<j/\j<2^64)
def CMul.ok {i j:LC}(h:CMul i j):IntMulOk i j:=by
 rcases h with⟨a,b⟩|⟨a,b⟩
 ·show .of_left (Vh a b)
 ·show .of_right (Vh a b)
def Fa:OpR X (binaryOp .Add) (Ef λi j=>.int (i+j)):=Hu λ_ _ _ _ _ _ _ q=>add_int q
def Fb:OpR X (binaryOp .Sub) (Ef λi j=>.int (i-j)):=Hu λ_ _ _ _ _ _ _ q=>sub_int q
def Fc:OpR X (binaryOp .Mult) (rI CMul λi j=>.int (i*j)):=Jx λ_ _ _ _ _ _ _ a q=>mul_int q a.ok
def Cg:OpR X (binaryOp .FloorDiv) (rI JX λi j=>.int (i/j)):=Jx λi j _ _ _ _ _ a q=>by
 have b:(0:LC)<j:=a.1;have c:j<1073741824:=a.2;show floordiv_int ∅ (by rw[Int.fdiv_eq_ediv_of_nonneg i ∅];show q) (.inl (PyProof.noPylong_small ∅))
def Fd:OpR X (binaryOp .Mod) (rI (λ_ j=>0<j) λi j=>.int (i % j)):=Jx λi j _ _ _ _ _ a q=>by
 have b:(0:LC)<j:=a;show mod_int' ∅ (by rw[Int.fmod_eq_emod_of_nonneg i ∅];show q)
def Fe:OpR X (binaryOp .Pow) (rI JY λi j=>.int (i^j.toNat)):=Jx λ_ _ _ _ _ _ _ a q=>pow_int_small a.1 a.2.1 a.2.2 q
def K6 {f:Lj->V8 Lj}{g:LC->LC}
  (a:∀(i:LC) (t:WT) (s:Lm) (Q:Lj->Lm->Prop) (E:Lj->Lm->Prop),Q (.int (g i) s.toks) {s with toks:=s.toks+1}->wpAny (model X.prog X.w) X.A (f (.int i t)) Q E s) :
  JV X f (rU λi=>.int (g i)):=by
 intro J s Y H x v Q I b h;obtain⟨i,rfl,q⟩:=h;obtain⟨t,rfl⟩:=b;show a i t s _ _ #[.int (g i),H,I.tok _,#[_,rfl],q]
def Ff:JV X (unaryOp .USub) (rU λi=>.int (-i)):=K6 λ_ _ _ _ _ q=>neg_int q
def yC {J:Lf (Lv×Nr)}{Y:St}{H:Hp}{s:Lm}{Q:VK}{k a:L7}(I:Inv X J Y H s)(q:Q (.bl k) H)(e:k=a):EP X J Y Q (.bool a) s:=by
 subst e;show#[.bl k,H,I,rfl,q]
def Hv:OpR X (compareOp .Lt) (Ef λi j=>.bl (decide (i<j))):=Cf λ_ _ _ _ _ _ _ q=>lt_int q
def Hw:OpR X (compareOp .LtE) (Ef λi j=>.bl (decide (i<=j))):=Cf λ_ _ _ _ _ _ _ q=>le_int q
def Hx:OpR X (compareOp .Gt) (Ef λi j=>.bl (decide (j<i))):=Cf λ_ _ _ _ _ _ _ q=>gt_int q
def Hy:OpR X (compareOp .GtE) (Ef λi j=>.bl (decide (j<=i))):=Cf λ_ _ _ _ _ _ _ q=>ge_int q
def Fg:OpR X (compareOp .Is) (λx y H Q=>y=.non/\Q (.bl (decide (x=.non))) H):=by
 intro J s Y H x y v u Q I a b h;obtain⟨rfl,q⟩:=h;cases b;show is_none_gen (yC I q ?_);cases x<;>first
  |(cases a;rfl)
  |(obtain⟨t,rfl⟩:=a;rfl)
def Ch:OpR X (compareOp .IsNot) (λx y H Q=>y=.non/\Q (.bl (!decide (x=.non))) H):=by
 intro J s Y H x y v u Q I a b h;obtain⟨rfl,q⟩:=h;cases b;show isnot_none_gen (yC I q ?_);cases x<;>first
  |(cases a;rfl)
  |(obtain⟨t,rfl⟩:=a;rfl)
def Ci {op:VC}{r:R2}(i:OpR X (compareOp op) r)(e:PE X a ta)(f:PE X b tb)(g:behindInMarks op b=false):PE X (.Compare a [op] [b] pos) (Jw r ta tb):=by
 intro J s Y H Q I h;show wpAny_Compare1 (E9 e f I h λv u l x y c d j k q=>i J l Y c x y v u Q d j k q) g
abbrev Hz (t:TE):TT:=λY H Q=>t Y H λx a=>∃k,x=.bl k/\Q k a
def Cj {op:VC}{r:R2}(i:OpR X (compareOp op) r)(d:PE X a ta)(f:PE X b tb)(g:behindInMarks op b=false):PT X (.Compare a [op] [b] pos) (Hz (Jw r ta tb)):=by
 intro J s Y H Q I h;show wpAny_isTrue_Compare1 (bF (d J s Y H _ I h) λv j #[x,H1,I1,r1,q1]=>bF (f J j Y H1 _ I1 q1) λu l #[y,H2,I2,r2,q2]=>
  bF (i J l Y H2 x y v u _ I2 r1 r2 q2) λc m #[z,H3,I3,r3,k,e,q3]=>?_) g
 subst e;cases r3;show Oi #[H3,I3,q3]
abbrev JZ (K:LF)(x:V)(H:Hp)(k:L7):Prop:=
 match x with
 |.non=>k=false
 |.bl b=>k=b
 |.int i=>k=(i != 0)
 |.str y=>↥y<=sizeLine/\k=((↥y:LC) != 0)
 |.byt y=>⇑y<=sizeLine/\k=((⇑y:LC) != 0)
 |.ref p=>(∃xs,SqL K H p xs/\k = !xs.isEmpty)\/(∃xs,SqT K H p xs/\k = !xs.isEmpty)\/∃U,H p=ba (.dK U)/\k = !U.isEmpty
 |_=>Nb
def sR {κ:Type}{U:Lf (κ×V)}{vs:Lf (κ×Lj)}(r:KV U vs):(!vs.isEmpty) = !U.isEmpty:=by
 cases r<;>rfl
def lr {xs:Lf V}{a:Lf Lj}(r:Vals xs a):(!a.toArray.isEmpty) = !xs.isEmpty:=by
 cases r<;>simp
def jV:(sizeLine:Ll)<2^63:=by rw[MF];decide
def Fh:JW X (λx H Q=>∃k,JZ X.K x H k/\Q k H):=by
 intro J s Y H x v Q I d h;obtain⟨k,e,q⟩:=h;have hl:=jV;have hs:sizeLine=16777216:=MF;cases x with
 |non=>
  cases d;have a:k=false:=e;subst a;show truthy_none #[H,I,q]
 |bl b=>
  cases d;have a:k=b:=e;subst a;show Oi #[H,I,q]
 |int i=>
  obtain⟨t,rfl⟩:=d;have a:k=(i != 0):=e;subst a;show PySem.P.truthy_int #[H,I,q]
 |str y=>
  obtain⟨t,rfl⟩:=d;obtain⟨n,a⟩ : ↥y<=sizeLine/\k=((↥y:LC) != 0):=e;subst a;show PySem.P.truthy_str ∅ #[H,I.tok _,q]
 |byt y=>
  obtain⟨t,rfl⟩:=d;obtain⟨n,a⟩ : ⇑y<=sizeLine/\k=((⇑y:LC) != 0):=e;subst a;show PySem.W.truthy_bytes ∅ #[H,I.tok _,q]
 |ref p=>
  cases d;have a:(∃xs,SqL X.K H p xs/\k = !xs.isEmpty)\/(∃xs,SqT X.K H p xs/\k = !xs.isEmpty)\/∃U,H p=ba (.dK U)/\k = !U.isEmpty:=e;rcases a with⟨xs,f,a⟩|⟨xs,f,a⟩|⟨U,f,a⟩
  ·subst a;obtain⟨g,r,j,hz⟩:=I.list f;have c:=↥r;show wpAny_truthy_list j.isList (by simp only[LM];omega) #[H,I.tok _,by rw[lr r];show q]
  ·subst a;obtain⟨g,r,j,hz⟩:=I.tuple f;have c:=↥r;show truthy_tuple j (by simp only[LM];omega) #[H,I.tok _,by rw[lr r];show q]
  ·subst a;obtain⟨hz,l,vs,r,m⟩ : ↥U<=sizeLine/\(p==sysModules)=false/\∃vs,KV U vs/\s.heap.DictOf (oJ X.prog X.w) p vs:=I.hok p _ f;have c:↥U=↥vs:=Rz r;show wpAny_truthy_dict l m ∅ #[H,I.tok _,by rw[sR r];show q]
 |_=>show(show Nb from e).elim
def sS:OpR X (binaryOp .Add) (λx y H Q=>∃i j,x=.str i/\y=.str j/\↥i+↥j<=sizeLine/\Q (.str (i++j)) H):=by
 intro J s Y H x y v u Q I a b h;obtain⟨i,j,rfl,rfl,hz,q⟩:=h;obtain⟨t,rfl⟩:=a;obtain⟨t',rfl⟩:=b;show add_str (λt' c=>#[.str (i++j),H,I.tok _,#[_,rfl],q]) hz
def ni {x:V}{us:Lf Lj}(r:Vals [x] us):∃u,us=[u]/\RelV x u:=by
 cases r with
 |cons a b=>cases b;show#[_,rfl,a]
def HA {x y:V}{us:Lf Lj}(r:Vals [x,y] us):∃u a,us=[u,a]/\RelV x u/\RelV y a:=by
 cases r with
 |cons b c=>
  cases c with
  |cons d e=>cases e;show#[_,_,rfl,b,d]
def wJ (b:X.calm=true):CallR X (.builtin "min") (λxs H Q=>∃i j,xs=[.int i,.int j]/\Q (.int (if j<i then j else i)) H):=by
 intro J s Y H xs us Q I r h;obtain⟨i,j,rfl,q⟩:=h;obtain⟨u,d,rfl,⟨t,rfl⟩,⟨t',rfl⟩⟩:=HA r;show min_two_ints (I.ok.hd b) λh' c k=>#[_,H,I.kept k,?_,q]
 by_cases a:j<i
 ·rw[LU a,LU a];show#[_,rfl]
 ·rw[L1 a,L1 a];show#[_,rfl]
def nj:CallR X (.type "int") (λxs H Q=>(∃i,xs=[.int i]/\Q (.int i) H)\/∃k,xs=[.bl k]/\Q (.int (if k then 1 else 0)) H):=by
 intro J s Y H xs us Q I r h;rcases h with⟨i,rfl,q⟩|⟨k,rfl,q⟩
 ·obtain⟨u,rfl,t,rfl⟩:=ni r;show call_int_int #[.int i,H,I,#[_,rfl],q]
 ·obtain⟨u,rfl,a⟩:=ni r;cases a;show call_int_bool #[.int (if k then 1 else 0),H,I.tok _,#[_,rfl],q]
abbrev J0 (K:LF)(x:V)(H:Hp)(n:Ll):Prop:=
 match x with
 |.str y=>↥y<=sizeLine/\n=↥y
 |.byt y=>⇑y<=sizeLine/\n=⇑y
 |.ref p=>(∃xs,SqL K H p xs/\n=↥xs)\/∃xs,SqT K H p xs/\n=↥xs
 |_=>Nb
def lw:CallR X (.builtin "len") (λxs H Q=>∃x n,xs=[x]/\J0 X.K x H n/\Q (.int n) H):=by
 intro J s Y H xs us Q I r h;obtain⟨x,n,rfl,e,q⟩:=h;obtain⟨u,rfl,i⟩:=ni r;have hl:=jV;have hs:sizeLine=16777216:=MF;cases x with
 |str y=>
  obtain⟨t,rfl⟩:=i;obtain⟨j,b⟩ : ↥y<=sizeLine/\n=↥y:=e;subst b;show len_str ∅ #[.int _,H,I.tok _,#[_,rfl],q]
 |byt y=>
  obtain⟨t,rfl⟩:=i;obtain⟨j,b⟩ : ⇑y<=sizeLine/\n=⇑y:=e;subst b;show PySem.W.len_bytes ∅ #[.int _,H,I.tok _,#[_,rfl],q]
 |ref p=>
  cases i;have b:(∃xs,SqL X.K H p xs/\n=↥xs)\/∃xs,SqT X.K H p xs/\n=↥xs:=e;rcases b with⟨xs,c,b⟩|⟨xs,c,b⟩
  ·subst b;obtain⟨d,g,f,hz⟩:=I.list c;have a:=↥g;show Calls.call_len_list f.isList (by simp only[LM];omega) #[.int ↥xs,H,I.tok _,#[_,by simp only[LM];rw[a]],q]
  ·subst b;obtain⟨d,g,f,hz⟩:=I.tuple c;have a:=↥g;show len_tuple f (by simp only[LM];omega) #[.int ↥xs,H,I.tok _,#[_,by simp only[LM];rw[a]],q]
 |_=>show(show Nb from e).elim
end
structure Room (k:Ll)(A:Ms):Prop where
 hd:A.handled=gV
 dp:A.depth+3*k+5<recursionLimit
 un:A.units+16*k+200<cLine
def Room.deeper {k:Ll}{A:Ms}(r:Room (k+1) A)(env:Tz):Room k (A.deeper env):=
 #[r.hd,by have:=r.dp;show A.depth+1+3*k+5<_;omega,by have:=r.un;show A.units+3+16*k+200<_;omega]
def Room.depth {k:Ll}{A:Ms}(r:Room k A):A.depth<recursionLimit:=by have:=r.dp;omega
abbrev HB:TA:=λ_ H Q=>Q [] H
abbrev HC (c:TE)(d:TA):TA:=λY H Q=>c Y H λx a=>d Y a λxs b=>Q (x::xs) b
section
variable{X:Cx}{e:L6}{es:Lf L6}{te:TE}{t:TA}{pos:Oy}
def yD:PA X [] HB:=λ_ _ _ _ H Q I h=>Calls.spliced_nil #[[],H,I,.nil,h]
def oM (a:PE X e te)(b:PA X es t)(hs:starEach (e::es) X.env=(false,eval e X.env)::starEach es X.env:=by rfl):PA X (e::es) (HC te t):=by
 intro pos J s Y H Q I h;rw[hs];change wpAny _ _ (spliced ((false,eval e X.env)::backTo pos (starEach es X.env))) _ _ s;show Calls.spliced_cons (bF (a J s Y H _ I h) λu c #[x,H1,I1,r1,q1]=>?_)
 show bF (b pos J c Y H1 _ I1 q1) λus d #[xs,H2,I2,r2,q2]=>#[x::xs,H2,I2,.cons r1 r2,q2]
abbrev J1 (t:TA):TE:=λY H Q=>t Y H λxs a=>↥xs<=sizeLine/\∀p,a p=gV->Q (.ref p) (bE a p (.tup xs))
abbrev J2 (t:TA):TE:=λY H Q=>t Y H λxs a=>↥xs<=sizeLine/\∀p,a p=gV->Q (.ref p) (bE a p (.lst xs))
def Fi {x1}(h:PA X es t):PE X (.Tuple es x1 pos) (J1 t):=by
 intro J s Y H Q I c;show wpAny_Tuple_spliced (bF (h pos J s Y H _ I c) λus a #[xs,H1,I1,r,z,q]=>#[by rw[<- ↥r];show z,?_])
 have hf:H1 ⇑a.heap.objs=gV:=I1.hok.fresh (Ls _);show#[.ref ⇑a.heap.objs,bE H1 ⇑a.heap.objs (.tup xs),I1.laid (t':=a.toks) (λb u e=>Li _ e) (Ls _) ?_,rfl,q _ hf]
 show#[z,us,r,#[_,LI _ rfl,rfl,_,rfl]]
def Fj (h:PA X es t):PE X (.List es pos) (J2 t):=by
 intro J s Y H Q I c;show wpAny_List_spliced (bF (h pos J s Y H _ I c) λus a #[xs,H1,I1,r,z,q]=>#[by rw[<- ↥r];show z,?_])
 have hf:H1 ⇑a.heap.objs=gV:=I1.hok.fresh (Ls _);show#[.ref ⇑a.heap.objs,bE H1 ⇑a.heap.objs (.lst xs),I1.laid (t':=a.toks) (λb u e=>Li _ e) (Ls _) ?_,rfl,q _ hf]
 show#[z,us,0,r,LI _ rfl]
end
noncomputable abbrev Sp:=Lf V->Hp->VK->XK->Prop
noncomputable abbrev yE:=Lf Tz->Hp->Lm->XK->Lj->Lm->Prop
structure Env0 (P:Mn)(w:MB)(K:LF)(mg:LW->Ln Lj)(base:MD)(A:Ms)(outer:Lf Tz)(s:Lm)(H:Hp):Prop where
 frames:A.frames=ba outer
 mod:Mod K mg base
 bs:∀b o,base.get? b=ba o->s.heap.get? b=ba o/\H b=gV
 bsz:⇑base.objs<=⇑s.heap.objs
 funs:s.heap.FunFrames base outer
 frf:∀b∈sO outer,H b=gV
 hok:HOk P w H s.heap
 bare:Ru s.gens
abbrev CE (outer:Lf Tz)(P:Mn)(w:MB)(H:Hp)(s:Lm)(Q:VK)(u:Lj)(a:Lm):Prop:=
 ∃v b,a.os=s.os/\Ru a.gens/\Un (sO outer) [] H b s.heap a.heap/\HOk P w b a.heap/\RelV v u/\Q v b
abbrev CR (CX:yE)(outer:Lf Tz)(P:Mn)(w:MB)(H:Hp)(s:Lm)(Q:VK)(E:XK)(r:Ud)(a:Lm):Prop:=
 match r with
 |.ok (.ret u)=>CE outer P w H s Q u a
 |.ok _=>Nb
 |.error e=>CX outer H s E e a
structure FnOk (P:Mn)(w:MB)(K:LF)(mg:LW->Ln Lj)(base:MD)(CX:yE)(k:Ll)(f:Lv)(fd:OA)(ps:Lf LW)(sp:Sp):Prop where
 len:∀vs H Q E,sp vs H Q E->↥vs=↥ps
 run:∀(A:Ms) (outer:Lf Tz) (s:Lm) (H:Hp) (args:Args) (us:Lf Lj) (vs:Lf V) (Q:VK) (E:XK),Room k A->Env0 P w K mg base A outer s H->TF s fd args (ps.zip us)->Vals vs us->sp vs H Q E->
  codeAny (model P w) A (.call (.ref f) args) (CR CX outer P w H s Q E) s
section
variable{X:Cx}{J:Lf (Lv×Nr)}{Y:St}{H:Hp}{s s':Lm}
def Inv.env0 (I:Inv X J Y H s):Env0 X.prog X.w X.K X.mg X.base X.A X.stack s H:=
 #[I.ok.frames,I.ok.mod,I.bs,Lw I.ok.bsz I.sz,I.stack,I.stkFree,I.hok,I.bare]
def Inv.after {Q:VK}{u:Lj}(I:Inv X J Y H s)(h:CE X.stack X.prog X.w H s Q u s'):EP X J Y Q u s':=by
 obtain⟨v,f,os,a,un,c,r,q⟩:=h;obtain⟨i,g,d,t,e⟩:=s';obtain rfl:e=s.os:=os;show#[v,f,I.call (h':=i) (g':=g) (d':=d) (t':=t) (ch:=[]) un c a (λb z=>absurd z (by simp)),r,q]
end
abbrev yF (sp:Sp)(a:Lf V)(E:XK)(t:TA):TE:=λY H Q=>t Y H λvs b=>sp (vs++a) b Q E
abbrev Binds (K:LF)(b:OA)(ps:Lf LW)(a:Lf Lj):Prop:=
 ∀(s:Lm) (us:Lf Lj),K.In s.heap->(us++a).length=↥ps->TF s b #[us,[]] (ps.zip (us++a))
def Binds.all {K:LF}{a:OA}{ps:Lf LW}(h:∀us:Lf Lj,↥us=↥ps->bindArgs a #[us,[]]=pure (ps.zip us)):Binds K a ps []:=λs us _ hl=>by
 rw[NA]at hl ⊢;show .of_eq (h us hl)
abbrev oN (CX:yE)(X:Cx)(E:XK):Prop:=∀(J:Lf (Lv×Nr)) (Y:St) (H:Hp) (s:Lm) (e:Lj) (s':Lm),Inv X J Y H s->CX X.stack H s E e s'->X.xe e s'
section
variable{X:Cx}{CX:yE}{k:Ll}{f C:Lv}{fd:OA}{ps:Lf LW}{sp:Sp}{dvs:Lf V}{ds:Lf Lj}{E:XK}{x m:LW}{p pos apos:Oy}{e o:L6}{es:Lf L6}{ta:TE}{t:TA}
def yG {J:Lf (Lv×Nr)}{Y:St}{H:Hp}{s:Lm}{Q:VK}{us:Lf Lj}{vs:Lf V}(F:FnOk X.prog X.w X.K X.mg X.base CX k f fd ps sp)(g:Room k X.A)(d:Binds X.K fd ps ds)(hd:Vals dvs ds)(i:oN CX X E)
  (I:Inv X J Y H s) (r:Vals vs us) (h:sp (vs++dvs) H Q E):wpAny (model X.prog X.w) X.A (call (.ref f) us) (EP X J Y Q) X.xe s:=by
 have b:Vals (vs++dvs) (us++ds):=r.append hd;have hl:(us++ds).length=↥ps:=by rw[<- ↥b];show F.len _ _ _ _ h
 show wpAny_call (Qf (F.run X.A X.stack s H #[us,[]] (us++ds) (vs++dvs) Q E g I.env0 (d s us I.kIn hl) b h) λr j a=>?_)
 cases r with
 |error e=>show i J Y H s e j I a
 |ok c=>
  cases c with
  |ret u=>show I.after a
  |next=>show Nb.elim a
  |brk=>show Nb.elim a
  |cont=>show Nb.elim a
def Ck (F:FnOk X.prog X.w X.K X.mg X.base CX k f fd ps sp)(l:Room k X.A)(i:Gl X x)(j:X.mg x=ba (.ref f))(hk:Nm X.K (.ref f)=true)(d:Binds X.K fd ps ds)(hd:Vals dvs ds)(m:oN CX X E)
  (c:PA X (e::es) t) (a:(x==("__debug__": LW))=false:=by decide) (g:starEach (e::es) X.env=(false,eval e X.env)::starEach es X.env:=by rfl) (b:(backTo pos (starEach es X.env)).any (·.1)=false:=by rfl) :
  PE X (.Call (.Name x p) (e::es) [] pos) (yF sp dvs E t):=by
 intro J s Y H Q I h;show P5 (uL I i j ?_ a);show PySem.W.callWith_K (h₀:=X.base) I.ok.mod.kin hk (bF (c pos J s Y H _ I h) λus n #[vs,H1,I1,r,q]=>#[I1.kIn,?_]) g b
 show yG F l d hd m I1 r q
def yH (F:FnOk X.prog X.w X.K X.mg X.base CX k f fd ps sp)(e:Room k X.A)(c:Gl X x)(d:X.mg x=ba (.ref f))(hk:Nm X.K (.ref f)=true)(b:Binds X.K fd ps ds)(hd:Vals dvs ds)(g:oN CX X E)
  (a:(x==("__debug__": LW))=false:=by decide):PE X (.Call (.Name x p) [] [] pos) (yF sp dvs E HB):=by
 intro J s Y H Q I h;show P5 (uL I c d ?_ a);show PySem.W.callWith_K0 I.kIn hk (yG (us:=[]) F e b hd g I .nil h)
end
structure FnScope (N P:Lf LW)(sc:Pu):Prop where
 kind:sc.kind=.function
 co:sc.isCoroutine=false
 gen:sc.isGenerator=false
 nd:N.Nodup
 pre:N.take ↥P=P
 par:∀x∈P,sc.names.lookup x=ba .local\/sc.names.lookup x=ba .cell
 nofree:∀y∈sc.names,y.2≠.free
def nk {a:LW->Ln NU}{x:LW}:∀{binds:Lf (LW×Lj)}{m:LW->Ln Lj},(∀v,(x,v)∉binds)->bindL a binds m x=m x
 |[],_,_=>rfl
 |(n,v)::r,m,h=>by
  unfold bindL;rw[nk λw b=>h w (MO _ b)]
  split
  ·have:x≠n:=by rintro rfl;show h v M3
   simp[this]
  ·rfl
def nq {a:LW->Ln NU}{x:LW}:∀{binds:Lf (LW×Lj)}{m:LW->Ln Lj},(∀v,(x,v)∉binds)->bindC a binds m x=m x
 |[],_,_=>rfl
 |(n,v)::r,m,h=>by
  unfold bindC;rw[nq λw b=>h w (MO _ b)]
  split
  ·rfl
  ·have:x≠n:=by rintro rfl;show h v M3
   simp[this]
def nr {a:LW->Ln NU}{x:LW}{v:Lj}:∀{P:Lf LW}{vs:Lf Lj}{i:Ll}{m:LW->Ln Lj},P.Nodup->P[i]?=ba x->vs[i]?=ba v->a x=ba .local->
  bindL a (P.zip vs) m x=ba v
 |[],_,_,_,_,h,_,_=>by simp at h
 |_::_,[],_,_,_,_,h,_=>by simp at h
 |p::P,w::vs,0,m,nd,b,c,hk=>by
  simp at b c;subst b;subst c
  change bindL a ((p,w)::P.zip vs) m p=_;unfold bindL;rw[nk λv d=>(MV.mp nd).1 (R1 d).1,LU hk]
  simp
 |p::P,w::vs,i+1,m,nd,b,c,hk=>by
  change bindL a ((p,w)::P.zip vs) m x=_;unfold bindL;show nr (i:=i) (MV.mp nd).2 (by simpa using b) (by simpa using c) hk
def nu {a:LW->Ln NU}{x:LW}{v:Lj}:∀{P:Lf LW}{vs:Lf Lj}{i:Ll}{m:LW->Ln Lj},P.Nodup->P[i]?=ba x->vs[i]?=ba v->a x≠ba .local->
  bindC a (P.zip vs) m x=ba v
 |[],_,_,_,_,h,_,_=>by simp at h
 |_::_,[],_,_,_,_,h,_=>by simp at h
 |p::P,w::vs,0,m,nd,b,c,hk=>by
  simp at b c;subst b;subst c
  change bindC a ((p,w)::P.zip vs) m p=_;unfold bindC;rw[nq λv d=>(MV.mp nd).1 (R1 d).1,L1 hk]
  simp
 |p::P,w::vs,i+1,m,nd,b,c,hk=>by
  change bindC a ((p,w)::P.zip vs) m x=_;unfold bindC;show nu (i:=i) (MV.mp nd).2 (by simpa using b) (by simpa using c) hk
abbrev gL (N:Lf LW)(vs:Lf V):St:=vs.map ba++Mu (↥N-↥vs) gV
abbrev sT (CX:yE)(P:Mn)(w:MB)(K:LF)(mg:LW->Ln Lj)(base:MD)(N:Lf LW)(a:LW)(scope:Pu)(f:Lv)(c:Lj)(A:Ms)(outer:Lf Tz)(s:Lm)(H:Hp)(E:XK):Cx where
 prog:=P
 w:=w
 K:=K
 mg:=mg
 base:=base
 A:=A.deeper (envOfC a scope ⇑s.heap.objs f c)
 N:=N
 s₀:=s
 H₀:=H
 env:=envOfC a scope ⇑s.heap.objs f c
 outer:=outer
 stack:=envOfC a scope ⇑s.heap.objs f c::outer
 ex:=[]
 calm:=true
 fn:=λ_=>true
 pn:=[]
 xe:=λe g=>wpAny (model P w) (A.deeper (envOfC a scope ⇑s.heap.objs f c)) (leaving (envOfC a scope ⇑s.heap.objs f c) e) (λ_ b=>CX outer H s E e b) (λd b=>CX outer H s E d b) g
def qv {sc:Pu}{n:Ll}{x:LW}(h:sc.names.lookup x=ba .cell):∃c,(cellsFrom n sc.names []).lookup x=ba c:=by
 have q:=RP sc.names n [] (.inl h);show MM.mp q
def wK {CX:yE}{P:Mn}{w:MB}{K:LF}{mg:LW->Ln Lj}{base:MD}{N ps:Lf LW}{d:LW}{scope:Pu}{f:Lv}{B:Lj}{A:Ms}{outer:Lf Tz}{s G:Lm}{H:Hp}{E:XK}{us:Lf Lj}{vs:Lf V}
  (S:FnScope N ps scope) (hd:A.handled=gV) (j:Env0 P w K mg base A outer s H) (hl:↥vs=↥ps) (r:Vals vs us)
  (x:InCallC s ⇑s.heap.objs (bindL (envOfC d scope ⇑s.heap.objs f B).kindOf (ps.zip us) λ_=>gV) (cellsFrom (⇑s.heap.objs+1) scope.names []) (bindC (envOfC d scope ⇑s.heap.objs f B).kindOf (ps.zip us) λ_=>gV) G) :
  Inv (sT CX P w K mg base N d scope f B A outer s H E) [] (gL N vs) H G:=by
 have J:↥ps<=↥N:=by have:=congrArg Ux S.pre;rw[Mv]at this;omega
 obtain⟨C,O,rfl,hk⟩:=x.done;have m:∀b:Lv,b∉(sT CX P w K mg base N d scope f B A outer s H E).ex:=λb z=>absurd (show b∈([]:Lf Lv)from z) (by simp)
 show#[#[j.mod,S.kind,rfl,rfl,Ls _,λy z c C g=>?_,λy l=>?_,λy c _ h=>?_,λ_=>hd,Around.frames_deeper j.frames,.inr #[rfl,rfl],λb z=>absurd z (m b),j.bs,j.bsz,λb _ _=>m b,λb z=>absurd z (m b),j.funs,j.frf],
  rfl,j.bare,Un.kept hk,#[_,x.toInCall.ns,λi y v C g M=>?_],λy c h=>#[_,x.cell y c h],j.hok.fresh (Ls _),λy c h=>?_,λp o=>absurd (show p∈([]:Lf (Lv×Nr))from o) (by simp),j.hok.kept hk,?_]
 ·show name_of_addr x.apart (O2 C) (O2 g)
 ·have l:scope.names.lookup y=ba .cell\/scope.names.lookup y=ba .free:=l;rcases l with l|l
  ·show qv l
  ·show absurd rfl (S.nofree _ (O2 l))
 ·show Ni (x.above y c (O2 h))
 ·have hi:i<↥vs:=by
   unfold gL at g
   by_cases hi:i<↥vs
   ·show hi
   ·rw[Nt (by simpa using hi)]at g
    rw[List.getElem?_replicate]at g;split at g<;>cases g
  have I:vs[i]?=ba v:=by
   unfold gL at g;rw[Mw (by simpa using hi),Lu]at g
   cases e:vs[i]? with
   |none=>rw[e]at g;cases g
   |some a=>rw[e]at g;cases g;rfl
  obtain⟨u,D,L⟩:=r.get I;have o:ps[i]?=ba y:=by
   rw[<- S.pre,PX ∅];show C
  have t:ps.Nodup:=by rw[<- S.pre];show S.nd.sublist (TH _ _)
  show#[u,L,?_];rcases S.par y (LD o)with k|k
  ·show .inl #[k,nr t o D k]
  ·obtain⟨c,e⟩:=qv (n:=⇑s.heap.objs+1) k;show .inr #[.inl k,c,e,?_];have q:=x.cell y c e;rw[nu t o D (by change scope.names.lookup y≠_;rw[k];decide)]at q
   show q
 ·show j.hok.fresh (Ni (x.above y c (O2 h)))
 ·unfold gL;change _=↥N;rw[Lx,Lh,Qp];omega
def HD {CX:yE}{P:Mn}{w:MB}{K:LF}{mg:LW->Ln Lj}{base:MD}{k:Ll}{f:Lv}{name a:LW}{c:Arguments}{body:Lf O0}{scope:Pu}{L kV doc pm cdv ct oc:Lj}{an od:Ln Lv}
  {osl:LY (Ln Lj)}{N ps:Lf LW}{sp:Sp} (X:K.lookup f=ba #[oc,od,.func (Oc name a c body scope L kV doc pm an cdv ct),osl]) (z:O6 K cdv a=true) (S:FnScope N ps scope)
  (len:∀vs H Q E,sp vs H Q E->↥vs=↥ps)
  (h:∀(A:Ms) (outer:Lf Tz) (s:Lm) (H:Hp) (vs:Lf V) (Q:VK) (E:XK),Room k (A.deeper (envOfC a scope ⇑s.heap.objs f cdv))->sp vs H Q E->
   ∃t,PSs (sT CX P w K mg base N a scope f cdv A outer s H E) body t/\t {nx:=λ_ d=>Q .non d,rt:=Q} (gL N vs) H) :
  FnOk P w K mg base CX (k+1) f (Oc name a c body scope L kV doc pm an cdv ct) ps sp:=by
 show#[len,λA outer s H args us vs Q E B j R r m=>?_]
 have hl:=len _ _ _ _ m;have J:K.In s.heap:=j.mod.kin.keeps λb o e=>(j.bs b o e).1
 have C:s.heap.NoLimit:=j.mod.nolimit.keeps λb o e=>(j.bs b o e).1
 have i:∀y∈ps.zip us,scope.names.lookup y.1=ba .local\/(scope.names.lookup y.1=ba .cell/\((cellsFrom (⇑s.heap.objs+1) scope.names []).lookup y.1).isSome=true):=λ#[n,v] hy=>by
  rcases S.par n (R1 hy).1 with q|q
  ·show .inl q
  ·show .inr #[q,RP _ _ _ (.inl q)]
 show codeAny_call_function B.depth (J _ _ X) rfl S.co S.gen rfl (PySem.W.codeRec_of J z) (R _ _ _ _ ?_);show wpAny_newFunctionEnv_cells S.kind i λenv T M x=>?_
 subst T;show#[C.keeps x.toInCall.keep,codeAny_func ?_];obtain⟨t,W,U⟩:=h A outer s H vs Q E (B.deeper _) m;have I:Inv (sT CX P w K mg base N a scope f cdv A outer s H E) [] (gL N vs) H M:=wK S B.hd j hl r x;show NR (W [] M (gL N vs) H _ I U) (λO G hs=>?_) λe G hs=>hs
 have l:∀{p:St}{d:Hp}{v:V}{u:Lj},Inv (sT CX P w K mg base N a scope f cdv A outer s H E) [] p d G->RelV v u->Q v d->CE outer P w H s Q u G:=
  λ{p d v u} g D q=>#[v,d,g.os,g.bare,g.base,g.hok,D,q]
 cases O with
 |ret u=>
  obtain⟨v,p,d,g,D,q⟩:=hs;show l g D q
 |next=>
  obtain⟨p,d,g,q⟩:=hs;show l (v:=V.non) (u:=MG) g rfl q
 |brk=>
  obtain⟨_,_,_,q⟩:=hs;show Nb.elim q
 |cont=>
  obtain⟨_,_,_,q⟩:=hs;show Nb.elim q
section
variable{X:Cx}{x:LW}{p pos:Oy}{e:L6}{es:Lf L6}{t:TA}{id T:Ng}{r:Lf V->Hp->VK->Prop}
abbrev KP (r:Lf V->Hp->VK->Prop)(t:TA):TE:=λY H Q=>t Y H λvs a=>r vs a Q
def qw (d:CallR X (.builtin id) r)(g:Gl X x)(i:X.mg x=gV)(k:bootBuiltins x=ba (.builtin id))(c:PA X (e::es) t)(j:x≠"__name__":=by decide)(a:(x==("__debug__": LW))=false:=by decide)
  (f:starEach (e::es) X.env=(false,eval e X.env)::starEach es X.env:=by rfl) (b:(backTo pos (starEach es X.env)).any (·.1)=false:=by rfl):PE X (.Call (.Name x p) (e::es) [] pos) (KP r t):=by
 intro J s Y H Q I h;show P5 (iS I g i k ?_ j a);show Ue (bF (c pos J s Y H _ I h) λus l #[vs,H1,I1,r1,q1]=>d J l Y H1 vs us Q I1 r1 q1) f b
def wL (d:CallR X (.type T) r)(g:Gl X x)(i:X.mg x=gV)(k:bootBuiltins x=ba (.type T))(c:PA X (e::es) t)(j:x≠"__name__":=by decide)(a:(x==("__debug__": LW))=false:=by decide)
  (f:starEach (e::es) X.env=(false,eval e X.env)::starEach es X.env:=by rfl) (b:(backTo pos (starEach es X.env)).any (·.1)=false:=by rfl):PE X (.Call (.Name x p) (e::es) [] pos) (KP r t):=by
 intro J s Y H Q I h;show P5 (iS I g i k ?_ j a);show NX (bF (c pos J s Y H _ I h) λus l #[vs,H1,I1,r1,q1]=>d J l Y H1 vs us Q I1 r1 q1) f b
end
end L2
namespace HT
open PySem PyProof.Rows
section
open PySem.SeqAt
open PySem.AutoSeq1 (wpAny_loadPart')
open PySem.MeetsSeq PySem.MeetsSeq2 PySem.MeetsSeq3
end
section
variable{prog:Mn}{w:MB}{A:Ms}{E:Lj->Lm->Prop}{s:Lm}
def Cm {t b:Lv}{vs ws:Lf Lj}{Q:Lj->Lm->Prop}(v:Tx s.heap t vs.toArray)(u:Tx s.heap b ws.toArray)(o:vs≠[])
  (q:ws=[]->Q (.ref t) s) (r:ws≠[]->Q (.ref ⇑s.heap.objs) {s with heap:=s.heap.push {cls:=.type "tuple",data:=.seq (vs++ws).toArray}})
  (hsz:↥vs+↥ws<=sizeLine):wpAny (model prog w) A (binaryOp .Add (.ref t) (.ref b)) Q E s:=by
 obtain⟨⟨cls,l,data,sl⟩,h,m,n,hd⟩:=id v;obtain⟨⟨k,c,j,g⟩,a,d,p,f⟩:=id u;simp only at m hd d f;subst m hd d f;have e:vs.toArray++ws.toArray=(vs++ws).toArray:=by simp
 by_cases i:ws=[]
 ·show TJ #[_,h,rfl] #[_,a,rfl] RG SS Qg Qc (PY _ _)
   (tuple_addW1 t b vs.toArray ws.toArray n p l c sl g (by simpa using o) (by simp[i])) #[h,a,q i]
 ·show TJ #[_,h,rfl] #[_,a,rfl] RG SS Qg Qc (PY _ _)
   (tuple_addW2 t b vs.toArray ws.toArray n p l c sl g (by simpa using o) (by simpa using i) (by rw[LM,LM];show hsz)) #[h,a,?_]
  rw[e];show r i
abbrev cz (n d:Ll):Ln LC->Ll
 |none=>d
 |some v=>if v<0 then(v+(n:LC)).toNat else min v.toNat n
def lx (n d:Ll):cz n d gV=d:=rfl
def uO (n d k:Ll):cz n d (ba (k:LC))=min k n:=by
 show(if (k:LC)<0 then((k:LC)+(n:LC)).toNat else min (k:LC).toNat n)=min k n
 rw[L1 ∅,LP]
def Fk (n d:Ll)(hd:d<=n)(o:Ln LC):cz n d o<=n:=by
 cases o with
 |none=>show hd
 |some v=>
  show(if v<0 then(v+(n:LC)).toNat else min v.toNat n)<=n
  by_cases a:v<0
  ·rw[LU a];omega
  ·rw[L1 a];show Nat.min_le_right _ _
def uP (v:LC)(n d:Ll):(if v<0 then max (v+(n:LC)) 0 else min v (n:LC))=((cz n d (ba v):Ll):LC):=by
 show(if v<0 then max (v+(n:LC)) 0 else min v (n:LC))=(((if v<0 then(v+(n:LC)).toNat else min v.toNat n):Ll):LC)
 by_cases a:v<0
 ·simp only[LU a];omega
 ·simp only[L1 a];omega
def sU (lo hi:Ln LC)(n:Ll):PN lo hi 1 (n:LC)=(((cz n 0 lo:Ll):LC),((cz n n hi:Ll):LC)):=by
 have a:¬ ((1:LC)<0):=∅
 unfold PN;simp only[a,M8];show VT ?_ ?_
 ·cases lo with
  |none=>rfl
  |some v=>show uP v n 0
 ·cases hi with
  |none=>rfl
  |some v=>show uP v n n
def sV (i j:Ll):OH (i:LC) (j:LC) 1=j-i:=by
 unfold OH;have a:(1:LC) > 0:=∅
 simp only[a,NC,Int.ediv_one];split<;>omega
def ly {v:Lj}{o:Ln LC}{Q:Ln LC->Lm->Prop}(p:Q7 v o)(h:Q o s):wpAny (model prog w) A (UF v) Q E s:=by
 cases p with
 |none=>show UV h
 |int i t=>show slicePart_int h
def fM {sl:Lv}{c d:Lj}{lo hi:Ln LC}{n:Ll}{Q:LC×LC×Ll->Lm->Prop}(hs:s.heap.IsSliceOf sl c d .none)(f:Q7 c lo)(g:Q7 d hi)
  (h:Q (((cz n 0 lo:Ll):LC),1,cz n n hi-cz n 0 lo) s):wpAny (model prog w) A (Q8 (.ref sl) (pure (n:LC))) Q E s:=by
 obtain⟨os,b,e,a⟩:=id hs;unfold Q8 Vd;show Lg (Lg (Nu b a (x:=c) rfl (Lg (Nu b a (x:=d) rfl (Lg (Nu b a (x:=.none) rfl (Lo ?_)))))));show Lg (UV ?_);change wpAny _ _ (if ((1:LC)==0)=true then _ else _) _ _ s
 rw[L1 #v[]]
 show Lg (ly f (Lg (ly g (Lg (Lo ?_)))));change wpAny _ _ (match PN lo hi 1 (n:LC)with|(lo,hi)=>pure (lo,(1:LC),OH lo hi 1)) _ _ s
 rw[sU lo hi n];change wpAny _ _ (pure (((cz n 0 lo:Ll):LC),(1:LC),OH ((cz n 0 lo:Ll):LC) ((cz n n hi:Ll):LC) 1)) _ _ s;rw[sV];show Lo h
def yI (xs:LY Lj)(i k:Ll):((LR k).filterMap λ(m:Ll)=>xs[((i:LC)+(m:LC)*1).toNat]?).toArray=((xs.toList.drop i).take k).toArray:=by
 have e:(λ(m:Ll)=>xs[((i:LC)+(m:LC)*1).toNat]?)=λm=>xs[i+m]?:=by
  funext m
  have:((i:LC)+(m:LC)*1).toNat=i+m:=∅
  rw[this]
 rw[e];have:=pick_run xs i k;rw[List.filterMap_map]at this;have a:((λx=>xs[x]?)∘λx=>i+x)=λm=>xs[i+m]?:=rfl
 rw[a]at this;rw[this]
def ji {t sl:Lv}{items:LY Lj}{g i:Lj}{lo hi:Ln LC}{Q:Lj->Lm->Prop}(b:Tx s.heap t items)(hs:s.heap.IsSliceOf sl g i .none)(l:Q7 g lo)(n:Q7 i hi)
  (k:¬ (cz ⇑items 0 lo=0/\cz ⇑items ⇑items hi=⇑items))
  (h:Q (.ref ⇑s.heap.objs) {s with heap:=s.heap.push {cls:=.type "tuple",data:=.seq ((items.toList.drop (cz ⇑items 0 lo)).take (cz ⇑items ⇑items hi-cz ⇑items 0 lo)).toArray}})
  (hsz:⇑items<=sizeLine):wpAny (model prog w) A (getItem (.ref t) (.ref sl)) Q E s:=by
 have a:sizeOk (.seq ((items.toList.drop (cz ⇑items 0 lo)).take (cz ⇑items ⇑items hi-cz ⇑items 0 lo)).toArray):=by
  show((items.toList.drop (cz ⇑items 0 lo)).take (cz ⇑items ⇑items hi-cz ⇑items 0 lo)).toArray.size<=sizeLine;rw[LM,Mv,Ow,Lz];omega
 have o:cz ⇑items ⇑items hi<=⇑items:=Fk _ _ (Ls _) hi;obtain⟨os,f,d,j⟩:=id hs;have c:s.TypeIs (.ref sl) "slice":=#[os,f,d];unfold getItem
 try with_reducible show MY ?_
 first|refine Lg (Lo ?_)|skip
 show Lg (TK b.typeIs #v[] ?_)
 show Lg (MP (name:=NO "__getitem__") b.typeIs N9
  (MU N9 b.typeIs SL ?_ (Tf _ _)))
 change wpAny _ _ (PB (.ref t) >>= _) _ _ s;show Lg (Vi b ?_);show Lg (Ph c ?_);rw[LU #v[]]
 show Lg (fM hs l n ?_);have e:¬ ((((cz ⇑items 0 lo:Ll):LC)==0&&(1:LC)==1&&(cz ⇑items ⇑items hi-cz ⇑items 0 lo)==⇑items)=true):=by
  intro q;rw[Lp,Lp]at q;have p:((cz ⇑items 0 lo:Ll):LC)=0:=eq_of_beq q.1.1;have r:cz ⇑items ⇑items hi-cz ⇑items 0 lo=⇑items:=eq_of_beq q.2;show k #[∅,∅]
 change wpAny _ _ (if (((cz ⇑items 0 lo:Ll):LC)==0&&(1:LC)==1&&(cz ⇑items ⇑items hi-cz ⇑items 0 lo)==⇑items)=true then _ else _) _ _ s
 rw[L1 e,yI]
 first
  |show Lg (m:=NL _) (MC (Lo #[_,rfl,Lo h]) a)
  |show Lg (m:=NL _) (MC (Lg (Lo (Lo #[_,rfl,Lo h]))) a)
  |show Lg (Lg (m:=NL _) (MC (Lo (Lo #[_,rfl,Lo h])) a))
  |show Lg (Lg (m:=NL _) (MC (Lo #[_,rfl,Lo h]) a))
end
end HT
namespace L2
open PySem PySem.Spec PyProof.Rows
noncomputable abbrev TO:=St->Hp->(Ln LC->Hp->Prop)->Prop
abbrev PO (X:Cx)(e:Ln L6)(t:TO):Prop:=
 ∀(J:Lf (Lv×Nr)) (s:Lm) (Y:St) (H:Hp) (Q:Ln LC->Hp->Prop),Inv X J Y H s->t Y H Q->
  wpAny (model X.prog X.w) X.A (evalPart e X.env) (λu b=>∃o a,Inv X J Y a b/\Q7 u o/\Q o a) X.xe s
abbrev Cn:TO:=λ_ H Q=>Q gV H
abbrev HE (t:TE):TO:=λY H Q=>t Y H λx a=>∃i,x=.int i/\Q (ba i) a
section
variable{X:Cx}{e:L6}{te:TE}{lo hi:Ln L6}{tl th:TO}{pos p2:Oy}
def Co:PO X gV Cn:=by
 intro J s Y H Q I h;rw[Vj];show Lo #[gV,H,I,.none,h]
def Cp (h:PE X e te):PO X (ba e) (HE te):=by
 intro J s Y H Q I a;rw[evalPart_some];show bF (h J s Y H _ I a) λu b #[x,H1,I1,r1,q1]=>?_
 obtain⟨i,rfl,q⟩:=q1;obtain⟨t,rfl⟩:=r1;show#[ba i,H1,I1,.int i t,q]
abbrev HF (X:Cx)(r:V->Ln LC->Ln LC->Hp->VK->Prop):Prop:=
 ∀(J:Lf (Lv×Nr)) (s:Lm) (Y:St) (H:Hp) (x:V) (v vl vu:Lj) (lo hi:Ln LC) (sl:Lv) (Q:VK),Inv X J Y H s->RelV x v->s.heap.IsSliceOf sl vl vu .none->Q7 vl lo->Q7 vu hi->r x lo hi H Q->
  ∃T id,typeLookup (.type T) "__getitem__" = pure (ba (.builtin id))/\s.TypeIs v T/\wpAny (model X.prog X.w) X.A (getItem v (.ref sl)) (EP X J Y Q) X.xe s
abbrev K7 (r:V->Ln LC->Ln LC->Hp->VK->Prop)(te:TE)(tl th:TO):TE:=λY H Q=>te Y H λx a=>tl Y a λl b=>th Y b λu c=>r x l u c Q
def yJ {r:V->Ln LC->Ln LC->Hp->VK->Prop}(k:HF X r)(i:PE X e te)(hl:PO X lo tl)(n:PO X hi th):PE X (.Subscript e (.Slice lo hi gV p2) pos) (K7 r te tl th):=by
 intro J s Y H Q I h;show Subscript_ (bF (i J s Y H _ I h) λv o #[x,H1,I1,r1,q1]=>?_)
 show wpAny_Slice (bF (hl J o Y H1 _ I1 q1) λc p #[l,H2,I2,pl,q2]=>bF (n J p Y H2 _ I2 q2) λd a #[u,H3,I3,pu,q3]=>?_)
 rw[Vj];show Lo ?_;have f:Inv X J Y H3 {a with heap:=a.heap.push {cls:=.type "slice",data:=.fields [c,d,.none].toArray}}:=I3.kept (t':=a.toks) λb ob q=>Li _ q
 obtain⟨T,id,g,m,j⟩:=k J {a with heap:=a.heap.push {cls:=.type "slice",data:=.fields [c,d,.none].toArray}} Y H3 x v c d l u ⇑a.heap.objs Q f r1 (Wk ..) pl pu q3
 change wpAny (model X.prog X.w) X.A (subscriptTail e (.Slice lo hi gV p2) v (.ref ⇑a.heap.objs)) (EP X J Y Q) X.xe {a with heap:=a.heap.push {cls:=.type "slice",data:=.fields [c,d,.none].toArray}}
 show tail_any (ops:=[.ref ⇑a.heap.objs,v]) m g j (by with_unfolding_all rfl)
abbrev lz (xs:Lf V)(lo hi:Ln LC):Lf V:=(xs.drop (HT.cz ↥xs 0 lo)).take (HT.cz ↥xs ↥xs hi-HT.cz ↥xs 0 lo)
def kF (xs:Lf V)(lo hi:Ln LC):(lz xs lo hi).length<=↥xs:=by
 unfold lz;rw[Mv,Ow];omega
abbrev J3 (K:LF):V->Ln LC->Ln LC->Hp->VK->Prop:=λx lo hi H Q=>∃a xs,x=.ref a/\SqT K H a xs/\
 ¬ (HT.cz ↥xs 0 lo=0/\HT.cz ↥xs ↥xs hi=↥xs)/\∀p,H p=gV->Q (.ref p) (bE H p (.tup (lz xs lo hi)))
def Fn:HF X (J3 X.K):=by
 intro J s Y H x v l m lo hi sl Q I k hs i j h;obtain⟨a,xs,rfl,g,f,q⟩:=h;cases k;obtain⟨d,r,e,hz⟩:=I.tuple g;have c:⇑d.toArray=↥xs:=by rw[LM];show r.length.symm
 show#["tuple",_,PyProof.Rows.slot_tuple_getitem.lookup,e.typeIs,?_];show HT.ji e hs i j (by rw[c];show f) ?_ (by rw[c];show hz)
 rw[c];show#[.ref ⇑s.heap.objs,_,I.laid (t':=s.toks) (o:=.tup (lz xs lo hi)) (λb ob q=>Li _ q) (Ls _) ?_,rfl,q _ (I.hok.fresh (Ls _))]
 show#[Lw (kF xs lo hi) hz,_,(r.drop (HT.cz ↥xs 0 lo)).take (HT.cz ↥xs ↥xs hi-HT.cz ↥xs 0 lo),Uc _ _]
def Vals.nil_iff {xs:Lf V}{us:Lf Lj}(r:Vals xs us):us=[]↔xs=[]:=by
 cases r with
 |nil=>simp
 |cons _ _=>simp
end
abbrev uQ (n:Ll)(i:LC):Ln Ll:=if 0<=i then(if i<n then ba i.toNat else gV)else if -(n:LC)<=i then ba (i+n).toNat else gV
abbrev qx {α:Type}(xs:Lf α)(i:LC):Ln α:=(uQ ↥xs i).bind λj=>xs[j]?
def uR {n:Ll}{i:LC}{j:Ll}(h:uQ n i=ba j):seqIndex? i n=ba j/\j<n/\-(n:LC)<=i/\i<n:=by
 unfold uQ at h
 by_cases b:0<=i
 ·rw[LU b]at h
  by_cases a:i<n
  ·rw[LU a]at h;have e:i.toNat=j:=MR h;show#[by rw[Uy b a,e],∅,∅,a]
  ·rw[L1 a]at h;cases h
 ·rw[L1 b]at h
  by_cases a : -(n:LC)<=i
  ·rw[LU a]at h;have e:(i+n).toNat=j:=MR h;show#[by rw[TM ∅ a,e],∅,a,∅]
  ·rw[L1 a]at h;cases h
def oO {α:Type}{xs:Lf α}{i:LC}{v:α}(h:qx xs i=ba v):∃j,seqIndex? i ↥xs=ba j/\xs[j]?=ba v/\j<↥xs/\-(↥xs:LC)<=i/\i<↥xs:=by
 unfold qx at h;cases e:uQ ↥xs i with
 |none=>rw[e]at h;cases h
 |some j=>
  rw[e]at h;obtain⟨a,b,c,d⟩:=uR e;show#[j,a,h,b,c,d]
abbrev oP (b:L6):Prop:=∀o i,subscripted b false o i=operate [o,i] (getItem o i)
abbrev IxR (X:Cx)(r:R2):Prop:=
 ∀(b a:L6) (J:Lf (Lv×Nr)) (s:Lm) (Y:St) (H:Hp) (x y:V) (v u:Lj) (Q:VK),Inv X J Y H s->RelV x v->RelV y u->r x y H Q->
  subscripted a false v u=operate [v,u] (getItem v u)->wpAny (model X.prog X.w) X.A (subscriptTail b a v u) (EP X J Y Q) X.xe s
abbrev MtR (X:Cx)(id:Ng)(r:V->Lf V->Hp->VK->Prop):Prop:=
 ∀(J:Lf (Lv×Nr)) (s:Lm) (Y:St) (H:Hp) (x:V) (xs:Lf V) (v:Lj) (us:Lf Lj) (Q:VK),Inv X J Y H s->RelV x v->Vals xs us->r x xs H Q->
  wpAny (model X.prog X.w) X.A (call (.builtin id) (v::us)) (EP X J Y Q) X.xe s
section
variable{X:Cx}{a b:L6}{ta tb:TE}{pos:Oy}
def HG {r:R2}(g:IxR X r)(e:PE X a ta)(f:PE X b tb)(hs:oP b):PE X (.Subscript a b pos) (Jw r ta tb):=by
 intro J s Y H Q I h;show Subscript_ (E9 e f I h λv u k x y c d i j q=>g a b J k Y c x y v u Q d i j q (hs _ _))
abbrev J4 (K:LF):R2:=λx y H Q=>∃p xs i v,x=.ref p/\y=.int i/\SqL K H p xs/\qx xs i=ba v/\Q v H
abbrev J5 (K:LF):R2:=λx y H Q=>∃p xs i v,x=.ref p/\y=.int i/\SqT K H p xs/\qx xs i=ba v/\Q v H
abbrev J6:R2:=λx y H Q=>∃z i c,x=.str z/\y=.int i/\↥z<=sizeLine/\qx z.cps.toList i=ba c/\Q (.str #[[c].toArray]) H
def Cq:IxR X (J4 X.K):=by
 intro k g J s Y H x y v u Q I D E h hs;obtain⟨p,xs,i,z,rfl,rfl,C,B,q⟩:=h;cases D;obtain⟨t,rfl⟩:=E;obtain⟨d,r,e,hz⟩:=I.list C;obtain⟨j,b,n,L,o,A⟩:=oO B;obtain⟨w,l,f⟩:=r.get n;have hl:=↥r;have M:=jV;have a:EP X J Y Q w s:=#[z,H,I,f,q]
 by_cases m:0<=i
 ·have c:i.toNat=j:=by
   rw[Uy m A]at b;show MR b
  show item_listR e.isList m ∅ (by rw[c];simpa using l) a hs
 ·have c:(i+(⇑d.toArray:LC)).toNat=j:=by
   rw[TM ∅ o]at b
   rw[LM,<- hl];show MR b
  show Qh (x:=w) e.isList.typeIs slot_list_getitem.lookup
   (wpAny_getItem_list_neg (Q:=λr G=>r=w/\EP X J Y Q r G) e.isList ∅ (by rw[LM]<;>omega) ∅ (by rw[c];simpa using l) #[rfl,a]) hs
def Fo:IxR X (J5 X.K):=by
 intro d c J s Y H x y v u Q I o A h hs;obtain⟨p,xs,i,z,rfl,rfl,m,l,q⟩:=h;cases o;obtain⟨t,rfl⟩:=A;obtain⟨n,r,e,hz⟩:=I.tuple m;obtain⟨j,g,k,C,D,E⟩:=oO l;obtain⟨w,f,b⟩:=r.get k;have hl:=↥r;have G:=jV;have a:EP X J Y Q w s:=#[z,H,I,b,q];show Qh (x:=w) e.typeIs slot_tuple_getitem.lookup
  (getItem_tuple (j:=j) (Q:=λr B=>r=w/\EP X J Y Q r B) e ∅ ∅ (by rw[LM,<- hl];show g) (by simpa using f) #[rfl,a]) hs
def Fp:IxR X J6:=by
 intro b a J s Y H x y v u Q I n o h hs;obtain⟨z,i,c,rfl,rfl,hz,m,q⟩:=h;obtain⟨t,rfl⟩:=n;obtain⟨t',rfl⟩:=o;obtain⟨j,d,g,p,k,l⟩:=oO m;have hl:↥z.cps.toList=↥z:=by simp[Wl]
 rw[hl]at d k l;have r:=jV;show tail_any (typeIs_str s z t) slot_str_getitem.lookup (getItem_str (c:=c) (by
  have e:decide (i < -(2^63:LC))=false:=Mt ∅
  have f:decide (i>=2^63)=false:=Mt ∅
  rw[e,f,SU]) (by rw[d];simpa using g) #[.str #[[c].toArray],H,I.tok _,#[_,rfl],q]) hs
def sW (a:Lf Lj)(n j:Ll)(u:Lj):Nj (·.setIfInBounds j u) {cls:=.type "list",data:=.seq a.toArray n}={cls:=.type "list",data:=.seq (a.set j u).toArray n}:=by
 simp[Nj]
def Inv.lst {J:Lf (Lv×Nr)}{Y:St}{H:Hp}{s:Lm}{p:Lv}{xs:Lf V}(I:Inv X J Y H s)(h:H p=ba (.lst xs)) :
  ∃(a:Lf Lj) (n:Ll),Vals xs a/\s.heap.get? p=ba {cls:=.type "list",data:=.seq a.toArray n}/\↥xs<=sizeLine:=by
 obtain⟨z,a,n,r,e⟩:=I.hok p _ h;show#[a,n,r,e,z]
def Inv.lstUpd {J:Lf (Lv×Nr)}{Y:St}{H:Hp}{s:Lm}{p:Lv}{xs ys:Lf V}{a its':Lf Lj}{n c:Ll}{f:Nr->Nr}(I:Inv X J Y H s)(h:H p=ba (.lst xs))
  (g:s.heap.get? p=ba {cls:=.type "list",data:=.seq a.toArray n}) (hf:f {cls:=.type "list",data:=.seq a.toArray n}={cls:=.type "list",data:=.seq its'.toArray c}) (r:Vals ys its') (hz:↥ys<=sizeLine) (t:Ll) :
  Inv X J Y (bE H p (.lst ys)) {s with heap:=s.heap.update p f,toks:=t}:=by
 have e:(s.heap.update p f).get? p=ba {cls:=.type "list",data:=.seq its'.toArray c}:=by
  rw[No f g (by rw[hf]<;>rfl),hf]
 show I.write (x:=p) (e:=p) (by rw[h];trivial) (.inl rfl) (λb u d q=>(ME _ _ (Ne.symm d)).trans q) #[_,e] ?_
 show#[hz,its',c,r,e]
abbrev HH:V->V->V->Hp->(Hp->Prop)->Prop:=λo i v H Q=>∃p xs k j,o=.ref p/\i=.int k/\H p=ba (.lst xs)/\uQ ↥xs k=ba j/\Q (bE H p (.lst (xs.set j v)))
def yK:E2 X HH:=by
 intro J s Y H o i v C B u Q I x w y h;obtain⟨p,xs,k,j,rfl,rfl,l,m,q⟩:=h;cases x;obtain⟨t,rfl⟩:=w;obtain⟨a,n,r,c,hz⟩:=I.lst l;obtain⟨b,z,f,g⟩:=uR m;have hl:=↥r;have A:=jV;have d:Inv X J Y (bE H p (.lst (xs.set j v))) {s with heap:=s.heap.update p (Nj (·.setIfInBounds j u))}:=
  I.lstUpd l c (sW a n j u) (r.set y j) (by rw[List.length_set];show hz) s.toks
 by_cases e:0<=k
 ·have hk:k.toNat=j:=by
   rw[Uy e g]at b;show MR b
  show PySem.W.ki_setAt c e ∅ (by rw[LM,<- hl];show g) (by rw[hk];show#[_,d,q])
 ·have hk:(k+(⇑a.toArray:LC)).toNat=j:=by
   rw[TM ∅ f]at b
   rw[LM,<- hl];show MR b
  show PySem.W.ki_setBack c ∅ (by rw[LM,<- hl];show f) ∅ (by rw[hk];show#[_,d,q])
def oQ (lo hi:Ln LC)(n:Ll):(sliceBounds lo hi gV n).1=((HT.cz n 0 lo:Ll):LC)/\(sliceBounds lo hi gV n).2.1=((HT.cz n n hi:Ll):LC)/\(sliceBounds lo hi gV n).2.2=1:=by
 show#[?_,?_,rfl]
 ·cases lo with
  |none=>simp[sliceBounds,HT.cz]
  |some i=>
   simp only[sliceBounds,HT.cz,Uf,show(1:LC) > 0 by decide,NC]
   by_cases h:i<0
   ·simp only[h,NC]<;>omega
   ·simp only[h,M8]<;>omega
 ·cases hi with
  |none=>simp[sliceBounds,HT.cz]
  |some i=>
   simp only[sliceBounds,HT.cz,Uf,show(1:LC) > 0 by decide,NC]
   by_cases h:i<0
   ·simp only[h,NC]<;>omega
   ·simp only[h,M8]<;>omega
def mS (a:Lf Lj)(lo hi:Ln LC):slicePick a.toArray lo hi gV=((a.drop (HT.cz ↥a 0 lo)).take (HT.cz ↥a ↥a hi-HT.cz ↥a 0 lo)).toArray:=by
 obtain⟨b,c,d⟩:=oQ lo hi ⇑a.toArray;unfold slicePick;rw[b,c,d];simp only[sliceRange_one,pick_run,LM]<;>rfl
abbrev J7 (K:LF):V->Ln LC->Ln LC->Hp->VK->Prop:=λx lo hi H Q=>∃a xs,x=.ref a/\SqL K H a xs/\∀p,H p=gV->Q (.ref p) (bE H p (.lst (lz xs lo hi)))
def Cr:HF X (J7 X.K):=by
 intro J s Y H x v k l lo hi sl Q I j hs g i h;obtain⟨a,xs,rfl,e,q⟩:=h;cases j;obtain⟨f,r,d,hz⟩:=I.list e;have c:=↥r;show#["list",_,slot_list_getitem.lookup,d.isList.typeIs,?_];show wpAny_getItem_list_slice d.isList hs g i .none (by simp) ?_ (by rw[LM]<;>omega)
 rw[mS,<- c];show#[.ref ⇑s.heap.objs,_,I.laid (t':=s.toks) (o:=.lst (lz xs lo hi)) (λb ob q=>Li _ q) (Ls _) ?_,rfl,q _ (I.hok.fresh (Ls _))]
 show#[Lw (kF xs lo hi) hz,_,0,(r.drop (HT.cz ↥xs 0 lo)).take (HT.cz ↥xs ↥xs hi-HT.cz ↥xs 0 lo),LI _ rfl]
abbrev iK:V->L7
 |.non=>true
 |.bl _=>true
 |.int _=>true
 |.str _=>true
 |_=>false
abbrev Cs:V->V->L7
 |.non,.non=>true
 |.bl a,.bl b=>a==b
 |.bl a,.int b=>(if a then 1 else 0)==b
 |.int a,.bl b=>a==(if b then 1 else 0)
 |.int a,.int b=>a==b
 |.str a,.str b=>a==b
 |_,_=>false
def Fq {A:Ms}{s:Lm}{y x:V}{u v:Lj}(e:RelV y u)(c:RelV x v)(f:iK y=true)(d:iK x=true):Qs A s u v (Cs y x):=by
 cases y with
 |non=>
  cases e;cases x with
  |non=>cases c;show WG _
  |bl b=>cases c;show VU b
  |int b=>obtain⟨t,rfl⟩:=c;show V9 b t
  |str b=>obtain⟨t,rfl⟩:=c;show Wa b t
  |_=>show absurd (show false=true from d) L5
 |bl a=>
  cases e;cases x with
  |non=>cases c;show VW a
  |bl b=>cases c;show VX a b
  |int b=>obtain⟨t,rfl⟩:=c;show Wb a b t
  |str b=>obtain⟨t,rfl⟩:=c;show Wc a b t
  |_=>show absurd (show false=true from d) L5
 |int a=>
  obtain⟨t',rfl⟩:=e;cases x with
  |non=>cases c;show We a t'
  |bl b=>cases c;show Wf a t' b
  |int b=>obtain⟨t,rfl⟩:=c;show Wm a t' b t
  |str b=>obtain⟨t,rfl⟩:=c;show Tb a t' b t
  |_=>show absurd (show false=true from d) L5
 |str a=>
  obtain⟨t',rfl⟩:=e;cases x with
  |non=>cases c;show Wg a t'
  |bl b=>cases c;show Wh a t' b
  |int b=>obtain⟨t,rfl⟩:=c;show Tc a t' b t
  |str b=>obtain⟨t,rfl⟩:=c;show Wn a t' b t
  |_=>show absurd (show false=true from d) L5
 |_=>show absurd (show false=true from f) L5
abbrev sX (x:V)(u:Lj):L7:=match u with
 |.none=>Cs .non x
 |.bool b=>Cs (.bl b) x
 |.int i _=>Cs (.int i) x
 |.str z _=>Cs (.str z) x
 |_=>false
def yL {x y:V}{u:Lj}(r:RelV y u)(f:iK y=true):sX x u=Cs y x:=by
 cases y with
 |non=>cases r;rfl
 |bl b=>cases r;rfl
 |int i=>obtain⟨t,rfl⟩:=r;rfl
 |str z=>obtain⟨t,rfl⟩:=r;rfl
 |_=>show absurd (show false=true from f) L5
def jj {x:V}:∀{xs:Lf V}{us:Lf Lj},Vals xs us->xs.all iK=true->us.any (sX x)=xs.any λy=>Cs y x
 |_,_,.nil,_=>rfl
 |y::xs,u::us,.cons r t,f=>by
  rw[MT,Lp]at f;rw[Ov,Ov,yL r f.1,jj t f.2]
def gM {A:Ms}{s:Lm}{x:V}{v:Lj}(c:RelV x v)(b:iK x=true):∀{xs:Lf V}{us:Lf Lj},Vals xs us->xs.all iK=true->∀u∈us,Qs A s u v (sX x u)
 |_,_,.nil,_=>λu a=>by cases a
 |y::xs,u::us,.cons r t,f=>λd a=>by
  rw[MT,Lp]at f;rcases LQ.mp a with rfl|a
  ·rw[yL r f.1];show Fq r c f.1 b
  ·show gM c b t f.2 d a
abbrev Jy (x:V)(xs:Lf V):L7:=xs.any λy=>Cs y x
abbrev J8 (K:LF)(neg:L7):R2:=λx y H Q=>∃p xs,y=.ref p/\(SqL K H p xs\/SqT K H p xs)/\iK x=true/\xs.all iK=true/\Q (.bl (if neg then !Jy x xs else Jy x xs)) H
def wM:OpR X (compareOp .In) (J8 X.K false):=by
 intro J s Y H x y v u Q I g i h;obtain⟨p,xs,rfl,b,f,c,q⟩:=h;cases i;rcases b with b|b
 ·obtain⟨a,r,e,hz⟩:=I.list b;show UG (sX x) e.isList (λw d=>gM g f r c w (by simpa using d)) #[.bl _,H,I,rfl,?_]
  rw[show a.toArray.any (sX x)=a.any (sX x) by simp,jj r c]
  show q
 ·obtain⟨a,r,e,hz⟩:=I.tuple b;show Ug (sX x) e (λw d=>gM g f r c w (by simpa using d)) #[.bl _,H,I,rfl,?_]
  rw[show a.toArray.any (sX x)=a.any (sX x) by simp,jj r c]
  show q
def oR:OpR X (compareOp .NotIn) (J8 X.K true):=by
 intro J s Y H x y v u Q I g i h;obtain⟨p,xs,rfl,b,f,c,q⟩:=h;cases i;rcases b with b|b
 ·obtain⟨a,r,e,hz⟩:=I.list b;show Th (sX x) e.isList (λw d=>gM g f r c w (by simpa using d)) #[.bl _,H,I,rfl,?_]
  rw[show a.toArray.any (sX x)=a.any (sX x) by simp,jj r c]
  show q
 ·obtain⟨a,r,e,hz⟩:=I.tuple b;show SeqAt.notIn_tupleAt (sX x) e (λw d=>gM g f r c w (by simpa using d)) #[.bl _,H,I,rfl,?_]
  rw[show a.toArray.any (sX x)=a.any (sX x) by simp,jj r c]
  show q
def oT:CallR X (.type "list") (λxs H Q=>∃p ys,xs=[.ref p]/\(SqL X.K H p ys\/SqT X.K H p ys)/\∀l,H l=gV->Q (.ref l) (bE H l (.lst ys))):=by
 intro J s Y H xs us Q I r h;obtain⟨p,ys,rfl,i,q⟩:=h;obtain⟨u,rfl,t⟩:=ni r;cases t;have f:∀(a:Lf Lj),Vals ys a->↥ys<=sizeLine->∀(h':MD) (c:Ll),(∀b o',s.heap.get? b=ba o'->h'.get? b=ba o')->
   h'.get? ⇑s.heap.objs=ba {cls:=.type "list",dict:=gV,data:=.seq a.toArray c,slots:=#[]}->EP X J Y Q (.ref ⇑s.heap.objs) {s with heap:=h'}:=λa d hz h' c kp e=>
  #[.ref ⇑s.heap.objs,_,I.laid (t':=s.toks) kp (Ls _) (show ObjOk X.prog X.w _ h' _ (.lst ys)from#[hz,a,c,d,e]),rfl,q _ (I.hok.fresh (Ls _))]
 rcases i with i|i
 ·obtain⟨a,d,m,hz⟩:=I.list i;have g:=↥d;obtain⟨o,k,j,n,hd⟩:=m.isList;show Vk p (.inl rfl) k j hd (λh' c kp e=>f a d hz h' c kp e) (by simp only[LM]<;>omega)
 ·obtain⟨a,d,m,hz⟩:=I.tuple i;have g:=↥d;obtain⟨o,k,j,n,hd⟩:=m;show Vk p (.inr rfl) k j hd (λh' c kp e=>f a d hz h' c kp e) (by simp only[LM]<;>omega)
def iL:CallR X (.type "tuple") (λxs H Q=>∃p ys,xs=[.ref p]/\((SqL X.K H p ys/\∀l,H l=gV->Q (.ref l) (bE H l (.tup ys)))\/(SqT X.K H p ys/\Q (.ref p) H))):=by
 intro J s Y H xs us Q I r h;obtain⟨p,ys,rfl,h⟩:=h;obtain⟨u,rfl,k⟩:=ni r;cases k;rcases h with⟨c,q⟩|⟨c,q⟩
 ·obtain⟨a,f,d,hz⟩:=I.list c;have i:=↥f;show call_tuple_list d.isList (λh' kp=>?_) (by simp only[LM]<;>omega)
  have g:Inv X J Y H {s with heap:=h'}:=I.kept (t':=s.toks) kp
  have j:Inv X J Y (bE H ⇑h'.objs (.tup ys)) {s with heap:=h'.push {cls:=.type "tuple",data:=.seq a.toArray}}:=
   g.laid (t':=s.toks) (λb o e=>Li _ e) (Ls _) (show ObjOk X.prog X.w _ _ _ (.tup ys)from#[hz,a,f,Uc _ _])
  show#[.ref ⇑h'.objs,_,j,rfl,q _ (g.hok.fresh (Ls _))]
 ·obtain⟨a,f,d,hz⟩:=I.tuple c;show call_tuple_same d #[.ref p,H,I,rfl,q]
abbrev J9 (K:LF)(T:Ng)(x:V)(H:Hp):Prop:=match x with
 |.str _=>T="str"
 |.int _=>T="int"
 |.ref p=>(T="list"/\∃xs,SqL K H p xs)\/(T="tuple"/\∃o,K.lookup p=ba o/\o.cls=.type "tuple"/\o.dict=gV)\/
   (T="dict"/\((∃U,H p=ba (.dK U))\/∃U,H p=ba (.dT U)))\/(T="set"/\∃S n,H p=ba (.set S n))
 |_=>Nb
def yM {J:Lf (Lv×Nr)}{Y:St}{H:Hp}{s:Lm}{T:Ng}{x:V}{v:Lj}(I:Inv X J Y H s)(r:RelV x v)(ty:J9 X.K T x H) :
  s.TypeIs v T/\∀a,v=.ref a->∃ob,s.heap.get? a=ba ob/\ob.dict=gV:=by
 cases x with
 |str z=>
  obtain⟨t,rfl⟩:=r;cases(show T="str" from ty)
  show#[typeIs_str s z t,λ_ e=>nomatch e]
 |int i=>
  obtain⟨t,rfl⟩:=r;cases(show T="int" from ty)
  show#[UW s i t,λ_ e=>nomatch e]
 |ref p=>
  cases r;rcases ty with⟨rfl,xs,g⟩|⟨rfl,o,hk,f,hd⟩|⟨rfl,hk⟩|⟨rfl,S,n,hk⟩
  ·obtain⟨h,_,d,_⟩:=I.list g;show#[d.isList.typeIs,λa e=>?_]
   cases e;obtain⟨o,n,e,c,hd,_⟩:=d;show#[o,e,hd]
  ·show#[#[o,I.kIn p o hk,f],λa e=>?_]
   cases e;show#[o,I.kIn _ o hk,hd]
  ·have z:∃o,s.heap.get? p=ba o/\o.ExactDict:=by
    rcases hk with⟨U,hk⟩|⟨U,hk⟩
    ·obtain⟨_,_,_,_,o,_,_,e,ex,_⟩:=I.hok p _ hk;show#[o,e,ex]
    ·obtain⟨_,_,_,_,o,_,_,e,ex,_⟩:=I.hok p _ hk;show#[o,e,ex]
   obtain⟨o,e,ex⟩:=z;show#[#[o,e,ex.1],λa b=>?_]
   cases b;show#[o,e,ex.2.1]
  ·obtain⟨o,_,_,_,e,ex,_⟩:=I.hok p _ hk;show#[#[o,e,ex.1],λa b=>?_]
   cases b;show#[o,e,ex.2.1]
 |_=>show Nb.elim ty
variable{o e:L6}{es:Lf L6}{to:TE}{t:TA}{name:LW}{apos cpos:Oy}{T id:Ng}{r:V->Lf V->Hp->VK->Prop}
end
abbrev Kb (X:Cx)(id:Ng)(r:V->Lf V->Hp->VK->Prop):Prop:=
 ∀(J:Lf (Lv×Nr)) (s:Lm) (Y:St) (H:Hp) (x:V) (xs:Lf V) (v:Lj) (us:Lf Lj) (Q:VK),Inv X J Y H s->RelV x v->Vals xs us->r x xs H Q->
  wpAny (model X.prog X.w) X.A (call (.builtin id) (v::us)) (EP X J Y Q) X.xe s
def Vals.one:∀{x:V}{us:Lf Lj},Vals [x] us->∃u,us=[u]/\RelV x u
 |_,_,.cons r .nil=>#[_,rfl,r]
def Vals.eraseIdx:∀{xs:Lf V}{us:Lf Lj} (i:Ll),Vals xs us->Vals (xs.eraseIdx i) (us.eraseIdx i)
 |_,_,_,.nil=>.nil
 |_,_,0,.cons _ t=>t
 |_,_,i+1,.cons r t=>.cons r (Vals.eraseIdx i t)
def Vals.rep {xs:Lf V}{us:Lf Lj}(h:Vals xs us):∀k:Ll,Vals (Mu k xs).flatten (Mu k us).flatten
 |0=>.nil
 |k+1=>by
  rw[NG,NG,OO,OO];show Vals.append h (Vals.rep h k)
def nv {α:Type}:∀(l:Lf α) (i:Ll),(l.eraseIdx i).length<=↥l
 |[],_=>Ls _
 |_::_,0=>OP _
 |_::r,i+1=>Qt (nv r i)
def nw (b:Lf Lj):∀(k:Ll) (a:Lf Lj),
  UX (λd f=>d++f) a.toArray (Mu k b.toArray)=(a++(Mu k b).flatten).toArray
 |0,a=>by simp
 |k+1,a=>by
  have e:a.toArray++b.toArray=(a++b).toArray:=by simp
  have c:(a++b)++(Mu k b).flatten=a++(Mu (k+1) b).flatten:=by
   rw[NG,OO,N2]
  rw[<- c,<- nw b k (a++b),<- e,NG,UH]
section
variable{X:Cx}{J:Lf (Lv×Nr)}{Y:St}{H:Hp}{s:Lm}{l b:Lv}{xs ys zs:Lf V}
def Inv.lset {a its':Lf Lj}{n:Ll}{f:LY Lj->LY Lj}{t':Ll}(I:Inv X J Y H s)(b:H l=ba (.lst xs))
  (e:s.heap.get? l=ba {cls:=.type "list",data:=.seq a.toArray n}) (hf:f a.toArray=its'.toArray) (g:Vals ys its') (hz:↥ys<=sizeLine) :
  Inv X J Y (bE H l (.lst ys)) {s with heap:=s.heap.update l (Nj f),toks:=t'}:=by
 have q:=Uh e f;rw[hf]at q;show I.write (x:=l) (e:=l) (by rw[b];show trivial) (.inl rfl) (λh u c d=>(ME s.heap (Nj f) (Ne.symm c)).trans d) #[_,q] ?_
 show#[hz,its',_,g,q]
def Inv.lnew {a:Lf Lj}{t':Ll}(I:Inv X J Y H s)(b:Vals ys a)(hz:↥ys<=sizeLine) :
  Inv X J Y (bE H ⇑s.heap.objs (.lst ys)) {s with heap:=s.heap.push {cls:=.type "list",data:=.seq a.toArray},toks:=t'}:=
 I.laid (λ_ _ q=>Li _ q) (Ls _) #[hz,a,0,b,LI _ rfl]
def Inv.fresh (I:Inv X J Y H s):H ⇑s.heap.objs=gV:=I.hok.fresh (Ls _)
def Inv.lstM (I:Inv X J Y H s)(b:H l=ba (.lst xs)):↥xs<=sizeLine/\∃(a:Lf Lj) (n:Ll),Vals xs a/\↥xs=↥a/\s.heap.get? l=ba {cls:=.type "list",data:=.seq a.toArray n}:=by
 obtain⟨z,a,n,r,e⟩:=I.hok l _ b;show#[z,a,n,r,↥r,e]
def qA {n:Ll}(h:n<=sizeLine):OV n=false:=by
 unfold OV;show Mt ∅
end
section
variable{X:Cx}
abbrev Ct:V->Lf V->Hp->VK->Prop:=λx vs H Q=>∃l xs y,x=.ref l/\vs=[y]/\H l=ba (.lst xs)/\↥xs<sizeLine/\Q .non (bE H l (.lst (xs++[y])))
def wQ:Kb X "list.append" Ct:=by
 intro J s Y H x vs v us Q I f d h;obtain⟨l,xs,y,rfl,rfl,b,hz,q⟩:=h;cases f;obtain⟨u,rfl,c⟩:=d.one;obtain⟨z,a,n,r,hl,e⟩:=I.lstM b;show Q9 F.slot_list_append #[_,e,rfl] F.entry_list_append (F.args_list_append_2 _ _) (TN l a.toArray n u (by rw[LM];omega)) #[e,?_]
 show#[.non,_,I.lset (its':=a++[u]) b e (by simp) (r.append #v[c]) ?_,rfl,q]
 rw[Lx,Na];omega
abbrev Cu:V->Lf V->Hp->VK->Prop:=λx vs H Q=>∃l b xs a,x=.ref l/\vs=[.ref b]/\H l=ba (.lst xs)/\H b=ba (.lst a)/\↥xs+↥a<=sizeLine/\Q .non (bE H l (.lst (xs++a)))
def wR:Kb X "list.extend" Cu:=by
 intro J s Y H x vs v us Q I t p h;obtain⟨l,b,xs,y,rfl,rfl,f,i,hz,q⟩:=h;cases t;obtain⟨u,rfl,o⟩:=p.one;cases o;obtain⟨z,c,n,r,hl,e⟩:=I.lstM f;obtain⟨w,a,k,m,j,g⟩:=I.lstM i;have hsz:⇑c.toArray+⇑a.toArray<=sizeLine:=by rw[LM,LM];omega
 have d:¬ (!c.toArray.isEmpty&&OV (⇑c.toArray+⇑a.toArray))=true:=by
  rw[qA hsz,Ra];show L5
 show Q9 F.slot_list_extend #[_,e,rfl] F.entry_list_extend (F.args_list_extend_2 _ _)
  (TQ l c.toArray n b a.toArray k d (by rw[LM];omega) ∅) #[e,g,?_]
 show#[.non,_,I.lset (its':=c++a) f e (by simp) (r.append m) ?_,rfl,q]
 rw[Lx];omega
abbrev Fs:V->Lf V->Hp->VK->Prop:=λx vs H Q=>∃l xs i k y,x=.ref l/\vs=[.int i]/\H l=ba (.lst xs)/\-(2^63)<=i/\i<2^63/\seqIndex? i ↥xs=ba k/\xs[k]?=ba y/\Q y (bE H l (.lst (xs.eraseIdx k)))
def yN:Kb X "list.pop" Fs:=by
 intro J s Y H x vs v us Q I p o h;obtain⟨l,xs,i,k,y,rfl,rfl,c,d,f,hk,j,q⟩:=h;cases p;obtain⟨u,rfl,m⟩:=o.one;obtain⟨t,rfl⟩:=m;obtain⟨z,a,n,r,hl,e⟩:=I.lstM c;obtain⟨w,g,b⟩:=r.get j;show Q9 F.slot_list_pop #[_,e,rfl] F.entry_list_pop (F.args_list_pop_2 _ _)
  (VY l a.toArray n i t k w (UY d f) (by rw[LM,<- hl];show hk) (by rw[<- MX];show g) (by rw[LM];omega)) #[e,?_]
 show#[y,_,I.lset (its':=a.eraseIdx k) c e ?_ (r.eraseIdx k) ?_,b,q]
 ·change a.toArray.eraseIdxIfInBounds k=(a.eraseIdx k).toArray;rw[List.eraseIdxIfInBounds_toArray]
 ·have:=nv xs k;omega
abbrev Kc:R2:=λx y H Q=>∃l b xs a,x=.ref l/\y=.ref b/\H l=ba (.lst xs)/\H b=ba (.lst a)/\↥xs+↥a<=sizeLine/\∀p,H p=gV->Q (.ref p) (bE H p (.lst (xs++a)))
def Ft:OpR X (binaryOp .Add) Kc:=by
 intro J s Y H x y v u Q I m o h;obtain⟨l,b,xs,w,rfl,rfl,i,g,hz,q⟩:=h;cases m;cases o;obtain⟨z,c,n,r,hl,e⟩:=I.lstM i;obtain⟨t,a,p,k,j,d⟩:=I.lstM g;show PySem.P.add_list e d ?_ (by rw[LM,LM];omega)
 have f:c.toArray++a.toArray=(c++a).toArray:=by simp
 rw[f];show#[.ref _,_,I.lnew (t':=s.toks) (r.append k) (by rw[Lx];omega),rfl,q _ I.fresh]
abbrev Kd:R2:=λx y H Q=>∃l k xs,x=.ref l/\y=.int k/\H l=ba (.lst xs)/\-(2^63)<=k/\k<2^63/\↥xs*k.toNat<=sizeLine/\
 ∀p,H p=gV->Q (.ref p) (bE H p (.lst (Mu k.toNat xs).flatten))
def Cv {α:Type}(xs:Lf α)(k:Ll):(Mu k xs).flatten.length=k*↥xs:=by
 induction k with
 |zero=>simp
 |succ k ih=>rw[NG,OO,Lx,ih,Pi,QT]
def Fu:OpR X (binaryOp .Mult) Kd:=by
 intro J s Y H x y v u Q I C D h;obtain⟨l,k,xs,rfl,rfl,B,w,A,hz,q⟩:=h;cases C;obtain⟨t,rfl⟩:=D;obtain⟨z,b,n,r,hl,e⟩:=I.lstM B;have g:⇑b.toArray*k.toNat<=sizeLine:=by rw[LM,<- hl];show hz
 have d:¬ ⇑b.toArray*k.toNat > (2^63-1)/8:=by
  have:(sizeLine:Ll)<=(2^63-1)/8:=by decide
  omega
 have f:¬ (!UZ k)=true:=by
  rw[UY w A];show L5
 have c:¬ OV (⇑b.toArray*k.toNat)=true:=by
  rw[qA g];show L5
 have i:UX (λj o=>j++o) #[] (Mu (if b.toArray.isEmpty=true then 0 else k.toNat) b.toArray)=(Mu k.toNat b).flatten.toArray:=by
  have p:∀m:Ll,UX (λj o=>j++o) #[] (Mu m b.toArray)=(Mu m b).flatten.toArray:=λm=>by
   have:=nw b m [];rw[UI]at this;show this
  rw[p];cases b with
  |nil=>simp
  |cons a G=>rw[L1 (by simp)]
 show wpAny_binaryOp_repeat_ref (T:="list") (U:="int") #v[] #[_,e,rfl] (λE=>UW E k t) noFill_list_mul F.fills_int_mul F.slot_int_rmul repeat_list F.slot_int_index.lookup
  (Q9 F.slot_int_rmul (UW s k t) F.entry_int_rmul (F.args_int_rmul_2 _ _) (int___rmul___int_list k t l b.toArray n)
   #[e,rfl,#[_,e,rfl],Q9 F.slot_list_mul #[_,e,rfl] F.entry_list_mul (F.args_list_mul_2 _ _) (Tv l b.toArray n k t f d c) #[e,?_]])
 rw[i];show#[.ref _,_,I.lnew (t':=s.toks) (r.rep k.toNat) (by rw[Cv,PJ];show hz),rfl,q _ I.fresh]
end
section
variable{X:Cx}{J:Lf (Lv×Nr)}{Y:St}{H:Hp}{s:Lm}{a:Lv}{y v:V}{u r:Lj}{o:Ln V}{A:Ms}{E:Lj->Lm->Prop}
def Inv.big (I:Inv X J Y H s):sysModules<⇑s.heap.objs:=by
 have h:mainGlobals<⇑s.heap.objs:=(I.mod.glob.keeps I.bk).lt;show Np #v[] h
def oU {h':MD}{t':Ll}{ob:HO}(I:Inv X J Y H s)(g:Hd (H a))(hs:NN a s.heap h')(f:∃q,h'.get? a=ba q)(c:ObjOk X.prog X.w (bE H a ob) h' a ob) :
  Inv X J Y (bE H a ob) {s with heap:=h',toks:=t'}:=
 I.write (x:=a) (e:=a) g (.inl rfl) (λb q d z=>(hs.2 b d).trans z) f c
end
noncomputable abbrev VV:Lf (V×V)->Lf (Lj×Lj)->Prop:=RM λp q=>RelV p.1 q.1/\RelV p.2 q.2
structure M2 (X:Cx)(o:L6)(m:LW)(apos:Oy)(e f:L6)(cpos:Oy):Prop where
 base:attributeBase o m X.env (eval o X.env)=eval o X.env
 few:((backTo cpos (starEach [e,f] X.env)).all (λx=>!x.1)&&(backToKw cpos (keywordEach [] X.env)).all (λx=>x.1.isSome)
  && decide (([e,f]:Lf L6).length+([]:Lf SJ).length+(if ([]:Lf SJ).isEmpty then 0 else 1)<30))=true
 line:(apos.endLine==cpos.line)=true
 trees:backTo cpos (starEach [e,f] X.env)=[(false,eval e X.env),(false,eval f X.env)]
end L2
namespace Att
open PySem PySem.W PySem.Calls PyProof.Rows
def kX {P:Ti}{h:MD}:∀(ns:Lf LC) (vs:Lf Lj),WellAll P h vs (ns.map WData.int)->TR vs ns:=by
 intro ns
 induction ns with
 |nil=>
  intro vs w;rw[VG]at w;cases w;show .nil
 |cons n ns ih=>
  intro vs w;rw[Mj]at w;cases w with
  |cons a b=>
   cases a;show .cons _ _ (ih _ b)
def wW {l:OpenLaw}{n:Ll}(s:l.most=ba n){P:Ti}{h:MD}{args:Lf WData}{vals:Lf Lj}
  (b:l.row.toRowW.claim.pre args=true) (j:WellAll P h vals args) :
  ∃a vs ns,vals=[Mr a]/\args=[WData.list (ns.map WData.int)]/\h.get? a=ba {cls:=.type "list",data:=.seq vs.toArray}/\TR vs ns/\↥ns<=n:=by
 have i:WShape.hasAll [] args [.list .int]=true:=(pre_splitW b).1;have k:l.pre.holds [] {args:=args}=true:=(pre_splitW b).2;obtain⟨d,r,rfl,m,o⟩:=hasAllW_cons i;obtain rfl:=hasAllW_nil o;obtain⟨xs,rfl,p⟩:=hasW_list m;obtain⟨ns,rfl⟩:=items_int p;have e:↥ns<=n:=by
  unfold OpenLaw.pre at k;have f:(WTm.not (.lt (.lit (.int (n:LC))) (.len (.arg 0)))).holds [] {args:=[.list (ns.map .int)]}=true:=by
   have f:=(holds_andW k).1;rw[s]at f;show f
  have g:=condW_of f (w_not (w_lt w_lit (w_len_list (w_arg rfl))));rw[Lh]at g;show Ui λq=>?_
  have u:(n:LC)<((↥ns:Ll):LC):=∅
  first
   |(rw[Nc u]at g;show absurd g #v[])
   |(simp at g;omega)
 cases j with
 |cons w w2=>
  cases w2;cases w with
  |list t c=>show#[_,_,ns,rfl,rfl,t,kX ns _ c,e]
def wX (l:OpenLaw)(args:Lf WData):l.row.toRowW.claim.post args (.bool true) args=true:=
 postW_of (r:=l.row.toRowW) (X:=(true==true))
  (show WShape.has [] (.bool true) .bool=true by first|rfl|decide|simp[WShape.has,WShape.arms,WShape.armsAll])
  (show(WTm.eq .res (.lit (.bool true))).value [] {args:=args,res:=ba (.bool true),after:=args}=ba (.bool (true==true))from w_eq_bool (w_res rfl) w_lit) rfl
def attach_call {l:OpenLaw}{n:Ll}{q:Mn}{loose:Lf LW}{XP:(LW->Ln Lj)->MD->Prop}{YP:MB->MD->Prop}{d:DefRec}
  (H:l.most=ba n) (p:d.params.defaults=[])
  (call:∀(w:MB) (s₀ b:Lm) (mg u:LW->Ln Lj) (e:Lv) (o:Nr) (pm j doc:Lj) (a:Lv) (vs:Lf Lj) (ns:Lf LC),
   Ground q loose [] XP w s₀ mg u b.heap->YP w b.heap->
   b.heap.get? e=ba o->o.data=.func (docDef d.name d.params d.body d.scope pm j doc)->b.heap.CodeRec j d.name->mg d.name=ba (.ref e)->
   b.heap.get? a=ba {cls:=.type "list",data:=.seq vs.toArray}->TR vs ns->↥ns<=n->b.gens=#[]->
   codeAny (model l.prog w) callerA (.call (.ref e) #[[.ref a],[]]) (λr k=>r=.ok (.ret (.bool true))/\OldK b.heap k.heap/\k.os=b.os/\Ru k.gens) b) :
  WalkO q loose XP YP l.row.toRowW d [] (λf vs=>tx f vs):=by
 intro w s₀ b mg u G Yx e o pm j doc y kV I hd m v s C args vals as i x L t D;obtain rfl:y=.none:=Dflts.none v p;obtain rfl:kV=.none:=Dflts.noKw v;obtain⟨a,vs,ns,rfl,rfl,h,c,g⟩:=wW H i t;show enter_call (Qf (call w s₀ b mg u e o pm j doc a vs ns G Yx I (fd_plain hd) m s h c g C) λr k J=>?_)
 obtain⟨rfl,z,A,B⟩:=J;show#[.inl #[.bool true,.bool true,[],rfl,λ_=>rfl,.bool true,wX l _,λ_=>#[Wt,λ_ E=>(nomatch E)]],z,A,B]
end Att
namespace L2
open PySem PySem.Spec PyProof.Rows
def ny:∀{vs:Lf Lj}{ns:Lf LC},TR vs ns->Vals (ns.map V.int) vs
 |_,_,.nil=>.nil
 |_,_,.cons n t h=>.cons #[t,rfl] (ny h)
abbrev yO (H:Hp):Prop:=∀b,H b=gV\/∃o xs,H b=ba (.frz o (.lst xs))
def yP {P:Mn}{w:MB}{K:LF}{mg R:LW->Ln Lj}{CX:yE}{k:Ll}{M a:Lv}{W:OA}{x:LW}{sp:Sp}{c:Lm}{vs:Lf Lj}{ns:Lf LC}
  (T:K.In c.heap) (C:c.heap.Ns mainGlobals mg) (g:c.heap.Ns builtinsNs R) (O:∀x:LW,x≠"__name__"->R x=bootBuiltins x) (B:c.heap.NoLimit) (hg:c.gens=#[])
  (J:c.heap.get? a=ba {cls:=.type "list",data:=.seq vs.toArray}) (hi:TR vs ns) (hl:↥ns<=sizeLine) (hr:Room k callerA)
  (F:∀base:MD,K.In base->base.Ns mainGlobals mg->FnOk P w K mg base CX k M W [x] sp) (p:∀(s:Lm) (u:Lj),TF s W #[[u],[]] [(x,u)])
  (Q:∀H:Hp,yO H->SqL K H a (ns.map V.int)->sp [.ref a] H (λv _=>v=.bl true) λ_ _ _=>Nb)
  (N:∀H e i,CX [] H c (λ_ _ _=>Nb) e i->Nb) :
  codeAny (model P w) callerA (.call (.ref M) #[[.ref a],[]]) (λr i=>r=.ok (.ret (.bool true))/\OldK c.heap i.heap/\i.os=c.os/\Ru i.gens) c:=by
 have Z:=ny hi;have G:=↥hi;have l:∀H:Hp,yO H->SqL K H a (ns.map V.int)->HOk P w H c.heap->(∀b,H b≠gV->b=a)->(H a≠gV->K.lookup a=gV)->
   codeAny (model P w) callerA (.call (.ref M) #[[.ref a],[]]) (λr i=>r=.ok (.ret (.bool true))/\OldK c.heap i.heap/\i.os=c.os/\Ru i.gens) c:=by
  intro H Y hS D X hK;have f:∀{b:Lv}{o:Nr},c.heap.get? b=ba o->H b=gV->(oK c.heap H).get? b=ba o:=λe n=>yr e n
  have S:∀{b:Lv}{o:Nr}{es:LY Oj}{y:Ll},c.heap.get? b=ba o->o.data=.dict es y->H b=gV:=λ{b o es y} e d=>by
   cases q:H b with
   |none=>rfl
   |some u=>
    have L:b=a:=X b (by rw[q];simp)
    subst L;rw[J]at e;cases e
    have d':Data.seq vs.toArray _=Data.dict es y:=d;cases d'
  have j:∀{b:Lv}{m:LW->Ln Lj},c.heap.Ns b m->(oK c.heap H).Ns b m:=λ{b m} #[o,es,y,e,d,r]=>#[o,es,y,f e (S e d),d,r]
  have A:K.In (oK c.heap H):=λb o e=>f (T b o e) (by
   cases q:H b with
   |none=>rfl
   |some u=>
    have L:b=a:=X b (by rw[q];simp)
    subst L;rw[hK (by rw[q];simp)]at e;cases e)
  have hM:Mod K mg (oK c.heap H):=#[A,j C,#[R,j g,O],let ⟨mc,h1,h2⟩:=B;#[mc,j h1,h2]]
  have e0:Env0 P w K mg (oK c.heap H) callerA [] c H:=#[rfl,hM,λb o e=>B4 e,Nat.le_of_eq (wy _ _),trivial,λb g=>absurd (show b∈([]:Lf Lv)from g) (by simp),D,.of_eq hg]
  show Qf ((F _ A (j C)).run callerA [] c H #[[.ref a],[]] [.ref a] [.ref a] _ _ hr e0 (p c (.ref a)) #v[rfl] (Q H Y hS)) λr i h=>?_
  cases r with
  |error e=>show(N H e i h).elim
  |ok fl=>
   cases fl with
   |next=>show Nb.elim h
   |brk=>show Nb.elim h
   |cont=>show Nb.elim h
   |ret u=>
    obtain⟨v,H',os,t,un,E,r',q⟩:=h;have q':v=.bl true:=q;subst q';obtain rfl:u=Pz true:=r';show#[rfl,OldK.of_keep λb o e=>?_,os,t]
    cases q:H b with
    |none=>show un.keep b o e q (by intro z;show absurd (show b∈([]:Lf Lv)from z) (by simp)) (by simp)
    |some u=>
     rcases Y b with z|⟨ob,xs,z⟩
     ·rw[q]at z;cases z
     ·have z2:=un.frzs b ob _ z;obtain⟨U,_⟩:=D b _ z;obtain⟨e2,_⟩:=E b _ z2;rw[e]at U;cases U
      show e2
 cases hk:K.lookup a with
 |some o=>
  have e:=T a o hk;rw[J]at e;cases e;show l (λ_=>gV) (λ_=>.inl rfl) (.inr #[_,vs.toArray,_,hk,rfl,rfl,rfl,by rw[LM,G];show hl,by simpa using Z]) (λb u z=>by have I:(gV:Ln HO)=ba u:=z;cases I) (λb z=>absurd rfl z) λz=>absurd rfl z
 |none=>
  show l (λb=>if b=a then ba (.frz {cls:=.type "list",data:=.seq vs.toArray} (.lst (ns.map V.int)))else gV) (λb=>?_) (.inl (.inr #[{cls:=.type "list",data:=.seq vs.toArray},LU rfl])) (λb u z=>?_) (λb z=>?_) λ_=>hk
  ·by_cases g:b=a
   ·show .inr #[_,_,LU g]
   ·show .inl (L1 g)
  ·by_cases g:b=a
   ·have I:=(LU g).symm.trans z;cases I;subst g;show#[J,by rw[Lh];show hl,vs,_,Z,J]
   ·have I:=(L1 g).symm.trans z;cases I
  ·by_cases g:b=a
   ·show g
   ·show absurd (L1 g) z
def Cw {l:R3}{n k:Ll}{q:Mn}{loose:Lf LW}{XP:(LW->Ln Lj)->MD->Prop}{YP:MB->MD->Prop}{d:DefRec}{K:Ti->LF}{CX:MB->yE}{sp:MB->Sp}{x:LW}
  (N:l.most=ba n) (y:n<=sizeLine) (r:d.params.defaults=[]) (O:Room k callerA)
  (I:∀(w:MB) (h:MD),YP w h->(K w.params).In h)
  (F:∀(w:MB) (mg:LW->Ln Lj) (j:Lv) (h:MD),(K w.params).In h->h.Ns mainGlobals mg->mg d.name=ba (.ref j)->
   ∃m:OA,(∀(s:Lm) (u:Lj),TF s m #[[u],[]] [(x,u)])/\
    ∀base:MD,(K w.params).In base->base.Ns mainGlobals mg->FnOk l.prog w (K w.params) mg base (CX w) k j m [x] (sp w))
  (z:∀(w:MB) (H:Hp) (a:Lv) (ns:Lf LC),↥ns<=n->yO H->SqL (K w.params) H a (ns.map V.int)->sp w [.ref a] H (λv _=>v=.bl true) λ_ _ _=>Nb)
  (p:∀(w:MB) (H:Hp) (s:Lm) (e:Lj) (A:Lm),CX w [] H s (λ_ _ _=>Nb) e A->Nb) :
  Vl q loose XP YP l.row.toRowW d [] (λf vs=>tx f vs):=by
 show Att.attach_call N r λw s₀ i mg R j o pm P doc a vs ns G Yx Q hd L t g c b M=>?_
 have B:=I w _ Yx;obtain⟨m,J,C⟩:=F w mg j _ B G.T.g t;show yP B G.T.g G.T.b G.T.builtins G.T.nolimit M g c (Lw b y) O C J (λH D E=>z w H a ns b D E) λH e A=>p w H i e A
abbrev d0 (s:O0):Arguments:=match s with
 |.FunctionDef _ a _ _ _ _ _ _ _ _=>a
 |_=>{posonlyargs:=[],args:=[],vararg:=gV,kwonlyargs:=[],kw_defaults:=[],kwarg:=gV,defaults:=[]}
abbrev cJ (s:O0):Lf O0:=match s with
 |.FunctionDef _ _ b _ _ _ _ _ _ _=>b
 |_=>[]
abbrev aV (s:O0):Pu:=match s with
 |.FunctionDef _ _ _ _ _ _ sc _ _ _=>sc
 |_=>{kind:=.function,names:=[],isGenerator:=false,isCoroutine:=false}
noncomputable abbrev yn:yE:=λ_ _ _ _ _ _=>Nb
noncomputable abbrev E0:XK:=λ_ _ _=>Nb
def Eg {X:Cx}:oN yn X E0:=λ_ _ _ _ _ _ _ h=>h.elim
structure Fun (K:LF)(x qual:LW)(st:O0)(f:Lv)(fd:OA):Prop where
 ex:∃(oc:Lj) (od:Ln Lv) (kV doc pm:Lj) (an:Ln Lv) (cdv ct:Lj) (osl:LY (Ln Lj)),
  fd=Oc x qual (d0 st) (cJ st) (aV st) .none kV doc pm an cdv ct/\K.lookup f=ba #[oc,od,.func fd,osl]/\O6 K cdv qual=true
 kp:Nm K (.ref f)=true
section
variable{P:Mn}{w:MB}{K:LF}{mg:LW->Ln Lj}{base:MD}
def Fun.ok {x a:LW}{st:O0}{f:Lv}{e:OA}{N ps:Lf LW}{k:Ll}{sp:Sp}(F:Fun K x a st f e)(S:FnScope N ps (aV st))(len:∀vs H Q E,sp vs H Q E->↥vs=↥ps)
  (b:∀(cdv:Lj) (A:Ms) (outer:Lf Tz) (s:Lm) (H:Hp) (vs:Lf V) (Q:VK) (E:XK),Room k (A.deeper (envOfC a (aV st) ⇑s.heap.objs f cdv))->sp vs H Q E->
   ∃t,PSs (sT yn P w K mg base N a (aV st) f cdv A outer s H E).nox (cJ st) t/\t {nx:=λ_ g=>Q .non g,rt:=Q} (gL N vs) H):FnOk P w K mg base yn (k+1) f e ps sp:=by
 obtain⟨oc,od,kV,doc,pm,an,cdv,ct,osl,rfl,j,c⟩:=F.ex;show HD j c S len λA outer s H vs Q E i d=>?_
 obtain⟨t,h,q⟩:=b cdv A outer s H vs Q E i d;show#[t,h.nox,q]
def Fun.binds {x a:LW}{st:O0}{f:Lv}{b:OA}{ps:Lf LW}(F:Fun K x a st f b)
  (h:∀(kV doc pm:Lj) (an:Ln Lv) (cdv ct:Lj) (us:Lf Lj),↥us=↥ps->bindArgs (Oc x a (d0 st) (cJ st) (aV st) .none kV doc pm an cdv ct) #[us,[]]=pure (ps.zip us)):Binds K b ps []:=by
 obtain⟨oc,od,kV,doc,pm,an,cdv,ct,osl,rfl,d,c⟩:=F.ex;show .all (h kV doc pm an cdv ct)
def yQ {x a:LW}{st:O0}{f:Lv}{oc:Lj}{od an:Ln Lv}{osl:LY (Ln Lj)}{kV doc pm cdv ct:Lj}(l:K.lookup f=ba #[oc,od,.func (Oc x a (d0 st) (cJ st) (aV st) .none kV doc pm an cdv ct),osl])
  (c:O6 K cdv a=true) (k:Nm K (.ref f)=true):Fun K x a st f (Oc x a (d0 st) (cJ st) (aV st) .none kV doc pm an cdv ct):=#[#[oc,od,kV,doc,pm,an,cdv,ct,osl,rfl,l,c],k]
end
section
variable{X:Cx}
def pv (i:Ll){x:LW}{pos:Oy}(b:X.N[i]?=ba x:=by rfl)(c:Jv X.env.scope x)(hd:(x==("__debug__": LW))=false:=by decide)
  (a:(x==("__classdict__": LW))=false:=by decide):PE X (.Name x pos) (EQ i):=yt b c hd a
end
end L2
open PySem PySem.W PyProof.Rows L2
set_option maxHeartbeats 0
namespace Mi
section
abbrev nz (i:Ll):O0:=PySem.Challenge.pw_layworld_k68_whole_worlds_by_wishes.main.body.getD i (.Pass #[0,0,0,0])
abbrev pw:Mn:=QI
abbrev ge (P:Ti)(n:LW)(t:Ll)(v:Lj):Oj:=#[PyData.keyHash P n,.str n t,v]
abbrev kd (a:Ll)(es:Lf Oj)(n:Ll):Lv×Nr:=(a,#[.type "dict",gV,.dict es.toArray n,#[]])
abbrev kc (a:Ll)(vs:Lf Lj):Lv×Nr:=(a,#[.type "code",gV,.fields vs.toArray,#[]])
abbrev kf (a:Ll)(st:O0)(n:LW)(pm b:Lj):Lv×Nr:=(a,#[.type "function",gV,.func (Oc n n (d0 st) (cJ st) (aV st) .none .none .none pm gV b .none),#[]])
abbrev Ke (i:Ll):Lj:=if i<=1 then(.str "layworld.worlds" 187)else if i<=6 then(.str "layworld.parts" 199)else if i<=8 then(.str "layworld.likes" 225)else if i<=17 then(.str "layworld.threes" 233)else if i<=20 then(.str "layworld.counts" 307)else(.str "law_layworld_k68_whole_worlds_by_wishes" 329)
abbrev kx (a:Ll)(b:L7)(i:Ll)(s:LW)(t:Ll)(l p:LC)(m:Ll)(R:LF):LF:=kc a [.str s t,.str s (t+1),.str "/claim/cut.py" (t+2),.int l 0,.int p 0,.int 0 0,.int 0 0,.int 3 0,.ref (if b then a-5 else a-3),.bool true,.int 181 0,.ref (if b then a-4 else a-2),.none,if b then .ref (a-3)else .none,if b then .ref (a-2)else .none,.ref (a-1),.int m 0,.int l 0,.str "/claim/cut.py" (m+1)]::kf (a+1) (nz i) s (Ke i) (.ref a)::R
abbrev K0 (P:Ti):LF:=kd 3 [ge P "__name__" 165 (.str "law_layworld_k68_whole_worlds_by_wishes" 329),ge P "__doc__" 166 .none,ge P "__package__" 167 .none,ge P "__loader__" 168 (.builtin "__main__.__loader__#opaque"),ge P "__spec__" 169 .none,ge P "__annotations__" 170 (.ref 6),ge P "__builtins__" 171 (.ref 4),ge P "__file__" 173 (.str "/claim/cut.py" 172),ge P "__cached__" 174 .none,ge P "way" 198 (.ref 21),ge P "part" 206 (.ref 26),ge P "point_over" 212 (.ref 31),ge P "least_form" 218 (.ref 36),ge P "longer_orders" 224 (.ref 41),ge P "likenesses" 232 (.ref 46),ge P "barred_threes" 245 (.ref 53),ge P "three_at" 257 (.ref 60),ge P "first_barred" 265 (.ref 67),ge P "first_three" 276 (.ref 74),ge P "first_bar" 286 (.ref 81),ge P "wishes" 294 (.ref 88),ge P "wishes_over" 300 (.ref 93),ge P "longer_wishes" 306 (.ref 98),ge P "unlike_worlds" 322 (.ref 105),ge P "told_worlds" 328 (.ref 110),ge P "_law_flow" 337 (.ref 117),ge P "_law_pick" 347 (.ref 124),ge P "_law_letters" 353 (.ref 129),ge P "_law_name" 362 (.ref 136),ge P "_law_names" 375 (.ref 143),ge P "_law_between" 385 (.ref 150),ge P "_law_part" 391 (.ref 155),ge P "_law_turns" 397 (.ref 162),ge P "_law_figure" 403 (.ref 167),ge P "_law_backs" 412 (.ref 174),ge P "_law_rule_of" 418 (.ref 179),ge P "_law_free_three" 424 (.ref 184),ge P "_law_sizes" 432 (.ref 191),ge P "_law_any_rule" 444 (.ref 198),ge P "_law_laying_kind" 452 (.ref 205),ge P "_law_breaks" 468 (.ref 212),ge P "_law_numbered" 474 (.ref 217),ge P "_law_laying_rule" 495 (.ref 224),ge P "_law_rising" 501 (.ref 229),ge P "_law_free_rule" 507 (.ref 234),ge P "_law_one_way_rule" 513 (.ref 239),ge P "_law_alike" 519 (.ref 244),ge P "_law_digits" 525 (.ref 249),ge P "_law_worlds" 531 (.ref 254),ge P "_law_figures" 537 (.ref 259),ge P "_law_full_rule" 543 (.ref 264),ge P "_law_orders_of" 553 (.ref 271),ge P "law" 559 (.ref 276)] 53::(kx 20 true 1 "way" 189 2 4 196
 (kx 25 false 3 "part" 201 7 3 204
 (kx 30 false 4 "point_over" 207 9 4 210
 (kx 35 false 5 "least_form" 213 11 2 216
 (kx 40 false 6 "longer_orders" 219 21 2 222
 (kx 45 false 8 "likenesses" 227 27 3 230
 (kx 52 true 10 "barred_threes" 235 34 1 243
 (kx 59 true 11 "three_at" 246 43 4 255
 (kx 66 true 12 "first_barred" 258 47 2 263
 (kx 73 true 13 "first_three" 266 49 2 274
 (kx 80 true 14 "first_bar" 277 56 2 284
 (kx 87 true 15 "wishes" 287 62 2 292
 (kx 92 false 16 "wishes_over" 295 64 3 298
 (kx 97 false 17 "longer_wishes" 301 72 2 304
 (kx 104 true 19 "unlike_worlds" 309 78 2 320
 (kx 109 false 20 "told_worlds" 323 88 2 326
 (kx 116 true 22 "_law_flow" 331 94 1 335
 (kx 123 true 23 "_law_pick" 338 96 2 345
 (kx 128 false 24 "_law_letters" 348 111 2 351
 (kx 135 true 25 "_law_name" 354 113 2 360
 (kx 142 true 26 "_law_names" 363 121 2 373
 (kx 149 true 27 "_law_between" 376 134 4 383
 (kx 154 false 28 "_law_part" 386 138 3 389
 (kx 161 true 29 "_law_turns" 392 144 0 395
 (kx 166 false 30 "_law_figure" 398 146 2 401
 (kx 173 true 31 "_law_backs" 404 148 2 410
 (kx 178 false 32 "_law_rule_of" 413 151 4 416
 (kx 183 false 33 "_law_free_three" 419 155 3 422
 (kx 190 true 34 "_law_sizes" 425 160 1 430
 (kx 197 true 35 "_law_any_rule" 433 163 1 442
 (kx 204 true 36 "_law_laying_kind" 445 170 1 450
 (kx 211 true 37 "_law_breaks" 453 179 5 466
 (kx 216 false 38 "_law_numbered" 469 187 3 472
 (kx 223 true 39 "_law_laying_rule" 475 202 1 493
 (kx 228 false 40 "_law_rising" 496 222 1 499
 (kx 233 false 41 "_law_free_rule" 502 228 1 505
 (kx 238 false 42 "_law_one_way_rule" 508 241 1 511
 (kx 243 false 43 "_law_alike" 514 245 2 517
 (kx 248 false 44 "_law_digits" 520 257 2 523
 (kx 253 false 45 "_law_worlds" 526 262 2 529
 (kx 258 false 46 "_law_figures" 532 270 1 535
 (kx 263 false 47 "_law_full_rule" 538 272 1 541
 (kx 270 true 48 "_law_orders_of" 544 281 2 551
 (kx 275 false 49 "law" 554 286 1 557 []))))))))))))))))))))))))))))))))))))))))))))
abbrev KQ:Lf Ll:=[3,20,21,25,26,30,31,35,36,40,41,45,46,52,53,59,60,66,67,73,74,80,81,87,88,92,93,97,98,104,105,109,110,116,117,123,124,128,129,135,136,142,143,149,150,154,155,161,162,166,167,173,174,178,179,183,184,190,191,197,198,204,205,211,212,216,217,223,224,228,229,233,234,238,239,243,244,248,249,253,254,258,259,263,264,270,271,275,276]
abbrev vq:Mn:={pw with main:={pw.main with body:=[nz 49]}}
abbrev lo:Lf LW:=[("way": LW),("part": LW),("point_over": LW),("least_form": LW),("longer_orders": LW),("likenesses": LW),("barred_threes": LW),("three_at": LW),("first_barred": LW),("first_three": LW),("first_bar": LW),("wishes": LW),("wishes_over": LW),("longer_wishes": LW),("unlike_worlds": LW),("told_worlds": LW),("_law_flow": LW),("_law_pick": LW),("_law_letters": LW),("_law_name": LW),("_law_names": LW),("_law_between": LW),("_law_part": LW),("_law_turns": LW),("_law_figure": LW),("_law_backs": LW),("_law_rule_of": LW),("_law_free_three": LW),("_law_sizes": LW),("_law_any_rule": LW),("_law_laying_kind": LW),("_law_breaks": LW),("_law_numbered": LW),("_law_laying_rule": LW),("_law_rising": LW),("_law_free_rule": LW),("_law_one_way_rule": LW),("_law_alike": LW),("_law_digits": LW),("_law_worlds": LW),("_law_figures": LW),("_law_full_rule": LW),("_law_orders_of": LW)]
def eK:∀P,KQ=(K0 P).map (·.1):=λ_=>by kernel_rfl
abbrev hk:PySem.W.Hook:=PySem.W.kHook K0 KQ eK
def hl:PySem.W.LeftO pw vq lo (λs=>VH vq [] s&&Vm [] s) hk.obs hk.val 2800:=λw=>by kernel_rfl
def s0:PySem.Challenge.rw_layworld_k68_whole_worlds_by_wishes.row.wellSaid=true:=by kernel_rfl
end
end Mi
namespace Mi
open PySem PySem.Spec PyProof.Rows L2
abbrev eH (t:Mc)(n:Ll):L7:=decide (Mz t.place 0=0)&&(LR n).all λi=>decide (Mz t.place (t.place.getD i 0+1)=i+1)
abbrev fN (w:MB):L7:=w.params.followText "set-order"
inductive W where
 |non|bl (b:L7)|int (i:LC)|str (x:LW)|tup (xs:Lf W)|ref (i:Ll)
inductive T where
 |int (i:LC)|str (x:LW)|tup (xs:Lf T)
mutual
def T.beq:T->T->L7
 |.int i,.int j=>i==j
 |.str x,.str y=>x==y
 |.tup xs,.tup ys=>T.beqs xs ys
 |_,_=>false
def T.beqs:Lf T->Lf T->L7
 |[],[]=>true
 |x::xs,y::ys=>T.beq x y&&T.beqs xs ys
 |_,_=>false
end
mutual
theorem T.beq_iff:∀x y:T,T.beq x y=true↔x=y
 |.int i,.int j=>by simp[T.beq]
 |.str x,.str y=>by simp[T.beq]
 |.tup xs,.tup ys=>by simp[T.beq,T.beqs_iff xs ys]
 |.int _,.str _|.int _,.tup _|.str _,.int _|.str _,.tup _|.tup _,.int _|.tup _,.str _=>by simp[T.beq]
theorem T.beqs_iff:∀xs ys:Lf T,T.beqs xs ys=true↔xs=ys
 |[],[]=>by simp[T.beqs]
 |x::xs,y::ys=>by simp[T.beqs,T.beq_iff x y,T.beqs_iff xs ys]
 |[],_::_|_::_,[]=>by simp[T.beqs]
end
noncomputable instance:Od T:=λx y=>decidable_of_iff (T.beq x y=true) (T.beq_iff x y)
mutual
def T.w:T->W
 |.int i=>.int i
 |.str x=>.str x
 |.tup xs=>.tup (T.ws xs)
def T.ws:Lf T->Lf W
 |[]=>[]
 |x::xs=>T.w x::T.ws xs
end
mutual
def W.t:W->Ln T
 |.int i=>ba (.int i)
 |.str x=>ba (.str x)
 |.tup xs=>(W.ts xs).map .tup
 |_=>gV
def W.ts:Lf W->Ln (Lf T)
 |[]=>ba []
 |x::xs=>match W.t x,W.ts xs with
  |some y,ba ys=>ba (y::ys)
  |_,_=>gV
end
mutual
theorem W.t_w:∀{w:W}{k:T},W.t w=ba k->k.w=w
 |.int i,_,h=>by cases h;rfl
 |.str x,_,h=>by cases h;rfl
 |.tup xs,_,h=>by
  simp only[W.t,Lk]at h;obtain⟨ks,h1,h2⟩:=h;subst h2;simp only[T.w,W.ts_w h1]
 |.non,_,h|.bl _,_,h|.ref _,_,h=>by cases h
theorem W.ts_w:∀{ws:Lf W}{ks:Lf T},W.ts ws=ba ks->T.ws ks=ws
 |[],_,h=>by cases h;rfl
 |w::ws,_,h=>by
  simp only[W.ts]at h;split at h
  ·rename_i y ys h1 h2;cases h;simp only[T.ws,W.t_w h1,W.ts_w h2]
  ·cases h
end
mutual
theorem T.w_t:∀k:T,W.t k.w=ba k
 |.int _=>rfl
 |.str _=>rfl
 |.tup xs=>by simp only[T.w,W.t,T.ws_ts xs,MA]
theorem T.ws_ts:∀ks:Lf T,W.ts (T.ws ks)=ba ks
 |[]=>rfl
 |x::xs=>by simp only[T.ws,W.ts,T.w_t x,T.ws_ts xs]
end
mutual
def T.depth:T->Ll
 |.tup xs=>T.depths xs+1
 |_=>0
def T.depths:Lf T->Ll
 |[]=>0
 |x::xs=>max (T.depth x) (T.depths xs)
end
mutual
def T.draws:T->Ll
 |.tup xs=>T.drawss xs+1
 |_=>1
def T.drawss:Lf T->Ll
 |[]=>0
 |x::xs=>T.draws x+T.drawss xs
end
mutual
def fj (wd:MB):T->LC
 |.int i=>hashInt i
 |.str x=>hashStr wd x
 |.tup xs=>reduceHash (PP (iU wd xs))
def iU (wd:MB):Lf T->Lf LC
 |[]=>[]
 |x::xs=>fj wd x::iU wd xs
end
abbrev T.isTup:T->L7
 |.tup _=>true
 |_=>false
abbrev aA:Ll:=6
inductive O where
 |lst (xs:Lf W)
 |fro (xs:Lf W)
 |stt (ks:Lf T)
 |rng (lo hi:LC)
 |dic (U:Lf (T×W))
 |frd (U:Lf (T×W))
noncomputable abbrev aa:=Lf O
noncomputable abbrev Fm:=Lf (Ln W)
section
variable (K:LF) (A:Lf Lv) (H:Hp)
mutual
inductive Rel:W->V->Prop
 |non:Rel .non .non
 |bl {b:L7}:Rel (.bl b) (.bl b)
 |int {i:LC}:Rel (.int i) (.int i)
 |str {x:LW}:Rel (.str x) (.str x)
 |tup {ws:Lf W}{a:Lv}{vs:Lf V}:SqT K H a vs->RelL ws vs->Rel (.tup ws) (.ref a)
 |ref {i:Ll}{a:Lv}:A[i]?=ba a->Rel (.ref i) (.ref a)
inductive RelL:Lf W->Lf V->Prop
 |nil:RelL [] []
 |cons {w:W}{v:V}{ws:Lf W}{vs:Lf V}:Rel w v->RelL ws vs->RelL (w::ws) (v::vs)
end
end
section
variable{K:LF}{A A' A'':Lf Lv}{H H' H'':Hp}
structure Ext (K:LF)(A:Lf Lv)(H:Hp)(A':Lf Lv)(H':Hp):Prop where
 ad:∀(i:Ll) (a:Lv),A[i]?=ba a->A'[i]?=ba a
 tp:∀(a:Lv) (vs:Lf V),SqT K H a vs->SqT K H' a vs
 fz:∀(a:Lv) (o:Nr) (u:HO),H a=ba (.frz o u)->H' a=ba (.frz o u)
def Ext.refl:Ext K A H A H:=#[λ_ _ h=>h,λ_ _ h=>h,λ_ _ _ h=>h]
def Ext.trans (e:Ext K A H A' H')(f:Ext K A' H' A'' H''):Ext K A H A'' H'':=#[λi a h=>f.ad i a (e.ad i a h),λa vs h=>f.tp a vs (e.tp a vs h),λa o u h=>f.fz a o u (e.fz a o u h)]
mutual
theorem Rel.mono (e:Ext K A H A' H'):∀{w:W}{v:V},Rel K A H w v->Rel K A' H' w v
 |_,_,.non=>.non
 |_,_,.bl=>.bl
 |_,_,.int=>.int
 |_,_,.str=>.str
 |_,_,.tup h r=>.tup (e.tp _ _ h) (RelL.mono e r)
 |_,_,.ref h=>.ref (e.ad _ _ h)
theorem RelL.mono (e:Ext K A H A' H'):∀{ws:Lf W}{vs:Lf V},RelL K A H ws vs->RelL K A' H' ws vs
 |_,_,.nil=>.nil
 |_,_,.cons r t=>.cons (Rel.mono e r) (RelL.mono e t)
end
def RelL.length:∀{ws:Lf W}{vs:Lf V},RelL K A H ws vs->↥ws=↥vs
 |_,_,.nil=>rfl
 |_,_,.cons _ t=>by simp[RelL.length t]
def RelL.get:∀{ws:Lf W}{vs:Lf V}{i:Ll}{w:W},RelL K A H ws vs->ws[i]?=ba w->∃v,vs[i]?=ba v/\Rel K A H w v
 |_,_,_,_,.nil,e=>by simp at e
 |_,_,0,_,.cons r _,e=>by simp at e;subst e;show#[_,rfl,r]
 |_,_,i+1,w,.cons _ t,e=>by
  obtain⟨u,a,b⟩:=RelL.get (i:=i) (w:=w) t (by simpa using e)
  show#[u,by simpa using a,b]
def RelL.append:∀{xs ys:Lf W}{us ws:Lf V},RelL K A H xs us->RelL K A H ys ws->RelL K A H (xs++ys) (us++ws)
 |_,_,_,_,.nil,s=>s
 |_,_,_,_,.cons r t,s=>.cons r (RelL.append t s)
def RelL.take:∀{xs:Lf W}{us:Lf V} (n:Ll),RelL K A H xs us->RelL K A H (xs.take n) (us.take n)
 |_,_,0,_=>.nil
 |_,_,_+1,.nil=>.nil
 |_,_,n+1,.cons r t=>.cons r (RelL.take n t)
def RelL.drop:∀{xs:Lf W}{us:Lf V} (n:Ll),RelL K A H xs us->RelL K A H (xs.drop n) (us.drop n)
 |_,_,0,r=>r
 |_,_,_+1,.nil=>.nil
 |_,_,n+1,.cons _ t=>RelL.drop n t
def RelL.set {x:W}{u:V}(r:Rel K A H x u):∀{xs:Lf W}{us:Lf V} (i:Ll),RelL K A H xs us->RelL K A H (xs.set i x) (us.set i u)
 |_,_,_,.nil=>.nil
 |_,_,0,.cons _ t=>.cons r t
 |_,_,i+1,.cons q t=>.cons q (RelL.set r i t)
def RelL.rep {xs:Lf W}{us:Lf V}(h:RelL K A H xs us):∀k:Ll,RelL K A H (Mu k xs).flatten (Mu k us).flatten
 |0=>.nil
 |k+1=>by
  rw[NG,NG,OO,OO];show RelL.append h (RelL.rep h k)
def RelL.eraseIdx:∀{xs:Lf W}{us:Lf V} (i:Ll),RelL K A H xs us->RelL K A H (xs.eraseIdx i) (us.eraseIdx i)
 |_,_,_,.nil=>.nil
 |_,_,0,.cons _ t=>t
 |_,_,i+1,.cons r t=>.cons r (RelL.eraseIdx i t)
abbrev FroL (K:LF)(H:Hp)(a:Lv)(vs:Lf V):Prop:=
 (∃o,H a=ba (.frz o (.lst vs)))\/
  ∃(o:Nr) (its:LY Lj) (n:Ll),K.lookup a=ba o/\o.cls=.type "list"/\o.dict=gV/\o.data=.seq its n/\⇑its<=sizeLine/\Vals vs its.toList
def FroL.sq {a:Lv}{vs:Lf V}(h:FroL K H a vs):SqL K H a vs:=by
 rcases h with⟨o,h⟩|h
 ·show .inl (.inr #[o,h])
 ·show .inr h
abbrev yR (a:MB)(x:T×Lv×Lj):Oj:=#[fj a x.1,.ref x.2.1,x.2.2]
abbrev DicAt (c:MB)(a:Lv)(xs:Lf (T×Lv×Lj))(h:MD):Prop:=
 ↥xs<=sizeLine/\(a==sysModules)=false/\(xs.map (·.1)).Nodup/\∃o es b,h.get? a=ba o/\o.ExactDict/\o.data=.dict es b/\es.toList=xs.map (yR c)
abbrev eJ (b:MB)(a:Lv)(xs:Lf (T×Lv×Lj)):HO:=.ext (DicAt b a xs)
abbrev KRel (K:LF)(A:Lf Lv)(H:Hp):Lf (T×W)->Lf (T×Lv×Lj)->Prop:=
 RM λ(p:T×W) (q:T×Lv×Lj)=>p.1=q.1/\p.1.isTup=true/\p.1.depth<=aA/\Rel K A H p.1.w (.ref q.2.1)/\∃v,Rel K A H p.2 v/\RelV v q.2.2
def KRel.mono (e:Ext K A H A' H'){U:Lf (T×W)}{xs:Lf (T×Lv×Lj)}(h:KRel K A H U xs):KRel K A' H' U xs:=
 Paired.mapP h λ_ _ #[a,h2,h3,h4,v,h5,h6]=>#[a,h2,h3,h4.mono e,v,h5.mono e,h6]
variable{wd:MB}
abbrev Cy (wd:MB)(as:Lf Lv)(o:Nr):Prop:=o.ExactSet/\∃es a t,o.data=.set es a t/\⇑es<=sizeLine/\t.fits ⇑es=true/\t.led=(!fN wd)/\(t.plain=true->⇑es=0\/eH t ⇑es=true)/\es.toList.map (·.2)=as.map Mr
abbrev ObjRel (wd:MB)(K:LF)(A:Lf Lv)(H:Hp)(a:Lv):O->Prop
 |.lst ws=>∃vs,H a=ba (.lst vs)/\RelL K A H ws vs
 |.fro ws=>∃vs,FroL K H a vs/\RelL K A H ws vs
 |.stt ks=>∃o φ as,H a=ba (.frz o (.ext φ))/\Cy wd as o/\RelL K A H (T.ws ks) (as.map V.ref)
 |.rng lo hi=>H a=ba (.rng lo hi)
 |.dic U=>∃xs,H a=ba (eJ wd a xs)/\KRel K A H U xs
 |.frd U=>∃o xs,H a=ba (.frz o (eJ wd a xs))/\KRel K A H U xs
abbrev O.mut:O->L7
 |.fro _=>false
 |.stt _=>false
 |.rng _ _=>false
 |.frd _=>false
 |_=>true
structure StoreOk (wd:MB)(K:LF)(A:Lf Lv)(H:Hp)(S:aa):Prop where
 len:↥A=↥S
 nd:∀(i j:Ll) (a:Lv) (o u:O),S[i]?=ba o->o.mut=true->S[j]?=ba u->u.mut=true->A[i]?=ba a->A[j]?=ba a->i=j
 obj:∀(i:Ll) (o:O) (a:Lv),S[i]?=ba o->A[i]?=ba a->ObjRel wd K A H a o
abbrev EnvRel (K:LF)(A:Lf Lv)(H:Hp)(Z:Fm)(Y:L2.St):Prop:=
 ↥Z=↥Y/\∀(i:Ll) (w:W),Z[i]?=ba (ba w)->∃v,Y[i]?=ba (ba v)/\Rel K A H w v
def EnvRel.mono {Z:Fm}{Y:L2.St}(e:Ext K A H A' H')(h:EnvRel K A H Z Y):EnvRel K A' H' Z Y:=
 #[h.1,λi w q=>let ⟨v,a,b⟩:=h.2 i w q;#[v,a,b.mono e]]
def EnvRel.set {Z:Fm}{Y:L2.St}{w:W}{v:V}(h:EnvRel K A H Z Y)(r:Rel K A H w v)(i:Ll):EnvRel K A H (Z.set i (ba w)) (Y.set i (ba v)):=by
 show#[by simp[h.1],λj a q=>?_]
 rw[N3]at q ⊢
 by_cases e:i=j
 ·subst e;rw[LU rfl]at q ⊢
  by_cases hl:i<↥Z
  ·rw[LU hl]at q;rw[LU (h.1▸hl)];cases q;show#[v,rfl,r]
  ·rw[L1 hl]at q;cases q
 ·rw[L1 e]at q ⊢;show h.2 j a q
abbrev Wr (H:Hp)(p:Lv):Prop:=H p=gV\/(∃xs,H p=ba (.lst xs))\/(∃φ,H p=ba (.ext φ))\/∃ks,H p=ba (.dK ks)
def Wr.lst {p:Lv}{xs:Lf V}(h:H p=ba (.lst xs)):Wr H p:=.inr (.inl #[xs,h])
def Wr.ext {p:Lv}{φ:MD->Prop}(h:H p=ba (.ext φ)):Wr H p:=.inr (.inr (.inl #[φ,h]))
def Wr.ne_tup {p a:Lv}{xs:Lf V}(b:Wr H p)(h:H a=ba (.tup xs)):a≠p:=by
 intro e;subst e
 rcases b with q|⟨xs,q⟩|⟨φ,q⟩|⟨ks,q⟩<;>(rw[h]at q;cases q)
def Wr.ne_frz {p a:Lv}{o:Nr}{u:HO}(b:Wr H p)(h:H a=ba (.frz o u)):a≠p:=by
 intro e;subst e
 rcases b with q|⟨xs,q⟩|⟨φ,q⟩|⟨ks,q⟩<;>(rw[h]at q;cases q)
def Wr.ne_rng {p a:Lv}{lo hi:LC}(b:Wr H p)(h:H a=ba (.rng lo hi)):a≠p:=by
 intro e;subst e
 rcases b with q|⟨xs,q⟩|⟨φ,q⟩|⟨ks,q⟩<;>(rw[h]at q;cases q)
def uS {p:Lv}{o:HO}(b:Wr H p){a:Lv}{vs:Lf V}(h:SqT K H a vs):SqT K (bE H p o) a vs:=by
 rcases h with(h|⟨o',h⟩)|h
 ·show .inl (.inl (by rw[aF (b.ne_tup h)];show h))
 ·show .inl (.inr #[o',by rw[aF (b.ne_frz h)];show h])
 ·show .inr h
def yS {p:Lv}{o:HO}(b:Wr H p){a:Lv}{vs:Lf V}(h:FroL K H a vs):FroL K (bE H p o) a vs:=by
 rcases h with⟨o',h⟩|h
 ·show .inl #[o',by rw[aF (b.ne_frz h)];show h]
 ·show .inr h
def cK {p:Lv}{o:HO}(a:Wr H p):Ext K A H A (bE H p o):=#[λ_ _ h=>h,λ_ _ h=>uS a h,λ_ _ _ h=>by rw[aF (a.ne_frz h)];show h]
def dc {p:Lv}{o:HO}(b:H p=gV):Ext K A H (A++[p]) (bE H p o):=
 #[λi a h=>by rw[Mw (LB.mp h).1];show h,λ_ _ h=>uS (.inl b) h,λ_ _ _ h=>by rw[aF (Wr.ne_frz (.inl b) h)];show h]
def ObjRel.keep {p a:Lv}{o:HO}{b:O}(d:Wr H p)(c:b.mut=true->a≠p)(e:Ext K A H A' (bE H p o))(h:ObjRel wd K A H a b):ObjRel wd K A' (bE H p o) a b:=by
 cases b with
 |lst ws=>
  obtain⟨vs,q,r⟩:=h;show#[vs,by rw[aF (c rfl)];show q,r.mono e]
 |fro ws=>
  obtain⟨vs,q,r⟩:=h;show#[vs,yS d q,r.mono e]
 |stt ks=>
  obtain⟨ob,φ,as,q,f,g⟩:=h;show#[ob,φ,as,by rw[aF (d.ne_frz q)];show q,f,g.mono e]
 |rng lo hi=>
  have h:H a=ba (.rng lo hi):=h;change bE H p o a=ba (.rng lo hi);rw[aF (d.ne_rng h)];show h
 |dic U=>
  obtain⟨xs,q,r⟩:=h;show#[xs,by rw[aF (c rfl)];show q,r.mono e]
 |frd U=>
  obtain⟨ob,xs,q,r⟩:=h;show#[ob,xs,by rw[aF (d.ne_frz q)];show q,r.mono e]
def ObjRel.there {a:Lv}{b:O}(h:ObjRel wd K A H a b)(c:b.mut=true):H a≠gV:=by
 cases b with
 |lst ws=>obtain⟨vs,q,r⟩:=h;rw[q];intro z;cases z
 |fro ws=>cases c
 |stt ws=>cases c
 |rng lo hi=>cases c
 |dic U=>obtain⟨vs,q,r⟩:=h;rw[q];intro z;cases z
 |frd ws=>cases c
def ObjRel.wr {a:Lv}{b:O}(h:ObjRel wd K A H a b)(c:b.mut=true):Wr H a:=by
 cases b with
 |lst ws=>obtain⟨vs,q,r⟩:=h;show .lst q
 |fro ws=>cases c
 |stt ws=>cases c
 |rng lo hi=>cases c
 |dic U=>obtain⟨vs,q,r⟩:=h;show .ext q
 |frd ws=>cases c
def StoreOk.lay {S:aa}{p:Lv}{o:HO}(h:StoreOk wd K A H S)(c:H p=gV):StoreOk wd K A (bE H p o) S:=
 #[h.len,h.nd,λi b a e d=>(h.obj i b a e d).keep (.inl c) (λf z=>(h.obj i b a e d).there f (z▸c)) (cK (.inl c))]
def StoreOk.pushO {S:aa}{p:Lv}{n:O}{u:HO}(h:StoreOk wd K A H S)(k:H p=gV)(r:ObjRel wd K (A++[p]) (bE H p u) p n):StoreOk wd K (A++[p]) (bE H p u) (S++[n]):=by
 have ex:Ext K A H (A++[p]) (bE H p u):=dc k;have c:∀{i:Ll}{o:O}{a:Lv},(S++[n])[i]?=ba o->(A++[p])[i]?=ba a->i<↥S->S[i]?=ba o/\A[i]?=ba a:=λ{i o a} e d hl=>by
  rw[Mw hl]at e;rw[Mw (h.len▸hl)]at d;show#[e,d]
 have b:∀{i:Ll}{o:O}{a:Lv},(S++[n])[i]?=ba o->(A++[p])[i]?=ba a->¬ i<↥S->i=↥S/\o=n/\a=p:=λ{i o a} e d hl=>by
  have hi:i=↥S:=by
   have:=(LB.mp e).1;simp at this;omega
  subst hi;simp at e;rw[<- h.len]at d;simp at d;show#[rfl,e.symm,d.symm]
 show#[by simp[h.len],λi j a o u q x s y l m=>?_,λi o a e d=>?_]
 ·by_cases hi:i<↥S<;>by_cases t:j<↥S
  ·obtain⟨f,g⟩:=c q l hi;obtain⟨v,w⟩:=c s m t;show h.nd i j a o u f x v y g w
  ·obtain⟨f,g⟩:=c q l hi;obtain⟨_,_,z⟩:=b s m t;subst z;show absurd k ((h.obj i o a f g).there x)
  ·obtain⟨v,w⟩:=c s m t;obtain⟨_,_,z⟩:=b q l hi;subst z;show absurd k ((h.obj j u a v w).there y)
  ·rw[(b q l hi).1,(b s m t).1]
 ·by_cases hi:i<↥S
  ·obtain⟨f,g⟩:=c e d hi;show(h.obj i o a f g).keep (.inl k) (λB z=>(h.obj i o a f g).there B (z▸k)) ex
  ·obtain⟨_,rfl,rfl⟩:=b e d hi;show r
def StoreOk.push {S:aa}{p:Lv}{ws:Lf W}{vs:Lf V}(h:StoreOk wd K A H S)(a:H p=gV)(r:RelL K A H ws vs):StoreOk wd K (A++[p]) (bE H p (.lst vs)) (S++[.lst ws]):=
 h.pushO a #[vs,aP,r.mono (dc a)]
def StoreOk.writeO {S:aa}{i:Ll}{p:Lv}{s n:O}{u:HO}(h:StoreOk wd K A H S)(e:S[i]?=ba s)(m0:s.mut=true)(d:A[i]?=ba p)(r:ObjRel wd K A (bE H p u) p n) :
  StoreOk wd K A (bE H p u) (S.set i n)/\Ext K A H A (bE H p u):=by
 have l:Wr H p:=(h.obj i _ p e d).wr m0;have ex:Ext K A H A (bE H p u):=cK l;have hl:i<↥S:=(LB.mp e).1;show#[#[by simp[h.len],λj k a o u b x v y c t=>?_,λj o a b c=>?_],ex]
 ·have get:∀{j:Ll}{o:O},(S.set i n)[j]?=ba o->o.mut=true->∃o',S[j]?=ba o'/\o'.mut=true:=λ{j o} q m=>by
   rw[N3]at q
   by_cases z:i=j
   ·subst z;show#[_,e,m0]
   ·rw[L1 z]at q;show#[o,q,m]
  obtain⟨o',C,f⟩:=get b x;obtain⟨B,D,g⟩:=get v y;show h.nd j k a o' B C f D g c t
 ·rw[N3]at b
  by_cases z:i=j
  ·subst z;rw[LU rfl,LU hl]at b;cases b;rw[d]at c;cases c
   show r
  ·rw[L1 z]at b;show(h.obj j o a b c).keep l (λw q=>z (h.nd i j p _ o e m0 b w d (q▸c))) ex
def StoreOk.write {S:aa}{i:Ll}{p:Lv}{ws:Lf W}{us:Lf V}{a:Lf W}(h:StoreOk wd K A H S)(e:S[i]?=ba (.lst a))(b:A[i]?=ba p)(r:RelL K A H ws us) :
  StoreOk wd K A (bE H p (.lst us)) (S.set i (.lst ws))/\Ext K A H A (bE H p (.lst us)):=
 h.writeO e rfl b #[us,aP,r.mono (cK ((h.obj i _ p e b).wr rfl))]
end
abbrev gJ (S:aa)(i:Ll):Ln (Lf W):=match S[i]? with
 |some (.lst xs)=>ba xs
 |some (.fro xs)=>ba xs
 |_=>gV
abbrev qp (S:aa)(i:Ll):Ln (Lf W):=match S[i]? with
 |some (.lst xs)=>ba xs
 |_=>gV
abbrev mT (S:aa)(xs:Lf W):Ln (W×aa):=if ↥xs<=sizeLine then ba (.ref ↥S,S++[.lst xs])else gV
abbrev sY (S:aa)(xs:Lf W):Ln (W×aa):=if ↥xs<=sizeLine then ba (.tup xs,S)else gV
abbrev Cz (j:LC):L7:=decide (0<j)&&decide (j<1073741824)
abbrev wY (i j:LC):L7:=(decide (-(2^64)<i)&&decide (i<2^64))||(decide (-(2^64)<j)&&decide (j<2^64))
abbrev HI (i j:LC):L7:=decide (0<=j)&&decide (j<=1000000)&&decide (i.natAbs<2^64)
inductive BOp where|add|sub|mul|fdiv|mod|pow
 deriving Od
abbrev BX (c:LC->LC->L7)(f:LC->LC->LC)(x y:W)(S:aa):Ln (W×aa):=match x,y with
 |.int i,.int j=>if c i j then ba (.int (f i j),S)else gV
 |_,_=>gV
abbrev w6 (x y:W)(S:aa):Ln (W×aa):=match x with
 |.int i=>match y with
  |.int j=>ba (.int (i+j),S)
  |_=>gV
 |.str x=>match y with
  |.str y=>if ↥x+↥y<=sizeLine then ba (.str (x++y),S)else gV
  |_=>gV
 |.tup xs=>match y with
  |.tup ys=>sY S (xs++ys)
  |_=>gV
 |.ref i=>match y with
  |.ref j=>match qp S i,qp S j with
   |some xs,ba ys=>mT S (xs++ys)
   |_,_=>gV
  |_=>gV
 |_=>gV
abbrev yT (x y:W)(S:aa):Ln (W×aa):=match x with
 |.str x=>match y with
  |.int k=>if k<2^24/\-(2^24)<=k/\↥x*k.toNat<=sizeLine then ba (.str (WU x k),S)else gV
  |_=>gV
 |.ref i=>match y with
  |.int k=>match qp S i with
   |some xs=>if k<2^24/\-(2^24)<=k/\↥xs*k.toNat<=sizeLine then mT S (Mu k.toNat xs).flatten else gV
   |none=>gV
  |_=>gV
 |x=>BX wY (· * ·) x y S
abbrev fm:BOp->W->W->aa->Ln (W×aa)
 |.add,x,y,S=>w6 x y S
 |.sub,x,y,S=>BX (λ_ _=>true) (· - ·) x y S
 |.mul,x,y,S=>yT x y S
 |.fdiv,x,y,S=>BX (λ_ j=>Cz j) (· / ·) x y S
 |.mod,x,y,S=>BX (λ_ j=>decide (0<j)) (· % ·) x y S
 |.pow,x,y,S=>BX HI (λi j=>i^j.toNat) x y S
abbrev BOp.py:BOp->TD
 |.add=>.Add|.sub=>.Sub|.mul=>.Mult|.fdiv=>.FloorDiv|.mod=>.Mod|.pow=>.Pow
section
variable (X:Cx)
inductive PostE (J:Lf (Lv×Nr))(Y:L2.St)(A:Lf Lv)(H:Hp)(S':aa)(w:W)(u:Lj)(s':Lm):Prop
 |mk (v:V) (H':Hp) (A':Lf Lv) (i:Inv X J Y H' s') (r:RelV v u) (e:Ext X.K A H A' H') (so:StoreOk X.w X.K A' H' S') (rl:Rel X.K A' H' w v):PostE J Y A H S' w u s'
noncomputable abbrev FE:=Fm->aa->Ln (W×aa)
abbrev LOp (f:Lj->Lj->V8 Lj)(g:W->W->aa->Ln (W×aa)):Prop:=
 ∀(J:Lf (Lv×Nr)) (s:Lm) (Y:L2.St) (H:Hp) (A:Lf Lv) (S:aa) (x y:W) (a b:V) (u v:Lj) (w:W) (S':aa),Inv X J Y H s->StoreOk X.w X.K A H S->
  Rel X.K A H x a->RelV a u->Rel X.K A H y b->RelV b v->g x y S=ba (w,S')->wpAny (model X.prog X.w) X.A (f u v) (PostE X J Y A H S' w) X.xe s
end
section
variable{X:Cx}
def lA {S:aa}{i:Ll}{xs:Lf W}(h:qp S i=ba xs):S[i]?=ba (.lst xs):=by
 unfold qp at h;split at h
 ·cases h;assumption
 ·cases h
def fG {A:Lf Lv}{H:Hp}{S:aa}{i:Ll}{xs:Lf W}{a:Lv}(c:StoreOk X.w X.K A H S)(h:qp S i=ba xs)(b:A[i]?=ba a):∃vs,H a=ba (.lst vs)/\RelL X.K A H xs vs:=
 c.obj i _ a (lA h) b
def bp {A:Lf Lv}{H:Hp}{S:aa}{i:Ll}{xs:Lf W}{a:Lv}(c:StoreOk X.w X.K A H S)(h:gJ S i=ba xs)(b:A[i]?=ba a):∃vs,SqL X.K H a vs/\RelL X.K A H xs vs:=by
 unfold gJ at h;split at h
 ·cases h;obtain⟨vs,q,r⟩:=c.obj i _ a ‹_› b;show#[vs,.of q,r]
 ·cases h;obtain⟨vs,q,r⟩:=c.obj i _ a ‹_› b;show#[vs,q.sq,r]
 ·cases h
def lb {S S':aa}{xs:Lf W}{w:W}(h:mT S xs=ba (w,S')):↥xs<=sizeLine/\w=.ref ↥S/\S'=S++[.lst xs]:=by
 unfold mT at h;split at h
 ·cases h;show#[by assumption,rfl,rfl]
 ·cases h
def uT {S S':aa}{xs:Lf W}{w:W}(h:sY S xs=ba (w,S')):↥xs<=sizeLine/\w=.tup xs/\S'=S:=by
 unfold sY at h;split at h
 ·cases h;show#[by assumption,rfl,rfl]
 ·cases h
def CA {A:Lf Lv}{H:Hp}{S:aa}{ws:Lf W}{vs:Lf V}{Q:VK}{p:Lv}(d:StoreOk X.w X.K A H S)(r:RelL X.K A H ws vs)(c:H p=gV)
  (q:∀v a b,Ext X.K A H b a->StoreOk X.w X.K b a (S++[.lst ws])->Rel X.K b a (.ref ↥S) v->Q v a):Q (.ref p) (bE H p (.lst vs)):=
 q _ _ (A++[p]) (dc c) (d.push c r) (.ref (by rw[<- d.len];simp))
def CB {A:Lf Lv}{H:Hp}{S:aa}{ws:Lf W}{vs:Lf V}{Q:VK}{p:Lv}(d:StoreOk X.w X.K A H S)(r:RelL X.K A H ws vs)(c:H p=gV)
  (q:∀v a b,Ext X.K A H b a->StoreOk X.w X.K b a S->Rel X.K b a (.tup ws) v->Q v a):Q (.ref p) (bE H p (.tup vs)):=
 q _ _ A (cK (.inl c)) (d.lay c) (.tup (.of aP) (r.mono (cK (.inl c))))
abbrev HJ (K:LF):R2:=λx y H Q=>∃a b xs ys,x=.ref a/\y=.ref b/\SqT K H a xs/\SqT K H b ys/\↥xs+↥ys<=sizeLine/\
 (xs=[]->Q (.ref b) H)/\(ys=[]->Q (.ref a) H)/\(∀p,H p=gV->Q (.ref p) (bE H p (.tup (xs++ys))))
def CC:OpR X (binaryOp .Add) (HJ X.K):=by
 intro J s Y H x y v u Q I N O h;obtain⟨a,b,xs,ys,rfl,rfl,C,D,hz,G,L,M⟩:=h;cases N;cases O;obtain⟨l,g,A,_⟩:=I.tuple C;obtain⟨f,m,p2,_⟩:=I.tuple D
 by_cases k:xs=[]
 ·obtain⟨⟨cls,B,data,sl⟩,w,t,n,hd⟩:=id A;obtain⟨⟨r,j,i,p⟩,e,c,E,d⟩:=id p2;simp only at t hd c d;subst t hd c d;show TJ #[_,w,rfl] #[_,e,rfl] RG SS Qg Qc (PY _ _)
   (tuple_addW0 a b l.toArray f.toArray n E B j sl p (by simp[g.nil_iff.mpr k])) #[w,e,#[.ref b,H,I,rfl,G k]]
 ·show HT.Cm A p2 (λz=>k (g.nil_iff.mp z)) (λz=>#[.ref a,H,I,rfl,L (m.nil_iff.mp z)]) (λz=>?_) (by rw[<- ↥g,<- ↥m];show hz)
  show#[.ref ⇑s.heap.objs,_,I.laid (t':=s.toks) (o:=.tup (xs++ys)) (λb ob q=>Li _ q) (Ls _) ?_,rfl,M _ (I.hok.fresh (Ls _))]
  show#[by rw[Lx];show hz,_,g.append m,Uc _ _]
def RelL.nil_iff {K:LF}{A:Lf Lv}{H:Hp}{ws:Lf W}{vs:Lf V}(r:RelL K A H ws vs):vs=[]↔ws=[]:=by
 cases r<;>simp
def sZ:OpR X (binaryOp .Mult) (λx y H Q=>∃z k,x=.str z/\y=.int k/\MulOk z k/\Q (.str (WU z k)) H):=by
 intro J s Y H x y v u Q I a b h;obtain⟨z,k,rfl,rfl,ok,q⟩:=h;obtain⟨t,rfl⟩:=a;obtain⟨t',rfl⟩:=b;show SB.mul ok λt2 c=>#[.str _,H,I.tok _,#[_,rfl],q]
def yU {x:LW}{k:LC}(g:k<16777216)(h : -16777216<=k)(d:↥x*k.toNat<=sizeLine):MulOk x k:=by
 have hs:sizeLine=16777216:=MF;rw[hs]at d;show#[?_,λa b=>?_,λ_ _=>?_]
 ·rw[Bool.or_eq_false_iff];show#[Mt ∅,Mt ∅]
 ·have hk:0<k:=∅
  have e:(↥x:LC)*k=((↥x*k.toNat:Ll):LC):=by
   rw[Po,PU ∅]
  intro c;have f:(2^63-1:LC)<(↥x:LC)*k:=(Int.ediv_lt_iff_lt_mul hk).mp c;rw[e]at f;generalize ↥x*k.toNat=z at d f;omega
 ·unfold Ve;rw[hs];show Mt ∅
inductive EndV (wd:MB)(K:LF)(A:Lf Lv)(H:Hp)(S':aa)(w:W)(v:V)(H':Hp):Prop
 |mk (A':Lf Lv) (e:Ext K A H A' H') (so:StoreOk wd K A' H' S') (r:Rel K A' H' w v):EndV wd K A H S' w v H'
def EndV.here {A:Lf Lv}{H:Hp}{S:aa}{w:W}{v:V}(a:StoreOk X.w X.K A H S)(r:Rel X.K A H w v):EndV X.w X.K A H S w v H:=#[A,.refl,a,r]
def EndV.lst {A:Lf Lv}{H:Hp}{S:aa}{ws:Lf W}{vs:Lf V}{p:Lv}(f:StoreOk X.w X.K A H S)(r:RelL X.K A H ws vs)(e:H p=gV):EndV X.w X.K A H (S++[.lst ws]) (.ref ↥S) (.ref p) (bE H p (.lst vs)):=
 CA (Q:=EndV X.w X.K A H (S++[.lst ws]) (.ref ↥S)) f r e λv g d a b c=>#[d,a,b,c]
def EndV.tup {A:Lf Lv}{H:Hp}{S:aa}{ws:Lf W}{vs:Lf V}{p:Lv}(f:StoreOk X.w X.K A H S)(r:RelL X.K A H ws vs)(e:H p=gV):EndV X.w X.K A H S (.tup ws) (.ref p) (bE H p (.tup vs)):=
 CB (Q:=EndV X.w X.K A H S (.tup ws)) f r e λv g d a b c=>#[d,a,b,c]
def EP.post {J:Lf (Lv×Nr)}{Y:L2.St}{A:Lf Lv}{H:Hp}{S':aa}{w:W}{u:Lj}{a:Lm}(h:EP X J Y (EndV X.w X.K A H S' w) u a):PostE X J Y A H S' w u a:=by
 obtain⟨v,c,d,r,b,x,y,z⟩:=h;show#[v,c,b,d,r,x,y,z]
def OpR.go {f:Lj->Lj->V8 Lj}{r:R2}(h:OpR X f r){J:Lf (Lv×Nr)}{Y:L2.St}{A:Lf Lv}{H:Hp}{S':aa}{w:W}{s:Lm}{a b:V}{u v:Lj}(I:Inv X J Y H s)(c:RelV a u)(d:RelV b v)
  (q:r a b H (EndV X.w X.K A H S' w)):wpAny (model X.prog X.w) X.A (f u v) (PostE X J Y A H S' w) X.xe s:=bF (h J s Y H a b u v _ I c d q) λ_ _=>EP.post
def CD:LOp X (binaryOp .Add) (fm .add):=by
 intro J s Y H A S x y a b u v w S' I c q i k j e;cases q with
 |int=>cases k with
  |int=>cases e;show OpR.go Fa I i j #[_,_,rfl,rfl,.here c .int]
  |_=>cases e
 |str=>cases k with
  |str=>
   dsimp only[fm,w6]at e;split at e
   ·cases e;show OpR.go sS I i j #[_,_,rfl,rfl,by assumption,.here c .str]
   ·cases e
  |_=>cases e
 |tup g d=>cases k with
  |tup h f=>
   obtain⟨hl,rfl,rfl⟩:=uT (show sY S _=_ from e)
   rw[Lx,↥d,↥f]at hl;show OpR.go CC I i j #[_,_,_,_,rfl,rfl,g,h,hl,λz=>?_,λz=>?_,λp l=>.tup c (d.append f) l]
   ·have m:=d.nil_iff.mp z;subst m;show .here c (.tup h f)
   ·have m:=f.nil_iff.mp z;subst m;rw[NA];show .here c (.tup g d)
  |_=>cases e
 |ref g=>cases k with
  |ref h=>
   dsimp only[fm,w6]at e;split at e
   ·obtain⟨hl,rfl,rfl⟩:=lb e;obtain⟨vs,n,d⟩:=fG c ‹_› g;obtain⟨us,o,f⟩:=fG c ‹_› h;rw[Lx,↥d,↥f]at hl;show OpR.go Ft I i j #[_,_,_,_,rfl,rfl,n,o,hl,λp l=>.lst c (d.append f) l]
   ·cases e
  |_=>cases e
 |_=>cases e
def qB {f:Lj->Lj->V8 Lj}{c:LC->LC->L7}{g:LC->LC->LC}{r:R2}(h:OpR X f r)(d:∀i j H Q,c i j=true->Q (.int (g i j)) H->r (.int i) (.int j) H Q):LOp X f (BX c g):=by
 intro J s Y H A S x y a b u v w S' I o m k n l e;cases m with
 |int=>cases n with
  |int=>
   unfold BX at e;dsimp only at e;split at e
   ·cases e;show OpR.go h I k l (d _ _ _ _ ‹_› (.here o .int))
   ·cases e
  |_=>cases e
 |_=>cases e
def CF:LOp X (binaryOp .Sub) (fm .sub):=qB Fb λ_ _ _ _ _ q=>#[_,_,rfl,rfl,q]
def CG {i j:LC}(h:wY i j=true):CMul i j:=by
 unfold wY at h;rw[NP,Lp,Lp,LJ,LJ,LJ,LJ]at h;show h
def CH:LOp X (binaryOp .Mult) (fm .mul):=by
 have m:LOp X (binaryOp .Mult) (BX wY (· * ·)):=qB Fc λ_ _ _ _ h q=>#[_,_,rfl,rfl,CG h,q]
 intro J s Y H A S x y a b u v w S' I d i f j g e;cases x with
 |str z=>
  cases i with
  |str=>cases j with
   |int=>
    dsimp only[fm,yT]at e;split at e
    ·rename_i c;cases e;show OpR.go sZ I f g #[_,_,rfl,rfl,yU ∅ ∅ c.2.2,.here d .str]
    ·cases e
   |_=>cases e
 |ref z=>
  cases i with
  |ref l=>cases j with
   |int=>
    dsimp only[fm,yT]at e;split at e
    ·split at e
     ·rename_i c;obtain⟨hl,rfl,rfl⟩:=lb e;obtain⟨vs,o,k⟩:=fG d ‹_› l;rw[↥k]at c;show OpR.go Fu I f g #[_,_,_,rfl,rfl,o,∅,∅,c.2.2,λp n=>.lst d (k.rep _) n]
     ·cases e
    ·cases e
   |_=>cases e
 |_=>show m _ _ _ _ _ _ _ _ _ _ _ _ _ _ I d i f j g e
def yV:LOp X (binaryOp .FloorDiv) (fm .fdiv):=qB Cg λ_ _ _ _ h q=>#[_,_,rfl,rfl,by
 unfold Cz at h;rw[Lp,LJ,LJ]at h;show h,q]
def CI:LOp X (binaryOp .Mod) (fm .mod):=qB Fd λ_ _ _ _ h q=>#[_,_,rfl,rfl,Mq h,q]
def CJ:LOp X (binaryOp .Pow) (fm .pow):=qB Fe λ_ _ _ _ h q=>#[_,_,rfl,rfl,by
 unfold HI at h;rw[Lp,Lp,LJ,LJ,LJ]at h;show#[h.1.1,h.1.2,h.2],q]
def uU (o:BOp):LOp X (binaryOp o.py) (fm o):=by
 cases o
 ·show CD
 ·show CF
 ·show CH
 ·show yV
 ·show CI
 ·show CJ
end
abbrev iV (f:W->W->Ln L7):Lf W->Lf W->Ln L7
 |[],[]=>ba true
 |[],_::_=>ba false
 |_::_,[]=>ba false
 |x::xs,y::ys=>match f x y,iV f xs ys with
  |some a,ba b=>ba (a&&b)
  |_,_=>gV
abbrev b2 (b:L7):LC:=if b then 1 else 0
abbrev jW (S:aa):Ll->W->W->Ln L7
 |_,.non,y=>match y with
  |.non=>ba true
  |_=>gV
 |_,.bl a,y=>match y with
  |.bl b=>ba (a==b)
  |_=>gV
 |_,.int a,y=>match y with
  |.int b=>ba (a==b)
  |_=>gV
 |_,.str a,y=>match y with
  |.str b=>ba (a==b)
  |_=>gV
 |0,_,_=>gV
 |d+1,.tup xs,y=>match y with
  |.tup ys=>iV (jW S d) xs ys
  |_=>gV
 |d+1,.ref i,y=>match y with
  |.ref j=>match qp S i,qp S j with
   |some xs,ba ys=>if ↥xs=↥ys then iV (jW S d) xs ys else ba false
   |_,_=>gV
  |_=>gV
section
variable{X:Cx}{J:Lf (Lv×Nr)}{Y:L2.St}{H:Hp}{s:Lm}{A:Lf Lv}{S:aa}
abbrev RU (K:LF)(A:Lf Lv)(H:Hp)(w:W)(u:Lj):Prop:=∃v,Rel K A H w v/\RelV v u
def uV {ws:Lf W}{vs:Lf V}{us:Lf Lj}(r:RelL X.K A H ws vs)(q:Vals vs us):∀(j:Ll) (a:j<↥ws) (b:j<↥us),RU X.K A H ws[j] us[j]:=by
 induction ws generalizing vs us with
 |nil=>intro j a;simp at a
 |cons w ws ih=>
  cases r with
  |cons e f=>
   cases q with
   |cons c d=>
    intro j a b;cases j with
    |zero=>show#[_,e,c]
    |succ j=>show ih f d j (by simpa using a) (by simpa using b)
def yW {ws:Lf W}{u:Lj}(I:Inv X J Y H s)(h:RU X.K A H (.tup ws) u):∃a b,u=.ref a/\Tx s.heap a b/\⇑b=↥ws/\↥ws<=sizeLine/\∀(j:Ll) (d:j<↥ws) (e:j<⇑b),RU X.K A H ws[j] b[j]:=by
 obtain⟨v,r,q⟩:=h;cases r with
 |tup sq c=>
  obtain⟨b,f,g,hz⟩:=I.tuple sq;show#[_,b.toArray,q,g,by rw[LM,<- ↥f,↥c],by rw[↥c];show hz,λj d e=>?_]
  have:=uV c f j d (by simpa using e)
  simpa using this
def yX {i:Ll}{ws:Lf W}{u:Lj}(I:Inv X J Y H s)(n:StoreOk X.w X.K A H S)(e:qp S i=ba ws)(h:RU X.K A H (.ref i) u):∃a b,u=.ref a/\A[i]?=ba a/\s.heap.IsList a b/\⇑b=↥ws/\↥ws<=sizeLine/\∀(j:Ll) (f:j<↥ws) (g:j<⇑b),RU X.K A H ws[j] b[j]:=by
 obtain⟨v,r,q⟩:=h;cases r with
 |ref d=>
  obtain⟨vs,l,c⟩:=fG n e d;obtain⟨b,k,m,hz⟩:=I.list (.of l);show#[_,b.toArray,q,d,m.isList,by rw[LM,<- ↥k,↥c],by rw[↥c];show hz,λj f g=>?_]
  have:=uV c k j f (by simpa using g)
  simpa using this
def lB {f:W->W->Ln L7}:∀{xs ys:Lf W}{k:L7},iV f xs ys=ba k->∃e:Ll->L7,(∀(j:Ll) (c:j<↥xs) (d:j<↥ys),f xs[j] ys[j]=ba (e j))/\
  k=((LR (min ↥xs ↥ys)).all e&&↥xs==↥ys)
 |[],[],k,h=>#[λ_=>true,λj c=>by simp at c,by cases h;rfl]
 |[],_::_,k,h=>#[λ_=>true,λj c=>by simp at c,by cases h;simp]
 |_::_,[],k,h=>#[λ_=>true,λj c d=>by simp at d,by cases h;simp]
 |x::xs,y::ys,k,h=>by
  dsimp only[iV]at h;split at h
  ·rename_i a b l m;cases h;obtain⟨e,c,d⟩:=lB m;show#[λj=>match j with|0=>a|j+1=>e j,λj g i=>?_,?_]
   ·cases j with
    |zero=>show l
    |succ j=>show c j (by simpa using g) (by simpa using i)
   ·subst d;simp only[L3,Nat.add_min_add_right,RQ,MT,VI,Bool.and_assoc];congr 2;simp
  ·cases h
def CK (I:Inv X J Y H s)(p:StoreOk X.w X.K A H S):∀(d:Ll) {x y:W}{v:V}{k:L7},Rel X.K A H x v->Rel X.K A H y v->jW S d x y=ba k->k=true:=by
 intro d
 induction d with
 |zero=>
  intro x y v k n f e;cases n with
  |non=>cases f;cases e;rfl
  |bl=>cases f;cases e;show MK _
  |int=>cases f;cases e;show MK _
  |str=>cases f;cases e;show MK _
  |tup _ _=>cases e
  |ref _=>cases e
 |succ d ih=>
  have c:∀{xs ys:Lf W}{vs:Lf V}{k:L7},RelL X.K A H xs vs->RelL X.K A H ys vs->iV (jW S d) xs ys=ba k->k=true:=by
   intro xs
   induction xs with
   |nil=>
    intro ys vs k g h e;cases g;cases h;cases e;rfl
   |cons x xs m=>
    intro ys vs k g h e;cases g with
    |cons B C=>
     cases h with
     |cons p2 D=>
      dsimp only[iV]at e;split at e
      ·rename_i a b w z;cases e;rw[ih B p2 w,m C D z];rfl
      ·cases e
  intro x y v k n f e;cases n with
  |non=>cases f;cases e;rfl
  |bl=>cases f;cases e;show MK _
  |int=>cases f;cases e;show MK _
  |str=>cases f;cases e;show MK _
  |tup u g=>
   cases f with
   |tup o h=>
    rw[I.tuple_inj u o]at g;show c g h e
   |ref i=>cases e
  |ref i=>
   cases f with
   |tup o h=>cases e
   |ref t=>
    dsimp only[jW]at e;split at e
    ·rename_i xs ys j l;have:=p.nd _ _ _ _ _ (lA j) rfl (lA l) rfl i t;subst this;rw[j]at l;cases l
     rw[LU rfl]at e;obtain⟨vs,q,r⟩:=fG p j i;show c r r e
    ·cases e
def aO (A:Ms):A.in1.units=A.units+1:=rfl
noncomputable abbrev G2 (B:Ms)(s:Lm)(u v:Lj)(k:L7):Prop:=SeqAt.RcAt B s u v k/\SeqAt.RcNeAt B s u v (!k)/\Qs B s u v k
open SeqAt in
def Eh (I:Inv X J Y H s)(V:StoreOk X.w X.K A H S):∀(d:Ll) (B:Ms) {x y:W}{u v:Lj}{k:L7},B.units+d<cLine->RU X.K A H x u->RU X.K A H y v->jW S d x y=ba k->G2 B s u v k:=by
 have non:∀{B:Ms}{y:W}{u v:Lj}{k:L7}{d:Ll},RU X.K A H .non u->RU X.K A H y v->jW S d .non y=ba k->G2 B s u v k:=by
  intro B y u v k d ⟨_,h,G⟩ ⟨_,l,L⟩ e;cases h;cases(show u=MG from G)
  cases y with
  |non=>
   have e:ba (true)=ba k:=by cases d<;>show e
   cases e;cases l;cases(show v=MG from L)
   show#[.none_none,.none_none,.same _]
  |_=>cases d<;>cases e
 have bl:∀{B:Ms}{b:L7}{y:W}{u v:Lj}{k:L7}{d:Ll},RU X.K A H (.bl b) u->RU X.K A H y v->jW S d (.bl b) y=ba k->G2 B s u v k:=by
  intro B b y u v k d ⟨_,h,G⟩ ⟨_,l,L⟩ e;cases h;cases(show u=Pz _ from G)
  cases y with
  |bl c=>
   have e:ba (b==c)=ba k:=by cases d<;>show e
   cases e;cases l;cases(show v=Pz _ from L)
   show#[.bool_bool _ _,.bool_bool _ _,.bool_bool _ _]
  |_=>cases d<;>cases e
 have int:∀{B:Ms}{b:LC}{y:W}{u v:Lj}{k:L7}{d:Ll},RU X.K A H (.int b) u->RU X.K A H y v->jW S d (.int b) y=ba k->G2 B s u v k:=by
  intro B b y u v k d ⟨_,h,G⟩ ⟨_,l,L⟩ e;cases h;obtain⟨t0,rfl⟩:∃t,u=Qq _ t:=G;cases y with
  |int c=>
   have e:ba (b==c)=ba k:=by cases d<;>show e
   cases e;cases l;obtain⟨t,rfl⟩:∃t,v=Qq _ t:=L;show#[.int_int _ _ _ _,.int_int _ _ _ _,.int_int _ _ _ _]
  |_=>cases d<;>cases e
 have str:∀{B:Ms}{b:LW}{y:W}{u v:Lj}{k:L7}{d:Ll},RU X.K A H (.str b) u->RU X.K A H y v->jW S d (.str b) y=ba k->G2 B s u v k:=by
  intro B b y u v k d ⟨_,h,G⟩ ⟨_,l,L⟩ e;cases h;obtain⟨t0,rfl⟩:∃t,u=Qr _ t:=G;cases y with
  |str c=>
   have e:ba (b==c)=ba k:=by cases d<;>show e
   cases e;cases l;obtain⟨t,rfl⟩:∃t,v=Qr _ t:=L;show#[.str_str _ _ _ _,.str_str _ _ _ _,.str_str _ _ _ _]
  |_=>cases d<;>cases e
 intro d
 induction d with
 |zero=>
  intro B x y u v k hu h l e;cases x with
  |non=>show non h l e
  |bl b=>show bl h l e
  |int b=>show int h l e
  |str b=>show str h l e
  |_=>cases e
 |succ d ih=>
  intro B x y u v k hu h l e;have p:B.units<cLine:=∅
  have P:B.in1.units+d<cLine:=by rw[aO];omega
  have T:=h;have U:=l;have z:∀{a b:Lv},u=.ref a->v=.ref b->RcAt B s u v k->RcNeAt B s u v (!k)->G2 B s u v k:=by
   intro a b ea eb r w;subst ea eb;show#[r,w,?_]
   by_cases M:a=b
   ·subst M;obtain⟨v1,q1,z1⟩:=T;obtain⟨v2,q2,z2⟩:=U;have Q:v1=v2:=z1.inj z2;subst Q;have:=CK I V (d+1) q1 q2 e;subst this;show EqAt.same _
   ·show EqAt.of_refs M r
  cases x with
  |non=>show non h l e
  |bl b=>show bl h l e
  |int b=>show int h l e
  |str b=>show str h l e
  |tup xs=>
   cases y with
   |tup ys=>
    obtain⟨a,o,rfl,ht,hs,_,hi⟩:=yW I h;obtain⟨b,g,rfl,O,m,_,C⟩:=yW I l;obtain⟨f,r,w⟩:=lB (show iV (jW S d) xs ys=ba k from e)
    have N:∀j (r:j<⇑o) (w:j<⇑g),EqAt B.in1 s o[j] g[j] (f j):=λj D E=>
     (ih B.in1 P (hi j (hs▸D) D) (C j (m▸E) E) (r j (hs▸D) (m▸E))).2.2
    rw[<- hs,<- m]at w;subst w;show z rfl rfl (RcAt.tuples ht O p N) (RcNeAt.tuples ht O p N)
   |_=>cases e
  |ref i=>
   cases y with
   |ref j=>
    dsimp only[jW]at e;split at e
    ·rename_i ws ws2 hw R;obtain⟨a,o,rfl,_,hl,hs,_,hi⟩:=yX I V hw h;obtain⟨b,g,rfl,_,q,m,_,C⟩:=yX I V R l;split at e
     ·rename_i n;obtain⟨f,r,w⟩:=lB e;have N:∀j (r:j<⇑o) (w:j<⇑g),EqAt B.in1 s o[j] g[j] (f j):=λj D E=>
       (ih B.in1 P (hi j (hs▸D) D) (C j (m▸E) E) (r j (hs▸D) (m▸E))).2.2
      have hk:k=(LR ⇑o).all f:=by rw[w,hs,n];simp
      subst hk;show z rfl rfl (RcAt.lists hl q (by rw[hs,m,n]) p N) (RcNeAt.lists hl q (by rw[hs,m,n]) p N)
     ·rename_i n;cases e;have Z:(⇑o != ⇑g)=true:=by rw[hs,m];simpa using n
      show z rfl rfl (RcAt.lists_lengths hl q Z p) (RcNeAt.lists_lengths hl q Z p)
    ·cases e
   |_=>cases e
end
abbrev LtAt (B:Ms)(s:Lm)(u v:Lj)(k:L7):Prop:=
 ∀(prog:Mn) (w:MB) (E:Lj->Lm->Prop) (Q:Lj->Lm->Prop),Q (.bool k) s->wpAny (model prog w) B (richCompare .Lt u v) Q E s
inductive LexR (B:Ms)(s:Lm):Lf Lj->Lf Lj->L7->Prop
 |nn:LexR B s [] [] false
 |nc {v:Lj}{vs:Lf Lj}:LexR B s [] (v::vs) true
 |cn {v:Lj}{vs:Lf Lj}:LexR B s (v::vs) [] false
 |eq {u v:Lj}{us vs:Lf Lj}{k:L7}:Qs B s u v true->LexR B s us vs k->LexR B s (u::us) (v::vs) k
 |ne {u v:Lj}{us vs:Lf Lj}{k:L7}:Qs B s u v false->LtAt B s u v k->LexR B s (u::us) (v::vs) k
section
open PySem.SeqAt
open PySem.AutoSeq1 (wpAny_loadPart')
open PySem.MeetsSeq PySem.MeetsSeq2 PySem.MeetsSeq3
def oV (l b:Lv)(items a:LY Lj)(n D:Ll)(v j:Ln Lv)(sl r:LY (Ln Lj))(k:L7) :
  Meets (O3.«tuple.__lt__» #[[.ref l,.ref b],[]])
   (λB R s=>s.heap.get? l=ba {cls:=.type "tuple",dict:=v,data:=.seq items n,slots:=sl}/\s.heap.get? b=ba {cls:=.type "tuple",dict:=j,data:=.seq a D,slots:=r}/\
    LexR B.in1 s items.toList a.toList k/\R (.ok (.ret (.bool k))) s):=
 .of_wp λprog w A R s h=>by
  obtain⟨t,g,d,u,os⟩:=s;obtain⟨hl,z,i,h⟩:=h
  have G:=Vn;have H:↥items.toList=⇑items:=by simp
  have I:↥a.toList=⇑a:=by simp
  wp_walk using QH hl,QH z,PK _ (λaU b q=>b.1=gV/\q=#[t,g,d,u,os]/\∃(vs ws:Lf Lj),aU=vs.zip ws/\
   LexR A.in1 #[t,g,d,u,os] vs ws k/\↥vs+⇑a=↥ws+⇑items) _
  case turn=>
   rintro⟨y,x⟩ aU b q ⟨e,rfl,vs,ws,hz,f,c⟩;cases f with
   |nn=>rw[TU]at hz;cases hz
   |nc=>rw[TU]at hz;cases hz
   |cn=>rw[List.zip_nil_right]at hz;cases hz
   |eq m o=>
    rw[OB]at hz;injection hz with hyx hrest
    injection hyx with hy i
    subst hy i;simp only[L3]at c;show Lg (m prog w _ _ ?_)
    wp_walk
    show#[rfl,rfl,_,_,hrest,o,∅]
   |ne m o=>
    rw[OB]at hz;injection hz with hyx hrest
    injection hyx with hy i
    subst hy i;show Lg (m prog w _ _ ?_);have p:=o prog w
    wp_walk using p
    show#[_,rfl,by simpa using h]
  case fin=>
   rintro⟨E,b2⟩ q ⟨e,rfl,vs,ws,hz,f,c⟩;simp only at e;subst e;have C:k=decide (⇑items<⇑a):=by
    cases f with
    |nn=>simp only[N8]at c;show(Mt ∅).symm
    |nc=>simp only[N8,L3]at c;show(Nc ∅).symm
    |cn=>simp only[N8,L3]at c;show(Mt ∅).symm
    |eq _ _=>rw[OB]at hz;cases hz
    |ne _ _=>rw[OB]at hz;cases hz
   subst C
   wp_walk
   show#[_,rfl,by simpa [T9]using h]
  case h=>
   show#[rfl,rfl,items.toList,a.toList,rfl,i,∅]
end
def LtAt.tuples {B:Ms}{s:Lm}{l b:Lv}{items a:LY Lj}{k:L7}(hl:Tx s.heap l items)(q:Tx s.heap b a)(r:B.units<cLine)(t:LexR B.in1 s items.toList a.toList k) :
  LtAt B s (.ref l) (.ref b) k:=λprog w E Q h=>by
 obtain⟨⟨cls,p,data,sl⟩,o,m,n,hd⟩:=id hl;obtain⟨⟨j,g,f,i⟩,e,c,u,d⟩:=id q;simp only at m hd c d;subst m hd c d;show richCompare_meets_room (op:=.Lt) #[_,o,rfl] #[_,e,rfl] PySem.F.slot_tuple_lt PySem.F.entry_tuple_lt (PySem.F.args_tuple_lt_2 _ _) (oV l b items a n u p g sl i k)
  #[o,e,t,show Pz k≠Value.notImplemented/\Q (.bool k) s from#[(λx=>nomatch x),h]] r
inductive COp where|eq|ne|lt|le|gt|ge|isin|notin|is|isnot
 deriving Od
abbrev COp.py:COp->VC
 |.eq=>.Eq|.ne=>.NotEq|.lt=>.Lt|.le=>.LtE|.gt=>.Gt|.ge=>.GtE|.isin=>.In|.notin=>.NotIn|.is=>.Is|.isnot=>.IsNot
abbrev cv:W->L7
 |.non=>true
 |.bl _=>true
 |.int _=>true
 |.str _=>true
 |_=>false
abbrev BY:W->W->L7
 |.non,.non=>true
 |.bl a,.bl b=>a==b
 |.bl a,.int b=>b2 a==b
 |.int a,.bl b=>a==b2 b
 |.int a,.int b=>a==b
 |.str a,.str b=>a==b
 |_,_=>false
abbrev fO (S:aa):W->Ln (Lf W)
 |.tup xs=>ba xs
 |.ref i=>gJ S i
 |_=>gV
noncomputable abbrev iW:Ll:=20
abbrev yo (x y:W)(S:aa):Ln L7:=match fO S y with
 |some ys=>if cv x&&ys.all cv then ba (ys.any λz=>BY z x)else gV
 |none=>gV
abbrev yY:W->L7
 |.non=>true
 |_=>false
abbrev yZ (f:LC->LC->L7):W->W->Ln L7
 |.int i,.int j=>ba (f i j)
 |_,_=>gV
abbrev G3:COp->W->W->aa->Ln L7
 |.eq,x,y,S=>jW S iW x y
 |.ne,x,y,S=>(jW S iW x y).map (!·)
 |.lt,x,y,_=>yZ (λi j=>decide (i<j)) x y
 |.le,x,y,_=>yZ (λi j=>decide (i<=j)) x y
 |.gt,x,y,_=>yZ (λi j=>decide (j<i)) x y
 |.ge,x,y,_=>yZ (λi j=>decide (j<=i)) x y
 |.isin,x,y,S=>yo x y S
 |.notin,x,y,S=>(yo x y S).map (!·)
 |.is,x,y,_=>if yY y then ba (yY x)else gV
 |.isnot,x,y,_=>if yY y then ba (!yY x)else gV
abbrev jk (o:COp)(x y:W)(S:aa):Ln (W×aa):=(G3 o x y S).map λk=>(.bl k,S)
section
variable{X:Cx}
def uW {J:Lf (Lv×Nr)}{Y:L2.St}{H:Hp}{s:Lm}{A:Lf Lv}{S:aa}{k:L7}(I:Inv X J Y H s)(a:StoreOk X.w X.K A H S):PostE X J Y A H S (.bl k) (.bool k) s:=
 #[.bl k,H,A,I,rfl,.refl,a,.bl]
def CL {o:COp}{x y w:W}{S S':aa}(h:jk o x y S=ba (w,S')):∃k,G3 o x y S=ba k/\w=.bl k/\S'=S:=by
 unfold jk at h;rw[Lk]at h;obtain⟨k,a,b⟩:=h;cases b;show#[k,a,rfl,rfl]
def qC {A:Lf Lv}{H:Hp}{w:W}{v:V}(r:Rel X.K A H w v)(f:cv w=true):iK v=true:=by
 cases r<;>first|rfl|cases f
def nA {A:Lf Lv}{H:Hp}:∀{ws:Lf W}{vs:Lf V},RelL X.K A H ws vs->ws.all cv=true->vs.all iK=true
 |_,_,.nil,_=>rfl
 |_,_,.cons r t,f=>by
  rw[MT,Lp]at f ⊢;show#[qC r f.1,nA t f.2]
def CM {A:Lf Lv}{H:Hp}{x y:W}{u v:V}(r:Rel X.K A H x u)(q:Rel X.K A H y v)(a:cv x=true)(b:cv y=true):Cs u v=BY x y:=by
 cases r<;>cases q<;>first|rfl|cases a|cases b
def uX {A:Lf Lv}{H:Hp}{y:W}{v:V}(q:Rel X.K A H y v)(a:cv y=true):∀{ws:Lf W}{vs:Lf V},RelL X.K A H ws vs->ws.all cv=true->Jy v vs=ws.any λz=>BY z y
 |_,_,.nil,_=>rfl
 |_,_,.cons r t,f=>by
  rw[MT,Lp]at f;have:=uX q a t f.2;unfold Jy at this ⊢;rw[Ov,Ov,CM r q f.1 a,this]
def oW {J:Lf (Lv×Nr)}{Y:L2.St}{H:Hp}{s:Lm}{A:Lf Lv}{S:aa}{y:W}{b:V}{ys:Lf W}(f:StoreOk X.w X.K A H S)(r:Rel X.K A H y b)(e:fO S y=ba ys):∃p vs,b=.ref p/\(SqL X.K H p vs\/SqT X.K H p vs)/\RelL X.K A H ys vs:=by
 cases r with
 |tup a c=>cases e;show#[_,_,rfl,.inr a,c]
 |ref d=>
  obtain⟨vs,a,c⟩:=bp f e d;show#[_,vs,rfl,.inl a,c]
 |_=>cases e
def y4 {neg:L7}{o:VC}(h:OpR X (compareOp o) (J8 X.K neg)){J:Lf (Lv×Nr)}{Y:L2.St}{H:Hp}{s:Lm}{A:Lf Lv}{S:aa}{x y:W}{a b:V}{u v:Lj}{ys:Lf W}(I:Inv X J Y H s)(g:StoreOk X.w X.K A H S)
  (d:Rel X.K A H x a) (j:RelV a u) (l:Rel X.K A H y b) (k:RelV b v) (e:fO S y=ba ys) (f:(cv x&&ys.all cv)=true) :
  wpAny (model X.prog X.w) X.A (compareOp o u v) (PostE X J Y A H S (.bl (if neg then !ys.any λz=>BY z x else ys.any λz=>BY z x))) X.xe s:=by
 obtain⟨p,vs,rfl,i,c⟩:=oW (J:=J) (Y:=Y) (s:=s) g l e;rw[Lp]at f;show OpR.go h I j k #[p,vs,rfl,i,qC d f.1,nA c f.2,?_];rw[uX d f.1 c f.2];show .here g .bl
def CN (D:X.A.units+iW<cLine)(o:COp):LOp X (compareOp o.py) (jk o):=by
 intro J s Y H A S x y a b u v w S' I g p m q n e;obtain⟨k,l,E,G⟩:=CL e;subst E;subst G;clear e
 rename aa=>S
 have d:∀{f:LC->LC->L7},yZ f x y=ba k->∃i j,x=.int i/\y=.int j/\k=f i j:=by
  intro f h;cases x with
  |int i=>cases y with
   |int j=>cases h;show#[i,j,rfl,rfl,rfl]
   |_=>cases h
  |_=>cases h
 have L:X.A.units+1<cLine:=by have:iW=20:=rfl;omega
 have r:∀{c:L7},yo x y S=ba c->(∃ys,fO S y=ba ys/\(cv x&&ys.all cv)=true/\c=ys.any λz=>BY z x):=by
  intro c h;unfold yo at h;split at h
  ·split at h
   ·cases h;show#[_,by assumption,by assumption,rfl]
   ·cases h
  ·cases h
 have B:∀{c:L7},(if yY y then ba c else gV)=ba k->y=.non/\k=c:=by
  intro c h;cases y with
  |non=>cases h;show#[rfl,rfl]
  |_=>cases h
 cases o with
 |eq=>show(Eh I g iW X.A D #[a,p,m] #[b,q,n] l).1 _ _ _ _ (uW I g)
 |ne=>
  obtain⟨M,t,rfl⟩:=Lk.mp l;show(Eh I g iW X.A D #[a,p,m] #[b,q,n] t).2.1 _ _ _ _ (uW I g)
 |lt=>
  obtain⟨i,j,rfl,rfl,rfl⟩:=d l;cases p;cases q
  show OpR.go Hv I m n #[_,_,rfl,rfl,.here g .bl]
 |le=>
  obtain⟨i,j,rfl,rfl,rfl⟩:=d l;cases p;cases q
  show OpR.go Hw I m n #[_,_,rfl,rfl,.here g .bl]
 |gt=>
  obtain⟨i,j,rfl,rfl,rfl⟩:=d l;cases p;cases q
  show OpR.go Hx I m n #[_,_,rfl,rfl,.here g .bl]
 |ge=>
  obtain⟨i,j,rfl,rfl,rfl⟩:=d l;cases p;cases q
  show OpR.go Hy I m n #[_,_,rfl,rfl,.here g .bl]
 |isin=>
  obtain⟨ys,t,C,rfl⟩:=r l;show y4 (neg:=false) wM I g p m q n t C
 |notin=>
  obtain⟨c,h,rfl⟩:=Lk.mp l;obtain⟨ys,t,C,rfl⟩:=r h;show y4 (neg:=true) oR I g p m q n t C
 |is=>
  obtain⟨rfl,rfl⟩:=B l;cases q;show OpR.go Fg I m n #[rfl,?_];cases p<;>show .here g .bl
 |isnot=>
  obtain⟨rfl,rfl⟩:=B l;cases q;show OpR.go Ch I m n #[rfl,?_];cases p<;>show .here g .bl
end
end Mi
namespace HT
open PySem PyProof.Rows
section
variable{prog:Mn}{w:MB}{A:Ms}{E:Lj->Lm->Prop}{s:Lm}
def iE {t sl:Lv}{items:LY Lj}{g i:Lj}{lo hi:Ln LC}{Q:Lj->Lm->Prop}(a:Tx s.heap t items)(hs:s.heap.IsSliceOf sl g i .none)(k:Q7 g lo)(l:Q7 i hi)
  (f:cz ⇑items 0 lo=0/\cz ⇑items ⇑items hi=⇑items) (h:Q (.ref t) s):wpAny (model prog w) A (getItem (.ref t) (.ref sl)) Q E s:=by
 obtain⟨os,e,d,j⟩:=id hs;have c:s.TypeIs (.ref sl) "slice":=#[os,e,d];unfold getItem
 try with_reducible show MY ?_
 first|refine Lg (Lo ?_)|skip
 show Lg (TK a.typeIs #v[] ?_)
 show Lg (MP (name:=NO "__getitem__") a.typeIs N9
  (MU N9 a.typeIs SL ?_ (Tf _ _)))
 change wpAny _ _ (PB (.ref t) >>= _) _ _ s;show Lg (Vi a ?_);show Lg (Ph c ?_);rw[LU #v[]]
 show Lg (fM hs k l ?_);have b:((((cz ⇑items 0 lo:Ll):LC)==0&&(1:LC)==1&&(cz ⇑items ⇑items hi-cz ⇑items 0 lo)==⇑items)=true):=by
  rw[f.1,f.2];simp
 change wpAny _ _ (if (((cz ⇑items 0 lo:Ll):LC)==0&&(1:LC)==1&&(cz ⇑items ⇑items hi-cz ⇑items 0 lo)==⇑items)=true then _ else _) _ _ s
 rw[LU b];unfold tv;show Lg (Lg (Ph a.typeIs (Lo ?_)));rw[LU #v[]]
 show Lg (Q1 (Lg (Lo (Lo #[_,rfl,Lo h]))))
end
end HT
namespace Mi
open PySem PySem.Spec PyProof.Rows L2
abbrev w8 (x y:W)(S:aa):Ln (W×aa):=match x,y with
 |.tup xs,.int i=>(qx xs i).map λw=>(w,S)
 |.ref r,.int i=>match gJ S r with
  |some xs=>(qx xs i).map λw=>(w,S)
  |none=>gV
 |.str x,.int i=>if ↥x<=sizeLine then(qx x.cps.toList i).map λc=>(.str #[[c].toArray],S)else gV
 |_,_=>gV
abbrev jX (xs:Lf W)(lo hi:Ln LC):Lf W:=(xs.drop (HT.cz ↥xs 0 lo)).take (HT.cz ↥xs ↥xs hi-HT.cz ↥xs 0 lo)
abbrev tf (x:W)(lo hi:Ln LC)(S:aa):Ln (W×aa):=match x with
 |.tup xs=>ba (.tup (jX xs lo hi),S)
 |.ref r=>match gJ S r with
  |some xs=>ba (.ref ↥S,S++[.lst (jX xs lo hi)])
  |none=>gV
 |_=>gV
abbrev w9 (o i v:W)(S:aa):Ln aa:=match o,i with
 |.ref r,.int k=>match qp S r with
  |some xs=>match uQ ↥xs k with
   |some j=>ba (S.set r (.lst (xs.set j v)))
   |none=>gV
  |none=>gV
 |_,_=>gV
section
variable (X:Cx)
abbrev LIx (g:W->W->aa->Ln (W×aa)):Prop:=
 ∀(d c:L6) (J:Lf (Lv×Nr)) (s:Lm) (Y:L2.St) (H:Hp) (A:Lf Lv) (S:aa) (x y:W) (a b:V) (u v:Lj) (w:W) (S':aa),Inv X J Y H s->StoreOk X.w X.K A H S->
  Rel X.K A H x a->RelV a u->Rel X.K A H y b->RelV b v->g x y S=ba (w,S')->subscripted c false u v=operate [u,v] (getItem u v)->wpAny (model X.prog X.w) X.A (subscriptTail d c u v) (PostE X J Y A H S' w) X.xe s
abbrev LSl (g:W->Ln LC->Ln LC->aa->Ln (W×aa)):Prop:=
 ∀(J:Lf (Lv×Nr)) (s:Lm) (Y:L2.St) (H:Hp) (A:Lf Lv) (S:aa) (x:W) (a:V) (v vl vu:Lj) (lo hi:Ln LC) (sl:Lv) (w:W) (S':aa),Inv X J Y H s->StoreOk X.w X.K A H S->
  Rel X.K A H x a->RelV a v->s.heap.IsSliceOf sl vl vu .none->Q7 vl lo->Q7 vu hi->g x lo hi S=ba (w,S')->
  ∃T id,typeLookup (.type T) "__getitem__" = pure (ba (.builtin id))/\s.TypeIs v T/\wpAny (model X.prog X.w) X.A (getItem v (.ref sl)) (PostE X J Y A H S' w) X.xe s
abbrev LSet (g:W->W->W->aa->Ln aa):Prop:=
 ∀(J:Lf (Lv×Nr)) (s:Lm) (Y:L2.St) (H:Hp) (A:Lf Lv) (S:aa) (o i x:W) (ao ai ax:V) (uo ui ux:Lj) (S':aa),Inv X J Y H s->StoreOk X.w X.K A H S->
  Rel X.K A H o ao->RelV ao uo->Rel X.K A H i ai->RelV ai ui->Rel X.K A H x ax->RelV ax ux->g o i x S=ba S'->
  wpAny (model X.prog X.w) X.A (setItem uo ui ux) (λ_ c=>∃a b,Inv X J Y a c/\Ext X.K A H b a/\StoreOk X.w X.K b a S') X.xe s
abbrev LCall (f:Lj)(g:Lf W->aa->Ln (W×aa)):Prop:=
 ∀(J:Lf (Lv×Nr)) (s:Lm) (Y:L2.St) (H:Hp) (A:Lf Lv) (S:aa) (xs:Lf W) (vs:Lf V) (us:Lf Lj) (w:W) (S':aa),Inv X J Y H s->StoreOk X.w X.K A H S->
  RelL X.K A H xs vs->Vals vs us->g xs S=ba (w,S')->wpAny (model X.prog X.w) X.A (call f us) (PostE X J Y A H S' w) X.xe s
abbrev nB (id:Ng)(g:W->Lf W->aa->Ln (W×aa)):Prop:=
 ∀(J:Lf (Lv×Nr)) (s:Lm) (Y:L2.St) (H:Hp) (A:Lf Lv) (S:aa) (x:W) (a:V) (u:Lj) (xs:Lf W) (vs:Lf V) (us:Lf Lj) (w:W) (S':aa),Inv X J Y H s->StoreOk X.w X.K A H S->
  Rel X.K A H x a->RelV a u->RelL X.K A H xs vs->Vals vs us->g x xs S=ba (w,S')->wpAny (model X.prog X.w) X.A (call (.builtin id) (u::us)) (PostE X J Y A H S' w) X.xe s
end
section
variable{X:Cx}{J:Lf (Lv×Nr)}{Y:L2.St}{H:Hp}{s:Lm}{A:Lf Lv}{S:aa}
def IxR.go {r:R2}(h:IxR X r){S':aa}{w:W}{a b:V}{u v:Lj}{d c:L6}(I:Inv X J Y H s)(e:RelV a u)(f:RelV b v)(q:r a b H (EndV X.w X.K A H S' w))(hs:subscripted c false u v=operate [u,v] (getItem u v)) :
  wpAny (model X.prog X.w) X.A (subscriptTail d c u v) (PostE X J Y A H S' w) X.xe s:=bF (h d c J s Y H a b u v _ I e f q hs) λ_ _=>EP.post
def CallR.go {f:Lj}{r:Lf V->Hp->VK->Prop}(h:CallR X f r){S':aa}{w:W}{vs:Lf V}{us:Lf Lj}(I:Inv X J Y H s)(a:Vals vs us)(q:r vs H (EndV X.w X.K A H S' w)) :
  wpAny (model X.prog X.w) X.A (call f us) (PostE X J Y A H S' w) X.xe s:=bF (h J s Y H vs us _ I a q) λ_ _=>EP.post
def MtR.go {id:Ng}{r:V->Lf V->Hp->VK->Prop}(h:MtR X id r){S':aa}{w:W}{a:V}{u:Lj}{vs:Lf V}{us:Lf Lj}(I:Inv X J Y H s)(b:RelV a u)(c:Vals vs us)(q:r a vs H (EndV X.w X.K A H S' w)) :
  wpAny (model X.prog X.w) X.A (call (.builtin id) (u::us)) (PostE X J Y A H S' w) X.xe s:=bF (h J s Y H a vs u us _ I b c q) λ_ _=>EP.post
def uY {xs:Lf W}{vs:Lf V}{i:LC}{w:W}(r:RelL X.K A H xs vs)(e:qx xs i=ba w):∃v,qx vs i=ba v/\Rel X.K A H w v:=by
 unfold qx at e ⊢;rw[↥r]at e;cases q:uQ ↥vs i with
 |none=>rw[q]at e;cases e
 |some j=>
  rw[q]at e;obtain⟨v,a,b⟩:=r.get (show xs[j]?=ba w from e)
  show#[v,a,b]
def K8 (C:X.A.units+10<cLine):LIx X w8:=by
 intro p o J s Y H A S x y a b u v w S' I h t m g n e hs;cases t with
 |tup i k=>cases g with
  |int=>
   (dsimp only[w8]at e;simp only[Lk]at e)
   obtain⟨B,d,f⟩:=e;cases f;obtain⟨z,j,l⟩:=uY k d;show IxR.go Fo I m n #[_,_,_,_,rfl,rfl,i,j,.here h l] hs
  |_=>cases e
 |ref q=>cases g with
  |int=>
   dsimp only[w8]at e;split at e
   ·rename_i ws r;rw[Lk]at e;obtain⟨B,d,f⟩:=e;cases f;obtain⟨vs,i,k⟩:=bp h r q;obtain⟨z,j,l⟩:=uY k d;show IxR.go Cq I m n #[_,_,_,_,rfl,rfl,i,j,.here h l] hs
   ·cases e
  |_=>cases e
 |str=>cases g with
  |int=>
   dsimp only[w8]at e;split at e
   ·rw[Lk]at e;obtain⟨c,d,f⟩:=e;cases f;show IxR.go Fp I m n #[_,_,_,rfl,rfl,by assumption,d,.here h .str] hs
   ·cases e
  |_=>cases e
 |_=>cases g<;>cases e
def oX {xs:Lf W}{vs:Lf V}{lo hi:Ln LC}(r:RelL X.K A H xs vs):RelL X.K A H (jX xs lo hi) (lz vs lo hi):=by
 unfold jX lz;rw[↥r];show(r.drop _).take _
def CO:HF X (λx lo hi H Q=>∃a xs,x=.ref a/\SqT X.K H a xs/\(lz xs lo hi=xs->Q (.ref a) H)/\∀p,H p=gV->Q (.ref p) (bE H p (.tup (lz xs lo hi)))):=by
 intro J s Y H x v l m lo hi sl Q I j hs g i h;obtain⟨a,xs,rfl,f,k,q⟩:=h
 by_cases c:(HT.cz ↥xs 0 lo=0/\HT.cz ↥xs ↥xs hi=↥xs)
 ·cases j;obtain⟨d,r,e,hz⟩:=I.tuple f;have b:⇑d.toArray=↥xs:=by rw[LM];show r.length.symm
  show#["tuple",_,PyProof.Rows.slot_tuple_getitem.lookup,e.typeIs,?_];show HT.iE e hs g i (by rw[b];show c) #[.ref a,H,I,rfl,k ?_]
  unfold lz;rw[c.1,c.2];simp
 ·show Fn J s Y H (.ref a) v l m lo hi sl Q I j hs g i #[a,xs,rfl,f,c,q]
def K9:LSl X tf:=by
 intro J s Y H A S x a v m n lo hi sl w S' I d t l hs j k e;cases t with
 |tup b c=>
  cases e;obtain⟨T,id,g,h,i⟩:=CO J s Y H _ v m n lo hi sl (EndV X.w X.K A H S (.tup (jX _ lo hi))) I l hs j k #[_,_,rfl,b,λq=>.here d (.tup b (by have:=oX (lo:=lo) (hi:=hi) c;rw[q]at this;show this)),λp f=>.tup d (oX c) f]
  show#[T,id,g,h,bF i λ_ _=>EP.post]
 |ref o=>
  dsimp only[tf]at e;split at e
  ·rename_i ws r;cases e;obtain⟨vs,b,c⟩:=bp d r o;obtain⟨T,id,g,h,i⟩:=Cr J s Y H _ v m n lo hi sl (EndV X.w X.K A H (S++[.lst (jX ws lo hi)]) (.ref ↥S)) I l hs j k #[_,_,rfl,b,λp f=>.lst d (oX c) f]
   show#[T,id,g,h,bF i λ_ _=>EP.post]
  ·cases e
 |_=>cases e
def lset (B:X.A.units+10<cLine):LSet X w9:=by
 intro J s Y H A S o i x z y p v u w S' I n r b m a t c e;cases r with
 |ref g=>cases m with
  |int=>
   dsimp only[w9]at e;split at e
   ·rename_i ws k;split at e
    ·rename_i j h;cases e;obtain⟨vs,q,l⟩:=fG n k g;rw[↥l]at h;obtain⟨d,ex⟩:=n.write (lA k) g (l.set t j);show bF (yK J s Y H _ _ _ v u w (λf=>f=bE H _ (.lst (vs.set j p))) I b a c #[_,_,_,_,rfl,rfl,q,h,rfl]) λ_ C #[f,I',e']=>#[_,A,e'▸I',ex,d]
    ·cases e
   ·cases e
  |_=>cases e
 |_=>cases m<;>cases e
abbrev tj (xs:Lf W)(S:aa):Ln (W×aa):=match xs with
 |[.tup ys]=>ba (.int ↥ys,S)
 |[.str y]=>if ↥y<=sizeLine then ba (.int ↥y,S)else gV
 |[.ref i]=>(gJ S i).map λys=>(.int ↥ys,S)
 |_=>gV
def xf:LCall X (.builtin "len") tj:=by
 intro J s Y H A S xs vs us w S' I a i d e;cases i with
 |nil=>cases e
 |cons r t=>
  cases t with
  |cons _ _=>cases r<;>cases e
  |nil=>
   cases r with
   |tup b c=>cases e;rw[↥c];show CallR.go lw I d #[_,_,rfl,.inr #[_,b,rfl],.here a .int]
   |str=>
    dsimp only[tj]at e;split at e
    ·cases e;show CallR.go lw I d #[_,_,rfl,#[by assumption,rfl],.here a .int]
    ·cases e
   |ref g=>
    (dsimp only[tj]at e;simp only[Lk]at e)
    obtain⟨ws,h,f⟩:=e;cases f;obtain⟨j,b,c⟩:=bp a h g;rw[↥c];show CallR.go lw I d #[_,_,rfl,.inl #[_,b,rfl],.here a .int]
   |_=>cases e
abbrev jl (xs:Lf W)(S:aa):Ln (W×aa):=match xs with
 |[x]=>match fO S x with
  |some ys=>ba (.ref ↥S,S++[.lst ys])
  |none=>gV
 |_=>gV
def iX:LCall X (.type "list") jl:=by
 intro J s Y H A S xs vs us w S' I b g h e;cases g with
 |nil=>cases e
 |cons r t=>
  cases t with
  |cons _ _=>cases e
  |nil=>
   dsimp only[jl]at e;split at e
   ·rename_i ys d;cases e;obtain⟨p,a,rfl,c,f⟩:=oW (J:=J) (Y:=Y) (s:=s) b r d;show CallR.go oT I h #[p,a,rfl,c,λl hl=>.lst b f hl]
   ·cases e
abbrev lC (xs:Lf W)(S:aa):Ln (W×aa):=match xs with
 |[.tup ys]=>ba (.tup ys,S)
 |[.ref i]=>match gJ S i with
  |some ys=>ba (.tup ys,S)
  |none=>gV
 |_=>gV
def kG:LCall X (.type "tuple") lC:=by
 intro J s Y H A S xs vs us w S' I c h d e;cases h with
 |nil=>cases e
 |cons r t=>
  cases t with
  |cons _ _=>cases r<;>cases e
  |nil=>
   cases r with
   |tup a b=>cases e;show CallR.go iL I d #[_,_,rfl,.inr #[a,.here c (.tup a b)]]
   |ref f=>
    dsimp only[lC]at e;split at e
    ·rename_i ys g;cases e;obtain⟨i,a,b⟩:=bp c g f;show CallR.go iL I d #[_,_,rfl,.inl #[a,λl hl=>.tup c b hl]]
    ·cases e
   |_=>cases e
abbrev HK (xs:Lf W)(S:aa):Ln (W×aa):=match xs with
 |[.int i]=>ba (.int i,S)
 |[.bl b]=>ba (.int (if b then 1 else 0),S)
 |_=>gV
def xg:LCall X (.type "int") HK:=by
 intro J s Y H A S xs vs us w S' I b c a e;cases c with
 |nil=>cases e
 |cons r t=>
  cases t with
  |cons _ _=>cases r<;>cases e
  |nil=>
   cases r with
   |int=>cases e;show CallR.go nj I a (.inl #[_,rfl,.here b .int])
   |bl=>cases e;show CallR.go nj I a (.inr #[_,rfl,.here b .int])
   |_=>cases e
abbrev jm (x:W)(xs:Lf W)(S:aa):Ln (W×aa):=match x,xs with
 |.ref i,[y]=>match qp S i with
  |some ys=>if ↥ys<sizeLine then ba (.non,S.set i (.lst (ys++[y])))else gV
  |none=>gV
 |_,_=>gV
def jY {i:Ll}{p:Lv}{ws c:Lf W}{us:Lf V}(f:StoreOk X.w X.K A H S)(e:qp S i=ba c)(d:A[i]?=ba p)(r:RelL X.K A H ws us){w:W}{v:V}(a:Rel X.K A H w v) :
  EndV X.w X.K A H (S.set i (.lst ws)) w v (bE H p (.lst us)):=by
 obtain⟨b,ex⟩:=f.write (lA e) d r;show#[A,ex,b,a.mono ex]
def oY:nB X "list.append" jm:=by
 intro J s Y H A S x a u xs vs us w S' I f k i h j e;cases k with
 |ref b=>
  cases h with
  |nil=>cases e
  |cons r t=>
   cases t with
   |cons _ _=>cases e
   |nil=>
    dsimp only[jm]at e;split at e
    ·rename_i ys c;split at e
     ·rename_i hl;cases e;obtain⟨l,g,d⟩:=fG f c b;rw[↥d]at hl;show MtR.go wQ I i j #[_,_,_,rfl,rfl,g,hl,jY f c b (d.append #v[r]) .non]
     ·cases e
    ·cases e
 |_=>cases e
abbrev jn (x:W)(xs:Lf W)(S:aa):Ln (W×aa):=match x,xs with
 |.ref i,[.ref j]=>match qp S i,qp S j with
  |some ys,ba a=>if ↥ys+↥a<=sizeLine then ba (.non,S.set i (.lst (ys++a)))else gV
  |_,_=>gV
 |_,_=>gV
def oZ:nB X "list.extend" jn:=by
 intro J s Y H A S x a u xs vs us w S' I b n l k m e;cases n with
 |ref c=>
  cases k with
  |nil=>cases e
  |cons r t=>
   cases t with
   |cons _ _=>cases r<;>cases e
   |nil=>
    cases r with
    |ref h=>
     dsimp only[jn]at e;split at e
     ·rename_i ys q d hz;split at e
      ·rename_i hl;cases e;obtain⟨o,i,f⟩:=fG b d c;obtain⟨p,j,g⟩:=fG b hz h;rw[↥f,↥g]at hl;show MtR.go wR I l m #[_,_,_,_,rfl,rfl,i,j,hl,jY b d c (f.append g) .non]
      ·cases e
     ·cases e
    |_=>cases e
 |_=>cases e
abbrev Fv (x:W)(xs:Lf W)(S:aa):Ln (W×aa):=match x,xs with
 |.ref i,[.int k]=>match qp S i with
  |some ys=>if -(2^63)<=k/\k<2^63 then match seqIndex? k ↥ys with
   |some j=>match ys[j]? with
    |some y=>ba (y,S.set i (.lst (ys.eraseIdx j)))
    |none=>gV
   |none=>gV
   else gV
  |none=>gV
 |_,_=>gV
def xh:nB X "list.pop" Fv:=by
 intro J s Y H A S x a u xs vs us w S' I h p n m o e;cases p with
 |ref d=>
  cases m with
  |nil=>cases e
  |cons r t=>
   cases t with
   |cons _ _=>cases r<;>cases e
   |nil=>
    cases r with
    |int=>
     dsimp only[Fv]at e;split at e
     ·rename_i ys g;split at e
      ·rename_i hk;split at e
       ·rename_i j f;split at e
        ·rename_i y b;cases e;obtain⟨q,i,c⟩:=fG h g d;obtain⟨v,k,l⟩:=c.get b;rw[↥c]at f;show MtR.go yN I n o #[_,_,_,_,_,rfl,rfl,i,hk.1,hk.2,f,k,jY h g d (c.eraseIdx j) l]
        ·cases e
       ·cases e
      ·cases e
     ·cases e
    |_=>cases e
 |_=>cases e
abbrev jZ:Lf W->Ln (Lf LW)
 |[]=>ba []
 |.str x::xs=>(jZ xs).map (x :: ·)
 |_::_=>gV
abbrev uZ (x:W)(xs:Lf W)(S:aa):Ln (W×aa):=match x,xs with
 |.str x,[y]=>match fO S y with
  |some ys=>match jZ ys with
   |some a=>if (a.map (·.length)).sum+↥a*↥x<=16777216 then ba (.str (VZ x a),S)else gV
   |none=>gV
  |none=>gV
 |_,_=>gV
def lD:∀{ws:Lf W}{vs:Lf V}{us:Lf Lj}{a:Lf LW},RelL X.K A H ws vs->Vals vs us->jZ ws=ba a->StrsAre us a
 |_,_,_,a,.nil,.nil,e=>by cases e;show .nil
 |_,_,_,a,.cons r t,.cons q p,e=>by
  cases r with
  |str=>
   (dsimp only[jZ]at e;simp only[Lk]at e)
   obtain⟨z,b,c⟩:=e;subst c;obtain⟨d,rfl⟩:∃t,_=Qr _ t:=q;show .cons _ d (lD t p b)
  |_=>cases e
def tm:nB X "str.join" uZ:=by
 intro J s Y H A S x a u xs vs us w S' I j v o n q e;cases v with
 |str=>
  cases n with
  |nil=>cases e
  |cons r t=>
   cases t with
   |cons _ _=>cases e
   |nil=>
    simp only[uZ]at e;split at e
    ·rename_i ys m;split at e
     ·rename_i C hz;split at e
      ·rename_i hl;cases e;obtain⟨p,z,rfl,b,l⟩:=oW (J:=J) (Y:=Y) (s:=s) j r m;obtain⟨B,rfl⟩:∃t,u=Qr _ t:=o;obtain⟨y,rfl,i⟩:=ni q;have c:y=Mr p:=i;subst c;rcases b with b|b
       ·obtain⟨f,h,g,d⟩:=I.list b;show join_list g.isList (by simpa using lD l h hz) hl λt' k=>#[.str _,H,A,I.tok _,#[_,rfl],.refl,j,.str]
       ·obtain⟨f,h,g,d⟩:=I.tuple b;show join_tuple g (by simpa using lD l h hz) hl λt' k=>#[.str _,H,A,I.tok _,#[_,rfl],.refl,j,.str]
      ·cases e
     ·cases e
    ·cases e
 |_=>cases e
abbrev iY (S:aa):W->Ln L7
 |.non=>ba false
 |.bl b=>ba b
 |.int i=>ba (i != 0)
 |.str y=>if ↥y<=sizeLine then ba ((↥y:LC) != 0)else gV
 |.tup xs=>ba (!xs.isEmpty)
 |.ref i=>(gJ S i).map λxs=>!xs.isEmpty
def kH {ws:Lf W}{vs:Lf V}(r:RelL X.K A H ws vs):(!ws.isEmpty) = !vs.isEmpty:=by cases r<;>rfl
def Kf {x:W}{a:V}{u:Lj}{k:L7}{Q:L7->Lm->Prop}(I:Inv X J Y H s)(o:StoreOk X.w X.K A H S)(n:Rel X.K A H x a)(m:RelV a u)(e:iY S x=ba k)(j:∀c,Inv X J Y H c->Q k c) :
  wpAny (model X.prog X.w) X.A (truthy u) Q X.xe s:=by
 show bF (Fh J s Y H a u (λb h=>b=k/\h=H) I m #[k,?_,rfl,rfl]) λb c #[h,I',e1,d]=>?_
 ·cases n with
  |non=>cases e;rfl
  |bl=>cases e;rfl
  |int=>cases e;rfl
  |str=>
   simp only[iY]at e;split at e
   ·cases e;show#[by assumption,rfl]
   ·cases e
  |tup f g=>cases e;show .inr (.inl #[_,f,kH g])
  |ref i=>
   simp only[iY,Lk]at e;obtain⟨ws,l,d⟩:=e;subst d;obtain⟨vs,f,g⟩:=bp o l i;show .inl #[_,f,kH g]
 ·subst e1 d;show j c I'
end
abbrev cL (w:MB):Nr:={cls:=.type "set",dict:=gV,data:=.set #[] 0 (.fresh 0 0 (!fN w))}
section
variable{prog:Mn}{w:MB}{A:Ms}{E:Lj->Lm->Prop}{s:Lm}{R:Ud->Lm->Prop}{I:Lv}{fp wr:Lf Lv}{G:LY Sq->LY Sq->Prop}{n:Ll}{P:Ll->Lj->Prop}{St:Ll->Lm->Prop}
def y6 (a:Lj){Q₁:Lj->Lm->Prop}(h:Q₁ (.ref ⇑s.heap.objs) {s with heap:=s.heap.push (cL w)}):codeAny (model prog w) A (.call (.builtin "set.__new__") #[[.type "set",a],[]]) (wants Q₁ E) s:=by
 show R4 ?_;change wpAny _ A.in1 (checkBuiltinCall "set.__new__" #[[.type "set",a],[]] >>= λ_=>again (.builtin "set.__new__" #[[.type "set",a],[]])) _ _ s
 show Lg (Qd (F.newCall_set_1 a) (Lo #[NY F.plain_set_new _,M4 F.entry_set_new ?_]));rw[MW F.plain_set_new _];unfold O3.«set.__new__» U4;have b:=Tj;obtain⟨c,g,d,e,os⟩:=s;dsimp only
 wp_walk
 show O7 (Lo ?_);dsimp only;simp only[newObj];show Lg (V0 (Lo (Lo h)))
end
def gN:Slot "set_iterator" "__next__" "set_iterator.__next__":=.of (owner:="set_iterator") (n:="__next__") (by rw[UJ,Se];kernel_rfl) (by decide +kernel) (by decide +kernel) (by decide +kernel) (by first|show .inl (by decide +kernel)|show .inr (by decide +kernel)) (by rw[U5];kernel_rfl)
def qD:Slot "set_iterator" "__iter__" "set_iterator.__iter__":=.of (owner:="set_iterator") (n:="__iter__") (by rw[UJ,Se];kernel_rfl) (by decide +kernel) (by decide +kernel) (by decide +kernel) (by first|show .inl (by decide +kernel)|show .inr (by decide +kernel)) (by rw[U5];kernel_rfl)
def xi:entryFor table "set_iterator.__next__" = ba O3.«set_iterator.__next__»:=entryFor_of_tree (by kernel_rfl)
def tq:entryFor table "set.__iter__" = ba O3.«frozenset.__iter__»:=U6 (id':="frozenset.__iter__") (by kernel_rfl) rfl (by decide +kernel) (by kernel_rfl)
def y8 (a:Lj):argsOk "set_iterator.__next__" #[[a],[]]:=by unfold argsOk;kernel_rfl
section
variable{α:Type}{prog:Mn}{w:MB}{A:Ms}{E:Lj->Lm->Prop}{s:Lm}
def xj {a:Source}{n:Ll}{Q:Ll->Lm->Prop}(b:n≠0)(h:∀i dr,i<n->Q i {s with drawn:=dr}):wpAny (model prog w) A (choose a n) Q E s:=λ_ _ _=>#[b,h _ _ (P6 _ (Nat.pos_of_ne_zero b))]
def lE:∀{l:Lf α}{i:Ll} (h:i<↥l),(l[i]::l.eraseIdx i).Perm l
 |x::l,0,_=>.refl _
 |x::l,i+1,h=>(WO _ _ _).trans ((lE (l:=l) (i:=i) (by simpa using h)).cons x)
def lF:∀(n:Ll) (xs:Lf α) {s:Lm}{Q:Lf α->Lm->Prop},↥xs=n->(∀ys dr,ys.Perm xs->Q ys {s with drawn:=dr})->wpAny (model prog w) A (drawOrder n xs) Q E s
 |0,xs,s,Q,hl,h=>by
  obtain rfl:=MQ.mp hl;show Lo (h [] s.drawn .nil)
 |n+1,[],s,Q,hl,h=>by cases hl
 |n+1,x::xs,s,Q,hl,h=>by
  unfold drawOrder;show Lg (xj (by simp) λi dr hi=>?_)
  rw[Lq hi];dsimp only;show Lg (lF n _ (by rw[Rb hi,hl];rfl) λys a b=>Lo (h _ a ?_))
  show(b.cons _).trans (lE hi)
def u4 {next:Ll->Ll}:∀(f k:Ll) (a:Lf α) (out:LY α),f=↥a->(pickOrder.go next f k a out).toList.Perm (out.toList++a)
 |0,k,a,out,h=>by
  obtain rfl:=MQ.mp h.symm;simp[pickOrder.go]
 |f+1,k,a,out,h=>by
  unfold pickOrder.go;have b:0<↥a:=∅
  have hi:next k % ↥a<↥a:=P6 _ b;rw[Lq hi];dsimp only;show(u4 f (k+1) _ _ (by rw[Rb hi];omega)).trans ?_
  rw[Rv,N2];show(lE hi).append_left _
def ic {next:Ll->Ll}{xs:LY α}:(pickOrder next xs).toList.Perm xs.toList:=by
 have:=u4 (next:=next) ⇑xs 0 xs.toList #[] (by simp)
 simpa [pickOrder]using this
abbrev SIt (I:Lv)(f r:Lj)(i n a:Ll)(h:MD):Prop:=h.get? I=ba {cls:=.type "set_iterator",data:=.fields [f,.int i 0,r,.int n 0,.int a 0].toArray}
def SIt.type {I:Lv}{f r:Lj}{i n a:Ll}(x:SIt I f r i n a s.heap):s.TypeIs (.ref I) "set_iterator":=#[_,x,rfl]
def qE {I:Lv}{Q:Ln Lj->Lm->Prop}{f r:Lj}{i n c:Ll}(x:SIt I f r i n c s.heap)(h:wpAny (model prog w) A.in1 (O3.«set_iterator.__next__» #[[.ref I],[]]) (λa b=>∃v,a=.done (.ret v)/\Q (ba v) b) (λe b=>wpAny (model prog w) A (do if <- isInstance e (.type "StopIteration")then pure gV else throw e) Q E b) s):wpAny (model prog w) A (pyNext (.ref I)) Q E s:=by
 unfold pyNext;show Lg (Pr (MP (name:=NO "__next__") x.type gN (MU gN x.type xi ?_ (y8 _))));show NR h (λ_ _ #[v,e,q]=>#[v,e,Lo q]) λ_ _ q=>q
abbrev HL (prog:Mn)(w:MB)(A:Ms)(Q:Ln Lj->Lm->Prop)(E:Lj->Lm->Prop)(e:Lj)(a:Lm):Prop:=wpAny (model prog w) A (do if <- isInstance e (.type "StopIteration")then pure gV else throw e) Q E a
def qF {Q:Ln Lj->Lm->Prop}{c:WA->Lm->Prop}(d:A.handled=gV)(h:∀h',(∀b o,s.heap.get? b=ba o->h'.get? b=ba o)->Q gV {s with heap:=h'}):wpAny (model prog w) A.in1 (newExc (.type "StopIteration") [] >>= λx=>raiseNew x) c (HL prog w A Q E) s:=by
 show Lg ?_;simp only[newExc,newTuple];show Lg (MC ?_ (by size_fits))
 show Lg (m:=firstArgMember _ _) (Qd (a:=MG) (by first|rfl|(simp only[firstArgMember];rfl)) ?_)
 show MC ?_ (by size_fits)
 simp only[raiseNew];show Lg (SV ?_);rw[show A.in1.handled=gV from d]
 show Lg (Lo (Uz ?_));show Lg (O8 (T:="StopIteration") (b:=true) #[_,LI _ rfl,rfl] Rc ?_);show Lo (h _ λb o e=>Li _ (Li _ e))
section
variable{I a:Lv}{f r:Lj}{i n ep sl:Ll}{o:Nr}{es:LY (LC×Lj)}{t:Mc}{Q:Ln Lj->Lm->Prop}
def ie {Q:WL->Lm->Prop}{vs:LY Lj}{k:Ll}{v:Lj}(x:s.heap.get? I=ba {cls:=.type "set_iterator",data:=.fields vs})(hk:k<⇑vs)(h:∀h',h'.get? I=ba {cls:=.type "set_iterator",data:=.fields (vs.setIfInBounds k v)}->NN I s.heap h'->Q () {s with heap:=h'}):wpAny (model prog w) A (setField (.ref I) k v) Q E s:=OC x hk h
def ig (x:SIt I (.int sl 0) (.ref a) i n ep s.heap)(z:s.heap.get? a=ba o)(hd:o.data=.set es ep t)(hf:t.fits ⇑es=true)(y:⇑es=n)(u:A.handled=gV){g:Ln (Lj×Ll)}
  (B:∀m:Ln (Lj×Ll)->Lm->Prop,m g s->wpAny (model prog w) A.in1 (setNext a sl i ep) m (HL prog w A Q E) s)
  (r:∀v c,g=ba (v,c)->∀h',SIt I (.int c 0) (.ref a) (i+1) n ep h'->(∀b o,b≠I->s.heap.get? b=ba o->h'.get? b=ba o)->Q (ba v) {s with heap:=h'})
  (j:g=gV->∀h',(∀b o,b≠I->s.heap.get? b=ba o->h'.get? b=ba o)->Q gV {s with heap:=h'}):wpAny (model prog w) A (pyNext (.ref I)) Q E s:=by
 show qE x ?_;show Lg (Lo ?_);change wpAny _ _ (fieldsOf (.ref I) >>= _) _ _ s;show Lg (Re x rfl ?_);show Lg (QQ z hd hf ?_);rw[L1 (by simp[y])]
 show Lg (B _ ?_);cases g with
 |some p=>
  obtain⟨v,c⟩:=p;dsimp only;show Lg (ie x (by simp) λh' q d=>?_)
  show Lg (ie q (by simp) λj C l=>?_)
  show Lo #[v,rfl,r v c rfl j ?_ λb o f e=>?_]
  ·simpa [SIt,rawInt]using C
  ·rw[l.2 b f,d.2 b f];show e
 |none=>
  dsimp only;show Lg (ie x (by simp) λh' q d=>?_)
  show qF u λh k=>j rfl h λb o f e=>k b o (by rw[d.2 b f];show e)
def nC {tp:Lv}{ps:Lf Ll}(x:SIt I (.ref tp) (.ref a) i n ep s.heap)(l:s.heap.get? a=ba o)(hd:o.data=.set es ep t)(hf:t.fits ⇑es=true)(y:⇑es=n)(v:A.handled=gV)
  (C:s.heap.get? tp=ba {cls:=.type "tuple",data:=.seq (ps.map λk=>rawInt (k:Ll)).toArray 0})
  (m:∀p e,ps[i]?=ba p->es[p]?=ba e->∀h',SIt I (.ref tp) (.ref a) (i+1) n ep h'->(∀b o,b≠I->s.heap.get? b=ba o->h'.get? b=ba o)->Q (ba e.2) {s with heap:=h'})
  (B:∀p,ps[i]?=ba p->∃e,es[p]?=ba e)
  (r:ps[i]?=gV->∀h',(∀b o,b≠I->s.heap.get? b=ba o->h'.get? b=ba o)->Q gV {s with heap:=h'}):wpAny (model prog w) A (pyNext (.ref I)) Q E s:=by
 show qE x ?_;show Lg (Lo ?_);change wpAny _ _ (fieldsOf (.ref I) >>= _) _ _ s;show Lg (Re x rfl ?_);show Lg (QQ l hd hf ?_);rw[L1 (by simp[y])]
 show Lg (Nn C rfl ?_);dsimp only;have u:(ps.map λk=>rawInt (k:Ll)).toArray[(i:LC).toNat]?=(ps[i]?).map λk=>rawInt (k:Ll):=by simp
 rw[u];cases q:ps[i]? with
 |some p=>
  obtain⟨e,j⟩:=B p q;change wpAny _ _ (setNextDrawn a (p:LC).toNat (ep:LC).toNat >>= _) _ _ s;unfold setNextDrawn;show Lg (Lg (Nd l hd hf ?_));dsimp only;rw[L1 (by simp)]
  simp only[LP,j];show Lo ?_;show Lg (ie x (by simp) λh' h c=>?_)
  show Lo #[e.2,rfl,m p e q j h' ?_ λb o d z=>?_]
  ·simpa [SIt,rawInt]using h
  ·rw[c.2 b d];show z
 |none=>
  delta Option.map_none;show Lg (ie x (by simp) λh' h c=>?_)
  show Lg (ie h (by simp) λD G g=>?_)
  show qF v λf k=>r q f λb o d e=>k b o (by rw[g.2 b d,c.2 b d];show e)
def nD {E:Lj->Lm->Prop}{Q:Ln (Lj×Ll)->Lm->Prop}(c:s.heap.get? a=ba o)(hd:o.data=.set es ep t)(hf:t.fits ⇑es=true)(d:fN w=true)(h:Q ((((pickOrder (w.params.setOrder a ep) es).toList.map (·.2))[i]?).map λv=>(v,sl)) s):wpAny (model prog w) A (setNext a sl i ep) Q E s:=by
 unfold setNext;show Lg (Nd c hd hf ?_);dsimp only;have b:∀{Q:L7->Lm->Prop},Q true s->wpAny (model prog w) A setsByText Q E s:=λ{Q} f=>by
  unfold setsByText;show Lg (O7 (Lo ?_));change Q (fN w) s;rw[d];show f
 show Lg (b ?_);rw[LU rfl,L1 (by simp)]
 show Lg ?_;unfold setWalk;show Lg (Nd c hd hf ?_);dsimp only;show Lg (b ?_);rw[LU rfl];show Lg (O7 (Lo (Lo ?_)));have e:(((pickOrder (w.params.setOrder a ep) es)[i]?).map λe=>(e.2,sl))=((((pickOrder (w.params.setOrder a ep) es).toList.map (·.2))[i]?).map λv=>(v,sl)):=by
  rw[Lu,MX,U7];rfl
 change Q (((pickOrder (w.params.setOrder a ep) es)[i]?).map λe=>(e.2,sl)) s
 rw[e];show h
def qG {E:Lj->Lm->Prop}{Q:Ln (Lj×Ll)->Lm->Prop}(n:s.heap.get? a=ba o)(hd:o.data=.set es ep t)(hf:t.fits ⇑es=true)(l:fN w=false)(hl:t.led=true)(k:⇑es<=1)(hi:i=0/\sl=0\/i=⇑es/\sl=(t.place.getD 0 0)+1)
  (h:Q (((es.toList.map (·.2))[i]?).map λv=>(v,t.place.getD 0 0+1)) s):wpAny (model prog w) A (setNext a sl i ep) Q E s:=by
 unfold setNext;show Lg (Nd n hd hf ?_);dsimp only;have b:∀{Q:L7->Lm->Prop},Q false s->wpAny (model prog w) A setsByText Q E s:=λ{Q} p=>by
  unfold setsByText;show Lg (O7 (Lo ?_));change Q (fN w) s;rw[l];show p
 show Lg (b ?_);rw[L1 L5];show Pp (λm=>absurd m (by change ¬ ((!t.plain&&decide (⇑es > 1))=true);simp;omega)) (λ_=>?_)
 show Lg ?_;change wpAny _ _ (if (!t.led && !es.isEmpty)=true then unsupported "set:maker-not-led" else pure ()) _ _ s
 rw[L1 (by simp[hl])]
 show Lo (Lo ?_);obtain⟨es⟩:=es;obtain⟨r,c,d,g,q,u,pn⟩:=t;obtain⟨c⟩:=c;simp only[SW,Lp,beq_iff_eq]at hf
 match es,c,hf.1,k with
 |[],[],_,_=>
  have:i=0:=by rcases hi with z|z<;>simpa using z.1
  subst this;show h
 |[e],[j],_,_=>
  rcases hi with⟨rfl,rfl⟩|⟨rfl,rfl⟩
  ·show h
  ·have f:Mz [j].toArray (j+1)=1:=by
    change Qi [j].toArray (j+1) 1 0 1=1;simp[Qi]
   have B:(({mask:=r,place:=[j].toArray,dummies:=d,finger:=g,led:=q,moves:=u,plain:=pn}:Mc).place.getD 0 0)=j:=rfl;change Q (match ([e].toArray:LY (LC×Lj))[Mz [j].toArray (j+1)]?,([j].toArray:LY Ll)[Mz [j].toArray (j+1)]? with|some (_,x),ba j=>ba (x,j+1)|_,_=>gV) s
   rw[f];show h
 |e::y::es,_,_,z=>simp at z
 |[],_::_,z,_=>simp at z
 |[_],[],z,_=>simp at z
 |[_],_::_::_,z,_=>simp at z
def lG {E:Lj->Lm->Prop}{Q:Ln (Lj×Ll)->Lm->Prop}(g:s.heap.get? a=ba o)(hd:o.data=.set es ep t)(hf:t.fits ⇑es=true)(e:fN w=false)(hl:t.led=true)(j:t.plain=true)(l:Mz t.place sl=i)
  (h:Q (((es.toList.map (·.2))[i]?).map λv=>(v,t.place.getD i 0+1)) s):wpAny (model prog w) A (setNext a sl i ep) Q E s:=by
 unfold setNext;show Lg (Nd g hd hf ?_);dsimp only;have b:∀{Q:L7->Lm->Prop},Q false s->wpAny (model prog w) A setsByText Q E s:=λ{Q} k=>by
  unfold setsByText;show Lg (O7 (Lo ?_));change Q (fN w) s;rw[e];show k
 show Lg (b ?_);rw[L1 L5];show Pp (λf=>absurd f (by change ¬ ((!t.plain&&decide (⇑es > 1))=true);simp[j])) (λ_=>?_)
 show Lg ?_;change wpAny _ _ (if (!t.led && !es.isEmpty)=true then unsupported "set:maker-not-led" else pure ()) _ _ s
 rw[L1 (by simp[hl])]
 show Lo (Lo ?_);rw[l];have hz:⇑t.place=⇑es:=by
  simp only[SW,Lp,beq_iff_eq]at hf;show hf.1
 rw[Lu,MX]at h
 by_cases hi:i<⇑es
 ·have c:es[i]?=ba es[i]:=by simp[hi]
  have d:t.place[i]?=ba (t.place.getD i 0):=by simp[NH,hz,hi]
  rw[c]at h ⊢;rw[d];show h
 ·have c:es[i]?=gV:=by simp;omega
  rw[c]at h ⊢;show h
end
end
def xk:entryFor table "set_iterator.__iter__" = ba O3.«dict_keyiterator.__iter__»:=U6 (id':="dict_keyiterator.__iter__") (by kernel_rfl) rfl (by decide +kernel) (by kernel_rfl)
def y9 (a:Lj):argsOk "set_iterator.__iter__" #[[a],[]]:=by unfold argsOk;kernel_rfl
section
variable{prog:Mn}{w:MB}{A:Ms}{E:Lj->Lm->Prop}{s:Lm}{I a tp:Lv}{f r:Lj}{i n ep sl:Ll}{o:Nr}{es:LY (LC×Lj)}{t:Mc}
def jo {Q:Lj->Lm->Prop}(x:SIt I f r i n ep s.heap)(h:Q (.ref I) s):wpAny (model prog w) A (pyIter (.ref I)) Q E s:=by
 show Rw x.type qD (MU qD x.type xk ?_ (y9 _));change wpAny _ _ (ret (.ref I)) _ _ s;show Lo #[_,rfl,"set_iterator",_,x.type,gN.lookup,h]
def qH {b x y:Lv}(h:b∉[x]):b≠x:=λz=>h (by simp[z])
def tu (l:A.handled=gV)(f:a≠I)(hd:o.data=.set es ep t)(hf:t.fits ⇑es=true)(c:fN w=true) :
  UA prog w A I [I,a] [I] ⇑es (λi v=>((pickOrder (w.params.setOrder a ep) es).toList.map (·.2))[i]?=ba v) (λi h=>SIt I (.int 0 0) (.ref a) i ⇑es ep h/\h.get? a=ba o) where
 sub:=λb c=>by simp at c;simp[c]
 frame:=λ_ _ _ st hk=>#[hk I (by simp) _ st.1,hk a (by simp) _ st.2]
 item:=λi s Q E hi st d=>by
  have hl:((pickOrder (w.params.setOrder a ep) es).toList.map (·.2)).length=⇑es:=by rw[Lh,ic.length_eq,Lz]
  show ig (sl:=0) st.1 st.2 hd hf rfl l (λn g=>nD st.2 hd hf c g) (λv j e h' m k=>?_) λe h' k=>?_
  ·obtain⟨p,q,e⟩:=Lk.mp e;cases e;show d v h' s.toks q #[m,k a _ f st.2] λb o c e=>k b o (qH (y:=b) c) e
  ·rw[Qj,MN]at e;omega
 done:=λs Q E st d=>by
  have hl:((pickOrder (w.params.setOrder a ep) es).toList.map (·.2)).length=⇑es:=by rw[Lh,ic.length_eq,Lz]
  show ig (sl:=0) st.1 st.2 hd hf rfl l (λn g=>nD st.2 hd hf c g) (λv j e h' m k=>?_) λe h' k=>d h' s.toks λb o c e=>k b o (qH (y:=b) c) e
  obtain⟨p,q,e⟩:=Lk.mp e;have:=(LB.mp q).1;omega
 self:=λ_ _ _ _ st d=>jo st.1 d
def xl (n:A.handled=gV)(g:a≠I)(hd:o.data=.set es ep t)(hf:t.fits ⇑es=true)(c:fN w=false)(hl:t.led=true)(m:⇑es<=1) :
  UA prog w A I [I,a] [I] ⇑es (λi v=>(es.toList.map (·.2))[i]?=ba v) (λi h=>SIt I (.int ((if i=0 then 0 else t.place.getD 0 0+1:Ll):LC) 0) (.ref a) i ⇑es ep h/\h.get? a=ba o) where
 sub:=λb c=>by simp at c;simp[c]
 frame:=λ_ _ _ st hk=>#[hk I (by simp) _ st.1,hk a (by simp) _ st.2]
 item:=λi s Q E hi st d=>by
  have u:i=0:=∅
  subst u;show ig st.1 st.2 hd hf rfl n (λr j=>qG st.2 hd hf c hl m (.inl #[rfl,rfl]) j) (λv l e h' p k=>?_) λe h' k=>?_
  ·obtain⟨x,q,e⟩:=Lk.mp e;cases e;show d v h' s.toks q #[p,k a _ g st.2] λb o c e=>k b o (qH (y:=b) c) e
  ·rw[Qj,MN,Lh,Lz]at e;omega
 done:=λs Q E st d=>by
  show ig st.1 st.2 hd hf rfl n (λr j=>qG st.2 hd hf c hl m ?_ j) (λv l e h' p k=>?_) λe h' k=>d h' s.toks λb o c e=>k b o (qH (y:=b) c) e
  ·by_cases f:⇑es=0
   ·show .inl #[f,by rw[LU f]]
   ·show .inr #[rfl,by rw[L1 f]]
  ·obtain⟨x,q,e⟩:=Lk.mp e;have:=(LB.mp q).1;rw[Lh,Lz]at this;omega
 self:=λ_ _ _ _ st d=>jo st.1 d
def qI (n:A.handled=gV)(g:a≠I)(hd:o.data=.set es ep t)(hf:t.fits ⇑es=true)(c:fN w=false)(hl:t.led=true)(p:t.plain=true)(l:eH t ⇑es=true) :
  UA prog w A I [I,a] [I] ⇑es (λi v=>(es.toList.map (·.2))[i]?=ba v) (λi h=>SIt I (.int ((if i=0 then 0 else t.place.getD (i-1) 0+1:Ll):LC) 0) (.ref a) i ⇑es ep h/\h.get? a=ba o):=by
 have go:∀i,i<=⇑es->Mz t.place (if i=0 then 0 else t.place.getD (i-1) 0+1)=i:=λi hi=>by
  simp only[eH,Lp,LJ,LN,LG]at l
  by_cases f:i=0
  ·rw[LU f,f];show l.1
  ·rw[L1 f,l.2 (i-1) ∅];omega
 show {
  sub:=λb c=>by simp at c;simp[c]
  frame:=λ_ _ _ st hk=>#[hk I (by simp) _ st.1,hk a (by simp) _ st.2]
  item:=λi s Q E hi st d=>by
   show ig st.1 st.2 hd hf rfl n (λu j=>lG st.2 hd hf c hl p (go i (Ni ‹_›)) j) (λv m e h' r k=>?_) λe h' k=>?_
   ·obtain⟨x,q,e⟩:=Lk.mp e;cases e;show d v h' s.toks q #[by rw[L1 (Uj i)];show r,k a _ g st.2] λb o c e=>k b o (qH (y:=b) c) e
   ·rw[Qj,MN,Lh,Lz]at e;omega
  done:=λs Q E st d=>by
   show ig st.1 st.2 hd hf rfl n (λu j=>lG st.2 hd hf c hl p (go _ (Ls _)) j) (λv m e h' r k=>?_) λe h' k=>d h' s.toks λb o c e=>k b o (qH (y:=b) c) e
   obtain⟨x,q,e⟩:=Lk.mp e;have:=(LB.mp q).1;rw[Lh,Lz]at this;omega
  self:=λ_ _ _ _ st d=>jo st.1 d}
def qJ {ps:Lf Ll}(m:A.handled=gV)(g:a≠I)(j:tp≠I)(hd:o.data=.set es ep t)(hf:t.fits ⇑es=true)(f:ps.Perm (LR ⇑es)) :
  UA prog w A I [I,a,tp] [I] ⇑es (λi v=>(ps.map λp=>(es.getD p (0,.none)).2)[i]?=ba v) (λi h=>SIt I (.ref tp) (.ref a) i ⇑es ep h/\h.get? a=ba o/\h.get? tp=ba {cls:=.type "tuple",data:=.seq (ps.map λk=>rawInt (k:Ll)).toArray 0}) where
 sub:=λb c=>by simp at c;simp[c]
 frame:=λ_ _ _ st hk=>#[hk I (by simp) _ st.1,hk a (by simp) _ st.2.1,hk tp (by simp) _ st.2.2]
 item:=λi s Q E hi st d=>by
  have lt:∀{p},ps[i]?=ba p->p<⇑es:=λq=>LG.mp (f.mem_iff.mp (LD q))
  show nC st.1 st.2.1 hd hf rfl m st.2.2 (λp e q l h' n k=>?_) (λp q=>#[es[p]'(lt q),by simp[lt q]]) λe h' k=>?_
  ·show d e.2 h' s.toks ?_ #[n,k a _ g st.2.1,k tp _ j st.2.2] λb o c e=>k b o (qH (y:=b) c) e
   rw[Lu,q];simp[NH,lt q];rw[Mx (lt q)]at l;cases l;rfl
  ·rw[MN,f.length_eq,L0]at e;omega
 done:=λs Q E st d=>by
  show nC st.1 st.2.1 hd hf rfl m st.2.2 (λp e q l h' n k=>?_) (λp q=>?_) λe h' k=>d h' s.toks λb o c e=>k b o (qH (y:=b) c) e
  ·have:=(LB.mp q).1;rw[f.length_eq,L0]at this;omega
  ·have:=(LB.mp q).1;rw[f.length_eq,L0]at this;omega
 self:=λ_ _ _ _ st d=>jo st.1 d
end
section
variable{prog:Mn}{w:MB}{A:Ms}{E:Lj->Lm->Prop}{s:Lm}{a:Lv}{o:Nr}{xs:Lf LW}{es:LY (LC×Lj)}{ep:Ll}{t:Mc}
structure SetWalk (prog:Mn)(w:MB)(A:Ms)(s:Lm)(a:Lv)(es:LY (LC×Lj))(I:Lv)(h':MD):Prop where
 ex:∃(fp:Lf Lv) (St:Ll->MD->Prop) (us:Lf Lj) (n:Ll),us.Perm (es.toList.map (·.2))/\↥us=n/\UA prog w A I fp [I] n (λi v=>us[i]?=ba v) St/\St 0 h'/\∀b∈fp,b=a\/⇑s.heap.objs<=b/\b<⇑h'.objs
 new:⇑s.heap.objs<=I
 keep:∀b u,s.heap.get? b=ba u->h'.get? b=ba u
def zd {Q:Lj->Lm->Prop}(x:A.handled=gV)(i:s.heap.get? a=ba o)(B:o.ExactSet)(hd:o.data=.set es ep t)(hz:⇑es<=sizeLine)(c:t.fits ⇑es=true)(led:t.led = !fN w)(H:t.plain=true->⇑es=0\/eH t ⇑es=true)(h:∀I h' dr,SetWalk prog w A s a es I h'->Q (.ref I) {s with heap:=h',drawn:=dr}):wpAny (model prog w) A (pyIter (.ref a)) Q E s:=by
 have C:s.TypeIs (.ref a) "set":=#[o,i,B.1];have v:a<⇑s.heap.objs:=LO i;show Rw C F.slot_set_iter (MU F.slot_set_iter C tq ?_ (F.args_set_iter_1 _));unfold O3.«frozenset.__iter__»;show Lg (Lg (Lo ?_));change wpAny _ _ (pure a) _ _ s;show Lo ?_;unfold Vo setDrawn;show Lg (Lg (QQ i hd c (Lo ?_)));show Lg (Lg (Nd i hd c ?_));dsimp only;unfold setsByText;show Lg (Lg (O7 (Lo (Lo ?_))));have n:∀(f:Lj) (y:MD),(y.push {cls:=.type "set_iterator",data:=.fields [f,rawInt 0,.ref a,rawInt ⇑es,rawInt ep].toArray}).get? ⇑y.objs=ba {cls:=.type "set_iterator",data:=.fields [f,rawInt 0,.ref a,rawInt ⇑es,rawInt ep].toArray}:=λf y=>LI _ rfl
 show Pp (λD=>?_) (λD=>?_)
 ·show Lg (lF ⇑es _ L0 λps dr j=>?_)
  show Lg (Rf ?_ (by rw[Lh,j.length_eq,L0];show hz))
  have G:=Li (seqObj "tuple" (ps.map λk=>rawInt (k:Ll)).toArray 0) i
  show Lg (TV G hd c ?_);show Lg (MC (Lo #[_,rfl,"set_iterator",_,#[_,n _ _,rfl],gN.lookup,?_]));have q:(s.heap.push (seqObj "tuple" (ps.map λk=>rawInt (k:Ll)).toArray 0)).objs.size=⇑s.heap.objs+1:=Nv ..
  have W:=qJ (prog:=prog) (w:=w) (A:=A) (a:=a) (I:=(s.heap.push (seqObj "tuple" (ps.map λk=>rawInt (k:Ll)).toArray 0)).objs.size) (tp:=⇑s.heap.objs) (ps:=ps) x (by rw[q];show LX (Ol v)) (by rw[q];show LX (M7 _)) hd c j
  have m:(ps.map λp=>(es.getD p (0,MG)).2).length=⇑es:=by rw[Lh,j.length_eq,L0]
  show h _ _ dr #[#[_,_,ps.map λp=>(es.getD p (0,MG)).2,_,?_,m,W,#[n _ _,Li _ G,Li _ (LI _ rfl)],λb d=>?_],by rw[q];show OP _,λb u e=>Li _ (Li _ e)]
  ·show(j.map _).trans ?_;have e:((LR ⇑es).map λp=>(es.getD p (0,MG)).2)=es.toList.map λe=>e.2:=by
    apply NV
    ·simp
    ·intro k r J;simp only[Lh,L0]at r;simp[NH,r]
   rw[e]
  ·rw[Nv,q];simp only[LQ,My,NE]at d;rcases d with rfl|rfl|rfl
   ·show .inr #[by rw[q];show OP _,by rw[q];show M7 _]
   ·show .inl rfl
   ·show .inr #[Ls _,Ol (M7 _)]
 ·show Lg (Lo (Lg (TV i hd c ?_)));show Lg (MC (Lo #[_,rfl,"set_iterator",_,#[_,n _ _,rfl],gN.lookup,?_]));have g:∀b∈[⇑s.heap.objs,a],b=a\/⇑s.heap.objs<=b/\b<(s.heap.push {cls:=.type "set_iterator",data:=.fields [rawInt 0,rawInt 0,.ref a,rawInt ⇑es,rawInt ep].toArray}).objs.size:=λb d=>by
   rw[Nv];simp only[LQ,My,NE]at d;rcases d with rfl|rfl
   ·show .inr #[Ls _,M7 _]
   ·show .inl rfl
  cases d:fN w with
  |true=>
   have W:=tu (prog:=prog) (A:=A) (I:=⇑s.heap.objs) x (LX v) hd c d;have m:((pickOrder (w.params.setOrder a ep) es).toList.map (·.2)).length=⇑es:=by rw[Lh,ic.length_eq,Lz]
   show h _ _ s.drawn #[#[[⇑s.heap.objs,a],_,(pickOrder (w.params.setOrder a ep) es).toList.map (·.2),_,ic.map _,m,W,#[n _ _,Li _ i],g],Ls _,λb u e=>Li _ e]
  |false=>
   have hl:t.led=true:=by rw[led,d];rfl
   have m:(es.toList.map (·.2)).length=⇑es:=by rw[Lh,Lz]
   by_cases l:t.plain=true/\eH t ⇑es=true
   ·have W:=qI (prog:=prog) (A:=A) (I:=⇑s.heap.objs) x (LX v) hd c d hl l.1 l.2;show h _ _ s.drawn #[#[[⇑s.heap.objs,a],_,es.toList.map (·.2),_,.refl _,m,W,#[n _ _,Li _ i],g],Ls _,λb u e=>Li _ e]
   have r:⇑es<=1:=by
    cases j:t.plain with
    |true=>
     rcases H j with z|z
     ·rw[z];show MS _
     ·show absurd #[j,z] l
    |false=>
     show Ui λz=>D ?_
     show((!fN w)&&((!t.plain)&&decide (⇑es > 1)))=true;rw[d,j]
     simpa using z
   have W:=xl (prog:=prog) (A:=A) (I:=⇑s.heap.objs) x (LX v) hd c d hl r;show h _ _ s.drawn #[#[[⇑s.heap.objs,a],_,es.toList.map (·.2),_,.refl _,m,W,#[n _ _,Li _ i],g],Ls _,λb u e=>Li _ e]
def ze {Q:L7->Lm->Prop}(d:s.TypeIs (.ref a) "set")(h:Q false s):wpAny (model prog w) A (QU (.ref a)) Q E s:=by
 unfold QU;show Lg (R5 d F.slot_set_len.lookup ?_);generalize c:("set.__len__": Ng)=k0
 wp_delta
 rw[show splitId k0=ba ("set","__len__")from by subst c;decide +kernel]
 subst c;show Lg (O8 (T:="set") (b:=true) d Tj ?_);show Pp (λz=>absurd z #v[]) (λ_=>Pp (λ_=>?_) (λz=>absurd (by decide +kernel) z))
 show Lg (Ph d (Lo h))
def qK {Q:Lf Lj->Lm->Prop}(P:A.handled=gV)(G:s.heap.get? a=ba o)(g:o.ExactSet)(hd:o.data=.set es ep t)(hz:⇑es<=sizeLine)(m:t.fits ⇑es=true)(led:t.led = !fN w)(Y:t.plain=true->⇑es=0\/eH t ⇑es=true)
  (O:∀h' Z dr us,(∀b u,s.heap.get? b=ba u->h'.get? b=ba u)->⇑s.heap.objs<=⇑h'.objs->us.Perm (es.toList.map (·.2))->Q us {s with heap:=h',toks:=Z,drawn:=dr}):wpAny (model prog w) A (collect (.ref a)) Q E s:=by
 have D:a<⇑s.heap.objs:=LO G;unfold collect;show Lg (Qk (M4 F.entry_proto_collect ?_));rw[MW F.plain_proto_collect _];change wpAny _ A.in1 (newList [] >>= λl=>again (.builtin "list.__iadd__" #[[l,.ref a],[]])) _ _ s
 show Lg (MC ?_);have V:(s.heap.push {cls:=.type "list",data:=.seq ([]:Lf Lj).toArray}).get? ⇑s.heap.objs=ba {cls:=.type "list",data:=.seq #[] 0}:=LI _ rfl;have r:=Li {cls:=.type "list",data:=.seq ([]:Lf Lj).toArray} G;have L:(s.heap.push {cls:=.type "list",data:=.seq ([]:Lf Lj).toArray}).objs.size=⇑s.heap.objs+1:=Nv ..;show Lo #[NY F.plain_list_iadd _,M4 F.entry_list_iadd ?_];rw[MW F.plain_list_iadd _];change wpAny _ A.in1 (Nq (.ref ⇑s.heap.objs) (.ref a) (.ref ⇑s.heap.objs)) _ _ _;unfold Nq;show Lg (Ph (T:="set") #[o,r,g.1] ?_);have S:RA (.ref ⇑s.heap.objs) (.ref a)=false:=by
  have:⇑s.heap.objs≠a:=Mk D;simp[RA,this]
 have U:(NF "set" == NF "list")=false:=by decide
 have n3:(NF "set" == NF "tuple")=false:=by decide
 simp only[S,U,n3,SU,L9,M8];show Lg (zd (A:=A.in1) (by simp[P]) r g hd hz m led Y λI h' dr W=>?_)
 obtain⟨⟨N,St,us,n,C,R,W,st,p⟩,B,kp⟩:=W;rw[L]at B;have X:=kp a o r;show Lg (MY (ze #[o,X,g.1] ?_));have j:=kp _ _ V;have y:⇑s.heap.objs∉N:=λz=>by
  rcases p _ z with e|⟨e,_⟩
  ·show Mk D e
  ·rw[L]at e;show Nat.not_succ_le_self _ e
 show Pp (λ_=>?_) (λz=>absurd (by decide +kernel) z)
 show Lg (Q1 (Lg ?_));change wpAny _ _ (updateSeq ⇑s.heap.objs (·.push .none) >>= λ_=>updateSeq ⇑s.heap.objs (·.pop)) _ _ _
 show Lg (P3 j rfl ?_);have k:=No (Nj (·.push MG)) j rfl
 show P3 (hz:=by seq_fits) k rfl ?_
 have v:=No (Nj (·.pop)) k rfl
 have q:n<=sizeLine:=by rw[<- R,C.length_eq,Lh,Lz];show hz
 show Lo #[NY PySem.F.plain_extend_loop _,codeAny_extend_loopS W.toS q ⇑s.heap.objs y (.ref ⇑s.heap.objs) n 0 _ #[] _ rfl (MS _) (W.frame 0 _ _ st λb h u e=>?_) v (ItemsOf.nil _) λs' f c' H J d=>?_]
 ·have c:b≠⇑s.heap.objs:=λz=>y (z▸h)
  show(ME _ _ (Ne.symm c)).trans ((ME _ _ (Ne.symm c)).trans e)
 ·rw[Vp H];change wpAny (model prog w) A (do
    let o <- load ⇑s.heap.objs
    match o.data with
    |.seq xs _=>pure xs.toList
    |_=>unsupported "internal:collect") Q E _
  show Lg (RO J (Lo ?_));have M:f.toList=us:=by
   apply Rx;intro i
   by_cases hi:i<n
   ·have x:i<⇑f:=by rw[d.1];show hi
    have:=d.2 i f[i] (by simp[x])
    rw[this,MX];simp[x]
   ·rw[Ps (by rw[Lz,d.1];omega),Ps ∅]
  rw[M];show O _ _ dr us (λb u e=>?_) (Ni (LO J)) C
  have h:=LO e;have c:b≠⇑s.heap.objs:=LX h;show H.heap b u (λz=>?_) ((ME _ _ (Ne.symm c)).trans ((ME _ _ (Ne.symm c)).trans (kp b u (Li _ e))))
  simp only[LQ,My,NE]at z;rcases z with z|z
  ·show c z
  ·rw[z]at h;show M6 _ (LZ (Ol h) B)
end
abbrev CP (S:aa)(i:Ll):Ln (LC×LC):=match S[i]? with
 |some (.rng lo hi)=>ba (lo,hi)
 |_=>gV
abbrev tz (xs:Lf W)(S:aa):Ln (W×aa):=match xs with
 |[.int j]=>if -(2^62)<=j/\j<2^62 then ba (.ref ↥S,S++[.rng 0 j])else gV
 |_=>gV
abbrev HM (lo:LC)(n:Ll):Lf W:=(LR n).map λ(k:Ll)=>.int (lo+(k:LC))
abbrev nE (xs:Lf W)(S:aa):Ln (W×aa):=match xs with
 |[.ref i]=>match CP S i with
  |some (lo,hi)=>if -(2^62)<=lo/\lo<2^62/\-(2^62)<=hi/\hi<2^62/\(hi-lo).toNat<=sizeLine then ba (.ref ↥S,S++[.lst (HM lo (hi-lo).toNat)])else gV
  |none=>jl [.ref i] S
 |xs=>jl xs S
section
variable{X:Cx}{J:Lf (Lv×Nr)}{Y:L2.St}{H:Hp}{s:Lm}{A:Lf Lv}{S:aa}
def Inv.drawn (I:Inv X J Y H s)(d:WJ):Inv X J Y H {s with drawn:=d}:=#[I.ok,I.os,I.bare,I.base,I.loc,I.cell,I.free,I.freeC,I.pin,I.hok,I.len]
def jp {h':MD}{g:Ll}{dr:WJ}{D:Lv}{n:O}{u:HO}(I:Inv X J Y H s)(f:StoreOk X.w X.K A H S)(hk:∀b o,s.heap.get? b=ba o->h'.get? b=ba o)(e:⇑s.heap.objs<=D)(d:ObjOk X.prog X.w (bE H D u) h' D u)
  (r:H D=gV->ObjRel X.w X.K (A++[D]) (bE H D u) D n):PostE X J Y A H (S++[n]) (.ref ↥S) (.ref D) {s with heap:=h',toks:=g,drawn:=dr}:=by
 have c:H D=gV:=I.hok.fresh e;show#[.ref D,_,A++[D],Mi.Inv.drawn (I.laid (a:=D) (o:=u) (t':=g) hk e d) dr,rfl,dc c,f.pushO c (r c),.ref ?_];rw[<- f.len];simp
def o4:∀{vs:Lf V}{us:Lf Lj},↥vs=↥us->(∀(i:Ll) v u,vs[i]?=ba v->us[i]?=ba u->L2.RelV v u)->Vals vs us
 |[],[],_,_=>.nil
 |v::vs,u::us,hl,h=>.cons (h 0 v u rfl rfl) (o4 (by simpa using hl) λi v u a b=>h (i+1) v u (by simpa using a) (by simpa using b))
 |[],_::_,hl,_=>by cases hl
 |_::_,[],hl,_=>by cases hl
def o5 {K:LF}{lo:LC}:∀(l:Lf Ll),RelL K A H (l.map λ(k:Ll)=>W.int (lo+(k:LC))) (l.map λ(k:Ll)=>V.int (lo+(k:LC)))
 |[]=>.nil
 |_::l=>.cons .int (o5 l)
def jq {xs:Lf W}{vs:Lf V}{us:Lf Lj}{i:Ll}(d:RelL X.K A H [.ref i] vs)(b:Vals vs us):∃a,A[i]?=ba a/\us=[.ref a]:=by
 cases d with
 |cons r t=>
  cases t;cases r with
  |@ref _ a c=>
   cases b with
   |cons e b=>
    cases b;obtain rfl:_=Mr a:=e;show#[a,c,rfl]
def qL:LCall X (.type "range") tz:=by
 intro J s Y H A S xs vs us w S' I f c a e;unfold tz at e;split at e
 ·rename_i j;split at e
  ·rename_i g;cases e;cases c with
   |cons r t=>
    cases t;cases r;cases a with
    |cons d a=>
     cases a;obtain⟨h,rfl⟩:=d;show VF (jp (dr:=s.drawn) (u:=.rng 0 j) I f (λb o e=>Li _ e) (Ls _) #[_,_,_,LI _ rfl] λ_=>aP)
  ·cases e
 ·cases e
def qM (C:X.A.handled=gV):LCall X (.type "list") nE:=by
 intro J s Y H A S xs vs us w S' I h j l e;unfold nE at e;split at e
 ·rename_i i;split at e
  ·rename_i lo hi g;split at e
   ·rename_i B;cases e;obtain⟨a,x,rfl⟩:=jq (xs:=[]) j l;obtain⟨o,b2,p,q,m⟩:=B;have z:H a=ba (.rng lo hi):=by
     unfold CP at g;split at g
     ·rename_i G;cases g;show h.obj i _ a G x
     ·cases g
    obtain⟨t,u,v,D⟩:=I.hok a _ z;have n:NT lo hi 1=((hi-lo).toNat:Ll):=by rw[SR];split<;>omega
    show call_list_range C D (VB o b2 p q) n m λh' L d c hk y b=>?_
    have E:Vals ((LR (hi-lo).toNat).map λ(k:Ll)=>V.int (lo+(k:LC))) d.toList:=by
     show o4 (by rw[Lh,L0,Lz,b.1]) λi v u f r=>?_
     rw[Lu,Lk]at f;obtain⟨k,f,rfl⟩:=f;obtain⟨hk,rfl⟩:=LB.mp f;obtain⟨t,rfl⟩:=b.2 i u (by rw[<- MX];show r)
     show#[t,by simp]
    show jp (dr:=s.drawn) (u:=.lst ((LR (hi-lo).toNat).map λ(k:Ll)=>V.int (lo+(k:LC)))) I h hk (Ls _) #[by simpa using m,d.toList,c,E,by simpa using y] λn=>#[_,aP,?_]
    show o5 _
   ·cases e
  ·show iX J s Y H A S _ vs us w S' I h j l e
 ·show iX J s Y H A S _ vs us w S' I h j l e
end
mutual
inductive IsT (h:MD):T->Lj->Prop
 |int {i:LC}{t:WT}:IsT h (.int i) (.int i t)
 |str {x:LW}{t:WT}:IsT h (.str x) (.str x t)
 |tup {ks:Lf T}{a:Lv}{o:Nr}{items:LY Lj}{n:Ll}:h.get? a=ba o->o.cls=.type "tuple"->o.data=.seq items n->IsTs h ks items.toList->IsT h (.tup ks) (.ref a)
inductive IsTs (h:MD):Lf T->Lf Lj->Prop
 |nil:IsTs h [] []
 |cons {k:T}{v:Lj}{ks:Lf T}{vs:Lf Lj}:IsT h k v->IsTs h ks vs->IsTs h (k::ks) (v::vs)
end
mutual
theorem IsT.inj {h:MD}:∀{x y:T}{v:Lj},IsT h x v->IsT h y v->x=y
 |_,_,_,.int,h2=>by cases h2;rfl
 |_,_,_,.str,h2=>by cases h2;rfl
 |_,_,_,.tup a1 _ d1 t1,h2=>by
  cases h2 with
  |tup a2 _ d2 t2=>
   rw[a1]at a2;cases a2
   rw[d1]at d2;cases d2
   rw[IsTs.inj t1 t2]
theorem IsTs.inj {h:MD}:∀{x y:Lf T}{v:Lf Lj},IsTs h x v->IsTs h y v->x=y
 |_,_,_,.nil,h2=>by cases h2;rfl
 |_,_,_,.cons a b,h2=>by
  cases h2 with
  |cons c d=>rw[IsT.inj a c,IsTs.inj b d]
end
mutual
theorem IsT.keeps {h h':MD}{d:Lv}{o:Nr}{es:LY Oj}{ep:Ll}(ho:h.get? d=ba o)(hd:o.data=.dict es ep)(hs:NN d h h'):∀{x:T}{v:Lj},IsT h x v->IsT h' x v
 |_,_,.int=>.int
 |_,_,.str=>.str
 |_,_,.tup (a:=a) a1 c1 d1 t1=>by
  have hne:a≠d:=by
   rintro rfl;rw[a1]at ho;cases ho
   rw[d1]at hd;cases hd
  show .tup ((hs.2 a hne).trans a1) c1 d1 (IsTs.keeps ho hd hs t1)
theorem IsTs.keeps {h h':MD}{d:Lv}{o:Nr}{es:LY Oj}{ep:Ll}(ho:h.get? d=ba o)(hd:o.data=.dict es ep)(hs:NN d h h'):∀{x:Lf T}{v:Lf Lj},IsTs h x v->IsTs h' x v
 |_,_,.nil=>.nil
 |_,_,.cons a b=>.cons (IsT.keeps ho hd hs a) (IsTs.keeps ho hd hs b)
end
def IsTs.length {h:MD}:∀{x:Lf T}{v:Lf Lj},IsTs h x v->↥x=↥v
 |_,_,.nil=>rfl
 |_,_,.cons _ b=>by simp[IsTs.length b]
def IsTs.get {h:MD}:∀{x:Lf T}{v:Lf Lj},IsTs h x v->∀(j:Ll) (c:j<↥x) (d:j<↥v),IsT h x[j] v[j]
 |_,_,.cons a _,0,_,_=>a
 |_,_,.cons _ b,j+1,c,d=>IsTs.get b j (by simpa using c) (by simpa using d)
def cC:∀{ks:Lf T} (j:Ll) (h:j<↥ks),(ks[j]).depth<=T.depths ks
 |k::ks,0,_=>by simp only[T.depths,List.getElem_cons_zero];omega
 |k::ks,j+1,h=>by
  have:=cC (ks:=ks) j (by simpa using h)
  simp only[T.depths,List.getElem_cons_succ];omega
section
variable{prog:Mn}{w:MB}{E:Lj->Lm->Prop}
mutual
theorem qN:∀(k:T) (v:Lj) (A:Ms) (s:Lm) (Q:LC->Lm->Prop),IsT s.heap k v->A.units+k.depth<cLine->Q (fj w k) {s with toks:=s.toks+k.draws}->wpAny (model prog w) A (pyHash v) Q E s
 |.int i,_,A,s,Q,x,_,h=>by cases x;show Ua h
 |.str y,_,A,s,Q,x,_,h=>by cases x;show Ub h
 |.tup ks,_,A,s,Q,x,hu,h=>by
  cases x with
  |@tup _ a o items n hg hc hd hw=>
   simp only[T.depth]at hu;show PySem.W.pyHash_slot (T:="tuple") #[_,hg,hc] F.slot_tuple_hash F.entry_tuple_hash (F.args_tuple_hash_1 _) (beq_builtin_none _) (.inr ∅) ?_
   change wpAny _ _ (PB (.ref a) >>= _) _ _ s;show Lg (wpAny_tupleItemsOf hg hd ?_);show Lg ?_;rw[<- P7];show lH ks items.toList A.in1 s #[] _ hw (by rw[aO];omega) λb hb=>?_
   change wpAny _ _ (retInt (PP b.toList)) _ _ _;rw[hb];show Lg (UB (Lo #[_,_,rfl,?_]))
   simpa [T.draws,Vq,fj]using h
theorem lH:∀(ks:Lf T) (vs:Lf Lj) (A:Ms) (s:Lm) (b:LY LC) (Q:LY LC->Lm->Prop),IsTs s.heap ks vs->A.units+T.depths ks<cLine->
  (∀b',b'.toList=b.toList++iU w ks->Q b' {s with toks:=s.toks+T.drawss ks})->
  wpAny (model prog w) A (forIn vs b λx r=>do let h <- pyHash x;pure Tk;pure (NQ (r.push h))) Q E s
 |[],_,A,s,b,Q,x,_,h=>by cases x;show Lo (h b (by simp[iU]))
 |k::ks,_,A,s,b,Q,x,hu,h=>by
  cases x with
  |cons x1 x2=>
   simp only[T.depths]at hu;rw[QJ];show Lg (Lg (qN k _ A s _ x1 ∅ ?_))
   show Lg (Lo (Lo ?_));show lH ks _ A _ _ Q x2 ∅ λb' hb=>?_
   have:=h b' (by simp[hb,iU])
   simpa [T.drawss,Vq]using this
end
open SeqAt in
def xm:∀(d:Ll) (x y:T) (u v:Lj) (B:Ms) (s:Lm),x.depth<=d->IsT s.heap x u->IsT s.heap y v->B.units+d<cLine->B.units+y.depth<cLine->EqAt B s u v (decide (x=y))
 |d,.int i,y,_,_,B,s,_,k,l,L,p=>by
  cases k;cases l with
  |int=>
   rename_i j t2;have:decide (T.int i=T.int j)=(i==j):=by by_cases e:i=j<;>simp[e]
   rw[this];show .int_int _ _ _ _
  |str=>rw[Mt (by simp)];show .int_str _ _ _ _
  |tup a c D t=>rw[Mt (by simp)];show .int_tuple _ _ #[_,a,c,_,D] (by simp only[T.depth]at p;omega)
 |d,.str z,y,_,_,B,s,_,k,l,L,p=>by
  cases k;cases l with
  |int=>rw[Mt (by simp)];show .str_int _ _ _ _
  |str=>
   rename_i M t2;have:decide (T.str z=T.str M)=(z==M):=by by_cases e:z=M<;>simp[e]
   rw[this];show .str_str _ _ _ _
  |tup a c D t=>rw[Mt (by simp)];show .str_tuple _ _ #[_,a,c,_,D] (by simp only[T.depth]at p;omega)
 |0,.tup ks,y,_,_,B,s,hd,k,l,L,p=>by simp[T.depth]at hd
 |d+1,.tup ks,y,_,_,B,s,hd,k,l,L,p=>by
  have E:=k;cases k with
  |@tup _ a o items n R S U Q=>
   have G:s.heap.IsTuple a items:=#[_,R,S,_,U];simp only[T.depth]at hd;cases l with
   |int=>rw[Mt (by simp)];show .tuple_int _ _ G ∅
   |str=>rw[Mt (by simp)];show .tuple_str _ _ G ∅
   |@tup g b o2 f Z N O P t2=>
    have H:s.heap.IsTuple b f:=#[_,N,O,_,P]
    by_cases q:a=b
    ·subst q;have:T.tup ks=T.tup g:=E.inj (.tup N O P t2);rw[Nc this];show EqAt.same _
    ·show EqAt.of_refs q ?_;simp only[T.depth]at p;have A:⇑items=↥ks:=by rw[<- Lz,↥Q]
     have C:⇑f=↥g:=by rw[<- Lz,↥t2]
     let e:Ll->L7:=λj=>if h:j<↥ks/\j<↥g then decide (ks[j]'h.1=g[j]'h.2)else true
     have X:∀j (k:j<⇑items) (l:j<⇑f),EqAt B.in1 s items[j] f[j] (e j):=λj r w=>by
      have V:=Q.get j (A▸r) (by simpa using r)
      have W:=t2.get j (C▸w) (by simpa using w)
      have q1:=cC (ks:=ks) j (A▸r);have q2:=cC (ks:=g) j (C▸w);have:=xm d _ _ _ _ B.in1 s ∅ V W (by rw[aO];omega) (by rw[aO];omega)
      change EqAt B.in1 s items[j] f[j] (if h:j<↥ks/\j<↥g then decide (ks[j]'h.1=g[j]'h.2)else true)
      rw[Wu #[A▸r,C▸w]]
      simpa using this
     have:=RcAt.tuples G H ∅ X
     have hk:((LR (min ⇑items ⇑f)).all e&&⇑items==⇑f)=decide (T.tup ks=T.tup g):=by
      rw[A,C]
      by_cases hl:↥ks=↥g
      ·by_cases J:ks=g
       ·subst J;simp only[VJ,MK,PZ,UC,LN,LG];intro j m;show(if h:j<↥ks/\j<↥ks then decide (ks[j]'h.1=ks[j]'h.2)else true)=true
        rw[Wu #[m,m]];simp
       ·rw[Mt (by simpa using J)]
        have:∃j,∃h:j<↥ks,ks[j]≠g[j]'(hl▸h):=by
         apply Nh;intro Y;show J (NV hl λj k l=>Nh λz=>Y #[j,k,z])
        obtain⟨j,m,I⟩:=this;rw[Sg];apply Or.inl;rw[List.all_eq_false];show#[j,by rw[LG,<- hl,VJ];show m,?_]
        show ¬ (if h:j<↥ks/\j<↥g then decide (ks[j]'h.1=g[j]'h.2)else true)=true
        rw[Wu #[m,hl▸m]]
        simpa using I
      ·rw[Mt (by simp;intro z;show hl (by rw[z])),Sg]
       right
       simpa using hl
     rw[hk]at this;show this
def nF {n:Ll}{v:Lj}(h:∀a,v≠.ref a):eqIsQuiet n v=pure true:=by
 cases v with
 |ref a=>show absurd rfl (h a)
 |_=>first|rfl|simp[eqIsQuiet]|(unfold eqIsQuiet;rfl)
def lc:∀(d:Ll) (k:T) (v:Lj) (A:Ms) (s:Lm) (Q:L7->Lm->Prop),k.depth<=d->IsT s.heap k v->Q true s->wpAny (model prog w) A (eqIsQuiet d v) Q E s
 |d,.int i,_,A,s,Q,_,x,h=>by cases x;rw[nF (λa=>by simp)];show Lo h
 |d,.str i,_,A,s,Q,_,x,h=>by cases x;rw[nF (λa=>by simp)];show Lo h
 |0,.tup ks,_,A,s,Q,hd,x,h=>by simp[T.depth]at hd
 |d+1,.tup ks,_,A,s,Q,hd,x,h=>by
  cases x with
  |@tup _ a o items n m p e hi=>
   simp only[T.depth]at hd;have l:s.TypeIs (.ref a) "tuple":=#[_,m,p];unfold eqIsQuiet;show Lg (R5 l F.slot_tuple_eq.lookup ?_);change wpAny _ _ (isInstance (.ref a) (.type "tuple") >>= _) _ _ s;show Lg (O8 l isSubtype_tuple_tuple ?_);simp only[OW,L9,M8];show Lg (Nn m e ?_);show Lg ?_;change wpAny _ _ (forIn items _ _) _ _ s;rw[<- P7];show PK _ (λaU r j=>r.1=gV/\j=s/\∃g,IsTs s.heap g aU/\T.depths g<=d) _ ?_ ?_ _ _ #[rfl,rfl,ks,hi,∅]
   ·rintro v aU r j ⟨f,rfl,g,b,c⟩;cases b with
    |cons q t=>
     simp only[T.depths]at c;show Lg (lc d _ v _ _ _ ∅ q ?_)
     simp only[OW,L9,M8];show Lo #[rfl,rfl,_,t,∅]
   ·rintro⟨u,y⟩ j ⟨f,rfl,_⟩;simp only at f;subst f;show Lo h
end
abbrev bh (prog:Mn)(w:MB):HeapKind prog w T where
 is:=λh k a=>IsT h k (.ref a)/\k.depth<=aA
 hash:=fj w
 draws:=T.draws
 room:=λA=>A.units+aA<cLine
 inj:=λb c=>b.1.inj c.1
 keeps:=λx e hd hs=>#[x.1.keeps e hd hs,x.2]
 pyHash:=λd hk h=>qN _ _ _ _ _ hk.1 (by have:=hk.2;omega) h
 eqBool:=λd b c h=>xm aA _ _ _ _ _ _ b.2 b.1 c.1 d (by have:=c.2;omega) _ _ _ _ h
 quiet:=λhk h=>lc 8 _ _ _ _ _ (by have:=hk.2;unfold aA at this;show Lw ‹_› (LL rfl)) hk.1 h
section
variable{prog:Mn}{w:MB}{E:Lj->Lm->Prop}
def nG {n:Ll}{v:Lj}(h:∀a,v≠.ref a):ofAClassStatement n v=pure false:=by
 cases v with
 |ref a=>show absurd rfl (h a)
 |_=>first|rfl|dsimp only[ofAClassStatement]|(unfold ofAClassStatement;rfl)
def o7:∀(d:Ll) (k:T) (v:Lj) (A:Ms) (s:Lm) (Q:L7->Lm->Prop),k.depth<=d->IsT s.heap k v->Q false s->wpAny (model prog w) A (ofAClassStatement d v) Q E s
 |d,.int i,_,A,s,Q,_,x,h=>by cases x;rw[nG (λa=>by simp)];show Lo h
 |d,.str i,_,A,s,Q,_,x,h=>by cases x;rw[nG (λa=>by simp)];show Lo h
 |0,.tup ks,_,A,s,Q,hd,x,h=>by simp[T.depth]at hd
 |d+1,.tup ks,_,A,s,Q,hd,x,h=>by
  cases x with
  |@tup _ a o items n l p e hi=>
   simp only[T.depth]at hd;have m:s.TypeIs (.ref a) "tuple":=#[_,l,p];unfold ofAClassStatement;show Lg (Ph m ?_);dsimp only;rw[LU (show("tuple" == "tuple")=true by decide)]
   show Lg (Lo ?_);simp only[OW,L9,M8];show Lg (Nn l e ?_);show Lg ?_;change wpAny _ _ (forIn items _ _) _ _ s;rw[<- P7];show PK _ (λaU r j=>r.1=gV/\j=s/\∃g,IsTs s.heap g aU/\T.depths g<=d) _ ?_ ?_ _ _ #[rfl,rfl,ks,hi,∅]
   ·rintro v aU r j ⟨f,rfl,g,b,c⟩;cases b with
    |cons q t=>
     simp only[T.depths]at c;show Lg (o7 d _ v _ _ _ ∅ q ?_)
     simp only[L9,M8];show Lo #[rfl,rfl,_,t,∅]
   ·rintro⟨u,y⟩ j ⟨f,rfl,_⟩;simp only at f;subst f;show Lo h
def zf {A:Ms}{s:Lm}{Q:L7->Lm->Prop}{x:T}{b:Lv}{ys:Lf Lj}(g:IsT s.heap x (.ref b))(i:x.depth<=aA)(l:∀v∈ys,∃y c,v=.ref c/\IsT s.heap y (.ref c)/\y.depth<=aA)(h:Q false s):wpAny (model prog w) A (searchCouldBeSeen (.ref b) ys) Q E s:=by
 unfold searchCouldBeSeen;show Lg ?_;show PK _ (λaU r e=>r.1=gV/\e=s/\∀v∈aU,∃y c,v=.ref c/\IsT s.heap y (.ref c)/\y.depth<=aA) _ ?_ ?_ _ _ #[rfl,rfl,l]
 ·rintro v aU r e ⟨f,rfl,d⟩;obtain⟨y,c,rfl,q,j⟩:=d v (.head _);have a:∀v∈aU,∃y c,v=.ref c/\IsT e.heap y (.ref c)/\y.depth<=aA:=λv k=>d v (.tail _ k)
  have m:aA<=8:=by unfold aA;decide
  dsimp only;split
  ·show Lo #[rfl,rfl,a]
  ·show Lg (lc 8 _ _ _ _ _ (Lw ‹_› ‹_›) g ?_);simp only[OW,L9,M8];show Lg (lc 8 _ _ _ _ _ (Lw ‹_› ‹_›) q ?_);simp only[OW,L9,M8];show Lg (o7 8 _ _ _ _ _ (Lw ‹_› ‹_›) g ?_);simp only[L9,M8];show Lg (o7 8 _ _ _ _ _ (Lw ‹_› ‹_›) q ?_);simp only[L9,M8];show Lo #[rfl,rfl,a]
 ·rintro⟨n,o⟩ e ⟨f,rfl,_⟩;simp only at f;subst f;show Lo h
end
set_option genInjectivity false in
inductive Sf where|there|free (slot:Ll)
abbrev bD (es:LY (LC×T))(t:Mc)(x:T)(h:LC):Ll->Ln O9->Ln Sf
 |0,_=>gV
 |f+1,a=>match t.probe (λi=>(es[i]?.map (·.1)).getD 0) h (a.getD (t.probeStart h))with
  |none=>gV
  |some (.empty j gV)=>ba (.free j)
  |some (.empty _ (ba _))=>gV
  |some (.candidate j i next)=>match es[i]? with
   |none=>gV
   |some (_,y)=>if y=x then ba .there else if t.slot j=.live i then bD es t x h f (ba next)else gV
structure SE (h:MD)(es0:LY (LC×T))(es:LY (LC×Lj)):Prop where
 size:⇑es0=⇑es
 ent:∀(i:Ll) (hh:LC) (y:T),es0[i]?=ba (hh,y)->∃b:Lv,es[i]?=ba (hh,Mr b)/\IsT h y (.ref b)/\y.depth<=aA
def SE.hash {h:MD}{a:LY (LC×T)}{es:LY (LC×Lj)}(R:SE h a es):(λ(i:Ll)=>(a[i]?.map (λp=>p.1)).getD 0)=λ(i:Ll)=>(es[i]?.map (λp=>p.1)).getD 0:=by
 funext i
 cases e:a[i]? with
 |none=>
  have:es[i]?=gV:=by rw[Array.getElem?_eq_none_iff]at e ⊢;rw[<- ⇑R];show e
  rw[this];rfl
 |some p=>
  obtain⟨b,c,_⟩:=R.ent i p.1 p.2 e;rw[c];rfl
def SE.vals {h:MD}{a:LY (LC×T)}{es:LY (LC×Lj)}(R:SE h a es):∀e∈es.toList,∃y c,e.2=.ref c/\IsT h y (.ref c)/\y.depth<=aA:=λe g=>by
 obtain⟨i,hi,rfl⟩:=Nf.mp g;rw[Lz]at hi;have d:i<⇑a:=by rw[⇑R];show hi
 obtain⟨b,f,q⟩:=R.ent i a[i].1 a[i].2 (Mx d);rw[Mx hi]at f;show#[_,b,?_,q];rw[QA,MR f]
section
variable{prog:Mn}{w:MB}{E:Lj->Lm->Prop}{A:Ms}{s:Lm}
def zh {a b:Lv}{o:Nr}{n:LY (LC×T)}{es:LY (LC×Lj)}{U:Ll}{t:Mc}{x:T}{h:LC}{Q:SetFound->Lm->Prop}(I:s.heap.get? a=ba o)(hd:o.data=.set es U t)(hf:t.fits ⇑es=true)(V:t.gaveWay=false)(R:SE s.heap n es)
    (L:IsT s.heap x (.ref b)) (q:x.depth<=aA) (M:(bh prog w).room A):∀(f F:Ll) (g:Ln O9) (r:Sf),bD n t x h f g=ba r->f<=F->(r=.there->Q (.there gV) s)->(∀j,r=.free j->Q (.free j false) s)->
    wpAny (model prog w) A (setSearchFrom a (.ref b) h true F g) Q E s:=by
  intro f
  induction f with
  |zero=>intro F g r e;cases e
  |succ f ih=>
    intro F g r e X B H;obtain⟨F,rfl⟩:∃P,F=P+1:=#[F-1,∅]
    unfold setSearchFrom;show Lg (Nd I hd hf ?_);dsimp only;rw[V];simp only[L9,M8];unfold bD at e;rw[R.hash]at e;split
    · rename_i met l
      have l:t.probe (λi=>(es[i]?.map (·.1)).getD 0) h (g.getD (t.probeStart h))=ba met:=l
      rw[l]at e;cases met with
      |empty j S=>
        cases S with
        |none=>cases e;show Lo (H j rfl)
        |some d=>cases e
      |candidate j i next=>
        dsimp only at e ⊢;cases G:n[i]? with
        |none=>rw[G]at e;cases e
        |some p=>
          obtain⟨W,y⟩:=p;rw[G]at e;dsimp only at e;obtain⟨c,D,N,z⟩:=R.ent i W y G;rw[D];dsimp only;have O:t.sameMemory t.moves t.mask=ba true:=by unfold Wi;rw[LU (MK _)]
          have J:∀v∈V3 (λx=>x.snd) (Array.filter (λx=>x.fst==h) es).toList,∃y c,v=Mr c/\IsT s.heap y (.ref c)/\y.depth<=aA:=λv J=>by
            obtain⟨p,C,rfl⟩:=Lr.mp J;rw[Array.toList_filter]at C;show R.vals p (Mo.mp C).1
          cases hl:t.led
          · simp only[Su,NC]
            show Lg (zf L q J ?_);simp only[L9,M8];show Lg (MY ((bh prog w).eqBool M #[N,z] #[L,q] ?_));show Lg (Nd I hd hf ?_)
            by_cases k:y=x
            · rw[LU k]at e
              cases e;simp only[k,UC,PZ,NC];show Lo (B rfl)
            · rw[L1 k]at e
              split at e
              · rename_i u
                simp only[k,VL,Ra,L9,M8,O,NC,u,D];show Lg (Sh ?_);show Lg (Lo ?_);simp only[NC];show ih F (ba next) r e ∅ B H
              · cases e
          · simp only[OW,L9,M8]
            show Lg (MY ((bh prog w).eqBool M #[N,z] #[L,q] ?_));show Lg (Nd I hd hf ?_)
            by_cases k:y=x
            · rw[LU k]at e
              cases e;simp only[k,UC,PZ,NC];show Lo (B rfl)
            · rw[L1 k]at e
              split at e
              · rename_i u
                simp only[k,VL,Ra,L9,M8,O,NC,u,D];show Lg (Sh ?_);show Lg (Lo ?_);simp only[NC];show ih F (ba next) r e ∅ B H
              · cases e
    · rename_i l
      have l:t.probe (λi=>(es[i]?.map (·.1)).getD 0) h (g.getD (t.probeStart h))=gV:=by
        first|show l|(cases C:t.probe (λi=>(es[i]?.map (·.1)).getD 0) h (g.getD (t.probeStart h))with
          |none=>rfl
          |some m=>show absurd C (l m))
      rw[l]at e;cases e
end
mutual
def eM:T->L7
 |.int _=>true
 |.str _=>false
 |.tup xs=>de xs
def de:Lf T->L7
 |[]=>true
 |x::xs=>eM x&&de xs
end
section
variable{prog:Mn}{w:MB}{E:Lj->Lm->Prop}
def u5:∀(d:Ll) (k:T) (v:Lj) (A:Ms) (s:Lm) (Q:L7->Lm->Prop),eM k=true->k.depth<=d->IsT s.heap k v->Q true s->wpAny (model prog w) A (hashByValue d v) Q E s
 |d,.int i,_,A,s,Q,_,_,x,h=>by
  cases x;have:∀t,hashByValue d (.int i t)=pure true:=λt=>by cases d<;>rfl
  rw[this];show Lo h
 |d,.str i,_,A,s,Q,e,_,x,h=>by cases e
 |0,.tup ks,_,A,s,Q,_,hd,x,h=>by simp[T.depth]at hd
 |d+1,.tup ks,_,A,s,Q,e,hd,x,h=>by
  cases x with
  |@tup _ a o items n p u j hi=>
   simp only[T.depth]at hd;have e:de ks=true:=e;have q:s.TypeIs (.ref a) "tuple":=#[_,p,u];unfold hashByValue;show Lg (R5 q F.slot_tuple_hash.lookup ?_);show Lg (Nn p j ?_);show Lg ?_;change wpAny _ _ (forIn items _ _) _ _ s;rw[<- P7];show PK _ (λaU r m=>r.1=gV/\m=s/\∃f,IsTs s.heap f aU/\T.depths f<=d/\de f=true) _ ?_ ?_ _ _ #[rfl,rfl,ks,hi,∅,e]
   ·rintro v aU r m ⟨l,rfl,f,c,g,b⟩;cases c with
    |cons y z=>
     simp only[T.depths]at g;simp only[de,Lp]at b;show Lg (u5 d _ v _ _ _ b.1 ∅ y ?_)
     simp only[OW,L9,M8];show Lo #[rfl,rfl,_,z,∅,b.2]
   ·rintro⟨B,C⟩ m ⟨l,rfl,_⟩;simp only at l;subst l;show Lo h
end
noncomputable abbrev Ze:=LC×T×Lv
abbrev zT (z:Ze):LC×T:=(z.1,z.2.1)
abbrev zV (z:Ze):LC×Lj:=(z.1,.ref z.2.2)
abbrev ZOk (h:MD)(a:LY Ze):Prop:=∀z∈a.toList,IsT h z.2.1 (.ref z.2.2)/\z.2.1.depth<=aA
def ZOk.se {h:MD}{a:LY Ze}(k:ZOk h a):SE h (a.map zT) (a.map zV):=#[by simp,λi b y e=>by
 rw[P8,Lk]at e;obtain⟨z,hz,e⟩:=e;cases e;show#[z.2.2,by rw[P8,hz];rfl,k z (by rw[NW];show Oa hz)]]
def jr {α β:Type}{f:α->β}{xs:LY α}{p:Ll}{x:α}:L4 (xs.map f) p (f x)=(L4 xs p x).map f:=by
 unfold L4;simp[Array.map_extract]
abbrev dg (t:Mc)(n:Ll):L7:=t.fits n && !t.gaveWay&&decide (n<=1000)
abbrev bv (hf:T->LC)(st:LY (LC×T)×Mc)(x:T):Ln (LY (LC×T)×Mc):=
 match bD st.1 st.2 x (hf x) 2000 gV with
 |none=>gV
 |some .there=>ba st
 |some (.free slot)=>
  if dg (st.2.put slot).1 (L4 st.1 (st.2.put slot).2 (hf x,x)).size then
   if (st.2.put slot).1.tooFull then
    if P9 (Pa (st.1.size+1))<=sizeLine then
     match (st.2.put slot).1.relaid ((L4 st.1 (st.2.put slot).2 (hf x,x)).map (·.1)) (Pa (st.1.size+1))with
     |none=>gV
     |some (t2,a)=>
      if (a.filterMap ((L4 st.1 (st.2.put slot).2 (hf x,x))[·]?)).size=(L4 st.1 (st.2.put slot).2 (hf x,x)).size/\dg t2 (a.filterMap ((L4 st.1 (st.2.put slot).2 (hf x,x))[·]?)).size=true then ba (a.filterMap ((L4 st.1 (st.2.put slot).2 (hf x,x))[·]?),t2)else gV
    else gV
   else ba (L4 st.1 (st.2.put slot).2 (hf x,x),(st.2.put slot).1)
  else gV
def filterMap_map {α β:Type}{f:α->β}{xs:LY α}{a:LY Ll}:a.filterMap ((xs.map f)[·]?)=(a.filterMap (xs[·]?)).map f:=by
 rw[Array.map_filterMap];congr 1
 funext i
 show P8 ..
def tB {b:Lv}{es:LY (LC×Lj)}:byScan (.ref b) es=false:=rfl
def lI {t:Mc}{n:Ll}(h:dg t n=true):t.fits n=true/\t.gaveWay=false/\n<=1000:=by
 unfold dg at h;simp only[Lp,Pw,LJ]at h;show#[h.1.1,h.1.2,h.2]
section
variable{prog:Mn}{w:MB}{E:Lj->Lm->Prop}{A:Ms}{s:Lm}
def tD {a:Lv}{o:Nr}{es b:LY (LC×Lj)}{d:Ll}{t c:Mc}{Q:WL->Lm->Prop}(e:s.heap.get? a=ba o)(hd:o.data=.set es d t)(hz:⇑b<=1000)
  (h:∀h',NN a s.heap h'->h'.get? a=ba {o with data:=.set b (d+1) c}->Q () {s with heap:=h'}):wpAny (model prog w) A (storeSet a b c) Q E s:=by
 show wpAny_storeSet_of e hd (h _ (O4 ..) ?_) (Lw hz (by rw[MF];decide))
 have:=No (Obj.putSet b c) e (by rw[putSet_of b c hd];rfl)
 rw[putSet_of b c hd]at this;show this
def HN {a b:Lv}{o:Nr}{d:LY Ze}{G:Ll}{t:Mc}{x:T}{hf:T->LC}{H:LY (LC×T)}{N:Mc}{Q:L7->Lm->Prop}(D:s.heap.get? a=ba o)(hd:o.data=.set (d.map zV) G t)(L:dg t ⇑d=true)(hz:ZOk s.heap d)
  (hx:IsT s.heap x (.ref b)) (I:x.depth<=aA) (U:eM x=true) (hu:(bh prog w).room A) (e:bv hf (d.map zT,t) x=ba (H,N))
  (k:∀(bb:L7) (h':MD) (u:LY Ze) (ep':Ll),u.map zT=H->dg N ⇑u=true->NN a s.heap h'->h'.get? a=ba {o with data:=.set (u.map zV) ep' N}->(∀z∈u.toList,z∈d.toList\/z=(hf x,x,b))->Q bb {s with heap:=h'}) :
  wpAny (model prog w) A (setAddHashed a (.ref b) (hf x)) Q E s:=by
 obtain⟨f1,f2,f3⟩:=lI L;have B:t.fits (d.map zV).size=true:=by rw[M9];show f1
 unfold setAddHashed setAddHashedIn;show MY (Lg (Nd D hd B ?_));dsimp only;rw[tB];simp only[L9,M8];unfold bv at e;cases hs:bD (d.map zT) t x (hf x) 2000 gV with
 |none=>rw[hs]at e;cases e
 |some r=>
  rw[hs]at e;dsimp only at e;show Lg ?_;unfold setSearch;show zh D hd B f2 hz.se hx I hu 2000 100000 gV r hs #v[] (λV=>?_) λslot V=>?_
  ·subst V;cases e;show Lo (k false s.heap d G rfl L (TW ..) (by rw[<- hd];show D) λz h=>.inl h)
  ·subst V;dsimp only at e ⊢;show Lg (Nd D hd B ?_);dsimp only;split at e
   ·rename_i c;have Y:L4 (d.map zT) (t.put slot).2 (hf x,x)=(L4 d (t.put slot).2 (hf x,x,b)).map zT:=jr (f:=zT) (x:=(hf x,x,b));have Z:L4 (d.map zV) (t.put slot).2 (hf x,.ref b)=(L4 d (t.put slot).2 (hf x,x,b)).map zV:=jr (f:=zV) (x:=(hf x,x,b));have j:∀z∈(L4 d (t.put slot).2 (hf x,x,b)).toList,z∈d.toList\/z=(hf x,x,b):=λz h=>by
     unfold L4 at h;simp only[QR,Rv,Ma,LA]at h;rcases h with(h|h)|h
     ·rw[PC]at h;show .inl (by rw[Rp]at h;show QC (Nw h))
     ·show .inr h
     ·rw[PC]at h;show .inl (by rw[Rp]at h;show QC (Nw h))
    rw[Y]at e c;rw[M9]at c;obtain⟨O,g2,R⟩:=lI c;rw[Z];have J:∀n:LY Ze,Pb (λx=>x.fst) (Pb zV n)=Pb (λx=>x.fst) (Pb zT n):=λn=>by
     rw[Vr,Vr];rfl
    simp only[M9]at e ⊢;generalize(t.put slot).1=tt at e c O g2 ⊢;generalize L4 d (t.put slot).2 (hf x,x,b)=n at e c O R j ⊢;clear Y Z;have k8:x.depth<=8:=Lw I (by unfold aA;decide)
    have P:tt.fits (Pb zV n).size=true:=by rw[M9];show O
    have y:∀q:MD,NN a s.heap q->q.get? a=ba {o with data:=.set (Pb zV n) (G+1) tt}->wpAny (model prog w) A (if (!false&&tt.tooFull)=true then do setRelay a (Pa (⇑d+1));pure true else pure true) Q E {s with heap:=q}:=by
     intro q g C;cases M:tt.tooFull with
     |false=>
      rw[M]at e;simp only[L9,M8]at e;cases e;simp only[Su,Ra,L9,M8];show Lo (k true q n (G+1) rfl c g C j)
     |true=>
      rw[M]at e;simp only[NC]at e;simp only[Su,PZ,NC];split at e
      ·rename_i S;cases l:tt.relaid (Pb (λx=>x.fst) (Pb zT n)) (Pa (⇑d+1))with
       |none=>rw[l]at e;cases e
       |some p=>
        obtain⟨t2,m⟩:=p;rw[l]at e;dsimp only at e;rw[filterMap_map,M9]at e;split at e
        ·rename_i hc;cases e;obtain⟨c1,X⟩:=hc;obtain⟨d1,d2,d3⟩:=lI X;unfold setRelay;show Lg (Lg (Nd C rfl P ?_));dsimp only;rw[L1 (RS.mpr S)];rw[J,l];show Lg (Qd (a:=(Pb zV (UK (λx=>n[x]?) m),N)) ?_ ?_)
         ·show(if ((UK (λx=>(Pb zV n)[x]?) m).size != (Pb zV n).size)=true then _ else _)=_
          rw[filterMap_map,M9,M9,c1];rw[L1 (by simp)]
         ·dsimp only;show tD (s:={s with heap:=q}) C rfl (by rw[M9];show d3) λh2 W q2=>Lo (k true h2 _ (G+1+1) rfl X (g.trans W) q2 λz hz=>j z ?_)
          obtain⟨i,hi,e⟩:=Array.mem_filterMap.mp (NW.mp hz);show NW.mpr (Oa e)
        ·cases e
      ·cases e
    cases hp:tt.plain with
    |false=>
     simp only[L9,M8];show Lg (Lo ?_);simp only[NC];show Lg (tD D hd (by rw[M9];show R) λq g C=>y q g C)
    |true=>
     simp only[NC];show Lg (u5 8 _ _ _ _ _ U k8 hx ?_);simp only[NC];show Lg (tD D hd (by rw[M9];show R) λq g C=>y q g C)
   ·cases e
end
abbrev ii (h h':MD):Prop:=∀c o,h.get? c=ba o->o.cls=.type "tuple"->h'.get? c=ba o
mutual
theorem IsT.stay {h h':MD}(k:ii h h'):∀{x:T}{v:Lj},IsT h x v->IsT h' x v
 |_,_,.int=>.int
 |_,_,.str=>.str
 |_,_,.tup a b c d=>.tup (k _ _ a b) b c (IsTs.stay k d)
theorem IsTs.stay {h h':MD}(k:ii h h'):∀{x:Lf T}{v:Lf Lj},IsTs h x v->IsTs h' x v
 |_,_,.nil=>.nil
 |_,_,.cons a b=>.cons (IsT.stay k a) (IsTs.stay k b)
end
def ZOk.stay {h h':MD}{b:LY Ze}(k:ii h h')(z:ZOk h b):ZOk h' b:=λy a=>#[(z y a).1.stay k,(z y a).2]
section
variable{prog:Mn}{w:MB}{A:Ms}{E:Lj->Lm->Prop}{s:Lm}{R:Ud->Lm->Prop}{I:Lv}{fp wr:Lf Lv}{G:LY Sq->LY Sq->Prop}{n:Ll}{P:Ll->Lj->Prop}{St:Ll->Lm->Prop}
abbrev lJ (w:MB)(b:LY Ze)(a:Ll)(t:Mc):Nr:={cL w with data:=.set (b.map zV) a t}
def xn (W:WalksS prog w A.in1 I fp wr G n P St){D:Lv}(hD:D∉fp)(Q:∀i s b o,St i s->b∈wr->s.heap.get? b=ba o->o.cls≠.type "tuple"){ks:Lf T}{res:LY (LC×T)×Mc}{Yx:T->Lv->Prop}(hl:↥ks=n)(hk:∀x∈ks,eM x=true/\x.depth<=aA)(hP:∀i v,P i v->∃x b,ks[i]?=ba x/\v=.ref b/\Yx x b)(hu:(bh prog w).room A.in1) :
  ∀(k i:Ll) (s:Lm) (f:LY Ze) (L:Ll) (t:Mc),n-i=k->i<=n->St i s->s.heap.get? D=ba (lJ w f L t)->dg t ⇑f=true->ZOk s.heap f->(∀z∈f.toList,Yx z.2.1 z.2.2)->(∀j v x,P j v->ks[j]?=ba x->IsT s.heap x v)->(ks.drop i).foldlM (bv (fj w)) (f.map zT,t)=ba res->
   (∀H d p,Moved (D::wr) G s H->H.heap.get? D=ba (lJ w d p res.2)->d.map zT=res.1->dg res.2 ⇑d=true->ZOk H.heap d->(∀z∈d.toList,Yx z.2.1 z.2.2)->R (.ok (.ret .none)) H)->codeAny (model prog w) A (.builtin "set.update.loop" #[[.ref D,.ref I],[]]) R s:=by
 have hw:D∉wr:=λz=>hD (W.sub _ z)
 have up:∀b∈wr,b∈D::wr:=λb z=>MO _ z
 intro k
 induction k with
 |zero=>
  intro i s f L t hk' hi st ho B hz S Y a X;obtain rfl:i=n:=∅
  show M4 F.entry_set_update_loop ?_;rw[MW F.plain_set_update_loop _];change wpAny _ A.in1 (pyNext (.ref I) >>= _) _ _ s;show Lg (W.done s _ _ st λH E=>?_)
  rw[Ql ∅]at a
  cases a;have ts:ii s.heap H.heap:=λc o q g=>E.heap c o (λz=>Q _ _ _ _ st z q g) q
  show Lo (X H f L (E.mono up) (E.heap D _ hw ho) rfl B (hz.stay ts) S)
 |succ k ih=>
  intro i s f L t hk' hi st ho B hz S Y a X;have M:i<n:=∅
  show M4 F.entry_set_update_loop ?_;rw[MW F.plain_set_update_loop _];change wpAny _ A.in1 (pyNext (.ref I) >>= _) _ _ s;show Lg (W.item i s _ _ M st λv e pv st1 E=>?_)
  obtain⟨x,b,hx,rfl,yx⟩:=hP i v pv;have l:ii s.heap e.heap:=λc o q g=>E.heap c o (λz=>Q _ _ _ _ st z q g) q
  obtain⟨hn,r⟩:=hk x (LD hx);have Jp:IsT e.heap x (.ref b):=(Y i _ x pv hx).stay l;have o1:e.heap.get? D=ba (lJ w f L t):=E.heap D _ hw ho;have Z:ks.drop i=x::ks.drop (i+1):=by
   obtain⟨h1,h2⟩:=LB.mp hx;rw[List.drop_eq_getElem_cons h1,h2]
  rw[Z,Pc]at a;cases hs:bv (fj w) (f.map zT,t) x with
  |none=>rw[hs]at a;cases a
  |some aN=>
   obtain⟨V,t1⟩:=aN;rw[hs]at a;have a:(ks.drop (i+1)).foldlM (bv (fj w)) (V,t1)=ba res:=a;change wpAny _ A.in1 (holding [Mr b] (setAdd D (.ref b)) >>= _) _ _ e;show Lg (MY ?_);unfold setAdd;show MY (Lg ((bh prog w).pyHash hu #[Jp,r] ?_));show HN (s:={e with toks:=e.toks+x.draws}) (hf:=fj w) o1 rfl B (hz.stay l) Jp r hn hu hs λbb h' d p e1 N sb ho' m=>?_
   have J:ii e.heap h':=λc o q g=>by
    show sb.extBut c o (λz=>?_) q
    subst z;rw[o1]at q;cases q;show absurd g (by change ¬ (NF "set" = NF "tuple");simp)
   have hz':ZOk h' d:=λz C=>by
    rcases m z C with h|rfl
    ·show((hz.stay l).stay J) z h
    ·show#[Jp.stay J,r]
   show Lo #[NY F.plain_set_update_loop _,ih (i+1) {e with heap:=h',toks:=e.toks+x.draws} d p t1 ∅ M (W.frame _ e _ _ st1 (Ox _ _) λc g u q=>?_) ho' N hz' (λz C=>by
    rcases m z C with h|rfl
    ·show S z h
    ·show yx) (λj v y pj S=>((Y j v y pj S).stay l).stay J) (by rw[e1];show a) λs2 zs2 U mv2 ho2 e2 O hz2 hy2=>?_]
   ·rw[sb.2 c λz=>hD (z▸g)];show q
   ·show X s2 zs2 U (Moved.trans W.gtrans ((E.mono up).then_heap (Ox _ _) λc u g q=>?_) mv2) ho2 e2 O hz2 hy2
    rw[sb.2 c λz=>g (z▸M3)]
    show q
end
section
variable{prog:Mn}{w:MB}{A:Ms}{E:Lj->Lm->Prop}{s:Lm}
def zj (l:L7):dg (.fresh 0 0 l) (#[]:LY Ze).size=true:=by cases l<;>decide
set_option maxHeartbeats 4000000 in
def xo {l:Lv}{d:LY Lj}{ks:Lf T}{res:LY (LC×T)×Mc}{Q:Lj->Lm->Prop}(hh:A.handled=gV)(hl:s.heap.IsList l d)(hi:IsTs s.heap ks d.toList)(hk:∀x∈ks,eM x=true/\x.depth<=aA)(N:∀(i:Ll) (v:Lj),d[i]?=ba v->∃b,v=.ref b)(hu:(bh prog w).room A.in1.in1.in1)(C:ks.foldlM (bv (fj w)) (#[],.fresh 0 0 (!fN w))=ba res)
  (h:∀(h':MD) (G:Ll) (f:LY Ze) (k:Ll),h'.get? ⇑s.heap.objs=ba (lJ w f k res.2)->f.map zT=res.1->dg res.2 ⇑f=true->ZOk h' f->(∀z∈f.toList,∃i:Ll,ks[i]?=ba z.2.1/\d[i]?=ba (Mr z.2.2))->(∀b u,s.heap.get? b=ba u->h'.get? b=ba u)->Q (.ref ⇑s.heap.objs) {s with heap:=h',toks:=G}):wpAny (model prog w) A (call (.type "set") [.ref l]) Q E s:=by
 obtain⟨c,tl,X⟩:=F.called_set.mro;have L:=F.called_set.made;have Y:=F.called_set.sub;have hn1:=F.called_set.notType;have hn2:=F.called_set.canCreate;have hct:=F.typeCall_set_1 (.ref l);show wpAny_call (R4 ?_);change wpAny _ _ (callAny (.type "set") _) _ _ _;show Lo #[Tl _ (by decide +kernel),M4 F.entry_type_call ?_]
 rw[Around.under_plain (weight_type_call_type "set" [.ref l] []) rfl]
 repeat (any_goals (first|assumption|wp_step))
 show Qf (y6 (w:=w) (.ref l) (E:=E) (Q₁:=λobj s1=>obj=.ref ⇑s.heap.objs/\s1={s with heap:=s.heap.push (cL w)}) #[rfl,rfl]) λr s1 g=>?_
 match r,g with
 |.ok (.ret obj),g=>
  obtain⟨rfl,rfl⟩:=g;have oS:(s.heap.push (cL w)).get? ⇑s.heap.objs=ba (cL w):=LI _ rfl;have tS:Shared.TypeIs {s with heap:=s.heap.push (cL w)} (.ref ⇑s.heap.objs) "set":=#[_,oS,rfl]
  have hli:=F.called_set.init.lookup;have hbi:=F.called_set.init.bind (.ref ⇑s.heap.objs)
  repeat (any_goals (first|assumption|wp_step))
  show Qf (codeAny_call_builtin (R:=wants (λr s2=>r=.none/\∃h' G f k,s2={s with heap:=h',toks:=G}/\h'.get? ⇑s.heap.objs=ba (lJ w f k res.2)/\f.map zT=res.1/\dg res.2 ⇑f=true/\ZOk h' f/\(∀z∈f.toList,∃i:Ll,ks[i]?=ba z.2.1/\d[i]?=ba (Mr z.2.2))/\∀b u,s.heap.get? b=ba u->h'.get? b=ba u) E) F.called_set.init.plain F.entry_set_init (check_set_init_1 tS ?_)) λr2 s2 a=>?_
  ·obtain⟨⟨oc,od,ot,osl⟩,y,m,nl,n⟩:=id hl;simp only at m n;subst m n;have B:=Li (cL w) y;have Z:(s.heap.push (cL w)).IsList l d:=#[_,B,rfl,nl,rfl];have e1:=F.sub_list_set;have e2:=F.sub_list_frozenset;have V:(NF "list" == NF "dict")=false:=by decide
   unfold O3.«set.__init__» noKeywords UL;generalize J:pyIter=PI
   wp_walk
   subst J;show OQ Z (Lg (Qk ?_));have ls:l<⇑s.heap.objs:=LO y;have sz:(s.heap.push (cL w)).objs.size=⇑s.heap.objs+1:=Nv ..;have ne:l≠(s.heap.push (cL w)).objs.size:=by rw[sz];show LX (Ol ls)
   have S:(s.heap.push (cL w)).get? ⇑s.heap.objs=ba (lJ w #[] 0 (.fresh 0 0 (!fN w))):=by
    rw[oS];unfold lJ cL;simp
   have len:↥ks=⇑d:=by rw[↥hi,Lz]
   show xn ((Tn (A:=A.in1.in1.in1) (by simp[hh]) _ l ne d).toS) (D:=⇑s.heap.objs) (ks:=ks) (res:=res) (Yx:=λx b=>∃i:Ll,ks[i]?=ba x/\d[i]?=ba (Mr b)) (by rw[sz];simp only[LQ,My,NE,Uk];show#[LX (M7 _),Mk ls]) (λi s b o st H q=>?_) len hk (λi v q=>?_) hu _ 0 _ #[] 0 (.fresh 0 0 (!fN w)) rfl (MS _)
    #[#[_,LI _ rfl,rfl,rfl],Z.push _] (Li _ S) (zj _) (λz hz=>by simp at hz) (λz hz=>by simp at hz) (λj v x q hx=>?_) (by rw[Rg,show Pb zT #[]=#[] by simp];show C) λs3 U I mv M V t P O=>?_
   ·obtain⟨⟨o',e,W,_⟩,_⟩:=st;rw[LA.mp H]at q;rw[q]at e;cases e;rw[W];simp
   ·obtain⟨b,rfl⟩:=N i v q;have p:i<↥ks:=by rw[len];show(Ml.mp q).1
    show#[ks[i],b,Lq p,rfl,i,Lq p,q]
   ·have hj:=(LB.mp hx);have q':=(Ml.mp q);obtain⟨h1,rfl⟩:=hj;obtain⟨h2,rfl⟩:=q';have:=hi.get j h1 (by rw[Lz];show h2)
    rw[QA]at this;show this.stay λc o q W=>Li _ (Li _ q)
   ·rw[Vp mv];show Lo (Lo #[rfl,s3.heap,s3.toks,U,I,rfl,M,V,t,P,O,λb u q=>?_])
    have H:=LO q;show mv.heap b u (by rw[sz];simp only[LQ,My,NE,Uk];show#[LX H,LX (Ol H)]) (Li _ (Li _ q))
  ·match r2,a with
   |.ok (.ret r),a=>
    obtain⟨rfl,h',G,f,k,rfl,g1,g2,g3,g4,g5,g6⟩:=a
    repeat (any_goals (first|assumption|wp_step))
    show h h' G f k g1 g2 g3 g4 g5 g6
   |.ok .next,a=>show a.elim
   |.ok .brk,a=>show a.elim
   |.ok .cont,a=>show a.elim
   |.error e,a=>show a
 |.ok .next,g=>show g.elim
 |.ok .brk,g=>show g.elim
 |.ok .cont,g=>show g.elim
 |.error e,g=>show g
end
abbrev kI (S:aa)(i:Ll):Ln (Lf (T×W)):=match S[i]? with
 |some (.dic U)=>ba U
 |some (.frd U)=>ba U
 |_=>gV
abbrev o8 (S:aa)(i:Ll):Ln (Lf (T×W)):=match S[i]? with
 |some (.dic U)=>ba U
 |_=>gV
abbrev bP (U:Lf (T×W))(k:T):Ln W:=(U.find? λp=>decide (p.1=k)).map (·.2)
abbrev eN (U:Lf (T×W))(k:T)(v:W):Lf (T×W):=
 if (U.any λp=>decide (p.1=k))=true then U.map (λp=>if p.1=k then(p.1,v)else p)else U++[(k,v)]
abbrev iF (w:W):Ln T:=match W.t w with
 |some k=>if k.isTup=true/\k.depth<=aA then ba k else gV
 |none=>gV
def eC {w:W}{k:T}(h:iF w=ba k):k.w=w/\k.isTup=true/\k.depth<=aA:=by
 unfold iF at h;split at h
 ·rename_i b hk;split at h
  ·rename_i a;cases h;show#[W.t_w hk,a.1,a.2]
  ·cases h
 ·cases h
def c8 (U:Lf (T×W))(k:T)(v:W):(eN U k v).length<=↥U+1:=by
 unfold eN;split
 ·rw[Lh];omega
 ·rw[Lx,L3,N8];omega
section
variable{X:Cx}{J:Lf (Lv×Nr)}{Y:L2.St}{H:Hp}{s:Lm}{A:Lf Lv}{S:aa}
mutual
theorem lK (I:Inv X J Y H s):∀(k:T) {v:V}{u:Lj},Rel X.K A H k.w v->RelV v u->IsT s.heap k u
 |.int i,_,_,r,q=>by
  cases r;obtain⟨t,rfl⟩:∃t,_=Qq _ t:=q;show .int
 |.str x,_,_,r,q=>by
  cases r;obtain⟨t,rfl⟩:∃t,_=Qr _ t:=q;show .str
 |.tup ks,_,_,r,q=>by
  simp only[T.w]at r;cases r with
  |tup sq rl=>
   obtain⟨its,rv,⟨o,h1,h2,n,h3⟩,hz⟩:=I.tuple sq;obtain rfl:_=Mr _:=q;show .tup h1 h2 h3 (fq I ks rl (by simpa using rv))
theorem fq (I:Inv X J Y H s):∀(ks:Lf T) {vs:Lf V}{us:Lf Lj},RelL X.K A H (T.ws ks) vs->Vals vs us->IsTs s.heap ks us
 |[],_,_,r,q=>by
  simp only[T.ws]at r;cases r;cases q;show .nil
 |k::ks,_,_,r,q=>by
  simp only[T.ws]at r;cases r with
  |cons r1 r2=>
   cases q with
   |cons q1 q2=>show .cons (lK I k r1 q1) (fq I ks r2 q2)
end
def j3 (I:Inv X J Y H s){k:T}{b:Lv}(r:Rel X.K A H k.w (.ref b))(hd:k.depth<=aA):(bh X.prog X.w).is s.heap k b:=#[lK I k r rfl,hd]
def jt {w:W}{k:T}{v:V}{u:Lj}(hk:iF w=ba k)(r:Rel X.K A H w v)(q:RelV v u):∃b,v=.ref b/\u=.ref b/\Rel X.K A H k.w (.ref b):=by
 obtain⟨c,d,e⟩:=eC hk;subst c;cases k with
 |tup ks=>
  simp only[T.w]at r;cases r with
  |tup a b=>show#[_,rfl,q,by simp only[T.w];show .tup a b]
 |_=>cases d
def KRel.is {U:Lf (T×W)}{xs:Lf (T×Lv×Lj)}(I:Inv X J Y H s)(r:KRel X.K A H U xs):∀x∈xs,(bh X.prog X.w).is s.heap x.1 x.2.1:=by
 unfold KRel at r
 induction r with
 |nil=>intro x a;show nomatch a
 |@cons p q ps g h t ih=>
  intro x a;rcases LQ.mp a with e|a
  ·subst e;obtain⟨d,f,b,c,_⟩:=h;rw[d]at b c;show j3 I c b
  ·show ih x a
def KRel.length {U:Lf (T×W)}{xs:Lf (T×Lv×Lj)}(r:KRel X.K A H U xs):↥U=↥xs:=Rz r
def KRel.val {U:Lf (T×W)}{xs:Lf (T×Lv×Lj)}(r:KRel X.K A H U xs)(k:T) :
  (∀w,bP U k=ba w->∃p v,atKey xs k=ba p/\Rel X.K A H w v/\RelV v p.2)/\(bP U k=gV->atKey xs k=gV):=by
 unfold KRel at r
 induction r with
 |nil=>show#[λw h=>(nomatch h),λ_=>rfl]
 |@cons p q ps d h t ih=>
  obtain⟨f,_,_,_,v,g,i⟩:=h
  by_cases e:p.1=k
  ·have c:q.1=k:=f.symm.trans e;have a:bP (p::ps) k=ba p.2:=by simp[bP,Pq,e]
   have b:atKey (q::d) k=ba q.2:=by simp[atKey,Pq,c]
   rw[a,b];show#[λw j=>(by cases j;show#[_,v,rfl,g,i]),λh=>nomatch h]
  ·have c:¬ q.1=k:=λz=>e (f.trans z)
   have a:bP (p::ps) k=bP ps k:=by simp[bP,Pq,e]
   have b:atKey (q::d) k=atKey d k:=by simp[atKey,Pq,c]
   rw[a,b];show ih
def KRel.repl {U:Lf (T×W)}{xs:Lf (T×Lv×Lj)}(r:KRel X.K A H U xs)(k:T){w:W}{v:V}{u:Lj}(b:Rel X.K A H w v)(i:RelV v u) :
  KRel X.K A H (U.map λp=>if p.1=k then(p.1,w)else p) (xs.map (putAt k u)):=by
 unfold KRel at r ⊢
 induction r with
 |nil=>show .nil
 |@cons p q ps j h t ih=>
  rw[Mj,Mj];show .cons ?_ ih;obtain⟨a,c,d,f,g⟩:=h;unfold putAt
  by_cases e:p.1=k
  ·rw[LU e,LU (a.symm.trans e)];show#[a,c,d,f,v,b,i]
  ·rw[L1 e,L1 (λz=>e (a.trans z))];show#[a,c,d,f,g]
def qO (k:T):∀U:Lf (T×W),(U.any λp=>decide (p.1=k))=(bP U k).isSome
 |[]=>rfl
 |p::r=>by
  rw[Ov]
  by_cases e:p.1=k
  ·have a:bP (p::r) k=ba p.2:=by simp[bP,Pq,e]
   rw[a,Nc e];rfl
  ·have a:bP (p::r) k=bP r k:=by simp[bP,Pq,e]
   rw[a,Mt e,RB];show qO k r
def KRel.put {U:Lf (T×W)}{xs:Lf (T×Lv×Lj)}(r:KRel X.K A H U xs){k:T}{b:Lv}{w:W}{v:V}{u:Lj}(d:k.isTup=true)(f:k.depth<=aA)(g:Rel X.K A H k.w (.ref b))(a:Rel X.K A H w v)(c:RelV v u) :
  KRel X.K A H (eN U k w) (storedH xs k b u):=by
 have e:(U.any λp=>decide (p.1=k))=(atKey xs k).isSome:=by
  rw[qO];cases q:bP U k with
  |none=>rw[(r.val k).2 q];rfl
  |some x=>obtain⟨p,_,h,_⟩:=(r.val k).1 x q;rw[h];rfl
 unfold eN storedH;rw[e]
 by_cases q:(atKey xs k).isSome=true
 ·rw[LU q,LU q];show r.repl k a c
 ·rw[L1 q,L1 q];show Paired.snoc r #[rfl,d,f,g,v,a,c]
def DicAt.of {h:MD}{a:Lv}{xs:Lf (T×Lv×Lj)}(hz:↥xs<=sizeLine)(hs:(a==sysModules)=false)(d:h.DictOfH (bh X.prog X.w) a xs):DicAt X.w a xs h:=
 let ⟨o,es,ep,h1,h2,h3,h4,_,h6⟩:=d;#[hz,hs,h6,o,es,ep,h1,h2,h3,h4]
def DicAt.stay {wd:MB}{h h':MD}{a:Lv}{xs:Lf (T×Lv×Lj)}(d:DicAt wd a xs h)(k:∀o,h.get? a=ba o->h'.get? a=ba o):DicAt wd a xs h':=
 let ⟨h0,hs,hn,o,es,ep,h1,h2⟩:=d;#[h0,hs,hn,o,es,ep,k _ h1,h2]
def DicAt.ok {P:Mn}{h:MD}{wd:MB}{a:Lv}{xs:Lf (T×Lv×Lj)}(d:DicAt wd a xs h):ObjOk P wd H h a (eJ wd a xs):=
 #[d,let ⟨_,_,_,o,_,_,h1,_⟩:=d;#[o,h1],λ_ _ p k=>p.stay k]
def cM {a:Lv}{xs:Lf (T×Lv×Lj)}(I:Inv X J Y H s)(e:Rd H a (eJ X.w a xs)):DicAt X.w a xs s.heap:=(show ObjOk X.prog X.w H s.heap a (eJ X.w a xs)from e.ok I.hok).1
def DicAt.dict {U:Lf (T×W)}{a:Lv}{xs:Lf (T×Lv×Lj)}(d:DicAt X.w a xs s.heap)(I:Inv X J Y H s)(r:KRel X.K A H U xs):s.heap.DictOfH (bh X.prog X.w) a xs:=
 let ⟨_,_,hn,o,es,ep,h1,h2,h3,h4⟩:=d;#[o,es,ep,h1,h2,h3,h4,r.is I,hn]
def gO {i:Ll}{U:Lf (T×W)}{a:Lv}(c:StoreOk X.w X.K A H S)(e:kI S i=ba U)(b:A[i]?=ba a):∃xs,Rd H a (eJ X.w a xs)/\KRel X.K A H U xs:=by
 unfold kI at e;split at e
 ·rename_i k h;cases e;obtain⟨xs,q,r⟩:=c.obj i _ a h b;show#[xs,.inl q,r]
 ·rename_i k h;cases e;obtain⟨o,xs,q,r⟩:=c.obj i _ a h b;show#[xs,.inr #[o,q],r]
 ·cases e
def ju {i:Ll}{U:Lf (T×W)}(e:o8 S i=ba U):S[i]?=ba (.dic U):=by
 unfold o8 at e;split at e
 ·rename_i h;cases e;show h
 ·cases e
def u6 {i:Ll}{U:Lf (T×W)}{a:Lv}(c:StoreOk X.w X.K A H S)(e:o8 S i=ba U)(b:A[i]?=ba a):∃xs,H a=ba (eJ X.w a xs)/\KRel X.K A H U xs:=
 c.obj i _ a (ju e) b
def qP {B:Ms}(a:B.units+10<cLine):(bh X.prog X.w).room B.in1:=by
 change B.in1.units+aA<cLine;rw[aO];unfold aA;omega
abbrev qr (x y:W)(S:aa):Ln (W×aa):=match x,y with
 |.ref r,.tup ks=>match kI S r,iF (.tup ks)with
  |some U,ba k=>(bP U k).map λw=>(w,S)
  |_,_=>gV
 |x,y=>w8 x y S
def Kg (m:X.A.units+10<cLine):LIx X qr:=by
 intro f c J s Y H A S x y a b u v w S' I j t o z q e hs
 by_cases h:∃r ks,x=.ref r/\y=.tup ks
 ·obtain⟨r,ks,rfl,rfl⟩:=h;simp only[qr]at e;split at e
  ·rename_i U k i g;rw[Lk]at e;obtain⟨R,B,C⟩:=e;cases C;cases t with
   |ref D=>
    obtain⟨xs,M,n⟩:=gO j i D;have d:=cM I M;have l:=d.dict I n;obtain⟨bk,rfl,rfl,N⟩:=jt g z q;obtain⟨p,P,E,G,L⟩:=(n.val k).1 _ B;obtain rfl:u=Mr _:=o;show Qh (x:=p.2) l.typeIs slot_dict_getitem.lookup
     (wpAny_getItem_heap (Q:=λr O=>r=p.2/\PostE X J Y A H S w r O) (qP m) (j3 I N (eC g).2.2) l E #[rfl,P,H,A,I.tok _,L,.refl,j,G]) hs
  ·cases e
 ·have:qr x y S=w8 x y S:=by
   cases x<;>cases y<;>first|rfl|show absurd #[_,_,rfl,rfl] h
  rw[this]at e;show K8 m f c J s Y H A S x y a b u v w S' I j t o z q e hs
abbrev jv (o i v:W)(S:aa):Ln aa:=match o,i with
 |.ref r,.tup ks=>match o8 S r,iF (.tup ks)with
  |some U,ba k=>if ↥U<sizeLine then ba (S.set r (.dic (eN U k v)))else gV
  |_,_=>gV
 |o,i=>w9 o i v S
def HP (B:X.A.units+10<cLine):LSet X jv:=by
 intro J s Y H A S o i x O N P M V m S' I w G j D h L l e
 by_cases f:∃r ks,o=.ref r/\i=.tup ks
 ·obtain⟨r,ks,rfl,rfl⟩:=f;dsimp only[jv]at e;split at e
  ·rename_i U k b c;split at e
   ·rename_i hl;cases e;cases G with
    |ref z=>
     obtain⟨xs,p,v⟩:=u6 w b z;have d:=cM I (.inl p);have Q:=d.dict I v;obtain⟨bk,rfl,rfl,E⟩:=jt c D h;obtain⟨W,T,C⟩:=eC c;obtain rfl:M=Mr _:=j;have hz:↥xs<=sizeLine:=by rw[<- ↥v];show Ni ‹_›
     show wpAny_setItem_heap (hsz:=hz) (qP B) (j3 I E C) Q λh' a hs=>?_
     have g:=v.put T C E L l;have t:(storedH xs k bk m).length<=sizeLine:=by
      rw[<- ↥g];have:=c8 U k x;omega
     have R:DicAt X.w _ (storedH xs k bk m) h':=.of t d.2.1 a;obtain⟨y,ex⟩:=w.writeO (ju b) rfl z (u:=eJ X.w _ (storedH xs k bk m)) (n:=.dic (eN U k x)) #[_,aP,g.mono (cK (.ext p))];show#[_,A,oU I (by rw[p];show Qu) hs (let ⟨q,_,_,hq,_⟩:=a;#[q,hq]) R.ok,ex,y]
   ·cases e
  ·cases e
 ·have:jv o i x S=w9 o i x S:=by
   cases o<;>cases i<;>first|rfl|show absurd #[_,_,rfl,rfl] f
  rw[this]at e;show lset B J s Y H A S o i x O N P M V m S' I w G j D h L l e
abbrev u7 (x:W)(xs:Lf W)(S:aa):Ln (W×aa):=match x,xs with
 |.ref r,[y,z]=>match kI S r,iF y with
  |some U,ba k=>ba ((bP U k).getD z,S)
  |_,_=>gV
 |_,_=>gV
def tF (r:X.A.units+10<cLine):nB X "dict.get" u7:=by
 intro J s Y H A S x a u xs vs us w S' I i E C B D e;cases E with
 |ref l=>
  cases B with
  |nil=>cases e
  |cons t G=>
   cases G with
   |nil=>cases e
   |cons v t2=>
    cases t2 with
    |cons _ _=>cases e
    |nil=>
     dsimp only[u7]at e;split at e
     ·rename_i U k c b;cases e;obtain⟨xs,y,f⟩:=gO i c l;have d:=cM I y;have j:=d.dict I f;cases D with
      |cons L g=>
       cases g with
       |cons M h=>
        cases h;obtain⟨bk,rfl,rfl,z⟩:=jt b t L;obtain rfl:u=Mr _:=C;show call_meetsIn Si j.typeIs PySem.F.entry_dict_get (PySem.F.args_dict_get_3 _ _ _) (meetsH_dict_get_default (bh X.prog X.w) _ bk d.2.1 _) #[qP r,k,xs,j3 I z (eC b).2.2,j,?_];cases q:bP U k with
        |none=>
         rw[(f.val k).2 q];show#[_,H,A,I.tok _,M,.refl,i,v]
        |some O=>
         obtain⟨p,N,m,n,o⟩:=(f.val k).1 _ q;rw[m];show#[N,H,A,I.tok _,o,.refl,i,n]
     ·cases e
 |_=>cases e
abbrev Jz (x:W)(i:Ll)(S:aa):Ln L7:=match W.t x,gJ S i with
 |some k,ba ys=>match W.ts ys with
  |some ks=>if k.depth<=aA/\T.depths ks<=aA then ba (decide (k∈ks))else gV
  |none=>gV
 |_,_=>gV
abbrev Fw (x:W)(ys:Lf W):Ln L7:=match W.t x,W.ts ys with
 |some k,ba ks=>if k.depth<=aA/\T.depths ks<=aA then ba (decide (k∈ks))else gV
 |_,_=>gV
def o9 {h:MD}:∀{ks:Lf T}{vs:Lf Lj},IsTs h ks vs->∀v∈vs,∃k∈ks,IsT h k v
 |_,_,.cons a b,v,c=>by
  rcases LQ.mp c with rfl|c
  ·show#[_,.head _,a]
  ·obtain⟨k,hk,q⟩:=o9 b v c;show#[k,.tail _ hk,q]
abbrev BZ (h:MD)(k:T)(v:Lj):L7:=@decide (IsT h k v) (VD _)
def tH {h:MD}{k a:T}{v:Lj}(x:IsT h a v):BZ h k v=decide (a=k):=by
 unfold BZ
 by_cases e:a=k
 ·subst e;simp[x]
 ·have:¬ IsT h k v:=λy=>e (x.inj y)
  simp[e,this]
def pc {h:MD}{k:T}:∀{ks:Lf T}{vs:Lf Lj},IsTs h ks vs->vs.any (BZ h k)=decide (k∈ks)
 |_,_,.nil=>by simp
 |_,_,.cons (k:=c) a b=>by
  rw[Ov,tH a,pc b]
  by_cases e:c=k
  ·simp[e]
  ·have:¬ k=c:=λz=>e z.symm
   simp[e,this]
def lL:∀{ks:Lf T}{k:T},k∈ks->k.depth<=T.depths ks
 |x::ks,k,h=>by
  simp only[T.depths];rcases LQ.mp h with rfl|h
  ·omega
  ·have:=lL h;omega
def zn {x:W}{i:Ll}{a b:V}{u v:Lj}{c:L7}(M:X.A.units+10<cLine)(I:Inv X J Y H s)(G:StoreOk X.w X.K A H S)(D:Rel X.K A H x a)(B:RelV a u)(E:Rel X.K A H (.ref i) b)(C:RelV b v)(e:Jz x i S=ba c) :
  ∃l d k ks,v=.ref l/\s.heap.IsList l d/\(∀y,y∈d->Qs X.A.in1 s y u (BZ s.heap k y))/\d.any (BZ s.heap k)=c/\c=decide (k∈(ks:Lf T)):=by
 unfold Jz at e;split at e
 ·rename_i k ys o r;split at e
  ·rename_i ks t;split at e
   ·rename_i L;cases e;cases E with
    |ref j=>
     obtain⟨vs,m,n⟩:=bp G r j;obtain⟨d,g,p,_⟩:=I.list m;obtain rfl:v=Mr _:=C;have h:IsTs s.heap ks d:=fq I ks ((W.ts_w t).symm▸n) g;have hk:IsT s.heap k u:=lK I k ((W.t_w o).symm▸D) B;show#[_,d.toArray,k,ks,rfl,p.isList,λy w=>?_,by rw[Ul];show pc h,rfl]
     obtain⟨z,f,q⟩:=o9 h y (by simpa using w)
     rw[tH q];have:=lL f;have N:aA=6:=rfl;show xm aA z k _ _ _ _ ∅ q hk (by rw[aO];omega) (by rw[aO];omega)
   ·cases e
  ·cases e
 ·cases e
def CQ {x:W}{ys:Lf W}{a b:V}{u v:Lj}{c:L7}(D:X.A.units+10<cLine)(I:Inv X J Y H s)(z:Rel X.K A H x a)(t:RelV a u)(B:Rel X.K A H (.tup ys) b)(w:RelV b v)(e:Fw x ys=ba c) :
  ∃l d k,v=.ref l/\s.heap.IsTuple l d/\(∀y,y∈d->Qs X.A.in1 s y u (BZ s.heap k y))/\d.any (BZ s.heap k)=c:=by
 unfold Fw at e;split at e
 ·rename_i k ks m n;split at e
  ·rename_i C;cases e;cases B with
   |@tup _ l vs i j=>
    obtain⟨d,g,p,_⟩:=I.tuple i;obtain rfl:v=Mr _:=w;have h:IsTs s.heap ks d:=fq I ks ((W.ts_w n).symm▸j) g;have hk:IsT s.heap k u:=lK I k ((W.t_w m).symm▸z) t;show#[_,d.toArray,k,rfl,p,λy o=>?_,by rw[Ul];show pc h]
    obtain⟨r,f,q⟩:=o9 h y (by simpa using o)
    rw[tH q];have:=lL f;have E:aA=6:=rfl;show xm aA r k _ _ _ _ ∅ q hk (by rw[aO];omega) (by rw[aO];omega)
  ·cases e
 ·cases e
abbrev cx (o:COp)(x y:W)(S:aa):Ln (W×aa):=match o,y with
 |.isin,.ref i=>match kI S i with
  |some U=>(iF x).map λk=>(.bl (bP U k).isSome,S)
  |none=>match x with
   |.tup xs=>(Jz (.tup xs) i S).map λb=>(.bl (b),S)
   |x=>jk .isin x (.ref i) S
 |.notin,.ref i=>match kI S i with
  |some U=>(iF x).map λk=>(.bl (!(bP U k).isSome),S)
  |none=>match x with
   |.tup xs=>(Jz (.tup xs) i S).map λb=>(.bl (!b),S)
   |x=>jk .notin x (.ref i) S
 |.isin,.tup ys=>match x with
  |.tup xs=>(Fw (.tup xs) ys).map λb=>(.bl b,S)
  |x=>jk .isin x (.tup ys) S
 |o,y=>jk o x y S
def qQ (Z:X.A.units+iW<cLine)(o:COp):LOp X (compareOp o.py) (cx o):=by
 intro J s Y H A S x y a b u v w S' I n E C G D e;have get:∀{i:Ll}{U:Lf (T×W)}{k:T},y=.ref i->kI S i=ba U->iF x=ba k->∃d c xs,v=.ref d/\u=.ref c/\(d==sysModules)=false/\(bh X.prog X.w).is s.heap k c/\s.heap.DictOfH (bh X.prog X.w) d xs/\(bP U k).isSome=(atKey xs k).isSome:=by
  intro i U k hy g f;subst hy;cases G with
  |ref R=>
   obtain⟨xs,rd,M⟩:=gO n g R;have d:=cM I rd;obtain⟨bk,rfl,rfl,rk⟩:=jt f E C;obtain rfl:v=Mr _:=D;show#[_,bk,xs,rfl,rfl,d.2.1,j3 I rk (eC f).2.2,d.dict I M,?_];cases q:bP U k with
   |none=>rw[(M.val k).2 q];rfl
   |some w'=>obtain⟨p,_,V,_⟩:=(M.val k).1 _ q;rw[V];rfl
 have m:jk o x y S=ba (w,S')->wpAny (model X.prog X.w) X.A (compareOp o.py u v) (PostE X J Y A H S' w) X.xe s:=λh=>CN Z o J s Y H A S x y a b u v w S' I n E C G D h
 have j:X.A.units+10<cLine:=by have:iW=20:=rfl;omega
 unfold cx at e;split at e
 ·split at e
  ·rename_i U g;rw[Lk]at e;obtain⟨k,f,L⟩:=e;cases L;obtain⟨d,c,xs,rfl,rfl,N,O,P,Q⟩:=get rfl g f;rw[Q];show wpAny_in_heap (qP j) O N P #[.bl _,H,A,I.tok _,rfl,.refl,n,.bl]
  ·split at e
   ·rw[Lk]at e;obtain⟨c,r,e⟩:=e;cases e;obtain⟨l,t,k,ks,rfl,z,p2,B,_⟩:=zn j I n E C G D r;show UG (BZ s.heap k) z p2 ?_;rw[B];show#[.bl _,H,A,I,rfl,.refl,n,.bl]
   ·show m e
 ·split at e
  ·rename_i U g;rw[Lk]at e;obtain⟨k,f,L⟩:=e;cases L;obtain⟨d,c,xs,rfl,rfl,N,O,P,Q⟩:=get rfl g f;rw[Q];show wpAny_notIn_heap (qP j) O N P #[.bl _,H,A,I.tok _,rfl,.refl,n,.bl]
  ·split at e
   ·rw[Lk]at e;obtain⟨c,r,e⟩:=e;cases e;obtain⟨l,t,k,ks,rfl,z,p2,B,_⟩:=zn j I n E C G D r;show Th (BZ s.heap k) z p2 ?_;rw[B];show#[.bl _,H,A,I,rfl,.refl,n,.bl]
   ·show m e
 ·split at e
  ·rw[Lk]at e;obtain⟨c,r,e⟩:=e;cases e;obtain⟨l,t,k,rfl,z,p2,B⟩:=CQ j I E C G D r;show Ug (BZ s.heap k) z p2 ?_;rw[B];show#[.bl _,H,A,I,rfl,.refl,n,.bl]
  ·show m e
 ·show m e
end
abbrev RawD (d:Lv)(es:LY Oj)(a:Ll)(h:MD):Prop:=∃o,h.get? d=ba o/\o.ExactDict/\o.data=.dict es a
def RawD.at {d:Lv}{es:LY Oj}{a:Ll}{h h':MD}(x:RawD d es a h)(e:∀o,h.get? d=ba o->h'.get? d=ba o):RawD d es a h':=let ⟨o,ho,r⟩:=x;#[o,e _ ho,r]
def RawD.lt {d:Lv}{es:LY Oj}{a:Ll}{h:MD}(x:RawD d es a h):d<⇑h.objs:=let ⟨_,ho,_⟩:=x;LO ho
def RawD.type {d:Lv}{es:LY Oj}{a:Ll}{s:Lm}(x:RawD d es a s.heap):s.TypeIs (.ref d) "dict":=let ⟨o,ho,hc,_⟩:=x;#[o,ho,hc.1]
section
variable{prog:Mn}{w:MB}{A:Ms}{E:Lj->Lm->Prop}{s:Lm}{it d:Lv}{i ep:Ll}{es:LY Oj}
def qR {Q:Lj->Lm->Prop}(hd:(d==sysModules)=false)(c:RawD d es ep s.heap)
  (f:Q (.ref ⇑s.heap.objs) {s with heap:=s.heap.push {cls:=.type "dict_keyiterator",data:=.fields [.ref d,.int 0 0,.int ⇑es 0,.int ep 0].toArray}}):wpAny (model prog w) A (pyIter (.ref d)) Q E s:=by
 have b:=c.type;obtain⟨o,e,g,a⟩:=id c;show Rw b F.slot_dict_iter (MU F.slot_dict_iter b F.entry_dict_iter ?_ (F.args_dict_iter_1 _));unfold O3.«dict.__iter__» Vf;show Lg (Lg (wpAny_notOrdered_dict b ?_));change wpAny _ _ (pure (Mr d)) _ _ s;show Lo ?_;change wpAny _ _ (Sj d >>= _) _ _ s;unfold Sj;rw[L1 (by rw[hd];show L5)]
 show Lg (Lo (Lg (Qm e a (Lg (R6 e a ?_)))));show Lg (MC (Lo #[_,rfl,"dict_keyiterator",_,#[_,LI _ rfl,rfl],F.slot_dict_keyiterator_next.lookup,?_]))
 simpa [rawInt]using f
def qS {Q:Ln Lj->Lm->Prop}(hit:s.heap.IsKeyIter it d i ⇑es ep)(k:RawD d es ep s.heap)(hi:i<⇑es)
  (g:∀h',h'.IsKeyIter it d (i+1) ⇑es ep->NN it s.heap h'->Q (ba es[i].key) {s with heap:=h'}):wpAny (model prog w) A (pyNext (.ref it)) Q E s:=by
 obtain⟨o,f,h,hd⟩:=id hit;obtain⟨od,c,j,b⟩:=id k;unfold pyNext;show Lg (Pr (MP (name:=NO "__next__") hit.typeIs F.slot_dict_keyiterator_next
  (MU F.slot_dict_keyiterator_next hit.typeIs F.entry_dict_keyiterator_next ?_ (F.args_dict_keyiterator_next_1 _))))
 show Lg (Lo (Lg (Lg ?_)))
 first|refine Lg (Oe hit.typeIs (Lo ?_))|refine Lg (OX hit.typeIs (Lo ?_))
 show Lg (Re f hd ?_);have e:QK "dict_keyiterator" = false:=by decide
 simp only[e,L9,M8];change wpAny _ _ (if (Mr d==MG)=true then _ else _) _ _ s
 rw[L1 (show ¬ ((Mr d==MG)=true)from L5)]
 show Lg (Lo (Lg (Qm c b ?_)));rw[L1 (by simp)]
 show Lg (Lo (Lg (R6 c b ?_)));rw[L1 (by simp)]
 show Lo ?_;simp only[show ¬ ((i:LC)<0)from by omega,M8,LP,Mx hi]
 show Lg ?_
 first|refine Lg (Oe hit.typeIs (Lo ?_))|refine Lg (OX hit.typeIs (Lo ?_))
 show Lg (Sk hit.typeIs ?_);change wpAny _ _ (setField (.ref it) 1 (rawInt ((i:LC)+1)) >>= _) _ _ s;show Lg (Rh f hd (by simp) ?_)
 have a:(s.heap.update it (Vs (·.setIfInBounds 1 (rawInt ((i:LC)+1))))).IsKeyIter it d (i+1) ⇑es ep:=
  #[_,No _ f (Sl (Qa hd _)),(TX ..).trans h,by rw[Qa hd];simp[rawInt]]
 show Lg (MY ?_);show Lg (Sk (s:={s with heap:=s.heap.update it (Vs (·.setIfInBounds 1 (rawInt ((i:LC)+1))))}) a.typeIs ?_)
 change wpAny _ _ (pure es[i].key) _ _ _;show Lo (Lo #[_,rfl,Lo (g _ a (O4 ..))])
def u8 {Q:Ln Lj->Lm->Prop}(l:A.handled=gV)(hit:s.heap.IsKeyIter it d i ⇑es ep)(n:RawD d es ep s.heap)(g:⇑es<=i)
  (j:∀h',Sv it s.heap h'->Q gV {s with heap:=h'}):wpAny (model prog w) A (pyNext (.ref it)) Q E s:=by
 obtain⟨o,h,p,hd⟩:=id hit;obtain⟨od,e,k,c⟩:=id n;unfold pyNext;show Lg (Pr (MP (name:=NO "__next__") hit.typeIs F.slot_dict_keyiterator_next
  (MU F.slot_dict_keyiterator_next hit.typeIs F.entry_dict_keyiterator_next ?_ (F.args_dict_keyiterator_next_1 _))))
 show Lg (Lo (Lg (Lg ?_)))
 first|refine Lg (Oe hit.typeIs (Lo ?_))|refine Lg (OX hit.typeIs (Lo ?_))
 show Lg (Re h hd ?_);have f:QK "dict_keyiterator" = false:=by decide
 simp only[f,L9,M8];change wpAny _ _ (if (Mr d==MG)=true then _ else _) _ _ s
 rw[L1 (show ¬ ((Mr d==MG)=true)from L5)]
 show Lg (Lo (Lg (Qm e c ?_)));rw[L1 (by simp)]
 show Lg (Lo (Lg (R6 e c ?_)));rw[L1 (by simp)]
 show Lo ?_;simp only[show ¬ ((i:LC)<0)from by omega,M8,LP,Array.getElem?_eq_none g]
 show Lg ?_
 first|refine Lg (Oe hit.typeIs (Lo ?_))|refine Lg (OX hit.typeIs (Lo ?_))
 change wpAny _ _ (setField (.ref it) 0 .none >>= _) _ _ s;show Lg (Rh h hd (by simp) ?_)
 change wpAny _ _ (newExc (.type "StopIteration") [] >>= _) _ _ _;show Lg ?_;simp only[newExc,newTuple];show Lg (MC ?_ (by size_fits))
 show Lg (m:=firstArgMember _ _) (Qd (a:=MG) (by first|rfl|(simp only[firstArgMember];rfl)) ?_)
 show MC ?_ (by size_fits)
 simp only[raiseNew];show Lg (SV ?_);rw[show A.in1.handled=gV from l]
 show Lg (Lo (Uz ?_));show Lg (O8 (T:="StopIteration") (b:=true) #[_,LI _ rfl,rfl] Rc ?_);show Lo (j _ (((O4 ..).extBut.push _).push _))
def xp (l:A.handled=gV)(I d:Lv)(k:d≠I)(es:LY Oj)(ep:Ll) :
  UA prog w A I [I,d] [I] ⇑es (λi v=>∃e,es[i]?=ba e/\e.key=v) (λi h=>h.IsKeyIter I d i ⇑es ep/\RawD d es ep h) where
 sub:=λb a=>by simp at a;simp[a]
 frame:=λ_ _ _ st hk=>#[st.1.at λo e=>hk I (by simp) o e,st.2.at λo e=>hk d (by simp) o e]
 item:=λi s Q E hi st c=>
  qS st.1 st.2 hi λh' f g=>c _ h' s.toks #[es[i],by simp[hi],rfl] #[f,st.2.at λo e=>(g.2 d k).trans e] λb o a e=>g.extBut b o (λh=>a (by simp[h])) e
 done:=λs Q E st c=>u8 l st.1 st.2 (Ls _) λh' j=>c h' s.toks λb o a e=>j b o (λh=>a (by simp[h])) e
 self:=λ_ _ _ _ st c=>Sw st.1 c
def u9 (lo:(d==sysModules)=false):Sx prog w "dict" d d ⇑es (λi v=>∃e,es[i]?=ba e/\e.key=v) (RawD d es ep) where
 type:=λ_ a=>a.type
 there:=λ_ a=>#[a.lt,a.lt]
 keep:=λ_ _ a hk=>a.at λo e=>hk d (.inl rfl) o e
 notList:=by decide
 notTuple:=by decide
 hint:=λ_ _ _ _ a b=>PySem.W.kdl_hint_dict a.type b
 iter:=λ_ _ c a=>#[_,_,(λ_ _ b=>qR lo a b),xp c _ d (LX a.lt) es ep,#[#[_,LI _ rfl,rfl,rfl],a.at λo e=>Li _ e]]
def zo {T:Ng}{r d S:Lv}{n:Ll}{P:Ll->Lj->Prop}{g:MD->Prop}{R:Ud->Lm->Prop}(K:Sx prog w T r d n P g)(k:A.handled=gV)(f:g s.heap)(l:n<=sizeLine)(e:S≠r)(c:S≠d)
  (j:s.heap.get? S=ba {cls:=.type "list",data:=.seq #[] 0})
  (i:∀h' m a h,(∀b o,b≠S->s.heap.get? b=ba o->h'.get? b=ba o)->h'.get? S=ba {cls:=.type "list",dict:=gV,data:=.seq a h,slots:=#[]}->RT P a n->R (.ok (.ret (.ref S))) {s with heap:=h',toks:=m}) :
  codeAny (model prog w) A (.builtin "list.__iadd__" #[[.ref S,.ref r],[]]) R s:=by
 show M4 F.entry_list_iadd ?_;rw[MW F.plain_list_iadd _];change wpAny _ A.in1 (Nq (.ref S) (.ref r) (.ref S)) _ _ _;show PySem.W.kdl_extend K k f S e c _ 0 j i l
def qT {T:Ng}{r d:Lv}{n:Ll}{P:Ll->Lj->Prop}{k:MD->Prop}{Q:Lf Lj->Lm->Prop}(K:Sx prog w T r d n P k)(p:A.handled=gV)(i:k s.heap)(q:n<=sizeLine)
  (m:∀h' j a,(∀b o,s.heap.get? b=ba o->h'.get? b=ba o)->⇑s.heap.objs<=⇑h'.objs->RT P a n->Q a.toList {s with heap:=h',toks:=j}):wpAny (model prog w) A (collect (.ref r)) Q E s:=by
 unfold collect;show Lg (Qk (M4 F.entry_proto_collect ?_));rw[MW F.plain_proto_collect _];change wpAny _ A.in1 (newList [] >>= λl=>again (.builtin "list.__iadd__" #[[l,.ref r],[]])) _ _ s
 show Lg (MC ?_);have h:=K.there _ i;show Lo #[NY F.plain_list_iadd _,zo (s:={s with heap:=s.heap.push {cls:=.type "list",data:=.seq ([]:Lf Lj).toArray}}) K p (K.keep _ _ i λb _ o e=>Li _ e) q (Mk h.1) (Mk h.2) (LI _ rfl) λh' j c t hk f g=>?_]
 change wpAny (model prog w) A (do
   let o <- load ⇑s.heap.objs
   match o.data with
   |.seq xs _=>pure xs.toList
   |_=>unsupported "internal:collect") Q E {s with heap:=h',toks:=j}
 show Lg (RO f ?_);show Lo (m h' j c (λb o e=>hk b o (LX (LO e)) (Li _ e)) (Ni (LO f)) g)
end
mutual
def ik:T->T->Ln L7
 |.int a,.int b=>ba (decide (a<b))
 |.str a,.str b=>ba (decide (a.cps.toList<b.cps.toList))
 |.tup xs,.tup ys=>dv xs ys
 |_,_=>gV
def dv:Lf T->Lf T->Ln L7
 |[],[]=>ba false
 |[],_::_=>ba true
 |_::_,[]=>ba false
 |x::xs,y::ys=>if x=y then dv xs ys else ik x y
end
mutual
theorem IsT.kept {h h':MD}(hk:∀b o,o.cls=.type "tuple"->h.get? b=ba o->h'.get? b=ba o):∀{x:T}{v:Lj},IsT h x v->IsT h' x v
 |_,_,.int=>.int
 |_,_,.str=>.str
 |_,_,.tup a1 c1 d1 t1=>.tup (hk _ _ c1 a1) c1 d1 (IsTs.kept hk t1)
theorem IsTs.kept {h h':MD}(hk:∀b o,o.cls=.type "tuple"->h.get? b=ba o->h'.get? b=ba o):∀{x:Lf T}{v:Lf Lj},IsTs h x v->IsTs h' x v
 |_,_,.nil=>.nil
 |_,_,.cons a b=>.cons (IsT.kept hk a) (IsTs.kept hk b)
end
def HQ {B:Ms}{s:Lm}{d:Ll}(g:B.units+d<cLine)(hl:∀(x y:T) (u v:Lj) (k:L7),x.depth<=d->y.depth<=d->IsT s.heap x u->IsT s.heap y v->ik x y=ba k->LtAt B s u v k) :
  ∀(xs ys:Lf T) (us vs:Lf Lj) (k:L7),T.depths xs<=d->T.depths ys<=d->IsTs s.heap xs us->IsTs s.heap ys vs->dv xs ys=ba k->LexR B s us vs k
 |[],[],_,_,k,_,_,b,c,e=>by cases b;cases c;cases e;show .nn
 |[],y::ys,_,_,k,_,_,b,c,e=>by cases b;cases c;cases e;show .nc
 |x::xs,[],_,_,k,_,_,b,c,e=>by cases b;cases c;cases e;show .cn
 |x::xs,y::ys,_,_,k,i,j,b,c,e=>by
  simp only[T.depths]at i j;cases b with
  |cons h l=>
   cases c with
   |cons p2 m=>
    have f:=xm d x y _ _ B s ∅ h p2 g ∅
    dsimp only[dv]at e
    by_cases a:x=y
    ·rw[LU a]at e;rw[Nc a]at f;show .eq f (HQ g hl xs ys _ _ k ∅ ∅ l m e)
    ·rw[L1 a]at e;rw[Mt a]at f;show .ne f (hl x y _ _ k ∅ ∅ h p2 e)
def HR:∀(d:Ll) (x y:T) (u v:Lj) (B:Ms) (s:Lm) (k:L7),x.depth<=d->y.depth<=d->IsT s.heap x u->IsT s.heap y v->B.units+d<cLine->ik x y=ba k->LtAt B s u v k:=by
 intro d
 induction d with
 |zero=>
  intro x y u v B s k c g f a p e;cases f with
  |int=>cases a with
   |int=>cases e;show λprog w E Q h=>(SM h:wpAny (model prog w) B (compareOp .Lt _ _) Q E s)
   |_=>cases e
  |str=>cases a with
   |str=>cases e;show λprog w E Q h=>(lt_str h:wpAny (model prog w) B (compareOp .Lt _ _) Q E s)
   |_=>cases e
  |tup _ _ _ _=>simp[T.depth]at c
 |succ d ih=>
  intro x y u v B s k c g f a p e;cases f with
  |int=>cases a with
   |int=>cases e;show λprog w E Q h=>(SM h:wpAny (model prog w) B (compareOp .Lt _ _) Q E s)
   |_=>cases e
  |str=>cases a with
   |str=>cases e;show λprog w E Q h=>(lt_str h:wpAny (model prog w) B (compareOp .Lt _ _) Q E s)
   |_=>cases e
  |tup i l n C=>cases a with
   |tup j m o t2=>
    simp only[T.depth]at c g;have b:B.in1.units+d<cLine:=by rw[aO];omega
    show LtAt.tuples #[_,i,l,_,n] #[_,j,m,_,o] ∅ (HQ b (λx y u v k q r t z A=>ih x y u v B.in1 s k q r t z b A) _ _ _ _ k ∅ ∅ C t2 e)
   |_=>cases e
section
variable{prog:Mn}{w:MB}{A:Ms}{R:Ud->Lm->Prop}{I S:Lv}{fp wr:Lf Lv}{n:Ll}{P:Ll->Lj->Prop}{St:Ll->MD->Prop}{Ok:MD->Prop}{bt:Ll->Ll->L7}
abbrev zp (prog:Mn)(w:MB)(A:Ms)(P:Ll->Lj->Prop)(Ok:MD->Prop)(bt:Ll->Ll->L7):Prop:=
 ∀i j a b (s:Lm) (Q:Lj->Lm->Prop) (E:Lj->Lm->Prop),Ok s.heap->P i a->P j b->Q (.bool (bt i j)) s->wpAny (model prog w) A (richCompare .Lt a b) Q E s
def zq (W:UA prog w A.in1 I fp wr n P St)(E:zp prog w A.in1 P Ok bt)(C:S∉fp)(G:∀h h',Ok h->(∀b o,b∉wr->b≠S->h.get? b=ba o->h'.get? b=ba o)->Ok h') :
  ∀(k j:Ll) (s:Lm) (q:Lj) (c:Ll),n-(j+1)=k->j<n->St (j+1) s.heap->P (argBest bt j) q->Ok s.heap->s.heap.get? S=ba {cls:=.type "list",dict:=gV,data:=.seq [q,q].toArray c,slots:=#[]}->
  (∀v h' L,P (argBest bt (n-1)) v->(∀b o,b∉wr->b≠S->s.heap.get? b=ba o->h'.get? b=ba o)->R (.ok (.ret v)) {s with heap:=h',toks:=L})->
  codeAny (model prog w) A (.builtin "min.loop" #[[.ref I,.none,.ref S],[]]) R s:=by
 have D:S∉wr:=λh=>C (W.sub _ h)
 have l:(toString "min" ++ toString ".loop": Ng)="min.loop":=by decide
 intro k
 induction k with
 |zero=>
  intro j s q c hk U z p Q B H;have N:j+1=n:=∅
  show M4 F.entry_min_loop ?_;rw[MW F.plain_min_loop _];change wpAny _ A.in1 (seqItems? (.ref S) >>= _) _ _ s;show Lg (Nn B rfl ?_);change wpAny _ A.in1 (tryCatch (pyNext (.ref I)) _ >>= _) _ _ s;show Lg (Ri (W.done s _ _ (N▸z) λh' L f=>?_))
  have g:=f S _ D B;change wpAny _ A.in1 (updateSeq S (λ_=>#[]) >>= _) _ _ _
  show Lg (P3 g rfl (Lg (PD (Lo ?_))));have e:j=n-1:=∅
  show H q _ L (e▸p) λb o d a e=>(ME _ _ (Ne.symm a)).trans (f b o d e)
 |succ k ih=>
  intro j s q c hk U z p Q B H;have y:j+1<n:=∅
  show M4 F.entry_min_loop ?_;rw[MW F.plain_min_loop _];change wpAny _ A.in1 (seqItems? (.ref S) >>= _) _ _ s;show Lg (Nn B rfl ?_);change wpAny _ A.in1 (tryCatch (pyNext (.ref I)) _ >>= _) _ _ s;show Lg (Ri (W.item (j+1) s _ _ y z λv h' L T r f=>?_))
  have g:=f S _ D B;have u:Ok h':=G _ _ Q λb o J _ e=>f b o J e
  change wpAny _ A.in1 (tryCatch (holding [v,v] (richCompare .Lt v q >>= _)) _ >>= _) _ _ _;show Lg (Ri (MY (Lg (E (j+1) (argBest bt j) v q _ _ _ u T p ?_))));show Lg (MY (Oi ?_));show Lg (PD (Lo ?_));cases J:bt (j+1) (argBest bt j)with
  |true=>
   simp only[NC];show Lg (P3 g rfl (Lg (PD ?_)));rw[l];show Lo #[NY F.plain_min_loop _,ih (j+1) _ v _ ∅ y (W.frame _ _ _ r λb M o e=>?_) (by simp only[argBest,J,NC];show T) (G _ _ u λb o _ a e=>(ME _ _ (Ne.symm a)).trans e) (No _ g rfl)
    λO t m x i=>?_]
   ·show(ME _ _ (λh:S=b=>C (by rw[h];show M))).trans e
   ·show H O t m x λb o d a e=>i b o d a ((ME _ _ (Ne.symm a)).trans (f b o d e))
  |false=>
   simp only[L9,M8];show Lg (PD ?_);rw[l];show Lo #[NY F.plain_min_loop _,ih (j+1) _ q c ∅ y r (by simp only[argBest,J,L9,M8];show p) u g λO t m x i=>?_]
   show H O t m x λb o d a e=>i b o d a (f b o d e)
def xq (W:UA prog w A.in1 I fp wr n P St)(l:zp prog w A.in1 P Ok bt)(d:S∉fp)(i:∀h h',Ok h->(∀b o,b∉wr->b≠S->h.get? b=ba o->h'.get? b=ba o)->Ok h')(C:0<n){s:Lm}{c:Ll}(z:St 0 s.heap)(E:Ok s.heap)
  (B:s.heap.get? S=ba {cls:=.type "list",dict:=gV,data:=.seq #[] c,slots:=#[]})
  (H:∀v h' D,P (argBest bt (n-1)) v->(∀b o,b∉wr->b≠S->s.heap.get? b=ba o->h'.get? b=ba o)->R (.ok (.ret v)) {s with heap:=h',toks:=D}) :
  codeAny (model prog w) A (.builtin "min.loop" #[[.ref I,.none,.ref S],[]]) R s:=by
 have x:S∉wr:=λh=>d (W.sub _ h)
 have g:(toString "min" ++ toString ".loop": Ng)="min.loop":=by decide
 show M4 F.entry_min_loop ?_;rw[MW F.plain_min_loop _];change wpAny _ A.in1 (seqItems? (.ref S) >>= _) _ _ s;show Lg (Nn B rfl ?_);change wpAny _ A.in1 (tryCatch (pyNext (.ref I)) _ >>= _) _ _ s;show Lg (Ri (W.item 0 s _ _ C z λv h' D G p f=>?_))
 have j:=f S _ x B;change wpAny _ A.in1 (updateSeq S (λ_=>[v,v].toArray) >>= _) _ _ _
 show Lg (P3 j rfl ?_);rw[g];have t:Ok h':=i _ _ E λb o J _ e=>f b o J e
 show Lo #[NY F.plain_min_loop _,zq W l d i _ 0 _ v _ rfl C (W.frame _ _ _ p λb y o e=>?_) G (i _ _ t λb o _ a e=>(ME _ _ (Ne.symm a)).trans e) (No _ j rfl) λL r q u m=>?_]
 ·show(ME _ _ (λh:S=b=>d (by rw[h];show y))).trans e
 ·show H L r q u λb o k a e=>m b o k a ((ME _ _ (Ne.symm a)).trans (f b o k e))
end
section
variable{prog:Mn}{w:MB}{A:Ms}{E:Lj->Lm->Prop}{s:Lm}
def zr {l:Lv}{items:LY Lj}{bt:Ll->Ll->L7}{Q:Lj->Lm->Prop}(r:A.handled=gV)(hl:s.heap.IsList l items)(t:0<⇑items)
  (d:zp prog w A.in1 (λi v=>items[i]?=ba v) (λh=>∀b o,s.heap.get? b=ba o->h.get? b=ba o) bt)
  (p:∀v h' n,items[argBest bt (⇑items-1)]?=ba v->(∀b o,s.heap.get? b=ba o->h'.get? b=ba o)->Q v {s with heap:=h',toks:=n}) :
  wpAny (model prog w) A (call (.builtin "min") [.ref l]) Q E s:=by
 have c:(toString "min" ++ toString ".loop": Ng)="min.loop":=by decide
 show call_function_tree F.kind_min F.plain_min F.entry_min (F.args_min1 _) ?_;change wpAny _ A.in1 (QV "min" ["key","default"] 0 #[[],[]] >>= _) _ _ s;show Lg (Qd (show QV "min" ["key","default"] 0 #[[],[]]=pure [gV,gV]from rfl) ?_)
 show Lg (Lo ?_);show Lg (OQ hl ?_);show Lg (MC ?_);rw[c];have f:l<⇑s.heap.objs:=let ⟨_,g,_⟩:=hl;LO g
 have m:l≠⇑s.heap.objs:=LX f;have W:=Tn (prog:=prog) (w:=w) (A:=A.in1) r ⇑s.heap.objs l m items;have hsz:∀o:Nr,(s.heap.push o).objs.size=⇑s.heap.objs+1:=λo=>by simp[WB]
 show Lo #[NY F.plain_min_loop _,xq (A:=A) (Ok:=λh=>∀b o,s.heap.get? b=ba o->h.get? b=ba o) W d (λk=>?_) (λh h' g hk b o e=>?_) t #[?_,?_] (λb o e=>Li _ (Li _ e)) (LI _ rfl) λv h' n u hk=>?_]
 ·rcases LQ.mp k with e|k
  ·show absurd (show(s.heap.push _).objs.size=⇑s.heap.objs from e) (by rw[hsz];show Nat.succ_ne_self _)
  ·have e:(s.heap.push _).objs.size=l:=LA.mp k;rw[hsz]at e;show absurd f (by rw[<- e];show RS.mpr (OP _))
 ·have a:=LO e;show hk b o (λz=>?_) (λz=>?_) (g b o e)
  ·rw[LA.mp z]at a;show M6 _ a
  ·have j:b=(s.heap.push _).objs.size:=z;rw[hsz]at j;rw[j]at a;show absurd a (RS.mpr (OP _))
 ·show#[_,Li _ (LI _ rfl),rfl,rfl]
 ·obtain⟨o,g,q⟩:=hl;show#[o,Li _ (Li _ g),q]
 ·show p v h' n u λb o e=>hk b o (λz=>?_) (λz=>?_) (Li _ (Li _ e))
  ·have a:=LO e;rw[LA.mp z]at a;show M6 _ a
  ·have a:=LO e;have j:b=(s.heap.push _).objs.size:=z;rw[hsz]at j;rw[j]at a;show absurd a (RS.mpr (OP _))
end
open PySem.W (KasT kas_sort kas_ask kas_cmp kas_item kas_asc kas_desc kas_tail3 kas_descPart kas_count kas_place kas_bin kas_rev)
abbrev bQ {α:Type}(lt:Ll->Ll->L7):KasT α->α
 |.ret a=>a
 |.ask i j k=>bQ lt (k (lt i j))
abbrev OkK {α:Type}(n:Ll)(P:α->Prop):KasT α->Prop
 |.ret a=>P a
 |.ask i j k=>i<n/\j<n/\∀b,OkK n P (k b)
def qU {α:Type}{n:Ll}{P:α->Prop}{lt:Ll->Ll->L7}:∀(t:KasT α),OkK n P t->P (bQ lt t)
 |.ret _,h=>h
 |.ask i j k,h=>qU (k (lt i j)) (h.2.2 _)
def pd {α:Type}{n:Ll}{P:α->Prop}{lt:Ll->Ll->L7}{t:KasT α}(h:OkK n P t):P (bQ lt t):=qU t h
def OkK.bind {α β:Type}{n:Ll}{P:α->Prop}{c:β->Prop}{f:α->KasT β}:∀{t:KasT α},OkK n P t->(∀a,P a->OkK n c (f a))->OkK n c (t.bind f)
 |.ret a,h,hf=>hf a h
 |.ask _ _ _,h,hf=>#[h.1,h.2.1,λb=>OkK.bind (h.2.2 b) hf]
def nH {α:Type}{n:Ll}{P:α->Prop}{lt:Ll->Ll->L7}{a:Ll->Ll->(L7->Lm->Prop)->Lm->Prop}{Q:α->Lm->Prop}{s:Lm}(b:∀i j,i<n->j<n->∀C:L7->Lm->Prop,C (lt i j) s->a i j C s) :
  ∀{t:KasT α},OkK n P t->Q (bQ lt t) s->t.kasWp a Q s
 |.ret _,_,h=>h
 |.ask i j k,h,c=>b i j h.1 h.2.1 _ (nH b (h.2.2 _) c)
abbrev Pm (n:Ll)(p:LY Ll):Prop:=p.toList.Perm (LR n)
def Pm.size {n:Ll}{p:LY Ll}(h:Pm n p):⇑p=n:=by rw[<- Lz,h.length_eq,L0]
def Pm.lt {n:Ll}{p:LY Ll}(h:Pm n p)(a:0<n)(i:Ll):p.getD i 0<n:=by
 by_cases hi:i<⇑p
 ·have e:p.getD i 0=p[i]:=by simp[NH,hi]
  rw[e];have:p[i]∈p.toList:=by simp
  show LG.mp (h.mem_iff.mp this)
 ·have e:p.getD i 0=0:=by simp[NH,hi]
  rw[e];show a
def Pm.rev {n:Ll}{p:LY Ll}(h:Pm n p)(i j:Ll):Pm n (kas_rev p i j):=(Rj.mp (mirror_perm p i j _)).trans h
def Pm.bub {n:Ll}{p:LY Ll}(h:Pm n p)(i j:Ll):Pm n (bubble p i j):=(Rj.mp (bubble_perm p i j)).trans h
section
variable{n:Ll}(hn:0<n)
include hn
def tJ {p:LY Ll}(h:Pm n p):∀(f m:Ll),OkK n (λ_=>UE) (kas_asc p f m)
 |0,_=>trivial
 |f+1,m=>#[h.lt hn _,h.lt hn _,λb=>by
  change OkK n _ (if b=true then _ else _)
  split
  ·trivial
  ·show tJ h f (m+1)]
def lf:∀(f:Ll) (p:LY Ll) (m q:Ll),Pm n p->OkK n (λr=>Pm n r.1) (kas_desc f p m q)
 |0,p,m,q,h=>h
 |f+1,p,m,q,h=>#[h.lt hn _,h.lt hn _,λb=>by
  change OkK n _ (if b=true then _ else _)
  split
  ·split
   ·show lf f _ _ _ (h.rev _ _)
   ·show lf f _ _ _ h
  ·show#[h.lt hn _,h.lt hn _,λc=>?_]
   change OkK n _ (if c=true then _ else _)
   split
   ·show h
   ·show lf f _ _ _ h]
def vc {p:LY Ll}(h:Pm n p)(m k:Ll):OkK n (λr=>Pm n r.2) (kas_tail3 m k p):=by
 unfold kas_tail3;show OkK.bind (tJ hn (h.rev 0 m) _ _) λa _=>h.rev 0 m
def kJ {p:LY Ll}(h:Pm n p)(m k:Ll):OkK n (λr=>Pm n r.2) (kas_descPart m k p):=by
 unfold kas_descPart;show OkK.bind (lf hn _ _ _ _ h) λr a=>?_
 split
 ·show vc hn (a.rev _ _) _ _
 ·show vc hn a _ _
def zt {p:LY Ll}(h:Pm n p)(k:Ll):OkK n (λr=>Pm n r.2) (kas_count k p):=by
 unfold kas_count;show OkK.bind (tJ hn h _ _) λm _=>?_
 split
 ·show h
 ·split
  ·show#[h.lt hn _,h.lt hn _,λc=>?_]
   change OkK n _ (if c=true then _ else _)
   split
   ·show h
   ·show kJ hn (h.rev _ _) _ _
  ·show kJ hn h _ _
def lM {p:LY Ll}(h:Pm n p)(k:Ll):∀(f l r:Ll),OkK n (λ_=>UE) (kas_place p k f l r)
 |0,_,_=>trivial
 |f+1,l,r=>by
  unfold kas_place;split
  ·trivial
  ·show#[h.lt hn _,h.lt hn _,λc=>?_]
   change OkK n _ (if c=true then _ else _)
   split
   ·show lM h k f _ _
   ·show lM h k f _ _
def zu:∀(f:Ll) (p:LY Ll) (k:Ll),Pm n p->OkK n (Pm n) (kas_bin f p k)
 |0,p,k,h=>h
 |f+1,p,k,h=>by
  unfold kas_bin;show OkK.bind (lM hn h k _ _ _) λl _=>zu f _ _ (h.bub _ _)
def lg:OkK n (Pm n) (kas_sort n):=by
 unfold kas_sort;show OkK.bind (zt hn (by unfold Pm;simp) _) λr a=>?_
 split
 ·show zu hn _ _ _ a
 ·show a
end
section
variable{prog:Mn}{w:MB}{A:Ms}{E:Lj->Lm->Prop}{s:Lm}{vs:Lf Lj}
abbrev dI (lt:Ll->Ll->L7){β:Type}(d:β)(vs:Lf β):Lf β:=if ↥vs<2 then vs else(bQ lt (kas_sort ↥vs)).toList.map λi=>vs.getD i d
def qV {lt:Ll->Ll->L7}{β:Type}{d:β}{vs:Lf β}:(dI lt d vs).length=↥vs:=by
 unfold dI;split
 ·rfl
 ·rw[Lh,Lz,(pd (lt:=lt) (lg (n:=↥vs) ∅)).size]
def nI {a:Lv}{n:Ll}{lt:Ll->Ll->L7}{κ:RH}{P:WA->Lm->Prop}(B:s.heap.get? a=ba (seqObj "list" vs.toArray n))(I:↥vs<64)
  (l:2<=↥vs->∀h',(∀b o,b≠a->s.heap.get? b=ba o->h'.get? b=ba o)->∀Q:RH->Lm->Prop,Q κ {s with heap:=h'}->wpAny (model prog w) A (keyKind' vs.toArray) Q (λ_ _=>Nb) {s with heap:=h'})
  (M:2<=↥vs->∀h',(∀b o,b≠a->s.heap.get? b=ba o->h'.get? b=ba o)->∀i j,i<↥vs->j<↥vs->∀Q:L7->Lm->Prop,Q (lt i j) {s with heap:=h'}->
   wpAny (model prog w) A (keyLt' κ (vs.getD i MG) (vs.getD j MG)) Q (λ_ _=>Nb) {s with heap:=h'})
  (h:∀h' c,(∀b o,b≠a->s.heap.get? b=ba o->h'.get? b=ba o)->h'.get? a=ba (seqObj "list" (dI lt MG vs).toArray c)->P (.done (.ret .none)) {s with heap:=h'}) :
  wpAny (model prog w) A (O3.«list.sort» #[[.ref a],[]]) P E s:=by
 have Y:a<⇑s.heap.objs:=LO B;obtain⟨H,v⟩:∃H,(s.heap.update a (Nj λ_=>(#[]:LY Lj))).get? a=ba (seqObj "list" #[] H):=#[_,R7 B λ_=>#[]]
 have keep:∀b o,b≠a->s.heap.get? b=ba o->(((s.heap.update a (Nj λ_=>(#[]:LY Lj))).push (seqObj "tuple" vs.toArray 0)).push (seqObj "list" #[] 0)).get? b=ba o:=λb o z e=>
  Li _ (Li _ ((PV _ _ _ _ z).trans e))
 have d:(((s.heap.update a (Nj λ_=>(#[]:LY Lj))).push (seqObj "tuple" vs.toArray 0)).push (seqObj "list" #[] 0)).get? a=ba (seqObj "list" #[] H):=Li _ (Li _ v)
 have r:∀(out:Lf Lj),↥out=↥vs->out=dI lt MG vs->P (.done (.ret .none)) {s with heap:=(((s.heap.update a (Nj λ_=>(#[]:LY Lj))).push (seqObj "tuple" vs.toArray 0)).push (seqObj "list" #[] 0)).update a (Nj λ_=>out.toArray)}:=λout hl e=>by
  obtain⟨D,L⟩:∃D,((((s.heap.update a (Nj λ_=>(#[]:LY Lj))).push (seqObj "tuple" vs.toArray 0)).push (seqObj "list" #[] 0)).update a (Nj λ_=>out.toArray)).get? a=ba (seqObj "list" out.toArray D):=#[_,R7 d λ_=>out.toArray]
  show h _ D (λb o z q=>(PV _ _ _ _ z).trans (keep b o z q)) (e▸L)
 rw[list_sort_plain];show Lg (TY B rfl ?_);show Lg (RC B rfl ?_ (by rw[LM,MF];omega) (MS _))
 show Lg (UD v rfl ?_);show Lg (Rf ?_ (by change ↥vs<=_;rw[MF];omega))
 show Lg (RD ?_ (MS _));show MY ?_;change wpAny (model prog w) A _ P E {s with heap:=((s.heap.update a (Nj λ_=>(#[]:LY Lj))).push (seqObj "tuple" vs.toArray 0)).push (seqObj "list" #[] 0)}
 dsimp only
 by_cases t:↥vs<2
 ·rw[LU (by rw[LM];show t),LU (by rw[LM];show t)]
  show Lg (Lo (Lg ?_));rw[StateT.run_pure];show Lo ?_;dsimp only;show Lg (UD d rfl ?_);have hs:((arrOf (SortSt.mk' general' (vs.toArray.zip vs.toArray) #[] 7 gV)).map (·.2))=vs.toArray:=by
   show(vs.toArray.zip vs.toArray).map (·.2)=vs.toArray
   apply Array.toList_inj.mp;rw[RI,Array.toList_zip];show List.map_snd_zip (Ls _)
  rw[hs];show Lg (RC d rfl ?_ (MS _) (by rw[LM,MF];omega))
  simp only[TZ,L9,M8];show Lo (r vs rfl (by unfold dI;rw[LU t]))
 ·have u:¬ ⇑vs.toArray<2:=by rw[LM];show t
  have g:2<=↥vs:=∅
  rw[L1 u,L1 u];show Lg (NR (l g _ keep (λ(k:RH) (m:Lm)=>k=κ/\m={s with heap:=((s.heap.update a (Nj λ_=>(#[]:LY Lj))).push (seqObj "tuple" vs.toArray 0)).push (seqObj "list" #[] 0)}) #[rfl,rfl]) ?_ λ_ _ x=>x.elim)
  rintro _ _ ⟨rfl,rfl⟩;show Lg (NR (PySem.W.kat_run (Q:=λf m=>∃p:LY Ll,⇑p=↥vs/\arrOf f=p.map (kas_item (vs.toArray.zip vs.toArray))/\failedOf f=gV/\p=bQ lt (kas_sort ↥vs)/\m={s with heap:=((s.heap.update a (Nj λ_=>(#[]:LY Lj))).push (seqObj "tuple" vs.toArray 0)).push (seqObj "list" #[] 0)})
   (G:=λp m=>p=bQ lt (kas_sort ↥vs)/\m={s with heap:=((s.heap.update a (Nj λ_=>(#[]:LY Lj))).push (seqObj "tuple" vs.toArray 0)).push (seqObj "list" #[] 0)}) rfl g I (λX f m N O R S=>#[X,N,O,R,S])
   (nH (lt:=lt) (λi j hi V C U=>M g _ keep i j hi V C U) (lg (n:=↥vs) ∅) #[rfl,rfl])) ?_ λ_ _ e=>e)
  rintro⟨⟨⟩,f⟩ m ⟨p,W,J,hf,T,rfl⟩;dsimp only;have y:=PySem.W.kat_snds rfl J;have hsz:(p.toList.map λi=>vs.getD i MG).length=↥vs:=by rw[Lh,Lz,W]
  rw[y];show Lg (UD d rfl ?_);show Lg (RC d rfl ?_ (MS _) (by rw[LM,hsz,MF];omega))
  rw[hf];simp only[TZ,L9,M8];show Lo (r _ hsz (by unfold dI;rw[L1 t,T]))
def xr {x:Lj}{lt:Ll->Ll->L7}{κ:RH}{Q:Lj->Lm->Prop}(r:↥vs<64)
  (l:∀y:Lf Lj->Lm->Prop,(∀h' d,(∀b o,s.heap.get? b=ba o->h'.get? b=ba o)->⇑s.heap.objs<=⇑h'.objs->y vs {s with heap:=h',toks:=d})->wpAny (model prog w) A.in1 (collect x) y E s)
  (f:2<=↥vs->∀h' d,(∀b o,s.heap.get? b=ba o->h'.get? b=ba o)->∀Q:RH->Lm->Prop,Q κ {s with heap:=h',toks:=d}->wpAny (model prog w) A.in1.in1 (keyKind' vs.toArray) Q (λ_ _=>Nb) {s with heap:=h',toks:=d})
  (u:2<=↥vs->∀h' d,(∀b o,s.heap.get? b=ba o->h'.get? b=ba o)->∀i j,i<↥vs->j<↥vs->∀Q:L7->Lm->Prop,Q (lt i j) {s with heap:=h',toks:=d}->
   wpAny (model prog w) A.in1.in1 (keyLt' κ (vs.getD i MG) (vs.getD j MG)) Q (λ_ _=>Nb) {s with heap:=h',toks:=d})
  (h:∀D h' d c,(∀b o,s.heap.get? b=ba o->h'.get? b=ba o)->⇑s.heap.objs<=D->h'.get? D=ba (seqObj "list" (dI lt MG vs).toArray c)->Q (.ref D) {s with heap:=h',toks:=d}) :
  wpAny (model prog w) A (call (.builtin "sorted") [x]) Q E s:=by
 show PQ V4 VM VN (VO _) ?_;unfold O3.«sorted»;show Lg (m:=checkCount "sorted" 1 1 _) (Lo ?_);show Lg (l _ λk a t n=>?_)
 show Lg (RD ?_ (by rw[MF];omega))
 have p:(k.push (seqObj "list" vs.toArray 0)).get? ⇑k.objs=ba (seqObj "list" vs.toArray 0):=LI _ rfl;have kp:∀b o,s.heap.get? b=ba o->(k.push (seqObj "list" vs.toArray 0)).get? b=ba o:=λb o e=>Li _ (t b o e)
 have g:∀b o,s.heap.get? b=ba o->b≠⇑k.objs:=λb o e=>LX (LZ (LO e) n)
 change wpAny _ _ _ _ _ {s with heap:=k.push (seqObj "list" vs.toArray 0),toks:=a}
 show Lg (MY (MU U8 #[_,p,rfl] UM ?_ (U9 _)));show nI (s:={s with heap:=k.push (seqObj "list" vs.toArray 0),toks:=a}) (lt:=lt) (κ:=κ) p r (λq h' hk Q v=>f q h' a (λb o e=>hk b o (g b o e) (kp b o e)) Q v)
  (λq h' hk i j hi B Q v=>u q h' a (λb o e=>hk b o (g b o e) (kp b o e)) i j hi B Q v) λh' c hk z=>?_
 show#[_,rfl,Lo #[_,rfl,h _ h' a c (λb o e=>hk b o (g b o e) (kp b o e)) n z]]
end
end Mi
namespace Mi
open PySem PySem.Spec PyProof.Rows L2
abbrev gD:T->Ng
 |.int _=>"int"|.str _=>"str"|.tup _=>"tuple"
abbrev bw:T->Ln T
 |.tup (x::_)=>ba x
 |_=>gV
abbrev tK (ks:Lf T):Ln Ll:=
 if ks.all (λk=>gD k == "int")then ba 0
 else if ks.all (λk=>gD k == "str")then ba 1
 else if ks.all (λk=>(bw k).any λf=>gD f == "int")then ba 2
 else if ks.all (λk=>(bw k).any λf=>gD f == "str")then ba 3
 else if ks.all (λk=>(bw k).any λf=>gD f == "tuple")then ba 4
 else gV
abbrev vd:Ll->RH
 |0=>oneType'|1=>oneType'|2=>tuples' true|3=>tuples' true|_=>tuples' false
abbrev ft (ks:Lf T):L7:=ks.all λx=>ks.all λy=>(ik x y).isSome
abbrev mQ (ks:Lf T)(i j:Ll):L7:=(ik (ks.getD i (.int 0)) (ks.getD j (.int 0))).getD false
def dP {ks:Lf T}(h:ft ks=true){i j:Ll}(hi:i<↥ks)(c:j<↥ks):ik (ks[i]) (ks[j])=ba (mQ ks i j):=by
 unfold ft at h;rw[LN]at h;have a:=h ks[i] (Mp hi);rw[LN]at a;have d:=a ks[j] (Mp c);unfold mQ;rw[show ks.getD i (.int 0)=ks[i] by simp[hi],show ks.getD j (.int 0)=ks[j] by simp[c]]
 obtain⟨b,e⟩:=MM.mp d;rw[e];rfl
abbrev KR (c:Ll)(x y:T):Prop:=match c with|0=>gD x="int"/\gD y="int"|1=>gD x="str"/\gD y="str"|2=>∃f g,bw x=ba f/\bw y=ba g/\gD f="int"/\gD g="int"|3=>∃f g,bw x=ba f/\bw y=ba g/\gD f="str"/\gD g="str"|_=>∃f g,bw x=ba f/\bw y=ba g
section
variable{prog:Mn}{w:MB}{A:Ms}{E:Lj->Lm->Prop}{s:Lm}
def ve {h:MD}{k:T}{v:Lj}(x:IsT h k v):Vt (model prog w) h (typeOf v) (.type (gD k)):=by
 cases x with
 |int=>show .now
 |str=>show .now
 |tup a c d t=>show c▸((WC a).andThen .now:Vt (model prog w) h (typeOf (.ref _)) _)
def IsTs.mem {h:MD}:∀{ks:Lf T}{vs:Lf Lj},IsTs h ks vs->∀v∈vs,∃k∈ks,IsT h k v
 |_,_,.cons a b,v,c=>by
  rcases LQ.mp c with rfl|c
  ·show#[_,.head _,a]
  ·obtain⟨k,hk,q⟩:=IsTs.mem b v c;show#[k,.tail _ hk,q]
def nJ {h:MD}{p:T->L7}:∀{ks:Lf T}{vs:Lf Lj},IsTs h ks vs->ks.all (λk=>(bw k).any p)=true->∃d,PySem.W.KatTups h vs d/\↥d=↥vs/\∀v∈d,∃k,p k=true/\IsT h k v
 |_,_,.nil,_=>#[[],.nil,rfl,λv e=>nomatch e]
 |k::ks,_,.cons a b,c=>by
  rw[MT,Lp]at c;obtain⟨d,l,m,q⟩:=nJ b c.2;cases a with
  |int=>simp[bw]at c
  |str=>simp[bw]at c
  |@tup s w o items n g i j f=>
   cases s with
   |nil=>simp[bw]at c
   |cons x xs=>
    have r:p x=true:=by simpa [bw]using c.1
    generalize hit:items.toList=its at f;cases f with
    |@cons _ u _ us t y=>
     show#[u::d,.cons g i j (by rw[<- MX,hit];rfl) l,by simp[m],λv e=>?_]
     rcases LQ.mp e with rfl|e
     ·show#[x,r,t]
     ·show q v e
def zv {ks:Lf T}{vs:Lf Lj}{c:Ll}{Q:RH->Lm->Prop}(h:IsTs s.heap ks vs)(j:2<=↥vs)(a:tK ks=ba c)(d:Q (vd c) s):wpAny (model prog w) A (keyKind' vs.toArray) Q E s:=by
 have one:∀ty:Ng,(NF ty != NF "tuple")=true->ks.all (λk=>gD k==ty)=true->Q oneType' s->wpAny (model prog w) A (keyKind' vs.toArray) Q E s:=λty e b d=>
  PySem.W.kas_kind (T:=.type ty) j (λv g=>by
   obtain⟨k,hk,x⟩:=h.mem v g;have:=eq_of_beq (LN.mp b k hk);show this▸ve x) e (by simp) d
 have tup:∀ty:Ng,ks.all (λk=>(bw k).any λf=>gD f==ty)=true->Q (tuples' (NF ty != NF "tuple")) s->wpAny (model prog w) A (keyKind' vs.toArray) Q E s:=λty b d=>by
  obtain⟨m,i,n,l⟩:=nJ h b;show PySem.W.kat_kind (T:=.type ty) i ∅ (λv g=>by
   obtain⟨k,hk,x⟩:=l v g;have:=eq_of_beq hk;show this▸ve x) (by simp) d
 unfold tK at a;split at a
 ·cases a;show one "int" #v[] ‹_› d
 ·split at a
  ·cases a;show one "str" #v[] ‹_› d
  ·split at a
   ·cases a;show tup "int" ‹_› d
   ·split at a
    ·cases a;show tup "str" ‹_› d
    ·split at a
     ·cases a;show tup "tuple" ‹_› d
     ·cases a
def qW {b:L7}{Q:L7->Lm->Prop}{d:Ll}(n:A.units+d<cLine):∀(xs ys:Lf T) (us vs:Lf Lj) (i:Ll) (k:L7),T.depths xs<=d->T.depths ys<=d->IsTs s.heap xs us->IsTs s.heap ys vs->dv xs ys=ba k->
  (b=true->i=0->∀x y,xs.head?=ba x->ys.head?=ba y->(gD x="int"/\gD y="int")\/(gD x="str"/\gD y="str"))->Q k s->PySem.W.KatLex prog w A b (decide (↥us<↥vs)) Q (us.zip vs) i s
 |[],[],_,_,i,k,_,_,f,g,e,l,a=>by cases f;cases g;cases e;show R8 (by simpa using a)
 |[],y::ys,_,_,i,k,_,_,f,g,e,l,a=>by cases f;cases g;cases e;show R8 (by simpa using a)
 |x::xs,[],_,_,i,k,_,_,f,g,e,l,a=>by cases f;cases g;cases e;show R8 (by simpa using a)
 |x::xs,y::ys,_,_,i,k,q,r,f,g,e,l,a=>by
  simp only[T.depths]at q r;cases f with
  |@cons _ u _ us m B=>
   cases g with
   |@cons _ v _ vs p2 C=>
    have t:=xm d x y _ _ A s ∅ m p2 n ∅
    rw[OB];show PySem.W.kat_cons (t prog w _ _ ?_);simp only[dv]at e;have j:decide ((u::us).length<(v::vs).length)=decide (↥us<↥vs):=by simp
    rw[j]
    by_cases c:x=y
    ·rw[LU c]at e;rw[Nc c];show PySem.W.kat_yes (qW n xs ys us vs (i+1) k ∅ ∅ B C e (λ_ z=>absurd z (Uj _)) a)
    ·rw[L1 c]at e;rw[Mt c];show PySem.W.kat_no ?_
     by_cases h:b=true/\i=0
     ·obtain⟨rfl,rfl⟩:=h;rcases l rfl rfl x y rfl rfl with⟨o,p⟩|⟨o,p⟩
      ·cases m with
       |int=>cases p2 with
        |int=>cases e;show oneLt_int a
        |_=>show absurd p (by simp[gD])
       |_=>show absurd o (by simp[gD])
      ·cases m with
       |str=>cases p2 with
        |str=>cases e;show oneLt_str a
        |_=>show absurd p (by simp[gD])
       |_=>show absurd o (by simp[gD])
     ·have hf:(b&&i==0)=false:=by
       cases b with
       |false=>rfl
       |true=>
        have:i≠0:=λz=>h #[rfl,z]
        simpa using this
      rw[hf];show PySem.W.kat_one _ _ ((HR d x y _ _ A s k ∅ ∅ m p2 n e) prog w _ _ a)
def vf {c d:Ll}{x y:T}{u v:Lj}{k:L7}{Q:L7->Lm->Prop}(V:A.units+d<cLine)(N:x.depth<=d)(O:y.depth<=d)(m:IsT s.heap x u)(r:IsT s.heap y v)(e:ik x y=ba k)
  (U:KR c x y)
  (G:Q k s):wpAny (model prog w) A (keyLt' (vd c) u v) Q E s:=by
 have tup:∀b:L7,(∃f g,bw x=ba f/\bw y=ba g/\(b=true->(gD f="int"/\gD g="int")\/(gD f="str"/\gD g="str")))->wpAny (model prog w) A (keyLt' (tuples' b) u v) Q E s:=by
  rintro b ⟨f,g,hf,D,S⟩;cases m with
  |int=>cases hf
  |str=>cases hf
  |@tup xs a o items n L Y P W=>
   cases r with
   |int=>cases D
   |str=>cases D
   |@tup ys X o' j n' M Z R t2=>
    simp only[T.depth]at N O;show PySem.W.kat_lt L P M R ?_;have:=qW (prog:=prog) (w:=w) (b:=b) (Q:=Q) V xs ys items.toList j.toList 0 k ∅ ∅ W t2 e (λC _ p q J l=>by
     cases xs with
     |nil=>cases J
     |cons x0 xs=>cases ys with
      |nil=>cases l
      |cons y0 ys=>cases J;cases l;cases hf;cases D;show S C) G
    simpa using this
 match c,U with
 |0,#[H,I]=>
  cases m with
  |int=>cases r with
   |int=>cases e;show PySem.W.kat_lt_int G
   |_=>show absurd I (by simp[gD])
  |_=>show absurd H (by simp[gD])
 |1,#[H,I]=>
  cases m with
  |str=>cases r with
   |str=>cases e;show PySem.W.kas_lt_str G
   |_=>show absurd I (by simp[gD])
  |_=>show absurd H (by simp[gD])
 |2,#[f,g,h,i,t,B]=>show tup true #[f,g,h,i,λ_=>.inl #[t,B]]
 |3,#[f,g,h,i,t,B]=>show tup true #[f,g,h,i,λ_=>.inr #[t,B]]
 |n+4,#[f,g,h,i]=>show tup false #[f,g,h,i,λz=>nomatch z]
end
def vg {ks:Lf T}{c:Ll}(h:tK ks=ba c){x y:T}(l:x∈ks)(m:y∈ks) :
  KR c x y:=by
 have one:∀{ty:Ng},ks.all (λk=>gD k==ty)=true->gD x=ty/\gD y=ty:=λe=>#[eq_of_beq (LN.mp e x l),eq_of_beq (LN.mp e y m)]
 have a:∀{ty:Ng},ks.all (λk=>(bw k).any λf=>gD f==ty)=true->∃f g,bw x=ba f/\bw y=ba g/\gD f=ty/\gD g=ty:=λ{ty} e=>by
  have b:=LN.mp e x l;have d:=LN.mp e y m;cases i:bw x with
  |none=>rw[i]at b;cases b
  |some f=>
   cases j:bw y with
   |none=>rw[j]at d;cases d
   |some g=>
    rw[i]at b;rw[j]at d
    show#[f,g,rfl,rfl,eq_of_beq (by simpa using b),eq_of_beq (by simpa using d)]
 unfold tK at h;split at h
 ·cases h;show one ‹_›
 ·split at h
  ·cases h;show one ‹_›
  ·split at h
   ·cases h;show a ‹_›
   ·split at h
    ·cases h;show a ‹_›
    ·split at h
     ·cases h;obtain⟨f,g,b,d,_⟩:=a ‹_›;show#[f,g,b,d]
     ·cases h
abbrev dQ (S:aa):W->Ln (Lf W)
 |.tup xs=>ba xs
 |.ref i=>match gJ S i with
  |some xs=>ba xs
  |none=>(kI S i).map λU=>U.map λp=>p.1.w
 |_=>gV
abbrev cp:Ll:=8
abbrev iZ (ks:Lf T):L7:=decide (↥ks<64)&&decide (T.depths ks<=cp)&&(decide (↥ks<2)||((tK ks).isSome&&ft ks))
abbrev gl (xs:Lf W)(S:aa):Ln (W×aa):=match xs with
 |[x]=>match dQ S x with
  |some ws=>match W.ts ws with
   |some ks=>if iZ ks then ba (.ref ↥S,S++[.lst (dI (mQ ks) .non ws)])else gV
   |none=>gV
  |none=>gV
 |_=>gV
abbrev nK (xs:Lf W)(S:aa):Ln (W×aa):=match xs with
 |[.ref i]=>match kI S i with
  |some U=>ba (.ref ↥S,S++[.lst (U.map λp=>p.1.w)])
  |none=>jl [.ref i] S
 |xs=>jl xs S
abbrev tL (xs:Lf W)(S:aa):Ln (W×aa):=match xs with
 |[.ref i]=>match kI S i with
  |some U=>ba (.int ↥U,S)
  |none=>tj [.ref i] S
 |xs=>tj xs S
abbrev i4 (ks:Lf T):Ll:=argBest (mQ ks) (↥ks-1)
abbrev zw (xs:Lf W)(S:aa):Ln (W×aa):=match xs with
 |[.ref i]=>match gJ S i with
  |some ws=>match W.ts ws with
   |some ks=>if T.depths ks<=cp/\ft ks=true then(ws[i4 ks]?).map λw=>(w,S)else gV
   |none=>gV
  |none=>gV
 |_=>gV
abbrev i5:Lf W->Ln (Lf L7)
 |[]=>ba []
 |.bl b::ws=>(i5 ws).map (b :: ·)
 |_::_=>gV
abbrev CS (xs:Lf W)(S:aa):Ln (W×aa):=match xs with
 |[.ref i]=>match gJ S i with
  |some ws=>(i5 ws).map λbs=>(.bl (bs.all id),S)
  |none=>gV
 |_=>gV
section
variable{X:Cx}{J:Lf (Lv×Nr)}{Y:L2.St}{H:Hp}{s:Lm}{A:Lf Lv}{S:aa}
def RelL.pick {K:LF}{ws:Lf W}{vs:Lf V}(r:RelL K A H ws vs)(d:W)(d':V):∀(is:Lf Ll),(∀i∈is,i<↥ws)->RelL K A H (is.map λi=>ws.getD i d) (is.map λi=>vs.getD i d')
 |[],_=>.nil
 |i::is,h=>by
  have hi:=h i (.head _);obtain⟨v,c,e⟩:=r.get (Lq hi);show .cons ?_ (RelL.pick r d d' is λj f=>h j (.tail _ f))
  have a:ws.getD i d=ws[i]:=by simp[hi]
  have b:vs.getD i d'=v:=by simp[c]
  change Rel K A H (ws.getD i d) (vs.getD i d');rw[a,b];show e
def Vals.pick {vs:Lf V}{us:Lf Lj}(r:Vals vs us)(d:V)(d':Lj):∀(is:Lf Ll),(∀i∈is,i<↥vs)->Vals (is.map λi=>vs.getD i d) (is.map λi=>us.getD i d')
 |[],_=>.nil
 |i::is,h=>by
  have hi:=h i (.head _);obtain⟨v,c,e⟩:=L2.Vals.get r (Lq hi);show .cons ?_ (Vals.pick r d d' is λj f=>h j (.tail _ f))
  have a:vs.getD i d=vs[i]:=by simp[hi]
  have b:us.getD i d'=v:=by simp[c]
  change L2.RelV (vs.getD i d) (us.getD i d');rw[a,b];show e
def lh {n:Ll}{lt:Ll->Ll->L7}(a:0<n):∀i∈(bQ lt (Pd n)).toList,i<n:=λi hi=>LG.mp ((pd (lt:=lt) (lg a)).mem_iff.mp hi)
def zx {K:LF}{lt:Ll->Ll->L7}{ws:Lf W}{vs:Lf V}(r:RelL K A H ws vs):RelL K A H (dI lt .non ws) (dI lt .non vs):=by
 unfold dI;rw[↥r];split
 ·show r
 ·show r.pick _ _ _ λi hi=>by rw[↥r];show lh ∅ i hi
def xt {lt:Ll->Ll->L7}{vs:Lf V}{us:Lf Lj}(r:Vals vs us):Vals (dI lt .non vs) (dI lt .none us):=by
 unfold dI;rw[L2.Vals.length r];split
 ·show r
 ·show Vals.pick r _ _ _ λi hi=>by rw[L2.Vals.length r];show lh ∅ i hi
def qX {prog:Mn}{w:MB}{B:Ms}{E:Lj->Lm->Prop}{l:Lv}{vs:Lf Lj}{Q:Lf Lj->Lm->Prop}(hl:Tx s.heap l vs.toArray)(hsz:↥vs<=sizeLine)
  (h:∀h' g,(∀b o,s.heap.get? b=ba o->h'.get? b=ba o)->⇑s.heap.objs<=⇑h'.objs->Q vs {s with heap:=h',toks:=g}):wpAny (model prog w) B (collect (.ref l)) Q E s:=by
 obtain⟨o,d,c,n,hd⟩:=id hl;unfold collect;show Lg (Qk (M4 entry_proto_collect' ?_));change wpAny _ _ (do again (.builtin "list.__iadd__" #[[<- newList [],.ref l],[]])) _ _ s
 show Lg (RD (Lo #[Tl _ (by decide +kernel),M4 entry_list_iadd' ?_]))
 change wpAny _ _ (Nq (.ref ⇑s.heap.objs) (.ref l) (.ref ⇑s.heap.objs)) _ _ {s with heap:=s.heap.push (seqObj "list" #[] 0)}
 unfold Nq;have a:(s.heap.push (seqObj "list" #[] 0)).get? l=ba o:=Li _ d;show Lg (Ph (T:="tuple") #[o,a,c] ?_);have f:(NF "tuple" == NF "tuple")=true:=by rfl
 rw[LU (by rw[f];simp)]
 show Lg (TY a hd ?_);show Lg (TY (xs:=#[]) (n:=0) (LI _ rfl) rfl ?_);rw[L1 (by simp)]
 show Lg (RC (xs:=#[]) (n:=0) (LI _ rfl) rfl ?_ (MS _) (by show(#[]++vs.toArray).size<=sizeLine+1;simp only[Array.size_append,LM,N8];omega))
 show Lo ?_;change wpAny (model prog w) B (do
   let o <- load ⇑s.heap.objs
   match o.data with
   |.seq xs _=>pure xs.toList
   |_=>unsupported "internal:collect") Q E {s with heap:=(s.heap.push (seqObj "list" #[] 0)).update ⇑s.heap.objs (Nj (· ++ vs.toArray))}
 show Lg (RO (R7 (LI _ rfl) _) ?_);change wpAny _ _ (pure ((#[]:LY Lj)++vs.toArray).toList) Q E _;rw[show((#[]:LY Lj)++vs.toArray).toList=vs by simp]
 show Lo (h _ s.toks (λb o' e=>(PV _ _ _ _ (LX (LO e))).trans (Li _ e)) ?_)
 rw[Um,size_push'];show OP _
def DicAt.raw {wd:MB}{a:Lv}{xs:Lf (T×Lv×Lj)}{h:MD}(d:DicAt wd a xs h):∃es b,RawD a es b h/\es.toList=xs.map (yR wd):=
 let ⟨_,_,_,o,es,b,h1,h2,h3,h4⟩:=d;#[es,b,#[o,h1,h2,h3],h4]
def KRel.keysL {U:Lf (T×W)}{xs:Lf (T×Lv×Lj)}(r:KRel X.K A H U xs):RelL X.K A H (U.map λp=>p.1.w) (xs.map λq=>V.ref q.2.1):=by
 unfold KRel at r
 induction r with
 |nil=>show .nil
 |cons h t ih=>show .cons h.2.2.2.1 ih
def nL (xs:Lf (T×Lv×Lj)):Vals (xs.map λq=>V.ref q.2.1) (xs.map λq=>Mr q.2.1):=by
 induction xs with
 |nil=>show .nil
 |cons x xs ih=>show .cons rfl ih
def lN {wd:MB}{es:LY Oj}{xs:Lf (T×Lv×Lj)}(g:es.toList=xs.map (yR wd)){a:LY Lj}(f:RT (λi v=>∃e,es[i]?=ba e/\e.key=v) a ⇑es):a.toList=xs.map λq=>Mr q.2.1:=by
 have hl:⇑es=↥xs:=by rw[<- Lz,g,Lh]
 apply NV
 ·rw[Lz,f.1,Lh,hl]
 ·intro i c d;rw[Lz]at c;obtain⟨e,b,h⟩:=f.2 i a[i] (by simp[c])
  rw[<- MX,g,Lu]at b;rw[Lh]at d;rw[Lq d]at b;simp only[MA,Mh]at b;subst b;rw[Qv,QA];show h.symm
def xu {x:W}{a:V}{u:Lj}{ws:Lf W}(N:X.A.handled=gV)(I:Inv X J Y H s)(v:StoreOk X.w X.K A H S)(L:Rel X.K A H x a)(n:RelV a u)(e:dQ S x=ba ws):∃vs us,RelL X.K A H ws vs/\Vals vs us/\↥us<=sizeLine/\
  ∀(B:Ms) (i:B.handled=gV) (E:Lj->Lm->Prop) (g:Lf Lj->Lm->Prop),(∀h' q,(∀b o,s.heap.get? b=ba o->h'.get? b=ba o)->⇑s.heap.objs<=⇑h'.objs->g us {s with heap:=h',toks:=q})->wpAny (model X.prog X.w) B (collect u) g E s:=by
 cases L with
 |tup j m=>
  cases e;obtain⟨c,f,z,hz⟩:=I.tuple j;obtain rfl:u=Mr _:=n;show#[_,c,m,f,by rw[<- L2.Vals.length f];show hz,λB i E g h=>qX z (by rw[<- L2.Vals.length f];show hz) h]
 |ref r=>
  dsimp only[dQ]at e;split at e
  ·rename_i xs C;cases e;obtain⟨vs,j,m⟩:=bp v C r;obtain⟨c,f,p,hz⟩:=I.list j;obtain rfl:u=Mr _:=n;show#[_,c,m,f,by rw[<- L2.Vals.length f];show hz,λB i E g h=>collect_list p.isList (h _ s.toks (λb o' e=>(PV _ _ _ _ (LX (LO e))).trans (Li _ e)) ?_) (by rw[<- L2.Vals.length f];show hz)]
   rw[Um,size_push'];show OP _
  ·rw[Lk]at e;obtain⟨U,hk,rfl⟩:=e;obtain⟨xs,G,D⟩:=gO v hk r;have d:=cM I G;obtain⟨es,M,raw,t⟩:=d.raw;obtain rfl:u=Mr _:=n;have hl:⇑es=↥xs:=by rw[<- Lz,t,Lh]
   show#[_,_,D.keysL,nL xs,by rw[Lh];show d.1,λB i E g h=>qT (u9 d.2.1) i raw (by rw[hl];show d.1) λh' q w k l y=>?_]
   rw[lN t y];show h h' q k l
 |_=>cases e
def nM {h':MD}{h c:Ll}{D:Lv}{ws:Lf W}{vs:Lf V}{us:Lf Lj}(I:Inv X J Y H s)(g:StoreOk X.w X.K A H S)(r:RelL X.K A H ws vs)(f:Vals vs us)(hz:↥us<=sizeLine)(hk:∀b o,s.heap.get? b=ba o->h'.get? b=ba o)(d:⇑s.heap.objs<=D)
  (i:h'.get? D=ba {cls:=.type "list",data:=.seq us.toArray c}):PostE X J Y A H (S++[.lst ws]) (.ref ↥S) (.ref D) {s with heap:=h',toks:=h}:=by
 have e:H D=gV:=I.hok.fresh d;show#[.ref D,_,A++[D],I.laid (a:=D) (o:=.lst vs) (t':=h) hk d #[by rw[L2.Vals.length f];show hz,us,c,f,i],rfl,dc e,g.push e r,.ref ?_]
 rw[<- g.len];simp
def pf (G:X.A.handled=gV)(hu:X.A.units+12<cLine):LCall X (.builtin "sorted") gl:=by
 intro J s Y H A S xs vs us w S' I P rl rv e;cases rl with
 |nil=>cases e
 |cons r t=>
  cases t with
  |cons _ _=>cases e
  |nil=>
   cases rv with
   |cons ru E=>
    cases E;dsimp only[gl]at e;split at e
    ·rename_i ws hw;split at e
     ·rename_i ks hk;split at e
      ·rename_i k;cases e;obtain⟨vs',a,N,u,hz,q⟩:=xu G I P r ru hw
       (dsimp only[iZ]at k;simp only[Lp,LJ]at k)
       obtain⟨⟨Z,hd⟩,k⟩:=k;have B:T.ws ks=ws:=W.ts_w hk;have z:IsTs s.heap ks a:=fq I ks (B▸N) u;have hl:↥a=↥ks:=z.length.symm;have O:2<=↥a->(tK ks).isSome=true/\ft ks=true:=λn=>by
        rcases NP _ _▸k with h|h
        ·simp only[LJ]at h;omega
        ·simpa using h
       show xr (vs:=a) (lt:=mQ ks) (κ:=vd ((tK ks).getD 0)) ∅ (λR y=>q X.A.in1 G _ R y) (λn h' x f Q v=>?_) (λn h' x f i j hi L Q v=>?_) λD h' x c f hD ho=>?_
       ·obtain⟨C,M⟩:=O n;obtain⟨c,p⟩:=MM.mp C;rw[p]at v;show zv (s:={s with heap:=h',toks:=x}) (z.kept λb o _ e=>f b o e) n p v
       ·obtain⟨C,M⟩:=O n;obtain⟨c,p⟩:=MM.mp C;rw[p];have l:i<↥ks:=∅
        have m:j<↥ks:=∅
        have g:=(z.kept (h':=h') λb o _ e=>f b o e)
        have U:a.getD i MG=a[i]:=by simp[hi]
        have V:a.getD j MG=a[j]:=by simp[L]
        rw[U,V];have b1:=cC (ks:=ks) i l;have b2:=cC (ks:=ks) j m;show vf (s:={s with heap:=h',toks:=x}) (d:=cp) (c:=c) (by rw[aO,aO];unfold cp;omega) (Lw ‹_› ‹_›) (Lw ‹_› ‹_›) (g.get i l hi) (g.get j m L) (dP M l m) (vg p (Mp l) (Mp m)) v
       ·show nM I P (zx N) (xt u) (by rw[qV];show hz) f hD ho
      ·cases e
     ·cases e
    ·cases e
def qY (q:X.A.handled=gV):LCall X (.type "list") nK:=by
 intro J s Y H A S xs vs us w S' I h k l e
 by_cases hd:∃i U,xs=[.ref i]/\kI S i=ba U
 ·obtain⟨i,U,rfl,hk⟩:=hd
  (dsimp only[nK]at e;simp only[hk]at e)
  cases e;cases k with
  |cons r t=>
   cases t;cases l with
   |cons x g=>
    cases g;cases r with
    |ref n=>
     obtain⟨xs,v,u⟩:=gO h hk n;have d:=cM I v;obtain⟨es,y,raw,j⟩:=d.raw;obtain rfl:_=Mr _:=x;have hl:⇑es=↥xs:=by rw[<- Lz,j,Lh]
     show PySem.W.kdl_call (u9 d.2.1) q raw (by rw[hl];show d.1) λh' z a m f o p=>?_
     have b:=lN j p;show nM (us:=a.toList) I h u.keysL (b▸nL xs) (by rw[b,Lh];show d.1) f (Ls _) (c:=m) ?_
     simpa using o
 ·have:nK xs S=jl xs S:=by
   unfold nK;split
   ·rename_i i;split
    ·rename_i U hk;show absurd #[i,U,rfl,hk] hd
    ·rfl
   ·rfl
  rw[this]at e;show iX J s Y H A S xs vs us w S' I h k l e
end
open PySem.W (KasT kas_sort kas_asc kas_desc kas_tail3 kas_descPart kas_count kas_place kas_bin kas_rev)
def eD {α β:Type}{lt:Ll->Ll->L7}{f:α->KasT β}:∀t:KasT α,bQ lt (t.bind f)=bQ lt (f (bQ lt t))
 |.ret _=>rfl
 |.ask i j k=>eD (k (lt i j))
structure Lin (n:Ll)(lt:Ll->Ll->L7):Prop where
 tr:∀i j k,i<n->j<n->k<n->lt i j=true->lt j k=true->lt i k=true
 as:∀i j,i<n->j<n->lt i j=true->lt j i=false
 to:∀i j,i<n->j<n->i≠j->lt j i=false->lt i j=true
abbrev gt (p:LY Ll)(i:Ll):Ll:=p.getD i 0
def j4 {p:LY Ll}{i:Ll}:gt p i=(p[i]?).getD 0:=by unfold gt;simp[Array.getD_eq_getD_getElem?]
def Pm.inj {n:Ll}{p:LY Ll}(h:Pm n p){i j:Ll}(hi:i<n)(d:j<n)(c:i≠j):gt p i≠gt p j:=by
 have nd:p.toList.Nodup:=h.nodup_iff.mpr M0;have a:i<↥p.toList:=by rw[Lz,⇑h];show hi
 have b:j<↥p.toList:=by rw[Lz,⇑h];show d
 intro e;have f:gt p i=p.toList[i]:=by unfold gt;simp[NH,⇑h,hi]
 have g:gt p j=p.toList[j]:=by unfold gt;simp[NH,⇑h,d]
 rw[f,g]at e;have pw:=OI.mp nd;rcases Pj c with h|h
 ·show pw i j a b h e
 ·show pw j i b a h e.symm
abbrev Up (lt:Ll->Ll->L7)(p:LY Ll)(m:Ll):Prop:=∀i j,i<j->j<m->lt (gt p i) (gt p j)=true
section
variable{n:Ll}{lt:Ll->Ll->L7}(L:Lin n lt)
include L
def Up.more {p:LY Ll}{a:Ll}(d:Pm n p)(k:1<=a)(g:a<n)(h:Up lt p a)(hl:lt (gt p (a-1)) (gt p a)=true):Up lt p (a+1):=by
 have c:0<n:=∅
 intro i j b l
 by_cases e:j=a
 ·subst e
  by_cases f:i=j-1
  ·subst f;show hl
  ·show L.tr _ _ _ (d.lt c _) (d.lt c _) (d.lt c _) (h i (j-1) ∅ ∅) hl
 ·show h i j b ∅
def tM {p:LY Ll}(b:Pm n p):∀(f a:Ll),1<=a->a+f=n->Up lt p a->Up lt p (bQ lt (kas_asc p f a))/\a<=bQ lt (kas_asc p f a)/\bQ lt (kas_asc p f a)<=n/\(bQ lt (kas_asc p f a)<n->lt (gt p (bQ lt (kas_asc p f a))) (gt p (bQ lt (kas_asc p f a)-1))=true)
 |0,a,d,i,h=>#[h,Ls _,by change a<=n;omega,λz=>by have:a<n:=z;omega]
 |f+1,a,d,i,h=>by
  have g:0<n:=∅
  have e:bQ lt (kas_asc p (f+1) a)=bQ lt (if lt (gt p a) (gt p (a-1))=true then .ret a else kas_asc p f (a+1)):=rfl
  rw[e];cases c:lt (gt p a) (gt p (a-1))with
  |true=>show#[h,Ls _,by change a<=n;omega,λ_=>c]
  |false=>
   have l:lt (gt p (a-1)) (gt p a)=true:=L.to _ _ (b.lt g (a-1)) (b.lt g a) (b.inj ∅ ∅ ∅) c
   obtain⟨j,o,k,m⟩:=tM b f (a+1) ∅ ∅ (Up.more L b d ∅ h l)
   show#[j,by change a<=bQ lt (kas_asc p f (a+1));omega,k,m]
abbrev Dn (lt:Ll->Ll->L7)(p:LY Ll)(m:Ll):Prop:=∀i j,i<j->j<m->lt (gt p j) (gt p i)=true
def vh {p:LY Ll}(b:Pm n p):∀(f a:Ll),1<=a->a+f=n->Dn lt p a->∃m,bQ lt (kas_desc f p a 0)=(p,m,0)/\a<=m/\m<=n/\Dn lt p m
 |0,a,q,r,h=>#[a,rfl,Ls _,∅,h]
 |f+1,a,q,r,h=>by
  have g:0<n:=∅
  have e:bQ lt (kas_desc (f+1) p a 0)=bQ lt (if lt (gt p a) (gt p (a-1))=true then(if 0 > 0 then kas_desc f (kas_rev p (a-(0+1)) a) (a+1) 0 else kas_desc f p (a+1) 0)else .ask (gt p (a-1)) (gt p a) λd=>if d=true then .ret (p,a,0)else kas_desc f p (a+1) (0+1)):=rfl
  rw[e];cases c:lt (gt p a) (gt p (a-1))with
  |true=>
   obtain⟨m,s,w,t,u⟩:=vh b f (a+1) ∅ ∅ λi j k v=>by
    by_cases e:j=a
    ·subst e
     by_cases o:i=j-1
     ·subst o;show c
     ·show L.tr _ _ _ (b.lt g _) (b.lt g _) (b.lt g _) c (h i (j-1) ∅ ∅)
    ·show h i j k ∅
   show#[m,s,∅,t,u]
  |false=>
   have l:lt (gt p (a-1)) (gt p a)=true:=L.to _ _ (b.lt g (a-1)) (b.lt g a) (b.inj ∅ ∅ ∅) c
   show#[a,?_,Ls _,∅,h]
   change bQ lt (if lt (gt p (a-1)) (gt p a)=true then .ret (p,a,0)else kas_desc f p (a+1) (0+1))=_
   rw[l];rfl
omit L in
def Fx {p:LY Ll}{m:Ll}(d:Pm n p)(c:m<=n)(h:Dn lt p m):Up lt (kas_rev p 0 m) m:=by
 intro i j a b;have g:∀k,k<m->gt (kas_rev p 0 m) k=gt p (m-1-k):=λk hk=>by
  rw[j4,j4];show((mirror p 0 m ((m-0)/2))[k]?).getD 0=_;rw[getElem?_mirror_all (by rw[⇑d];show c),LU #[MS _,hk],RV]
 rw[g i ∅,g j b]
 show h _ _ ∅ ∅
def zy {p:LY Ll}(a:Pm n p)(w:1<=n):∃m f,bQ lt (kas_count n p)=(m,f)/\Pm n f/\1<=m/\m<=n/\Up lt f m:=by
 unfold kas_count;rw[eD];obtain⟨c,g,o,q⟩:=tM L a (n-1) 1 (Ls _) ∅ λi j d r=>∅
 generalize bQ lt (kas_asc p (n-1) 1)=m at c g o q
 by_cases k:m=n
 ·subst k;rw[LU (MK _)];show#[m,p,rfl,a,g,Ls _,c]
 ·rw[L1 (by simp[k])]
  by_cases h:m > 1
  ·rw[LU h];have l:=c 0 (m-1) ∅ ∅
   show#[m,p,?_,a,g,o,c];change bQ lt (if lt (gt p 0) (gt p (m-1))=true then .ret (m,p)else kas_descPart m n (kas_rev p 0 m))=_
   rw[l];rfl
  ·rw[L1 h];obtain rfl:m=1:=∅
   unfold kas_descPart;rw[eD];have l:=q ∅
   obtain⟨m,e,x,s,t⟩:=vh L a (n-(1+1)) (1+1) ∅ ∅ λi j d r=>by
    obtain rfl:j=1:=∅
    obtain rfl:i=0:=∅
    show l
   rw[e];dsimp only;rw[L1 ∅]
   unfold kas_tail3;rw[eD];have b:Pm n (kas_rev p 0 m):=a.rev 0 m;obtain⟨u,y,v,z⟩:=tM L b (n-m) m ∅ ∅ (Fx a s t)
   show#[_,_,rfl,b,∅,v,u]
def lO {p:LY Ll}{k:Ll}(a:Pm n p)(hk:k<n)(j:Up lt p k):∀(f l r:Ll),l<=r->r<=k->r-l<=f->(∀i,i<l->lt (gt p i) (gt p k)=true)->(∀i,r<=i->i<k->lt (gt p k) (gt p i)=true)->
  ∃m,bQ lt (kas_place p k f l r)=m/\m<=k/\(∀i,i<m->lt (gt p i) (gt p k)=true)/\(∀i,m<=i->i<k->lt (gt p k) (gt p i)=true)
 |0,l,r,t,q,u,g,h=>#[l,rfl,∅,g,λi hi=>h i ∅]
 |f+1,l,r,t,q,u,g,h=>by
  have b:0<n:=∅
  unfold kas_place
  by_cases d:l>=r
  ·rw[LU d];show#[l,rfl,∅,g,λi hi=>h i ∅]
  ·rw[L1 d];change ∃m,bQ lt (if lt (gt p k) (gt p ((l+r)/2))=true then kas_place p k f l ((l+r)/2)else kas_place p k f ((l+r)/2+1) r)=m/\_
   cases c:lt (gt p k) (gt p ((l+r)/2))with
   |true=>
    rw[LU rfl];show lO a hk j f l ((l+r)/2) ∅ ∅ ∅ g λi hi o=>?_
    by_cases e:i=(l+r)/2
    ·rw[e];show c
    ·show L.tr _ _ _ (a.lt b _) (a.lt b _) (a.lt b _) c (j _ _ ∅ o)
   |false=>
    rw[L1 L5];have s:=L.to _ _ (a.lt b ((l+r)/2)) (a.lt b k) (a.inj ∅ ∅ ∅) c
    show lO a hk j f ((l+r)/2+1) r ∅ q ∅ (λi hi=>?_) h
    by_cases e:i=(l+r)/2
    ·rw[e];show s
    ·show L.tr _ _ _ (a.lt b _) (a.lt b _) (a.lt b _) (j i ((l+r)/2) ∅ ∅) s
def zz:∀(f:Ll) (p:LY Ll) (k:Ll),Pm n p->k+f=n->Up lt p k->Pm n (bQ lt (kas_bin f p k))/\Up lt (bQ lt (kas_bin f p k)) n
 |0,p,k,a,h,b=>by
  have:k=n:=∅
  show#[a,this▸b]
 |f+1,p,k,a,h,b=>by
  unfold kas_bin;rw[eD];obtain⟨m,e,c,d,l⟩:=lO L a ∅ b k 0 k (MS _) (Ls _) ∅ (λi hi=>∅) λi c q=>∅
  rw[e];show zz f _ (k+1) (a.bub _ _) ∅ λi j o r=>?_
  have g:∀i,gt (bubble p k (k-m)) i=if i=m then gt p k else if m<i/\i<=k then gt p (i-1)else gt p i:=λi=>by
   rw[j4,j4,j4,j4,getElem?_bubble (by rw[⇑a];omega) _ ∅,show k-(k-m)=m by omega]
   split
   ·rfl
   ·split<;>rfl
  rw[g,g]
  repeat' split
  all_goals first
   |(exfalso;omega)
   |show d _ ∅
   |show l _ ∅ ∅
   |show b _ _ ∅ ∅
def CT (d:1<=n):Pm n (bQ lt (kas_sort n))/\Up lt (bQ lt (kas_sort n)) n:=by
 unfold kas_sort;rw[eD];obtain⟨m,h,e,a,f,g,b⟩:=zy L (p:=(LR n).toArray) (by unfold Pm;simp) d
 rw[e];dsimp only
 by_cases c:m<n
 ·rw[LU c];have:max m 1=m:=∅
  rw[this];show zz L _ _ _ a ∅ b
 ·rw[L1 c];have:m=n:=∅
  show#[a,this▸b]
end
end Mi
namespace Mi
open PySem PySem.Spec PyProof.Rows L2
mutual
theorem lP:∀x y:T,eM x=true->ik x y=ba true->ik y x=ba false
 |.int a,.int b,_,h=>by
  dsimp only[ik]at h;simp only[Mh,LJ]at h
  delta ik;simp only[Mh,Pe]
  omega
 |.str _,_,h,_=>by cases h
 |.tup xs,.tup ys,hn,h=>pg xs ys hn h
 |.int _,.str _,_,h|.int _,.tup _,_,h|.tup _,.int _,_,h|.tup _,.str _,_,h=>by cases h
theorem pg:∀xs ys:Lf T,de xs=true->dv xs ys=ba true->dv ys xs=ba false
 |[],[],_,h=>by cases h
 |[],_::_,_,_=>rfl
 |_::_,[],_,h=>by cases h
 |x::xs,y::ys,hn,h=>by
  simp only[de,Lp]at hn;dsimp only[dv]at h ⊢
  by_cases e:x=y
  ·rw[LU e]at h;rw[LU e.symm];show pg xs ys hn.2 h
  ·rw[L1 e]at h;rw[L1 (Ne.symm e)];show lP x y hn.1 h
end
mutual
theorem ph:∀x y:T,eM x=true->x≠y->ik y x=ba false->ik x y=ba true
 |.int a,.int b,_,hne,h=>by
  dsimp only[ik]at h;simp only[Mh,Pe]at h
  delta ik;simp only[Mh,LJ]
  have:a≠b:=λe=>hne (e▸rfl)
  omega
 |.str _,_,h,_,_=>by cases h
 |.tup xs,.tup ys,hn,hne,h=>vk xs ys hn (λe=>hne (e▸rfl)) h
 |.int _,.str _,_,_,h|.int _,.tup _,_,_,h|.tup _,.int _,_,_,h|.tup _,.str _,_,_,h=>by cases h
theorem vk:∀xs ys:Lf T,de xs=true->xs≠ys->dv ys xs=ba false->dv xs ys=ba true
 |[],[],_,h,_=>absurd rfl h
 |[],_::_,_,_,_=>rfl
 |_::_,[],_,_,h=>by cases h
 |x::xs,y::ys,hn,hne,h=>by
  simp only[de,Lp]at hn;dsimp only[dv]at h ⊢
  by_cases e:x=y
  ·rw[LU e.symm]at h;rw[LU e];show vk xs ys hn.2 (λz=>hne (by rw[e,z])) h
  ·rw[L1 (Ne.symm e)]at h;rw[L1 e];show ph x y hn.1 e h
end
mutual
theorem tN:∀x y z:T,eM x=true->eM y=true->ik x y=ba true->ik y z=ba true->ik x z=ba true
 |.int a,.int b,.int c,_,_,h,h'=>by
  dsimp only[ik]at h h' ⊢;simp only[Mh,LJ]at h h' ⊢
  omega
 |.tup xs,.tup ys,.tup zs,hn,hn',h,h'=>vm xs ys zs hn hn' h h'
 |.str _,_,_,h,_,_,_=>by cases h
 |.int _,.str _,_,_,_,h,_|.int _,.tup _,_,_,_,h,_|.tup _,.int _,_,_,_,h,_|.tup _,.str _,_,_,_,h,_=>by cases h
 |.int _,.int _,.str _,_,_,_,h|.int _,.int _,.tup _,_,_,_,h|.tup _,.tup _,.int _,_,_,_,h|.tup _,.tup _,.str _,_,_,_,h=>by cases h
theorem vm:∀xs ys zs:Lf T,de xs=true->de ys=true->dv xs ys=ba true->dv ys zs=ba true->dv xs zs=ba true
 |[],[],_,_,_,h,_=>by cases h
 |_::_,[],_,_,_,h,_=>by cases h
 |_,_::_,[],_,_,_,h=>by cases h
 |[],_::_,_::_,_,_,_,_=>rfl
 |x::xs,y::ys,z::zs,hn,hn',h,h'=>by
  simp only[de,Lp]at hn hn';dsimp only[dv]at h h' ⊢
  by_cases e:x=y
  ·subst e;rw[LU rfl]at h
   by_cases e':x=z
   ·rw[LU e']at h' ⊢;show vm xs ys zs hn.2 hn'.2 h h'
   ·rw[L1 e']at h' ⊢;show h'
  ·rw[L1 e]at h
   by_cases e':y=z
   ·subst e';rw[L1 e];show h
   ·rw[L1 e']at h';have t:=tN x y z hn.1 hn'.1 h h';have e2:x≠z:=λe2=>by
     subst e2;have:=lP x x hn.1 t;rw[t]at this;cases this
    rw[L1 e2];show t
end
abbrev HS (ks:Lf T):Prop:=ks.Pairwise λx y=>ik x y=ba true
abbrev fu (ks:Lf T):Lf T:=dI (mQ ks) (.int 0) ks
structure Nice (ks:Lf T):Prop where
 num:∀x∈ks,eM x=true
 lt:ft ks=true
 nd:ks.Nodup
def Nice.lin {ks:Lf T}(h:Nice ks):Lin ↥ks (mQ ks):=by
 have l:∀i (hi:i<↥ks),eM ks[i]=true:=λi hi=>h.num _ (Mp hi)
 show#[λi j k hi c hk a b=>?_,λi j hi c a=>?_,λi j hi c m a=>?_]
 ·have d:=dP h.lt hi c;have f:=dP h.lt c hk;have n:=dP h.lt hi hk;rw[a]at d;rw[b]at f
  rw[tN _ _ _ (l i hi) (l j c) d f]at n;show(MR n).symm
 ·have d:=dP h.lt hi c;have f:=dP h.lt c hi;rw[a]at d;rw[lP _ _ (l i hi) d]at f;show(MR f).symm
 ·have d:=dP h.lt c hi;have f:=dP h.lt hi c;rw[a]at d;have g:ks[i]≠ks[j]:=λe=>by
   have pw:=OI.mp h.nd;rcases Pj m with q|q
   ·show pw i j hi c q e
   ·show pw j i c hi q e.symm
  rw[ph _ _ (l i hi) g d]at f;show(MR f).symm
def dJ {α:Type}{lt:Ll->Ll->L7}{d:α}{xs:Lf α}:(dI lt d xs).Perm xs:=by
 unfold dI;split
 ·show .refl _
 ·have p:Pm ↥xs (bQ lt (Pd ↥xs)):=pd (lg ∅)
  show(Vu _ p).trans ?_;have:(LR ↥xs).map (λi=>xs.getD i d)=xs:=by
   apply NV
   ·simp
   ·intro k b a;simp[a]
  rw[this]
def fP {ks:Lf T}(h:Nice ks):HS (fu ks):=by
 unfold fu dI HS;split
 ·rename_i hl
  match ks,hl with
  |[],_=>show .nil
  |[x],_=>simp
  |_::_::_,hl=>simp only[L3]at hl;omega
 ·rename_i hl;obtain⟨p,u⟩:=CT h.lin ∅
  rw[OI];intro i j hi c b;rw[Lh,Lz,⇑p]at hi c;have a:0<↥ks:=∅
  have l:=u i j b c;have d:=dP h.lt (p.lt a i) (p.lt a j);have g:∀k (hk:k<↥ks),(bQ (mQ ks) (Pd ↥ks)).getD k 0=(bQ (mQ ks) (Pd ↥ks)).toList[k]'(by rw[Lz,⇑p];show hk):=λk hk=>by simp[NH,⇑p,hk]
  have f:mQ ks ((bQ (mQ ks) (Pd ↥ks)).getD i 0) ((bQ (mQ ks) (Pd ↥ks)).getD j 0)=true:=l;rw[f]at d;have e:∀k (hk:k<↥ks),ks.getD k (.int 0)=ks[k]:=λk hk=>by simp[hk]
  simp only[Qv];rw[<- g i hi,<- g j c,e _ (p.lt a i),e _ (p.lt a j)];show d
def jw:∀{a b:Lf T},(∀x∈a,eM x=true)->a.Perm b->HS a->HS b->a=b
 |[],b,_,p,_,_=>(WD p)
 |x::a,[],_,p,_,_=>absurd p.length_eq (by simp)
 |x::a,y::b,c,p,h,h'=>by
  have e:x=y:=by
   rcases LQ.mp (p.mem_iff.mp (M3))with e|e
   ·show e
   ·rcases LQ.mp (p.mem_iff.mpr (M3))with e'|e'
    ·show e'.symm
    ·have d:=Rq h e';have f:=Rq h' e;have:=lP _ _ (c x (.head _)) d;rw[f]at this;cases this
  subst e;rw[jw (λz hz=>c z (.tail _ hz)) ((List.perm_cons x).mp p) (Rk.mp h).2 (Rk.mp h').2]
def Nice.of_sub {ks us:Lf T}(h:Nice ks)(hs:∀x∈us,x∈ks)(hd:us.Nodup):Nice us:=by
 show#[λx a=>h.num x (hs x a),?_,hd]
 have:=h.lt;unfold ft at this ⊢;rw[LN]at this ⊢;intro x a;have b:=this x (hs x a);rw[LN]at b ⊢;show λy c=>b y (hs y c)
def xv {us ks:Lf T}(h:Nice ks)(p:us.Perm ks):fu us=fu ks:=by
 have b:Nice us:=h.of_sub (λx a=>p.mem_iff.mp a) (p.nodup_iff.mpr h.nd)
 have c:(fu us).Perm us:=dJ;have d:(fu ks).Perm ks:=dJ;show jw (λx a=>b.num x (c.mem_iff.mp a)) (c.trans (p.trans d.symm)) (fP b) (fP h)
def zA {us ks:Lf T}(h:Nice ks)(p:us.Sublist (fu ks)):fu us=us:=by
 have c:(fu ks).Perm ks:=dJ;have b:Nice us:=h.of_sub (λx a=>c.mem_iff.mp (p.subset a)) (p.nodup (c.nodup_iff.mpr h.nd))
 have d:(fu us).Perm us:=dJ;show jw (λx a=>b.num x (d.mem_iff.mp a)) d (fP b) ((fP h).sublist p)
mutual
def aH:T->LC
 |.int i=>hashInt i
 |.str _=>0
 |.tup xs=>reduceHash (PP (pr xs))
def pr:Lf T->Lf LC
 |[]=>[]
 |x::xs=>aH x::pr xs
end
mutual
theorem qZ {w:MB}:∀x:T,eM x=true->fj w x=aH x
 |.int _,_=>rfl
 |.str _,h=>by cases h
 |.tup xs,h=>by delta fj aH;rw[nN xs h]
theorem nN {w:MB}:∀xs:Lf T,de xs=true->iU w xs=pr xs
 |[],_=>rfl
 |x::xs,h=>by
  simp only[de,Lp]at h;delta iU pr;rw[qZ x h.1,nN xs h.2]
end
def q8 {w:MB}:∀(ks:Lf T) (st:LY (LC×T)×Mc),(∀x∈ks,eM x=true)->ks.foldlM (bv (fj w)) st=ks.foldlM (bv aH) st
 |[],_,_=>rfl
 |x::ks,st,h=>by
  rw[Pc,Pc];have e:bv (fj w) st x=bv aH st x:=by unfold bv;rw[qZ x (h x (.head _))]
  rw[e];congr 1
  funext st'
  show q8 ks st' λy a=>h y (.tail _ a)
abbrev nO (l:L7)(ks:Lf T):Ln (LY (LC×T)×Mc):=ks.foldlM (bv aH) (#[],.fresh 0 0 l)
abbrev kK (ks:Lf T):Ln (Lf T):=match nO true ks with
 |some r=>if eH r.2 ⇑r.1 then ba (r.1.toList.map (·.2))else gV
 |none=>gV
abbrev gH (b:L7)(t:Mc):Mc:={t with led:=b}
def tP {b:L7}{t:Mc}{a:Ll->LC}{h:LC}:∀(f:Ll) (p:O9),Om (gH b t) a h f p=Om t a h f p
 |0,_=>rfl
 |f+1,p=>by
  unfold Om;rw[show(gH b t).slot p.j=t.slot p.j from rfl]
  cases t.slot p.j with
  |empty=>rfl
  |dummy=>show tP f _
  |live i=>
   dsimp only;split
   ·rfl
   ·show tP f _
def kL {b:L7}{es:LY (LC×T)}{t:Mc}{x:T}{h:LC}:∀(f:Ll) (st:Ln O9),bD es (gH b t) x h f st=bD es t x h f st
 |0,_=>rfl
 |f+1,st=>by
  unfold bD;have e:∀p,(gH b t).probe (λi=>(es[i]?.map (·.1)).getD 0) h p=t.probe (λi=>(es[i]?.map (·.1)).getD 0) h p:=λp=>tP _ _
  rw[show(gH b t).probeStart h=t.probeStart h from rfl,e]
  split
  ·rfl
  ·rfl
  ·rfl
  ·rename_i j i next _;cases es[i]? with
   |none=>rfl
   |some q=>
    dsimp only;split
    ·rfl
    ·rw[show(gH b t).slot j=t.slot j from rfl]
     split
     ·show kL f _
     ·rfl
def tQ {b:L7}{t:Mc}{hs:LY LC}{n:Ll}:(gH b t).relaid hs n=(t.relaid hs n).map λr=>(gH b r.1,r.2):=by
 unfold UN Vv;show(do let owner <- OR (P9 n-1) hs;_)=_
 cases OR (P9 n-1) hs<;>rfl
def tR {b:L7}{hf:T->LC}{es:LY (LC×T)}{t:Mc}{x:T}:bv hf (es,gH b t) x=(bv hf (es,t) x).map λr=>(r.1,gH b r.2):=by
 unfold bv;dsimp only;rw[kL];cases bD es t x (hf x) 2000 gV with
 |none=>rfl
 |some f=>
  cases f with
  |there=>rfl
  |free slot=>
   dsimp only;rw[show(gH b t).put slot=(gH b (t.put slot).1,(t.put slot).2)from rfl]
   dsimp only;rw[show ∀n,dg (gH b (t.put slot).1) n=dg (t.put slot).1 n from λ_=>rfl,show(gH b (t.put slot).1).tooFull=(t.put slot).1.tooFull from rfl,tQ]
   split
   ·split
    ·split
     ·cases(t.put slot).1.relaid ((L4 es (t.put slot).2 (hf x,x)).map (·.1)) (Pa (⇑es+1))with
      |none=>rfl
      |some q=>
       obtain⟨t2,a⟩:=q;delta MA;rw[show ∀n,dg (gH b t2) n=dg t2 n from λ_=>rfl]
       split<;>rfl
     ·rfl
    ·rfl
   ·rfl
def rf {b:L7}{hf:T->LC}:∀(ks:Lf T) (es:LY (LC×T)) (t:Mc),ks.foldlM (bv hf) (es,gH b t)=(ks.foldlM (bv hf) (es,t)).map λr=>(r.1,gH b r.2)
 |[],_,_=>rfl
 |x::ks,es,t=>by
  rw[Pc,Pc,tR];cases bv hf (es,t) x with
  |none=>rfl
  |some r=>show rf ks r.1 r.2
def xw {ks us:Lf T}(h:kK ks=ba us)(l:L7):∃r,nO l ks=ba r/\r.1.toList.map (·.2)=us/\r.2.led=l/\(r.2.plain=true->eH r.2 ⇑r.1=true):=by
 unfold kK at h;have e:nO l ks=(nO true ks).map λr=>(r.1,gH l r.2):=rf (b:=l) ks #[] (.fresh 0 0 true)
 cases c:nO true ks with
 |none=>rw[c]at h;cases h
 |some r=>
  rw[c]at h e;dsimp only at h;split at h
  ·rename_i a;cases h;show#[_,e,rfl,rfl,λ_=>a]
  ·cases h
abbrev way (t:Mc)(h:LC):Ll->O9
 |0=>t.probeStart h
 |k+1=>t.advance (way t h k)
abbrev gK (m:Ll)(h:LC):Ll->Ll×Ll
 |0=>(NZ h % (m+1),NZ h)
 |s+1=>SX m (gK m h s).1 (gK m h s).2
abbrev nP (m i:Ll):Ll:=P4 m i-i
def Fy {m i:Ll}:nP m i<=9:=by
 unfold nP P4;split<;>omega
abbrev pb (m i p:Ll):O9:={j:=i,more:=nP m i,i:=i,perturb:=p,dummy:=gV}
def tU {t:Mc}{h:LC}{k i p:Ll}(e:way t h k=pb t.mask i p):∀d,d<=nP t.mask i->way t h (k+d)={pb t.mask i p with j:=i+d,more:=nP t.mask i-d}
 |0,_=>by rw[T0,e];rfl
 |d+1,hd=>by
  change t.advance (way t h (k+d))=_;rw[tU e d ∅]
  unfold PL;dsimp only;rw[LU (show nP t.mask i-d > 0 by omega)]
  simp only[RJ,and_true,true_and,pb];omega
def rg {t:Mc}{h:LC}{k i p:Ll}(e:way t h k=pb t.mask i p):way t h (k+nP t.mask i+1)=pb t.mask (SX t.mask i p).1 (SX t.mask i p).2:=by
 change t.advance (way t h (k+nP t.mask i))=_;rw[tU e _ (Ls _)];unfold PL;dsimp only;rw[L1 ∅]
 rfl
def vn {t:Mc}{h:LC}:∀s,∃k,k<=10*s/\way t h k=pb t.mask (gK t.mask h s).1 (gK t.mask h s).2
 |0=>#[0,Ls _,rfl]
 |s+1=>by
  obtain⟨k,hk,e⟩:=vn (t:=t) (h:=h) s;have:=Fy (m:=t.mask) (i:=(gK t.mask h s).1);show#[k+nP t.mask (gK t.mask h s).1+1,∅,rg e]
def vo {m:Ll}{h:LC}:∀s,(gK m h s).2=NZ h/32^s
 |0=>by simp[gK]
 |s+1=>by
  show(gK m h s).2/32=_;rw[vo s,RW,Qn]
def CU {h:LC}:NZ h<2^64:=by
 unfold NZ;have:=Ob h (show(0:LC)<2^64 by decide)
 have:=Op h (show(2^64:LC)≠0 by decide)
 omega
abbrev G4 (m i:Ll):Ll:=(i*5+1) % (m+1)
def zB {m:Ll}{h:LC}{s:Ll}(hs:12<=s):(gK m h (s+1)).1=G4 m (gK m h s).1:=by
 show((gK m h s).1*5+1+(gK m h s).2/32) % (m+1)=_;have e:(gK m h s).2/32=0:=by
  rw[vo,RW,<- Qn];show Uo (LZ CU ?_);show Lw (show 2^64<=32^13 by decide) (Nx #v[] ∅)
 rw[e];rfl
abbrev yp (m:Ll):Ll->Ll->Ll
 |0,i=>i
 |s+1,i=>yp m s (G4 m i)
def jx {m:Ll}:∀(a b i:Ll),yp m (a+b) i=yp m b (yp m a i)
 |0,b,i=>by rw[RV];rfl
 |a+1,b,i=>by rw[show a+1+b=(a+b)+1 by omega];show jx a b _
def zC {m:Ll}{h:LC}:∀s,(gK m h (12+s)).1=yp m s (gK m h 12).1
 |0=>rfl
 |s+1=>by
  rw[show 12+(s+1)=(12+s)+1 by omega,zB ∅,zC s,jx s 1]
  rfl
inductive Msk:Ll->Prop
 |a:Msk 7
 |b:Msk 31
 |c:Msk 127
abbrev vp (m:Ll):L7:=(LR (m+1)).all λj=>(LR (m+1)).any λs=>yp m s 0==j
def Kh:vp 7=true/\yp 7 8 0=0:=by decide +kernel
def HU:vp 31=true/\yp 31 32 0=0:=by decide +kernel
def Fz:vp 127=true/\yp 127 128 0=0:=by decide +kernel
def Msk.per {m:Ll}(h:Msk m):vp m=true/\yp m (m+1) 0=0:=by
 cases h
 ·show Kh
 ·show HU
 ·show Fz
def Msk.from0 {m:Ll}(h:Msk m){j:Ll}(a:j<=m):∃s,s<=m/\yp m s 0=j:=by
 have:=LN.mp h.per.1 j (LG.mpr (Px ‹_›));obtain⟨s,hs,e⟩:=List.any_eq_true.mp this;show#[s,by have:=LG.mp hs;omega,eq_of_beq e]
def Msk.cover {m:Ll}(h:Msk m){i j:Ll}(hi:i<=m)(f:j<=m):∃s,s<=m/\yp m s i=j:=by
 obtain⟨a,k,d⟩:=h.from0 hi;obtain⟨b,l,e⟩:=h.from0 f;rcases Nat.le_total a b with c|c
 ·show#[b-a,∅,?_]
  rw[<- d,<- jx,show a+(b-a)=b by omega,e]
 ·rcases Pk c with rfl|g
  ·show#[0,MS _,by rw[<- d,<- e];rfl]
  ·show#[m+1-a+b,∅,?_]
   rw[<- d,<- jx,show a+(m+1-a+b)=(m+1)+b by omega,jx,h.per.2,e]
def zD {m:Ll}{h:LC}:∀s,(gK m h s).1<=m
 |0=>Ry (P6 _ (RX m))
 |s+1=>Ry (P6 _ (RX m))
def Msk.hit {m:Ll}(Mqa:Msk m)(h:LC){j:Ll}(a:j<=m):∃s,s<=m+12/\(gK m h s).1=j:=by
 obtain⟨s,hs,e⟩:=Mqa.cover (zD (h:=h) 12) a;show#[12+s,∅,by rw[zC,e]]
def CV {t:Mc}(Mqa:Msk t.mask)(h:LC){j:Ll}(b:j<=t.mask):∃k,k<10*Ny t.mask/\(way t h k).j=j:=by
 obtain⟨s,hs,e⟩:=Mqa.hit h b;obtain⟨k,hk,a⟩:=vn (t:=t) (h:=h) s;show#[k,by unfold Ny;omega,by rw[a];show e]
abbrev B3 (xs:LY Ll):Prop:=∀i k,i<k->k<⇑xs->xs.getD i 0<xs.getD k 0
structure Cut (xs:LY Ll)(j c:Ll):Prop where
 le:c<=⇑xs
 lo:∀i,i<c->xs.getD i 0<j
 hi:∀i,c<=i->i<⇑xs->j<=xs.getD i 0
def vt {xs:LY Ll}{i a b:Ll}(h:i<⇑xs):xs.getD i a=xs.getD i b:=by
 simp[NH,h]
def tV {xs:LY Ll}{j:Ll}(c:B3 xs):∀(f lo hi:Ll),lo<=hi->hi<=⇑xs->hi-lo<=f->(∀i,i<lo->xs.getD i 0<j)->(∀i,hi<=i->i<⇑xs->j<=xs.getD i 0)->Cut xs j (Qi xs j f lo hi)
 |0,lo,hi,l,k,m,a,b=>by
  change Cut xs j lo;show#[by show Lw ‹_› ‹_›,a,λi h=>b i ∅]
 |f+1,lo,hi,l,k,m,a,b=>by
  unfold Qi;split
  ·rename_i n;dsimp only;have g:(lo+hi)/2<⇑xs:=∅
   by_cases d:xs.getD ((lo+hi)/2) j<j
   ·rw[LU d];rw[vt g (b:=0)]at d;show tV c f ((lo+hi)/2+1) hi ∅ k ∅ (λi e=>?_) b
    rcases T3 i ((lo+hi)/2)with q|q
    ·show Np (c i _ q g) d
    ·rw[show i=(lo+hi)/2 by omega];show d
   ·rw[L1 d];rw[vt g (b:=0)]at d;show tV c f lo ((lo+hi)/2) ∅ (Ni ‹_›) ∅ a (λi e hs=>?_)
    rcases Pk e with q|q
    ·rw[<- q];omega
    ·show Lw (RS.mp d) (Ni (c _ i q hs))
  ·show#[by show Lw ‹_› ‹_›,a,λi h=>b i ∅]
def im {xs:LY Ll}(a:B3 xs)(j:Ll):Cut xs j (Mz xs j):=tV a _ _ _ (MS _) (Ls _) ∅ (λi h=>absurd h (OM _)) λi h h'=>∅
def gm {xs:LY Ll}{i j:Ll}:xs[i]?=ba j↔i<⇑xs/\xs.getD i 0=j:=by
 constructor
 ·intro h;obtain⟨a,b⟩:=Ml.mp h;show#[a,by simp[NH,a,b]]
 ·rintro⟨a,b⟩;rw[Ml];show#[a,?_]
  simpa [NH,a]using b
def gP {xs:LY Ll}(a:B3 xs){i j:Ll}(h:xs[i]?=ba j):Mz xs j=i:=by
 obtain⟨b,d⟩:=gm.mp h;have c:=im a j;rcases Qo (Mz xs j) i with q|q|q
 ·have:=c.hi _ (Ls _) (Np ‹_› ‹_›);have:=a _ i q b;omega
 ·show q
 ·have:=c.lo i q;omega
abbrev mU (t:Mc)(j:Ll):Prop:=∃i:Ll,t.place[i]?=ba j
def nQ {t:Mc}(a:B3 t.place){i j:Ll}(h:t.place[i]?=ba j):t.slot j=.live i:=by
 unfold Vw;rw[gP a h];dsimp only;rw[h];simp
def tW {t:Mc}(hd:t.dummies=#[]){j:Ll}(h:¬ mU t j):t.slot j=.empty:=by
 unfold Vw;dsimp only;rw[L1]
 ·rw[L1];rw[hd];simp[VP]
 ·intro z;show h #[_,eq_of_beq z]
def dh {α:Type}{xs:LY α}{p:Ll}{x:α}:(L4 xs p x).toList=xs.toList.take p++x::xs.toList.drop p:=by
 unfold L4;rw[QR,Rv,PC,PC];simp only[List.extract,T4,Rg];rw[show(List.drop p xs.toList).take (⇑xs-p)=xs.toList.drop p from Pl (by rw[Ow,Lz];show Ls _)]
 simp
def tX {xs:LY Ll}:B3 xs↔xs.toList.Pairwise (· < ·):=by
 rw[OI];constructor
 ·intro h i k hi hk a;rw[Lz]at hi hk;have:=h i k a hk
  simpa [NH,hi,hk]using this
 ·intro h i k a hk;have hi:i<⇑xs:=by show Np ‹_› ‹_›
  have:=h i k (by simpa using hi) (by simpa using hk) a
  simpa [NH,hi,hk]using this
def CW {xs:LY Ll}(d:B3 xs){j:Ll}(h:∀i:Ll,xs[i]?≠ba j):B3 (L4 xs (Mz xs j) j):=by
 have c:=im d j;have pw:=tX.mp d;rw[tX,dh,Sy];have hd:∀y∈xs.toList.drop (Mz xs j),j<y:=λy m=>by
  obtain⟨i,hi,e⟩:=Nf.mp m;rw[List.getElem_drop]at e;rw[Ow,Lz]at hi;have hs:Mz xs j+i<⇑xs:=∅
  have g:=c.hi (Mz xs j+i) ∅ hs
  have f:xs[Mz xs j+i]?=ba y:=by rw[Ml];show#[hs,by simpa using e]
  have n:=(gm.mp f).2;have:y≠j:=λz=>h _ (z▸f)
  omega
 show#[pw.sublist (TH _ _),Rk.mpr #[hd,pw.sublist (List.drop_sublist _ _)],λa l b k=>?_]
 have g:a<j:=by
  obtain⟨i,hi,e⟩:=Nf.mp l;rw[OS]at e;rw[Mv,Lz]at hi;have:=c.lo i ∅
  have hs:i<⇑xs:=∅
  have f:xs[i]?=ba a:=by rw[Ml];show#[hs,by simpa using e]
  have:=(gm.mp f).2;omega
 rcases LQ.mp k with rfl|k
 ·show g
 ·show Np g (hd b k)
def CY {α β:Type}{a:α}{b:β}:∀(p:Ll) (xs:Lf α) (ys:Lf β),↥xs=↥ys->(xs.take p++a::xs.drop p).zip (ys.take p++b::ys.drop p)=(xs.zip ys).take p++(a,b)::(xs.zip ys).drop p:=λp xs ys h=>by
 rw[List.zip_append (by rw[Mv,Mv,h]),OB]
 simp only[List.zip,List.take_zipWith,List.drop_zipWith]
def pA {α:Type}{p:Ll}{xs:Lf α}{a y:α}:y∈xs.take p++a::xs.drop p↔y∈xs\/y=a:=by
 rw[Ma,LQ];constructor
 ·rintro(h|h|h)
  ·show .inl (Nw h)
  ·show .inr h
  ·show .inl (QC h)
 ·rintro(h|h)
  ·rw[<- OG p xs,Ma]at h;rcases h with h|h
   ·show .inl h
   ·show .inr (.inr h)
  ·show .inr (.inl h)
def jy {α:Type}{p:Ll}{xs:Lf α}{a:α}:(xs.take p++a::xs.drop p).Perm (a::xs):=by
 have:=RK (a:=a) (l₁:=xs.take p) (l₂:=xs.drop p)
 rwa [OG]at this
structure Tab (es:LY (LC×T))(t:Mc):Prop where
 msk:Msk t.mask
 dm:t.dummies=#[]
 sz:⇑t.place=⇑es
 inc:B3 t.place
 le:∀j,mU t j->j<=t.mask
 few:5*⇑es<3*t.mask
 hs:∀e∈es.toList,e.1=aH e.2
 nd:(es.toList.map (·.2)).Nodup
 rc:∀(i j:Ll) (e:LC×T),t.place[i]?=ba j->es[i]?=ba e->∃k,(way t e.1 k).j=j/\∀m,m<k->mU t (way t e.1 m).j
def least {P:Ll->Prop}:∀n,P n->∃k,k<=n/\P k/\∀m,m<k->¬ P m:=λn=>by
 induction n using Nat.strongRecOn with
 |ind n ih=>
  intro h
  by_cases q:∃m,m<n/\P m
  ·obtain⟨m,c,d⟩:=q;obtain⟨k,hk,a,b⟩:=ih m c d;show#[k,∅,a,b]
  ·show#[n,Ls _,h,λm c d=>q #[m,c,d]]
def lQ {α:Type}[Od α]{xs ys:Lf α}(h:xs.Nodup)(s:∀x∈xs,x∈ys):↥xs<=↥ys:=by
 induction xs generalizing ys with
 |nil=>show MS _
 |cons x xs ih=>
  obtain⟨c,d⟩:=MV.mp h;have a:=s x (.head _);have:=ih (ys:=ys.erase x) d λy b=>by
   show(PF λe:y=x=>c (e▸b)).mpr (s y (.tail _ b))
  rw[OY a]at this;have:=Nk a;rw[L3];omega
def room {t:Mc}{n:Ll}(b:⇑t.place=n)(h:n<=t.mask):∃j,j<=t.mask/\¬ mU t j:=Nh λz=>by
 have all:∀j∈LR (t.mask+1),j∈t.place.toList:=λj a=>Nh λhz=>z #[j,by have:=LG.mp a;omega,λ#[i,hi]=>hz (by rw[NW];show Oa hi)]
 have:=lQ M0 all;rw[L0,Lz]at this;omega
def tY {t:Mc}(Mqa:Msk t.mask){n:Ll}(f:⇑t.place=n)(hl:n<=t.mask)(h:LC):∃k,k<10*Ny t.mask/\¬ mU t (way t h k).j/\∀m,m<k->mU t (way t h m).j:=by
 obtain⟨j,c,g⟩:=room f hl;obtain⟨k,hk,e⟩:=CV Mqa h c;obtain⟨i,l,a,b⟩:=least (P:=λk=>¬ mU t (way t h k).j) k (by rw[e];show g)
 show#[i,by show MH ‹_› ‹_›,a,λm d=>Nh (b m d)]
def j5 {t:Mc}{h:LC}:∀k,(way t h k).dummy=gV
 |0=>rfl
 |k+1=>by
  show(t.advance (way t h k)).dummy=gV;unfold PL;split
  ·show j5 k
  ·show j5 k
section
variable{es:LY (LC×T)}{t:Mc}{h:LC}{k0:Ll}
noncomputable abbrev CZ (es:LY (LC×T)):Ll->LC:=λi=>(es[i]?.map (·.1)).getD 0
def FB (l:B3 t.place)(hd:t.dummies=#[])(p:¬ mU t (way t h k0).j)(b0:∀m,m<k0->mU t (way t h m).j):∀f k,k<=k0->k0-k<f->
  Om t (CZ es) h f (way t h k)=ba (.empty (way t h k0).j gV)/\(∀d e,k<=d->d<k0->t.place[e]?=ba (way t h d).j->CZ es e≠h)\/
  ∃m i,k<=m/\m<k0/\t.place[i]?=ba (way t h m).j/\Om t (CZ es) h f (way t h k)=ba (.candidate (way t h m).j i (way t h (m+1)))/\∀d e,k<=d->d<m->t.place[e]?=ba (way t h d).j->CZ es e≠h:=by
 intro f
 induction f with
 |zero=>intro k _ hf;show absurd hf (OM _)
 |succ f ih=>
  intro k hk hf;unfold Om;rcases Pk hk with rfl|j
  ·rw[tW hd p,j5];show .inl #[rfl,λd e a b=>∅]
  ·obtain⟨i,hi⟩:=b0 k j;rw[nQ l hi];dsimp only
   by_cases q:CZ es i=h
   ·show .inr #[k,i,Ls _,j,hi,?_,λd e s o=>∅]
    rw[LU (by rw[q];show MK _)]
    rfl
   ·rw[L1 (λz=>q (eq_of_beq z))]
    have one:∀d e,k<=d->t.place[e]?=ba (way t h d).j->(k+1<=d->CZ es e≠h)->CZ es e≠h:=λd e a c g=>by
     rcases Pk a with rfl|a
     ·obtain rfl:e=i:=(gP l c).symm.trans (gP l hi);show q
     ·show g a
    rcases ih (k+1) j ∅with⟨r,r2⟩|⟨m,i2,s,o,h3,h4,h5⟩
    ·show .inl #[r,λd e a b c=>one d e a c λn=>r2 d e n b c]
    ·show .inr #[m,i2,∅,o,h3,h4,λd e a b c=>one d e a c λn=>h5 d e n b c]
def C0 (B:Tab es t){x:T}(v:¬ mU t (way t (aH x) k0).j)(b0:∀m,m<k0->mU t (way t (aH x) m).j)(A:k0<10*Ny t.mask):∀F k,k<=k0->k0-k<F->
  (bD es t x (aH x) F (ba (way t (aH x) k))=ba .there/\x∈es.toList.map (·.2))\/
  (bD es t x (aH x) F (ba (way t (aH x) k))=ba (.free (way t (aH x) k0).j)/\∀(m i:Ll) (e:LC×T),k<=m->m<k0->t.place[i]?=ba (way t (aH x) m).j->es[i]?=ba e->e.2≠x):=by
 intro F
 induction F with
 |zero=>intro k _ hf;show absurd hf (OM _)
 |succ F ih=>
  intro k hk hf;have h:∀{i j:Ll},t.place[i]?=ba j->∃e,es[i]?=ba e:=λ{i j} hi=>by
   obtain⟨p,_⟩:=Ml.mp hi;show#[es[i]'(by rw[<- B.sz];show p),Mx _]
  have f:∀{i:Ll}{e:LC×T},es[i]?=ba e->CZ es i=aH e.2:=λ{i e} g=>by
   show(es[i]?.map (·.1)).getD 0=_
   rw[g];show B.hs e (by rw[NW];show Oa g)
  unfold bD;have w:t.probe (λi=>(es[i]?.map (·.1)).getD 0) (aH x) ((ba (way t (aH x) k)).getD (t.probeStart (aH x)))=Om t (CZ es) (aH x) (10*Ny t.mask) (way t (aH x) k):=rfl
  rw[w];rcases FB (es:=es) B.inc B.dm v b0 (10*Ny t.mask) k hk ∅with⟨r,r2⟩|⟨m,i,p,h2,h3,h4,h5⟩
  ·rw[r];show .inr #[rfl,λm i e a b c d z=>r2 m i a b c ((f d).trans (by rw[z]))]
  ·rw[h4];obtain⟨e,g⟩:=h h3;dsimp only;rw[g];obtain⟨y,o⟩:=e;dsimp only
   by_cases q:o=x
   ·rw[LU q];show .inl #[rfl,Lr.mpr #[(y,o),by rw[NW];show Oa g,q]]
   ·rw[L1 q,LU (nQ B.inc h3)];rcases ih (m+1) h2 ∅with r|⟨r1,r2⟩
    ·show .inl r
    ·show .inr #[r1,λn l u a b c d z=>?_]
     rcases Qo n m with s|rfl|s
     ·show h5 n l a s c ((f d).trans (by rw[z]))
     ·have:l=i:=(gP B.inc c).symm.trans (gP B.inc h3);subst this;rw[g]at d;cases d;show q z
     ·show r2 n l u s b c d z
def Tab.le_mask (B:Tab es t):⇑es<=t.mask:=by have:=B.few;omega
def Msk.turns {m:Ll}(h:Msk m):10*Ny m<=1420:=by cases h<;>decide
def xx (B:Tab es t)(x:T):(bD es t x (aH x) 2000 gV=ba .there/\x∈es.toList.map (·.2))\/
  ∃k,bD es t x (aH x) 2000 gV=ba (.free (way t (aH x) k).j)/\¬ mU t (way t (aH x) k).j/\(∀m,m<k->mU t (way t (aH x) m).j)/\x∉es.toList.map (·.2):=by
 obtain⟨k,hk,a,b0⟩:=tY B.msk B.sz B.le_mask (aH x);have j:=B.msk.turns;rw[show bD es t x (aH x) 2000 gV=bD es t x (aH x) 2000 (ba (way t (aH x) 0))from rfl]
 rcases C0 B a b0 hk 2000 0 (MS _) ∅with r|⟨r1,r2⟩
 ·show .inl r
 ·show .inr #[k,r1,a,b0,λz=>?_]
  obtain⟨e,d,rfl⟩:=Lr.mp z;obtain⟨i,hi⟩:=QD d;rw[MX]at hi;obtain⟨h,_⟩:=Ml.mp hi;have b:t.place[i]?=ba (t.place[i]'(by rw[B.sz];show h)):=Mx _
  obtain⟨f,c,g⟩:=B.rc i _ e b hi;rw[B.hs e d]at c g;rcases Qo f k with s|rfl|s
  ·show r2 f i e (MS _) s (by rw[c];show b) hi rfl
  ·show a (by rw[c];show#[i,b])
  ·show a (g k s)
end
def zE {t t':Mc}(h:t'.mask=t.mask)(p:O9):t'.advance p=t.advance p:=by
 unfold PL;rw[h]
def eO {t t':Mc}(h:t'.mask=t.mask)(x:LC):∀k,way t' x k=way t x k
 |0=>by
  change t'.probeStart x=t.probeStart x;unfold Wj;rw[h]
 |k+1=>by
  change t'.advance (way t' x k)=t.advance (way t x k);rw[eO h x k,zE h]
def FC {t:Mc}(hd:t.dummies=#[])(j:Ll):t.put j=({t with place:=L4 t.place (Mz t.place j) j},Mz t.place j):=by
 unfold WV;dsimp only;rw[L1];rw[hd];simp[VP]
def pB {t:Mc}{j:Ll}:mU t j↔j∈t.place.toList:=by
 constructor
 ·rintro⟨i,h⟩;rw[NW];show Oa h
 ·intro h;obtain⟨i,hi⟩:=QD h;show#[i,by rw[MX]at hi;show hi]
def zF {α β:Type}{xs:LY α}{ys:LY β}(h:⇑xs=⇑ys){a:α}{b:β}:(a,b)∈xs.toList.zip ys.toList↔∃i:Ll,xs[i]?=ba a/\ys[i]?=ba b:=by
 constructor
 ·intro e;obtain⟨i,hi⟩:=QD e;rw[Rr]at hi;show#[i,by simpa using hi.1,by simpa using hi.2]
 ·rintro⟨i,c,d⟩;show LD (i:=i) ?_;rw[Rr];show#[by simpa using c,by simpa using d]
structure Tb0 (es:LY (LC×T))(t:Mc):Prop where
 msk:Msk t.mask
 dm:t.dummies=#[]
 sz:⇑t.place=⇑es
 inc:B3 t.place
 le:∀j,mU t j->j<=t.mask
 hs:∀e∈es.toList,e.1=aH e.2
 nd:(es.toList.map (·.2)).Nodup
 rc:∀(i j:Ll) (e:LC×T),t.place[i]?=ba j->es[i]?=ba e->∃k,(way t e.1 k).j=j/\∀m,m<k->mU t (way t e.1 m).j
def Tb0.tab {es:LY (LC×T)}{t:Mc}(B:Tb0 es t)(h:5*⇑es<3*t.mask):Tab es t:=#[B.msk,B.dm,B.sz,B.inc,B.le,h,B.hs,B.nd,B.rc]
def zG {t:Mc}{h:LC}{k:Ll}:(way t h k).j<=t.mask:=by
 have:∀k,∃i p d,i<=t.mask/\d<=nP t.mask i/\way t h k={pb t.mask i p with j:=i+d,more:=nP t.mask i-d}:=λk=>by
  induction k with
  |zero=>show#[_,_,0,zD (h:=h) 0,MS _,rfl]
  |succ k ih=>
   obtain⟨i,p,d,hi,hd,e⟩:=ih;change ∃i p d,_/\_/\t.advance (way t h k)=_;rw[e];unfold PL;dsimp only
   by_cases q:nP t.mask i-d > 0
   ·rw[LU q];show#[i,p,d+1,hi,∅,?_]
    simp only[RJ,and_true,true_and,pb];omega
   ·rw[L1 q];show#[_,_,0,Ry (P6 _ (RX _)),MS _,rfl]
 obtain⟨i,p,d,hi,hd,e⟩:=this k;rw[e];change i+d<=t.mask;unfold nP P4 at hd;split at hd<;>omega
def C3 {es:LY (LC×T)}{t:Mc}(B:Tab es t){x:T}{k:Ll}(g:¬ mU t (way t (aH x) k).j)(b0:∀m,m<k->mU t (way t (aH x) m).j)(u:x∉es.toList.map (·.2)) :
  Tb0 (L4 es (Mz t.place (way t (aH x) k).j) (aH x,x)) {t with place:=L4 t.place (Mz t.place (way t (aH x) k).j) (way t (aH x) k).j}/\(L4 es (Mz t.place (way t (aH x) k).j) (aH x,x)).size=⇑es+1:=by
 generalize n:(way t (aH x) k).j=j at g;generalize s:Mz t.place j=p;generalize f:({t with place:=L4 t.place p j}:Mc)=t'
 have d:t'.mask=t.mask:=by rw[<- f]
 have a:t'.place=L4 t.place p j:=by rw[<- f]
 have c:∀i,mU t' i↔mU t i\/i=j:=λi=>by
  rw[pB,a,dh,pA,pB]
 have se:(L4 es p (aH x,x)).size=⇑es+1:=by
  rw[<- Lz,dh,(jy).length_eq,L3,Lz]
 have sp:⇑t'.place=⇑t.place+1:=by
  rw[a,<- Lz,dh,(jy).length_eq,L3,Lz]
 have o:⇑t'.place=(L4 es p (aH x,x)).size:=by rw[se,sp,B.sz]
 show#[#[d▸B.msk,by rw[<- f];show B.dm,o,?_,λi hi=>?_,λe l=>?_,?_,λi w e q r=>?_],se]
 ·rw[a,<- s];show CW B.inc λi hi=>g #[i,hi]
 ·rw[d];rcases(c i).mp hi with h|rfl
  ·show B.le i h
  ·rw[<- n];show zG
 ·rw[dh,pA]at l;rcases l with h|rfl
  ·show B.hs e h
  ·rfl
 ·rw[dh];show((jy).map _).nodup_iff.mpr ?_;rw[Mj,MV];show#[u,B.nd]
 ·have hz:=(zF o).mpr #[i,q,r];rw[a,dh,dh,CY p _ _ (by rw[Lz,Lz,B.sz]),pA]at hz
  rcases hz with h|h
  ·obtain⟨v,z,A⟩:=(zF B.sz).mp h;obtain⟨y,C,w2⟩:=B.rc v w e z A;show#[y,by rw[eO d];show C,λm b=>(c _).mpr (.inl (by rw[eO d];show w2 m b))]
  ·cases h;show#[k,by rw[eO d];show n,λm b=>(c _).mpr (.inl (by rw[eO d];show b0 m b))]
abbrev Fr (o:LY (Ln Ll))(j:Ll):Prop:=o[j]?=ba gV
def tZ {o:LY (Ln Ll)}{j:Ll}:(o.getD j (ba 0)).isNone=true↔Fr o j:=by
 unfold Fr
 by_cases h:j<⇑o
 ·simp[NH,h]
 ·simp[NH,h]
def vw {o:LY (Ln Ll)}{t:Mc}{h:LC}:∀(f s c:Ll),(∃a,s<=a/\a<s+f/\Fr o (gK t.mask h a).1)->way t h c=pb t.mask (gK t.mask h s).1 (gK t.mask h s).2->
  ∃b,Ot t.mask o f (gK t.mask h s).1 (gK t.mask h s).2=ba (way t h b).j/\c<=b/\Fr o (way t h b).j/\∀d,c<=d->d<b->¬ Fr o (way t h d).j
 |0,s,c,#[a,j,u,_],_=>∅
 |f+1,s,c,#[a,j,u,l],e=>by
  have i:=tU e;have g:P4 t.mask (gK t.mask h s).1+1-(gK t.mask h s).1=nP t.mask (gK t.mask h s).1+1:=by
   unfold nP P4;split<;>omega
  unfold Ot;rw[g];cases hf:(LR (nP t.mask (gK t.mask h s).1+1)).find? λk=>(o.getD ((gK t.mask h s).1+k) (ba 0)).isNone with
  |some k=>
   obtain⟨w,p2,x⟩:=List.find?_range_eq_some.mp hf;have hk:k<=nP t.mask (gK t.mask h s).1:=by have:=LG.mp p2;omega
   have r:(way t h (c+k)).j=(gK t.mask h s).1+k:=by rw[i k hk]
   show#[c+k,by rw[r],∅,by rw[r];show tZ.mp w,λd v m z=>?_]
   have n:=x (d-c) ∅
   have wd:(way t h d).j=(gK t.mask h s).1+(d-c):=by
    rw[show d=c+(d-c) by omega,i (d-c) ∅]
    change _+_=_+(c+(d-c)-c);omega
   rw[wd]at z;rw[tZ.mpr z]at n;cases n
  |none=>
   have p:∀k,k<=nP t.mask (gK t.mask h s).1->¬ Fr o ((gK t.mask h s).1+k):=λk hk z=>by
    have:=To.mp hf k (LG.mpr (Px ‹_›));show this (tZ.mpr z)
   have hs:s+1<=a:=by
    rcases Pk j with rfl|q
    ·show absurd l (p 0 (MS _))
    ·show q
   obtain⟨b,y,C,A,B⟩:=vw f (s+1) (c+nP t.mask (gK t.mask h s).1+1) #[a,hs,∅,l] (rg e)
   show#[b,y,∅,A,λd v m z=>?_]
   by_cases q:d<=c+nP t.mask (gK t.mask h s).1
   ·have wd:(way t h d).j=(gK t.mask h s).1+(d-c):=by
     rw[show d=c+(d-c) by omega,i (d-c) ∅]
     change _+_=_+(c+(d-c)-c);omega
    rw[wd]at z;show p (d-c) ∅ z
   ·show B d ∅ m z
structure Ly (t:Mc)(hs:Lf LC)(o:LY (Ln Ll)):Prop where
 sz:⇑o=t.mask+1
 lt:∀(j a:Ll),o[j]?=ba (ba a)->a<↥hs
 ex:∀a,a<↥hs->∃j:Ll,o[j]?=ba (ba a)
 inj:∀j j' a:Ll,o[j]?=ba (ba a)->o[j']?=ba (ba a)->j=j'
 rc:∀(j a:Ll) (h:LC),o[j]?=ba (ba a)->hs[a]?=ba h->∃k,(way t h k).j=j/\∀d,d<k->¬ Fr o (way t h d).j
def Ly.room {t:Mc}{hs:Lf LC}{o:LY (Ln Ll)}(Yx:Ly t hs o)(h:↥hs<=t.mask):∃j,j<=t.mask/\Fr o j:=Nh λz=>by
 have val:∀j,j<=t.mask->∃a,o[j]?=ba (ba a):=λj g=>by
  have c:j<⇑o:=by rw[Yx.sz];show Px ‹_›
  cases e:o[j]with
  |none=>show absurd #[j,g,by unfold Fr;rw[Mx c,e]] z
  |some a=>show#[a,by rw[Mx c,e]]
 have nd:((LR (t.mask+1)).map λj=>((o[j]?).join).getD 0).Nodup:=by
  unfold Tp;rw[NI];show P0 (λ{a b} f l i=>?_) M0
  intro e;obtain⟨x,d⟩:=val a (by have:=LG.mp f;omega)
  obtain⟨y,k⟩:=val b (by have:=LG.mp l;omega)
  rw[d,k]at e;have e:x=y:=e;subst e;show i (Yx.inj a b x d k)
 have:=lQ (ys:=LR ↥hs) nd λa f=>by
  obtain⟨j,g,rfl⟩:=Lr.mp f;obtain⟨x,d⟩:=val j (by have:=LG.mp g;omega)
  rw[d];show LG.mpr (Yx.lt j x d)
 rw[Lh,L0,L0]at this;omega
def FD {o:LY (Ln Ll)}{j i:Ll}{v:Ln Ll}(a:j<⇑o):(o.setIfInBounds j v)[i]?=if i=j then ba v else o[i]?:=by
 rw[Array.getElem?_setIfInBounds]
 by_cases h:j=i
 ·subst h;simp[a]
 ·rw[L1 h,L1 (Ne.symm h)]
def Ly.step {t:Mc}(Mqa:Msk t.mask){hs:Lf LC}{o:LY (Ln Ll)}(Yx:Ly t hs o)(hl:↥hs<=t.mask)(h:LC):∃j,Ot t.mask o (Ny t.mask) (NZ h % (t.mask+1)) (NZ h)=ba j/\Ly t (hs++[h]) (o.setIfInBounds j (ba ↥hs)):=by
 obtain⟨D,r,p⟩:=Yx.room hl;obtain⟨s,A,es⟩:=Mqa.hit h r;obtain⟨c,x,_,n,B⟩:=vw (o:=o) (t:=t) (h:=h) (Ny t.mask) 0 0 #[s,MS _,by unfold Ny;omega,by rw[es];show p] rfl
 generalize y:(way t h c).j=j at x n;have u:j<⇑o:=(Ml.mp n).1;have b:∀i,(o.setIfInBounds j (ba ↥hs))[i]?=if i=j then ba (ba ↥hs)else o[i]?:=λi=>FD u
 have g:∀i,Fr (o.setIfInBounds j (ba ↥hs)) i->Fr o i:=λi z=>by
  unfold Fr at z;rw[b]at z
  by_cases e:i=j
  ·rw[LU e]at z;cases z
  ·rw[L1 e]at z;show z
 have w:(hs++[h]).length=↥hs+1:=by simp
 show#[j,x,#[by rw[Array.size_setIfInBounds];show Yx.sz,λi a e=>?_,λa v=>?_,λi m a e f=>?_,λi a h' e f=>?_]]
 ·rw[b]at e
  by_cases q:i=j
  ·rw[LU q]at e;cases e;omega
  ·rw[L1 q]at e;have:=Yx.lt i a e;omega
 ·rcases T3 a ↥hs with q|q
  ·obtain⟨i,hi⟩:=Yx.ex a q;show#[i,?_];rw[b,L1,hi];rintro rfl;unfold Fr at n;rw[n]at hi;cases hi
  ·show#[j,by rw[b,LU rfl,show a=↥hs by omega]]
 ·rw[b]at e f
  by_cases q:i=j
  ·by_cases l:m=j
   ·rw[q,l]
   ·rw[LU q]at e;rw[L1 l]at f;cases e
    show absurd (Yx.lt m _ f) (M6 _)
  ·by_cases l:m=j
   ·rw[L1 q]at e;rw[LU l]at f;cases f
    show absurd (Yx.lt i _ e) (M6 _)
   ·rw[L1 q]at e;rw[L1 l]at f
    show Yx.inj i m a e f
 ·rw[b]at e
  by_cases q:i=j
  ·rw[LU q]at e;cases e;rw[Nt (Ls _),VQ]at f;cases f;show#[c,by rw[y,q],λd hd z=>B d (MS _) hd (g _ z)]
  ·rw[L1 q]at e;have v:=Yx.lt i a e;rw[Mw v]at f;obtain⟨k,C,w2⟩:=Yx.rc i a h' e f;show#[k,C,λd hd z=>w2 d hd (g _ z)]
noncomputable abbrev C4 (m:Ll):Ln (LY (Ln Ll)×Ll)->LC->Ln (LY (Ln Ll)×Ll):=λacc h=>do
  let (owner,k) <- acc
  let j <- Ot m owner (Ny m) (NZ h % (m+1)) (NZ h)
  pure (owner.setIfInBounds j (ba k),k+1)
def Ly.all {t:Mc}(Mqa:Msk t.mask):∀(aU hs:Lf LC) (o:LY (Ln Ll)),Ly t hs o->↥hs+aU.length<=t.mask+1->∃o',aU.foldl (C4 t.mask) (ba (o,↥hs))=ba (o',↥hs+aU.length)/\Ly t (hs++aU) o'
 |[],hs,o,Yx,_=>#[o,rfl,by rw[NA];show Yx]
 |h::aU,hs,o,Yx,hl=>by
  rw[L3]at hl;obtain⟨j,e,c⟩:=Yx.step Mqa ∅ h
  obtain⟨o',b,a⟩:=Ly.all Mqa aU (hs++[h]) _ c (by rw[Lx];show _+1+_<=_;omega)
  show#[o',?_,by rw[N2]at a;show a]
  rw[UH,show C4 t.mask (ba (o,↥hs)) h=ba (o.setIfInBounds j (ba ↥hs),↥hs+1) by
   show(Ot t.mask o (Ny t.mask) (NZ h % (t.mask+1)) (NZ h)).bind _=_;rw[e];rfl]
  rw[Lx]at b;rw[show ↥hs+(h::aU).length=↥hs+1+aU.length by rw[L3];omega]
  show b
def FH {t:Mc}(Mqa:Msk t.mask){hs:LY LC}(hl:⇑hs<=t.mask+1):∃o,OR t.mask hs=ba o/\Ly t hs.toList o:=by
 have b:Ly t [] (R9 (t.mask+1) gV):=#[by simp,λj a e=>by simp[P1]at e,λa h=>absurd h (OM _),λj c a e=>by simp[P1]at e,λj a h e=>by simp[P1]at e]
 obtain⟨o,e,Yx⟩:=Ly.all Mqa hs.toList [] _ b (by simpa using hl)
 show#[o,?_,Yx];unfold OR;rw[<- Array.foldl_toList];change Option.map _ (hs.toList.foldl (C4 t.mask) (ba (R9 (t.mask+1) gV,0)))=_;have e:hs.toList.foldl (C4 t.mask) (ba (R9 (t.mask+1) gV,0))=ba (o,([]:Lf LC).length+↥hs.toList):=e;rw[e];rfl
def zH {α β:Type}{g:α->Ln β}{f:α->β}:∀{L:Lf α},(∀a∈L,g a=ba (f a))->L.filterMap g=L.map f
 |[],_=>rfl
 |a::L,h=>by rw[O1,h a (.head _),Mj,zH λb c=>h b (.tail _ c)]
abbrev c9 (m:Ll)(o:LY (Ln Ll)):Lf (Ll×Ll):=(LR (m+1)).filterMap λj=>(o.getD j gV).map (j,·)
def zI {m:Ll}{o:LY (Ln Ll)}(hz:⇑o=m+1){j a:Ll}:(j,a)∈c9 m o↔o[j]?=ba (ba a):=by
 unfold c9;rw[Q6];constructor
 ·rintro⟨i,hi,e⟩;rw[Lk]at e;obtain⟨b,d,f⟩:=e;cases f;have:j<⇑o:=by rw[hz];show LG.mp hi
  simpa [NH,this]using d
 ·intro e;have c:j<⇑o:=(Ml.mp e).1;show#[j,LG.mpr ∅,?_]
  rw[Lk];show#[a,?_,rfl];rw[Mx c]at e
  simpa [NH,c]using MR e
def rh {m:Ll}{o:LY (Ln Ll)}:(c9 m o).Pairwise λp q=>p.1<q.1:=by
 unfold c9;rw[List.pairwise_filterMap];show Wv (λ{a b} c p d q e=>?_) List.pairwise_lt_range
 rw[Lk]at d e;obtain⟨x,_,rfl⟩:=d;obtain⟨y,_,rfl⟩:=e;show c
abbrev xy (es:LY (LC×T))(a:Ll):LC×T:=(es[a]?).getD (0,.int 0)
def zJ {es:LY (LC×T)}{t t2:Mc}(Mqa:Msk t2.mask)(hl:⇑es<=t2.mask)(hs:∀e∈es.toList,e.1=aH e.2)(nd:(es.toList.map (·.2)).Nodup) :
  ∃(o:LY (Ln Ll)),OR t2.mask (es.map (·.1))=ba o/\∃c:LY (LC×T),((c9 t2.mask o).map (·.2)).toArray.filterMap (es[·]?)=c/\⇑c=⇑es/\(c.toList.map (·.2)).Perm (es.toList.map (·.2))/\∀m:Mc,m.mask=t2.mask->m.dummies=#[]->m.place=((c9 t2.mask o).map (·.1)).toArray->Tb0 c m:=by
 obtain⟨o,L,Yx⟩:=FH Mqa (hs:=es.map (·.1)) (by rw[M9];show Py ‹_›)
 have l:(es.map (·.1)).toList.length=⇑es:=by rw[Lz,M9]
 have r:=λ{j a:Ll}=>zI (j:=j) (a:=a) Yx.sz
 have A:∀p∈c9 t2.mask o,p.2<⇑es:=λp f=>by have:=Yx.lt p.1 p.2 (r.mp f);rwa [l]at this
 have B:∀a,a<⇑es->es[a]?=ba (xy es a):=λa h=>by
  unfold xy;rw[Mx h];rfl
 have G:((c9 t2.mask o).map (·.2)).Nodup:=by
  unfold Tp;rw[NI];show P0 (λ{p q} f N n e=>?_) rh
  have s:=r.mp f;have y:=r.mp N;rw[e]at s;have:=Yx.inj _ _ _ s y;omega
 have Q:((c9 t2.mask o).map (·.2)).Perm (LR ⇑es):=by
  show(Rl G M0).mpr λa=>?_
  rw[LG,Lr];constructor
  ·rintro⟨p,f,rfl⟩;show A p f
  ·intro h;obtain⟨j,C⟩:=Yx.ex a (by rw[l];show h)
   show#[(j,a),r.mpr C,rfl]
 have x:(((c9 t2.mask o).map (·.2)).toArray.filterMap (es[·]?)).toList=((c9 t2.mask o).map (·.2)).map (xy es):=by
  rw[Array.toList_filterMap];show zH λa h=>?_
  obtain⟨p,f,rfl⟩:=Lr.mp h;show B _ (A p f)
 have R:(LR ⇑es).map (xy es)=es.toList:=by
  apply NV
  ·simp
  ·intro i s y;have hi:i<⇑es:=by simpa using s
   have:=B i hi;rw[Mx hi]at this;simp only[Qv,Tq];rw[<- MR this];simp
 have w:((((c9 t2.mask o).map (·.2)).toArray.filterMap (es[·]?)).toList).Perm es.toList:=by
  rw[x,<- R];show Q.map _
 show#[o,L,_,rfl,?_,w.map _,λm E J P=>?_]
 ·rw[<- Lz,w.length_eq,Lz]
 have z:m.place.toList=(c9 t2.mask o).map (·.1):=by rw[P]
 generalize H:((c9 t2.mask o).map (·.2)).toArray.filterMap (es[·]?)=c at x w
 have S:⇑m.place=⇑c:=by rw[<- Lz,<- Lz,z,x];simp
 have v:∀j,mU m j↔∃a,o[j]?=ba (ba a):=λj=>by
  rw[pB,z,Lr];constructor
  ·rintro⟨⟨O,a⟩,f,rfl⟩;show#[a,r.mp f]
  ·rintro⟨a,h⟩;show#[(j,a),r.mpr h,rfl]
 show#[E▸Mqa,J,S,?_,λj C=>?_,λe h=>hs e (w.mem_iff.mp h),(w.map _).nodup_iff.mpr nd,λi j e s y=>?_]
 ·rw[tX,z,NI];show rh
 ·obtain⟨a,h⟩:=(v j).mp C;have:=(Ml.mp h).1;rw[Yx.sz]at this;omega
 ·have u:((c9 t2.mask o).map (·.1))[i]?=ba j:=by rw[<- z];simpa using s
  have g:(((c9 t2.mask o).map (·.2)).map (xy es))[i]?=ba e:=by rw[<- x];simpa using y
  rw[Lu,Lk]at u;obtain⟨⟨O,a⟩,f,rfl⟩:=u;rw[Lu,Lu,f]at g;have g:xy es a=e:=MR g;have I:=LD f;have D:=r.mp I;have M:(es.map (·.1)).toList[a]?=ba e.1:=by
   rw[MX,P8,B a (A _ I),g];rfl
  obtain⟨k,U,w2⟩:=Yx.rc _ _ _ D M;show#[k,by rw[eO E];show U,λd hd=>(v _).mpr ?_]
  rw[eO E];have n:(way t2 e.1 d).j<⇑o:=by rw[Yx.sz];show Px zG
  cases q:o[(way t2 e.1 d).j]with
  |none=>show absurd (show Fr o _ by unfold Fr;rw[Mx n,q]) (w2 d hd)
  |some b=>show#[b,by rw[Mx n,q]]
def Msk.odd {m:Ll}(h:Msk m):(m % 2==0)=false/\7<=m/\m<=127:=by cases h<;>decide
def zK {es:LY (LC×T)}{t:Mc}(B:Tb0 es t)(h:⇑es<=t.mask):dg t ⇑es=true:=by
 unfold dg SW Vx WE;obtain⟨a,_,b⟩:=B.msk.odd;rw[a,B.sz,B.dm];simp;omega
def zL {n m:Ll}(Mqa:Msk m)(e:5*n<3*m)(f:3*m<=5*(n+1))(h:n<76):∃d,Msk d/\P9 (Pa (n+1))=d+1/\5*(n+1)<3*d:=by
 cases Mqa with
 |a=>
  obtain rfl:n=4:=∅
  show#[31,.b,#v[],#v[]]
 |b=>
  obtain rfl:n=18:=∅
  show#[127,.c,#v[],#v[]]
 |c=>omega
def FJ {es:LY (LC×T)}{t:Mc}(B:Tab es t)(x:T)(l:⇑es<76):∃d t',bv aH (es,t) x=ba (d,t')/\Tab d t'/\∀y,y∈d.toList.map (·.2)↔y∈es.toList.map (·.2)\/y=x:=by
 rcases xx B x with⟨e,n⟩|⟨k,e,A,b0,n⟩
 ·show#[es,t,?_,B,λy=>#[.inl,λh=>h.elim id λq=>q▸n]]
  unfold bv;dsimp only;rw[e]
 ·obtain⟨c,v⟩:=C3 B A b0 n;generalize L:(way t (aH x) k).j=j at *
  have b:∀y,y∈(L4 es (Mz t.place j) (aH x,x)).toList.map (·.2)↔y∈es.toList.map (·.2)\/y=x:=λy=>by
   rw[dh,((jy).map _).mem_iff,Mj,LQ];show or_comm
  have bf:=B.few;have z:=c;unfold bv;dsimp only;rw[e];dsimp only;rw[FC B.dm];dsimp only;generalize u:L4 es (Mz t.place j) (aH x,x)=es1 at *
  generalize m:({t with place:=L4 t.place (Mz t.place j) j}:Mc)=t1 at *
  have H:t1.mask=t.mask:=by rw[<- m]
  have E:⇑es1<=t1.mask:=by
   obtain⟨_,M,_⟩:=B.msk.odd;omega
  rw[LU (zK c E)];have s:t1.fill=⇑es1:=by
   unfold Vx;rw[c.dm,c.sz];rfl
  by_cases q:t1.tooFull=true
  ·rw[LU q];have I:3*t.mask<=5*(⇑es+1):=by
    unfold Uq at q;rw[s,H,LJ]at q;omega
   obtain⟨a,M2,w,D⟩:=zL B.msk bf I l;rw[LU (by rw[w,MF];have:=M2.odd;omega)]
   obtain⟨o,C,f,i,g,pm,J⟩:=zJ (es:=es1) (t:=t1) (t2:={t1 with mask:=a}) M2 (by change ⇑es1<=a;omega) c.hs c.nd
   have p:t1.relaid (es1.map (·.1)) (Pa (⇑es+1))=ba ({mask:=a,place:=((c9 a o).map (·.1)).toArray,dummies:=#[],finger:=t1.finger,led:=t1.led,moves:=t1.movedTo a,plain:=t1.plain},((c9 a o).map (·.2)).toArray):=by
    unfold UN Vv;rw[w,show a+1-1=a by omega,show OR a (es1.map (·.1))=ba o from C]
    rfl
   rw[p];dsimp only;have i:((c9 a o).map (·.2)).toArray.filterMap (es1[·]?)=f:=i
   rw[i];have r:=J {mask:=a,place:=((c9 a o).map (·.1)).toArray,dummies:=#[],finger:=t1.finger,led:=t1.led,moves:=t1.movedTo a,plain:=t1.plain} rfl rfl rfl
   have G:⇑f<=a:=by rw[g,v];omega
   rw[LU #[g,zK r G]];show#[_,_,rfl,r.tab (by change 5*⇑f<3*a;rw[g,v];show D),λy=>?_]
   rw[pm.mem_iff];show b y
  ·rw[L1 q];show#[_,_,rfl,c.tab ?_,b];unfold Uq at q;rw[s,LJ]at q;omega
def vx {Uqa:Lf T}(l:↥Uqa<76):∀(ks:Lf T) (es:LY (LC×T)) (t:Mc),Tab es t->(∀x∈ks,x∈Uqa)->(∀x∈es.toList.map (·.2),x∈Uqa)->∃a t',ks.foldlM (bv aH) (es,t)=ba (a,t')/\Tab a t'/\∀y,y∈a.toList.map (·.2)↔y∈es.toList.map (·.2)\/y∈ks
 |[],es,t,B,_,_=>#[es,t,rfl,B,λy=>#[.inl,λh=>h.elim id λz=>nomatch z]]
 |x::ks,es,t,B,hk,e=>by
  have hl:=lQ B.nd e;rw[Lh,Lz]at hl;obtain⟨b,n,j,g,f⟩:=FJ B x (MH ‹_› ‹_›);obtain⟨c,t2,k,i,m⟩:=vx l ks b n g (λy d=>hk y (.tail _ d)) λy d=>((f y).mp d).elim (e y) λq=>q▸hk x (.head _)
  show#[c,t2,?_,i,λy=>?_]
  ·rw[Pc,j];show k
  ·rw[m,f,LQ,or_assoc]
def xz {l:L7}:Tab #[] (.fresh 0 0 l):=#[.a,rfl,rfl,λi k _ h=>absurd h (OM _),λj #[i,h]=>by simp[Va]at h,LL rfl,λe h=>(nomatch h),Rm,λi j e h=>by simp[Va]at h]
def C5 {es:LY (LC×T)}{t:Mc}(B:Tab es t):eH t ⇑es=true:=by
 unfold eH;rw[Lp,LJ,LN];show#[?_,λi hi=>Nc ?_]
 ·have c:=im B.inc 0;rcases Pn (Mz t.place 0)with q|q
  ·show q
  ·show absurd (c.lo 0 q) (OM _)
 ·have hi:i<⇑t.place:=by rw[B.sz];show LG.mp hi
  have c:=im B.inc (t.place.getD i 0+1);rcases Qo (Mz t.place (t.place.getD i 0+1)) (i+1)with q|q|q
  ·have:=c.hi i ∅ hi
   omega
  ·show q
  ·have a:=c.lo (i+1) q;have:=B.inc i (i+1) (M7 _) (by have:=c.le;show LZ ‹_› ‹_›)
   omega
def zM {ks Uqa:Lf T}(a:↥Uqa<76)(hk:∀x∈ks,x∈Uqa):∃us,kK ks=ba us/\us.Nodup/\∀y,y∈us↔y∈ks:=by
 obtain⟨es,t,e,B,m⟩:=vx a ks #[] (.fresh 0 0 true) xz hk λx h=>(nomatch h)
 show#[es.toList.map (·.2),?_,B.nd,λy=>?_]
 ·unfold kK nO;rw[e];dsimp only;rw[LU (C5 B)]
 ·rw[m];show#[λh=>h.elim (λz=>nomatch z) id,.inr]
abbrev zN (k:T):L7:=eM k&&k.isTup&&decide (k.depth<=aA)
abbrev lR (xs:Lf W)(S:aa):Ln (W×aa):=match xs with
 |[.ref i]=>match gJ S i with
  |some ws=>match W.ts ws with
   |some ks=>if ks.all zN then(kK ks).map λus=>(.ref ↥S,S++[.stt us])else gV
   |none=>gV
  |none=>gV
 |_=>gV
abbrev G5 (S:aa)(i:Ll):Ln (Lf T):=match S[i]? with
 |some (.stt us)=>ba us
 |_=>gV
abbrev lS (us:Lf T):L7:=us.all eM&&ft us&&decide us.Nodup&&iZ us
abbrev di (xs:Lf W)(S:aa):Ln (W×aa):=match xs with
 |[.ref i]=>match G5 S i with
  |some us=>if lS us then ba (.ref ↥S,S++[.lst (T.ws (fu us))])else gV
  |none=>gV
 |_=>gV
abbrev lT (xs:Lf W)(S:aa):Ln (W×aa):=match xs with
 |[.ref i]=>match CP S i with
  |some (lo,hi)=>if -(2^62)<=lo/\lo<2^62/\-(2^62)<=hi/\hi<2^62/\(hi-lo).toNat<=sizeLine then ba (.tup (HM lo (hi-lo).toNat),S)else gV
  |none=>lC [.ref i] S
 |xs=>lC xs S
def zO:∀ks:Lf T,T.ws ks=ks.map T.w
 |[]=>rfl
 |x::xs=>by simp only[T.ws,Mj,zO xs]
def xA {h:MD}{us vs:Lf Lj}(p:us.Perm vs):∀{ks:Lf T},IsTs h ks vs->∃d,IsTs h d us/\d.Perm ks:=by
 induction p with
 |nil=>intro ks i;show#[ks,i,.refl _]
 |cons x p ih=>
  intro ks i;cases i with
  |cons a b=>obtain⟨d,e,f⟩:=ih b;show#[_,.cons a e,f.cons _]
 |swap x y l=>
  intro ks i;cases i with
  |cons a b=>cases b with
   |cons b c=>show#[_,.cons b (.cons a c),.swap _ _ _]
 |trans p q g j=>
  intro ks i;obtain⟨d,e,f⟩:=j i;obtain⟨is,k,m⟩:=g e;show#[is,k,m.trans f]
def zP {p:T->L7}{b ks:Lf T}(h:b.Perm ks):b.all p=ks.all p:=by
 rw[QL,LN,LN];show#[λq x a=>q x (h.mem_iff.mpr a),λq x a=>q x (h.mem_iff.mp a)]
def zQ {a ks:Lf T}(h:a.Perm ks):tK a=tK ks:=by unfold tK;simp only[zP h]
def jA:∀{ks:Lf T}{d:Ll},(∀x∈ks,x.depth<=d)->T.depths ks<=d
 |[],_,_=>MS _
 |x::ks,d,h=>by
  have b:=h x (.head _);have c:=jA λy a=>h y (.tail _ a)
  simp only[T.depths];omega
def nR {h:MD}{a:Lf T}{us:Lf Lj}(r:IsTs h a us):∀is:Lf Ll,(∀i∈is,i<↥a)->IsTs h (is.map λi=>a.getD i (.int 0)) (is.map λi=>us.getD i .none)
 |[],_=>.nil
 |i::is,hl=>by
  have hi:=hl i (.head _);have b:i<↥us:=by rw[<- ↥r];show hi
  have c:a.getD i (.int 0)=a[i]:=by simp[hi]
  have d:us.getD i .none=us[i]:=by simp[b]
  have:=r.get i hi b;show .cons ?_ (nR r is λj e=>hl j (.tail _ e))
  change IsT h (a.getD i (.int 0)) (us.getD i .none);rw[c,d];show this
def xB {h:MD}{lt:Ll->Ll->L7}{a:Lf T}{us:Lf Lj}(r:IsTs h a us):IsTs h (dI lt (.int 0) a) (dI lt MG us):=by
 unfold dI;rw[<- ↥r];split
 ·show r
 ·show nR r _ λi hi=>lh ∅ i hi
section
variable{prog:Mn}{w:MB}{A:Ms}{E:Lj->Lm->Prop}{s:Lm}
def mV {Q:Lf Lj->Lm->Prop}{r:Lv}{a b c:LC}{t u v:WT}{n:Ll}(I:A.handled=gV)(B:Ww s.heap r a b c t u v)(k:QS a b c=true)
  (J:NT a b c=n) (z:n<=2^24)
  (G:∀h' m (d:LY Lj),(∀b o,s.heap.get? b=ba o->h'.get? b=ba o)->⇑s.heap.objs<=⇑h'.objs->RT (λi v=>∃t,v=.int (a+i*c) t) d n->Q d.toList {s with heap:=h',toks:=m}):wpAny (model prog w) A (collect (.ref r)) Q E s:=by
 unfold collect;show Lg (Qk (M4 F.entry_proto_collect ?_));rw[MW F.plain_proto_collect _];change wpAny _ A.in1 (newList [] >>= λl=>again (.builtin "list.__iadd__" #[[l,.ref r],[]])) _ _ s
 show Lg (MC ?_);show Lo #[NY F.plain_list_iadd _,M4 F.entry_list_iadd ?_];rw[MW F.plain_list_iadd _];change wpAny _ A.in1 (Nq (.ref ⇑s.heap.objs) (.ref r) (.ref ⇑s.heap.objs)) _ _ _;have H:(s.heap.push {cls:=.type "list",data:=.seq ([]:Lf Lj).toArray}).get? ⇑s.heap.objs=ba {cls:=.type "list",data:=.seq #[] 0}:=LI _ rfl;have p:∀q,(∃h' m d x,q={s with heap:=h',toks:=m}/\(∀b o,s.heap.get? b=ba o->h'.get? b=ba o)/\h'.get? ⇑s.heap.objs=ba {cls:=.type "list",dict:=gV,data:=.seq d x,slots:=#[]}/\RT (λi v=>∃t,v=.int (a+i*c) t) d n)->wpAny (model prog w) A (do
   let o <- load ⇑s.heap.objs
   match o.data with
   |.seq xs _=>pure xs.toList
   |_=>unsupported "internal:collect") Q E q:=by
  rintro q ⟨h',m,d,x,rfl,hk,j,g⟩;show Lg (RO j (Lo (G h' m d hk (Ni (LO j)) g)))
 show NR (wpAny_extend_range (A:=A) (s:={s with heap:=s.heap.push {cls:=.type "list",data:=.seq ([]:Lf Lj).toArray}}) (R:=λr q=>r=.ok (.ret (.ref ⇑s.heap.objs))/\∃h' m d x,q={s with heap:=h',toks:=m}/\(∀b o,s.heap.get? b=ba o->h'.get? b=ba o)/\h'.get? ⇑s.heap.objs=ba {cls:=.type "list",dict:=gV,data:=.seq d x,slots:=#[]}/\RT (λi v=>∃t,v=.int (a+i*c) t) d n) I (Li _ B) k J z _ _ 0 H λh' m y x hk j g=>#[rfl,h',m,y,x,rfl,λb o e=>hk b o (LX (LO e)) (Li _ e),j,g]) (λC q h=>?_) (λe q h=>?_)
 ·cases C with
  |done f=>
   obtain⟨e,h⟩:=h;cases e;show p q h
  |again x=>show#[h.1,Qf h.2 λr D B=>by obtain⟨rfl,B⟩:=B;show p D B]
 ·show absurd h.1 (by simp)
def j6 {Q₁:Lj->Lm->Prop}{r:Lv}{a b c:LC}{t u v:WT}{n:Ll}(z:A.handled=gV)(x:Ww s.heap r a b c t u v)(f:QS a b c=true)
  (C:NT a b c=n) (j:n<=2^24)
  (h:∀(h':MD) (q:Ll) (d:LY Lj),(∀b o,s.heap.get? b=ba o->h'.get? b=ba o)->⇑s.heap.objs<=⇑h'.objs->RT (λi v=>∃t,v=.int (a+i*c) t) d n->Q₁ (.ref ⇑h'.objs) {s with heap:=h'.push {cls:=.type "tuple",data:=.seq d},toks:=q}) :
  codeAny (model prog w) A (.call (.builtin "tuple.__new__") #[[.type "tuple",.ref r],[]]) (wants Q₁ E) s:=by
 show R4 ?_;change wpAny _ A.in1 (do checkBuiltinCall "tuple.__new__" #[[.type "tuple",.ref r],[]];again (.builtin "tuple.__new__" #[[.type "tuple",.ref r],[]])) _ _ s
 show Lg (Qd (F.newCall_tuple_1 _) (Lo #[NY F.plain_tuple_new _,M4 F.entry_tuple_new ?_]));rw[MW F.plain_tuple_new _];have y:=PySem.sub_tuple_self;have m:=PySem.init_tuple_lookup;have B:=PySem.madeHere_tuple;have k:s.TypeIs (.ref r) "range":=#[_,x,rfl];have l:A.in1.handled=gV:=by simp[z]
 wp_walk using Ph k,mV (A:=A.in1) l x f C j
 intro h' q d hk p g;change wpAny _ _ (NL d.toList.toArray >>= λv=>ret v) _ _ _
 unfold NL;show Lg (MC ?_ (by change ⇑d.toList.toArray<=sizeLine;simp only[Array.toArray_toList];rw[g.1,MF];assumption))
 show Lo ?_;have e:d.toList.toArray=d:=by simp
 rw[e];show h h' q d hk p g
def j7 {Q:Lj->Lm->Prop}{r:Lv}{a b c:LC}{t u v:WT}{n:Ll}(p:A.handled=gV)(x:Ww s.heap r a b c t u v)(g:QS a b c=true)
  (q:NT a b c=n) (j:n<=2^24)
  (m:∀(h':MD) (l:Ll) (f:LY Lj),(∀b o,s.heap.get? b=ba o->h'.get? b=ba o)->⇑s.heap.objs<=⇑h'.objs->RT (λi v=>∃t,v=.int (a+i*c) t) f n->Q (.ref ⇑h'.objs) {s with heap:=h'.push {cls:=.type "tuple",data:=.seq f},toks:=l}) :
  wpAny (model prog w) A (call (.type "tuple") [.ref r]) Q E s:=by
 show callType_codes (Q₁:=λobj d=>d.TypeIs obj "tuple"/\Q obj d) F.called_tuple (F.typeCall_tuple_1 _) F.entry_object_init
  (j6 (by simp[p]) x g q j λh' l f hk k h=>#[#[_,LI _ rfl,rfl],m h' l f hk k h]) λobj d e=>?_
 show#[e.1,F.args_object_init_2 obj _,object_init_meets F.called_tuple.init.lookup F.called_tuple.made #v[] prog w A.in1 _ d #[e.1,rfl,e.2]]
def rj {a:Lv}{o:Nr}{es:LY (LC×Lj)}{Z:Ll}{t:Mc}{ks:Lf T}{Q:Lj->Lm->Prop}(hh:A.handled=gV)(hu:A.units+12<cLine)(ho:s.heap.get? a=ba o)(S:o.ExactSet)(hd:o.data=.set es Z t)(hz:⇑es<=sizeLine)(O:t.fits ⇑es=true)(led:t.led = !fN w)(pl:t.plain=true->⇑es=0\/eH t ⇑es=true)
  (hT:IsTs s.heap ks (es.toList.map (·.2))) (k:lS ks=true)
  (h:∀D h' y dr c us,(∀b u,s.heap.get? b=ba u->h'.get? b=ba u)->⇑s.heap.objs<=D->h'.get? D=ba (seqObj "list" us.toArray c)->IsTs s.heap (fu ks) us->us.Perm (es.toList.map (·.2))->Q (.ref D) {s with heap:=h',toks:=y,drawn:=dr}) :
  wpAny (model prog w) A (call (.builtin "sorted") [.ref a]) Q E s:=by
 simp only[lS,Lp,LJ]at k;obtain⟨⟨⟨I,C⟩,U⟩,k⟩:=k;have P:Nice ks:=#[λx M=>LN.mp I x M,C,U]
 show PQ V4 VM VN (VO _) ?_;unfold O3.«sorted»;show Lg (m:=checkCount "sorted" 1 1 _) (Lo ?_);show Lg (qK (A:=A.in1) (by simp[hh]) ho S hd hz O led pl λz y dr us kp H V=>?_)
 obtain⟨n,l,f⟩:=xA V hT;simp only[iZ,Lp,LJ]at k;obtain⟨⟨h64,R⟩,k⟩:=k;have hl:↥us=↥ks:=by rw[l.length.symm,f.length_eq]
 have hJ:Nice n:=P.of_sub (λx M=>f.mem_iff.mp M) (f.nodup_iff.mpr P.nd)
 have L:2<=↥us->(tK n).isSome=true:=λB=>by
  have h3:(tK ks).isSome=true:=by
   rcases NP _ _▸k with h|h
   ·simp only[LJ]at h;omega
   ·simp only[Lp]at h;show h.1
  rw[zQ f];show h3
 have hdj:T.depths n<=cp:=jA λx M=>by
  obtain⟨i,hi,rfl⟩:=Nf.mp (f.mem_iff.mp M);show Lw (cC i hi) R
 show Lg (RD ?_ (by rw[MF];omega))
 have J:(z.push (seqObj "list" us.toArray 0)).get? ⇑z.objs=ba (seqObj "list" us.toArray 0):=LI _ rfl;have v:∀b o,s.heap.get? b=ba o->(z.push (seqObj "list" us.toArray 0)).get? b=ba o:=λb o e=>Li _ (kp b o e)
 have r:∀b o,s.heap.get? b=ba o->b≠⇑z.objs:=λb o e=>LX (LZ (LO e) H)
 change wpAny _ _ _ _ _ {s with heap:=z.push (seqObj "list" us.toArray 0),toks:=y,drawn:=dr}
 show Lg (MY (MU U8 #[_,J,rfl] UM ?_ (U9 _)));show nI (s:={s with heap:=z.push (seqObj "list" us.toArray 0),toks:=y,drawn:=dr}) (lt:=mQ n) (κ:=vd ((tK n).getD 0)) J ∅ (λB h' hk Q N=>?_) (λB h' hk i j hi W Q N=>?_) λh' c hk hD=>?_
 ·obtain⟨c,G⟩:=MM.mp (L B);rw[G]at N;show zv (s:={s with heap:=h',toks:=y,drawn:=dr}) (l.kept λb o _ e=>hk b o (r b o e) (v b o e)) B G N
 ·obtain⟨c,G⟩:=MM.mp (L B);rw[G];have hjl:=↥l;have p:i<↥n:=∅
  have q:j<↥n:=∅
  have g:=(l.kept (h':=h') λb o _ e=>hk b o (r b o e) (v b o e))
  have X:us.getD i MG=us[i]:=by simp[hi]
  have Y:us.getD j MG=us[j]:=by simp[W]
  rw[X,Y];have b1:=cC (ks:=n) i p;have b2:=cC (ks:=n) j q;show vf (s:={s with heap:=h',toks:=y,drawn:=dr}) (d:=cp) (c:=c) (by rw[aO,aO];unfold cp;omega) (Lw ‹_› ‹_›) (Lw ‹_› ‹_›) (g.get i p hi) (g.get j q W) (dP hJ.lt p q) (vg G (Mp p) (Mp q)) N
 ·show#[_,rfl,Lo #[_,rfl,h _ h' y dr c (dI (mQ n) MG us) (λb o e=>hk b o (r b o e) (v b o e)) H hD ?_ (dJ.trans V)]]
  rw[<- xv P f];show xB l
end
section
variable{X:Cx}{J:Lf (Lv×Nr)}{Y:L2.St}{H:Hp}{s:Lm}{A:Lf Lv}{S:aa}
def nS:∀as:Lf Lv,Vals (as.map V.ref) (as.map Mr)
 |[]=>.nil
 |_::as=>.cons rfl (nS as)
def zR:∀{ks:Lf T}{as:Lf Lv},RelL X.K A H (T.ws ks) (as.map V.ref)->∀b∈as,∃k∈ks,Rel X.K A H k.w (.ref b)
 |[],[],_,_,h=>nomatch h
 |[],_::_,r,_,_=>nomatch r
 |_::_,[],r,_,_=>nomatch r
 |k::ks,a::as,r,b,h=>by
  cases r with
  |cons f g=>
   rcases LQ.mp h with rfl|h
   ·show#[k,.head _,f]
   ·obtain⟨e,c,d⟩:=zR g b h;show#[e,.tail _ c,d]
def zS (I:Inv X J Y H s):∀{d:Lf T}{us:Lf Lj},IsTs s.heap d us->(∀u∈us,∃k b,u=Mr b/\Rel X.K A H (T.w k) (.ref b))->∃vs,RelL X.K A H (T.ws d) vs/\Vals vs us
 |_,_,.nil,_=>#[[],.nil,.nil]
 |_,_,.cons a b,h=>by
  obtain⟨k,c,rfl,r⟩:=h _ (.head _);obtain⟨vs,e,f⟩:=zS I b λu g=>h u (.tail _ g)
  have:IsT s.heap k (.ref c):=lK I k r rfl;obtain rfl:=a.inj this;show#[.ref c::vs,.cons r e,.cons rfl f]
def rm (B:X.A.handled=gV)(h:X.A.units+12<cLine):LCall X (.builtin "sorted") di:=by
 intro J s Y H A S xs vs us w S' I n O P e;unfold di at e;split at e
 ·rename_i i;obtain⟨a,p,rfl⟩:=jq (xs:=[]) O P;split at e
  ·rename_i ks hs;split at e
   ·rename_i f;cases e;unfold G5 at hs;split at hs
    ·rename_i us G;cases hs;obtain⟨o,φ,as,q,⟨g,es,Q,t,hd,hz,d,led,M,m⟩,r⟩:=n.obj i _ a G p;have E:s.heap.get? a=ba o:=(show ObjOk X.prog X.w H s.heap a (.frz o (.ext φ))from I.hok a _ q).1
     have y:IsTs s.heap ks (es.toList.map (·.2)):=by rw[m];show fq I ks r (nS as)
     show rj B h E g hd hz d led M y f λD h' R dr c us hk x L z l=>?_
     obtain⟨vs,v,j⟩:=zS I z λu h=>by
      have:=l.mem_iff.mp h;rw[m]at this;obtain⟨b,f,rfl⟩:=Lr.mp this;obtain⟨k,_,N⟩:=zR r b f;show#[k,b,rfl,N]
     have hl:↥us<=sizeLine:=by rw[l.length_eq,Lh,Lz];show hz
     show jp (u:=.lst vs) I n hk x #[by rw[L2.Vals.length j];show hl,us,c,j,L] λC=>#[_,aP,v.mono (dc C)]
    ·cases hs
   ·cases e
  ·cases e
 ·cases e
def t4 (hh:X.A.handled=gV)(hu:X.A.units+12<cLine):LCall X (.type "set") lR:=by
 intro J s Y H A S xs vs us w S' I so rl rv e;unfold lR at e;split at e
 ·rename_i i;obtain⟨a,ea,rfl⟩:=jq (xs:=[]) rl rv;split at e
  ·rename_i ws hw;split at e
   ·rename_i ks hs;split at e
    ·rename_i O;rw[Lk]at e;obtain⟨us,hp,e⟩:=e;cases e;have d:∀x∈ks,eM x=true/\x.isTup=true/\x.depth<=aA:=λx o=>by
      have:=LN.mp O x o;simp only[zN,Lp,LJ]at this;show#[this.1.1,this.1.2,this.2]
     obtain⟨vs',h1,r1⟩:=bp so hw ea;obtain⟨E,L,p,hzz⟩:=I.list h1;have hws:T.ws ks=ws:=W.ts_w hs;rw[<- hws]at r1;have hT:IsTs s.heap ks E:=fq I ks r1 L;obtain⟨res,n,m,B,V⟩:=xw hp (!fN X.w);have D:∀(j:Ll) (u:Lj),E[j]?=ba u->∃k b,ks[j]?=ba k/\u=Mr b/\Rel X.K A H (T.w k) (.ref b):=λj u M=>by
      have P:=(LB.mp M).1;have g:j<↥ks:=by rw[↥hT];show P
      have R:(T.ws ks)[j]?=ba (T.w ks[j]):=by rw[zO,Lu,Lq g];rfl
      obtain⟨v,hv,G⟩:=r1.get R;obtain⟨u',C,ruv⟩:=L2.Vals.get L hv;rw[M]at C;cases C;have Z:=(d _ (Mp g)).2.1;generalize Q:ks[j]=k0 at G Z;cases k0 with
      |int _=>cases Z
      |str _=>cases Z
      |tup ys=>
       cases G with
       |tup q1 q2=>
        obtain rfl:u=Mr _:=ruv;show#[.tup ys,_,by rw[<- Q];show Lq g,rfl,.tup q1 q2]
     show xo (ks:=ks) (res:=res) hh p.isList (by simpa using hT) (λx o=>#[(d x o).1,(d x o).2.2]) (λj v M=>?_) (by change _+aA<cLine;rw[aO,aO,aO];unfold aA;omega) (by rw[q8 ks _ λx o=>(d x o).1];show n) λh' tk c r U ez f hz N hk=>?_
     ·obtain⟨k,b,_,O,_⟩:=D j v (by simpa using M)
      show#[b,O]
     ·have t:c.toList.map (λz=>z.2.1)=us:=by
       rw[<- m,<- ez,RI,Nl];rfl
      have hsz:⇑res.1=⇑c:=by rw[<- ez,M9]
      show jp (dr:=s.drawn) (u:=.frz (lJ X.w c r res.2) (.ext λh=>h.get? ⇑s.heap.objs=ba (lJ X.w c r res.2))) I so hk (Ls _) #[U,U,#[_,U],λh1 h2 q k=>k _ q] λhn=>#[_,_,c.toList.map λz=>z.2.2,aP,#[#[rfl,rfl,rfl],c.map zV,r,res.2,rfl,?_,?_,B,?_,?_],?_]
      ·rw[M9,MF];simp only[dg,Lp,LJ]at f;have:=f.2;show Lw ‹_› (LL rfl)
      ·rw[M9];simp only[dg,Lp,LJ]at f;show f.1.1
      ·rw[M9,<- hsz];show λz=>.inr (V z)
      ·rw[RI,Nl,Nl];rfl
      ·rw[<- t];have all:∀z∈c.toList,Rel X.K (A++[⇑s.heap.objs]) (bE H ⇑s.heap.objs (.frz (lJ X.w c r res.2) (.ext λh=>h.get? ⇑s.heap.objs=ba (lJ X.w c r res.2)))) (T.w z.2.1) (.ref z.2.2):=λz hz'=>by
        obtain⟨j,g1,g2⟩:=N z hz';obtain⟨k,b,g3,g4,g5⟩:=D j _ (by simpa using g2)
        rw[g1]at g3;cases g3;cases g4
        show g5.mono (dc hn)
       clear N t;generalize c.toList=l at all
       induction l with
       |nil=>show .nil
       |cons z l ih=>show .cons (all z (.head _)) (ih λy N=>all y (.tail _ N))
    ·cases e
   ·cases e
  ·cases e
 ·cases e
def pE (D:X.A.handled=gV):LCall X (.type "tuple") lT:=by
 intro J s Y H A S xs vs us w S' I l m n e;unfold lT at e;split at e
 ·rename_i i;split at e
  ·rename_i lo hi j;split at e
   ·rename_i C;cases e;obtain⟨a,z,rfl⟩:=jq (xs:=[]) m n;obtain⟨q,b2,r,x,p⟩:=C;have B:H a=ba (.rng lo hi):=by
     unfold CP at j;split at j
     ·rename_i M;cases j;show l.obj i _ a M z
     ·cases j
    obtain⟨t,u,v,G⟩:=I.hok a _ B;have E:NT lo hi 1=((hi-lo).toNat:Ll):=by rw[SR];split<;>omega
    show j7 D G (VB q b2 r x) E p λh' N d hk f c=>?_
    have L:Vals ((LR (hi-lo).toNat).map λ(k:Ll)=>V.int (lo+(k:LC))) d.toList:=by
     show o4 (by rw[Lh,L0,Lz,c.1]) λi v u h y=>?_
     rw[Lu,Lk]at h;obtain⟨k,h,rfl⟩:=h;obtain⟨hk,rfl⟩:=LB.mp h;obtain⟨t,rfl⟩:=c.2 i u (by rw[<- MX];show y)
     show#[t,by simp]
    have g:H ⇑h'.objs=gV:=I.hok.fresh f;show#[.ref ⇑h'.objs,_,A,I.laid (a:=⇑h'.objs) (o:=.tup ((LR (hi-lo).toNat).map λ(k:Ll)=>V.int (lo+(k:LC)))) (t':=N) (λb o e=>Li _ (hk b o e)) f #[by simpa using p,d.toList,L,?_],rfl,cK (.inl g),l.lay g,.tup (.inl (.inl aP)) (o5 _)]
    show#[_,LI _ rfl,rfl,0,by simp]
   ·cases e
  ·show kG J s Y H A S _ vs us w S' I l m n e
 ·show kG J s Y H A S _ vs us w S' I l m n e
def xC (N:X.A.handled=gV)(hu:X.A.units+12<cLine):LCall X (.builtin "min") zw:=by
 intro J s Y H A S xs vs us w S' I D rl rv e;cases rl with
 |nil=>cases e
 |cons r t=>
  cases t with
  |cons _ _=>cases r<;>cases e
  |nil=>
   cases rv with
   |cons ru u=>
    cases u;cases r with
    |ref G=>
     dsimp only[zw]at e;split at e
     ·rename_i ws U;split at e
      ·rename_i ks hk;split at e
       ·rename_i M;rw[Lk]at e;obtain⟨w',k,l⟩:=e;cases l;obtain⟨vs',L,q⟩:=bp D U G;obtain⟨a,h,p,hz⟩:=I.list L;obtain rfl:_=Mr _:=ru;have n:T.ws ks=ws:=W.ts_w hk;have x:IsTs s.heap ks a:=fq I ks (n▸q) h;have hl:↥a=↥ks:=x.length.symm;have O:↥ws=↥ks:=by rw[↥q,L2.Vals.length h,hl]
        have P:0<↥ks:=by
         have:=(LB.mp k).1;omega
        show zr (items:=a.toArray) (bt:=mQ ks) N p.isList (by simpa [hl]using P) (λi j vi vj C Q E f hi y R=>?_) λv h' tk z f=>?_
        ·have c:i<↥ks:=by
          have:=(Ml.mp hi).1
          simpa [hl]using this
         have d:j<↥ks:=by
          have:=(Ml.mp y).1
          simpa [hl]using this
         have g:=x.kept (h':=C.heap) λb o _ e=>f b o e
         have k:vi=a[i]'∅:=by
          have:=(Ml.mp hi).2
          simpa using this.symm
         have l:vj=a[j]'∅:=by
          have:=(Ml.mp y).2
          simpa using this.symm
         subst k l;have b1:=cC (ks:=ks) i c;have b2:=cC (ks:=ks) j d;show HR cp _ _ _ _ X.A.in1 C _ ∅ ∅ (g.get i c ∅) (g.get j d ∅) (by rw[aO];unfold cp;omega) (dP M.2 c d) X.prog X.w _ _ R
        ·have m:a[i4 ks]?=ba v:=by
          have:⇑a.toArray=↥ks:=by simpa using hl
          rw[this]at z
          simpa [i4]using z
         obtain⟨v',V,Z⟩:=q.get k;obtain⟨u',B,q4⟩:=L2.Vals.get h V;rw[m]at B;cases B;show#[v',H,A,I.kept f,q4,.refl,D,Z]
       ·cases e
      ·cases e
     ·cases e
    |_=>cases e
def nT:∀{ws:Lf W}{bs:Lf L7},i5 ws=ba bs->ws=bs.map W.bl
 |[],bs,h=>by cases h;rfl
 |.bl b::ws,bs,h=>by
  (dsimp only[i5]at h;simp only[Lk]at h)
  obtain⟨r,a,c⟩:=h;subst c;rw[nT a];rfl
 |.non::_,_,h|.int _::_,_,h|.str _::_,_,h|.tup _::_,_,h|.ref _::_,_,h=>by cases h
def t8 {bs:Lf L7}{vs:Lf V}{us:Lf Lj}(r:RelL X.K A H (bs.map W.bl) vs)(a:Vals vs us):us=bs.map Pz:=by
 induction bs generalizing vs us with
 |nil=>cases r;cases a;rfl
 |cons b bs ih=>
  cases r with
  |cons c d=>
   cases a with
   |cons e f=>
    cases c;obtain rfl:_=Pz b:=e;rw[ih d f];rfl
def xD (bs:Lf L7):(LR ↥bs).all (λi=>bs.getD i false)=bs.all id:=by
 induction bs with
 |nil=>rfl
 |cons b bs ih=>simp[RQ,VI,T5]at ih ⊢;rw[ih]
def FK {id:Ng}{fb:Lf L7->L7}{g:Lf W->aa->Ln (W×aa)}(U:∀xs S,g xs S=match xs with|[.ref i]=>(match gJ S i with|some ws=>(i5 ws).map λbs=>(.bl (fb bs),S)|none=>gV)|_=>gV)
  (f:∀{s:Lm}{x:Lj}{Q:Lj->Lm->Prop}{E:Lj->Lm->Prop}{bs:Lf L7},wpAny (model X.prog X.w) X.A.in1 (pyIter x) (λit a=>∃I O wr P u,it=.ref I/\UA X.prog X.w X.A.in1 I O wr ↥bs P u/\u 0 a.heap/\TruthOf X.prog X.w X.A.in1 P (λi=>bs.getD i false)/\
   ∀h' D,(∀b o,b∉wr->a.heap.get? b=ba o->h'.get? b=ba o)->Q (.bool (fb bs)) {a with heap:=h',toks:=D}) E s->wpAny (model X.prog X.w) X.A (call (.builtin id) [x]) Q E s)
  (V:X.A.handled=gV):LCall X (.builtin id) g:=by
 intro J s Y H A S xs vs us w S' I C rl rv e;rw[U]at e;cases rl with
 |nil=>cases e
 |cons r t=>
  cases t with
  |cons _ _=>cases r<;>cases e
  |nil=>
   cases rv with
   |cons ru n=>
    cases n;cases r with
    |@ref ri y M=>
     simp only at e;split at e
     ·rename_i ws Z;rw[Lk]at e;obtain⟨bs,G,L⟩:=e;cases L;obtain⟨vs',R,B⟩:=bp C Z M;obtain⟨h,m,p,hz⟩:=I.list R;obtain rfl:_=Mr _:=ru;rw[nT G]at B;have c:=t8 B m;show f (bs:=bs) ?_;show OQ p.isList ?_;have k:y<⇑s.heap.objs:=by obtain⟨_,l,_⟩:=p.isList;show LO l
      have W:=Tn (prog:=X.prog) (w:=X.w) (A:=X.A.in1) V ⇑s.heap.objs y (LX k) h.toArray;have hsz:⇑h.toArray=↥bs:=by rw[LM,c,Lh]
      rw[hsz]at W;show#[_,_,_,_,_,rfl,W,#[#[_,LI _ rfl,rfl,rfl],?_],λi v s' Q E hi j=>?_,λh' D hk=>?_]
      ·obtain⟨o,l,T⟩:=p.isList;show#[o,Li _ l,T]
      ·have d:bs[i]?.map Pz=ba v:=by rw[<- Lu,<- c];simpa using hi
       cases q:bs[i]? with
       |none=>rw[q]at d;cases d
       |some b=>
        rw[q]at d;cases d;have N:bs.getD i false=b:=by simp[q]
        have j:Q (bs.getD i false) s':=j;rw[N]at j;show Oi j
      ·show#[.bl (fb bs),H,A,I.kept (λb o e=>hk b o (λz=>?_) (Li _ e)),rfl,.refl,C,.bl]
       have d:=LO e;rw[LA.mp z]at d;show M6 _ d
     ·cases e
    |_=>cases e
def xE (i:X.A.handled=gV):LCall X (.builtin "all") CS:=
 FK (fb:=λbs=>bs.all id) (λxs S=>rfl) (λ{s x Q E bs} h=>call_all_walk (NR h (λit g #[I,fp,wr,P,St',a,b,c,d,f]=>#[I,fp,wr,_,P,St',_,a,b,c,d,λh' j hk=>by rw[xD];show f h' j hk]) λ_ _ e=>e)) i
end
section
variable{X:Cx}
abbrev zU (xs:Lf W)(S:aa):Ln (W×aa):=match xs with
 |[.int i,.int j]=>ba (.int (if j<i then j else i),S)
 |_=>gV
def t9 (a:X.calm=true):LCall X (.builtin "min") zU:=by
 intro J s Y H A S xs vs us w S' I k g h e;unfold zU at e;split at e
 ·rename_i i j;cases e;cases g with
  |cons b c=>cases c with
   |cons d f=>
    cases f;cases b;cases d
    show CallR.go (wJ a) I h #[i,j,rfl,.here k .int]
 ·cases e
end
noncomputable abbrev FA:=Fm->aa->Ln (Lf W×aa)
noncomputable abbrev FT:=Fm->aa->Ln (L7×aa)
inductive Out where
 |nx (Z:Fm)|rt (w:W)|bk (Z:Fm)|ct (Z:Fm)
noncomputable abbrev FS:=Fm->aa->Ln (Out×aa)
section
variable (X:Cx)
inductive tE (f:FE)(Y:L2.St)(H:Hp)(Q:VK):Prop
 |mk (A:Lf Lv) (Z:Fm) (S:aa) (w:W) (S':aa) (er:EnvRel X.K A H Z Y) (so:StoreOk X.w X.K A H S) (e:f Z S=ba (w,S')) (q:∀v H',EndV X.w X.K A H S' w v H'->Q v H'):tE f Y H Q
abbrev EndB (A:Lf Lv)(H:Hp)(S':aa)(k:L7):L7->Hp->Prop:=λb c=>b=k/\∃a,Ext X.K A H a c/\StoreOk X.w X.K a c S'
inductive tT (f:FT)(Y:L2.St)(H:Hp)(Q:L7->Hp->Prop):Prop
 |mk (A:Lf Lv) (Z:Fm) (S:aa) (k:L7) (S':aa) (er:EnvRel X.K A H Z Y) (so:StoreOk X.w X.K A H S) (e:f Z S=ba (k,S')) (q:∀b H',EndB X A H S' k b H'->Q b H'):tT f Y H Q
inductive EndA (A:Lf Lv)(H:Hp)(S':aa)(ws:Lf W)(vs:Lf V)(H':Hp):Prop
 |mk (A':Lf Lv) (e:Ext X.K A H A' H') (so:StoreOk X.w X.K A' H' S') (r:RelL X.K A' H' ws vs):EndA A H S' ws vs H'
inductive tA (f:FA)(Y:L2.St)(H:Hp)(Q:Lf V->Hp->Prop):Prop
 |mk (A:Lf Lv) (Z:Fm) (S:aa) (ws:Lf W) (S':aa) (er:EnvRel X.K A H Z Y) (so:StoreOk X.w X.K A H S) (e:f Z S=ba (ws,S')) (q:∀vs H',EndA X A H S' ws vs H'->Q vs H'):tA f Y H Q
inductive EndF (A:Lf Lv)(H:Hp)(o:Out)(S':aa)(c:Fm->Out)(Y':L2.St)(H':Hp):Prop
 |mk (Z':Fm) (A':Lf Lv) (eo:o=c Z') (e:Ext X.K A H A' H') (so:StoreOk X.w X.K A' H' S') (er:EnvRel X.K A' H' Z' Y'):EndF A H o S' c Y' H'
inductive EndR (A:Lf Lv)(H:Hp)(o:Out)(S':aa)(v:V)(H':Hp):Prop
 |mk (w:W) (A':Lf Lv) (eo:o=.rt w) (e:Ext X.K A H A' H') (so:StoreOk X.w X.K A' H' S') (r:Rel X.K A' H' w v):EndR A H o S' v H'
abbrev EndS (A:Lf Lv)(H:Hp)(o:Out)(S':aa):Ends where
 nx:=EndF X A H o S' .nx
 rt:=EndR X A H o S'
 bk:=EndF X A H o S' .bk
 ct:=EndF X A H o S' .ct
structure Imp (E D:Ends):Prop where
 nx:∀Y H,E.nx Y H->D.nx Y H
 rt:∀v H,E.rt v H->D.rt v H
 bk:∀Y H,E.bk Y H->D.bk Y H
 ct:∀Y H,E.ct Y H->D.ct Y H
inductive tS (f:FS)(D:Ends)(Y:L2.St)(H:Hp):Prop
 |mk (A:Lf Lv) (Z:Fm) (S:aa) (o:Out) (S':aa) (er:EnvRel X.K A H Z Y) (so:StoreOk X.w X.K A H S) (e:f Z S=ba (o,S')) (d:Imp (EndS X A H o S') D):tS f D Y H
noncomputable abbrev GE (e:L6)(f:FE):Prop:=PE X e (tE X f)
noncomputable abbrev GT (e:L6)(f:FT):Prop:=PT X e (tT X f)
noncomputable abbrev GW (e:L6)(f:FT):Prop:=PW X e (tT X f)
noncomputable abbrev GA (es:Lf L6)(f:FA):Prop:=PA X es (tA X f)
noncomputable abbrev GS (st:O0)(f:FS):Prop:=PS X st (tS X f)
noncomputable abbrev GSs (sts:Lf O0)(f:FS):Prop:=PSs X sts (tS X f)
end
def Imp.trans {E D F:Ends}(a:Imp E D)(b:Imp D F):Imp E F:=#[λ_ _ h=>b.nx _ _ (a.nx _ _ h),λ_ _ h=>b.rt _ _ (a.rt _ _ h),λ_ _ h=>b.bk _ _ (a.bk _ _ h),λ_ _ h=>b.ct _ _ (a.ct _ _ h)]
section
variable{X:Cx}
def GE.of {e:L6}{t:TE}{f:FE}(h:PE X e t)(hf:∀(Y:L2.St) (H:Hp) (A:Lf Lv) (Z:Fm) (S:aa) (w:W) (S':aa),EnvRel X.K A H Z Y->StoreOk X.w X.K A H S->f Z S=ba (w,S')->∀Q:VK,(∀v a,EndV X.w X.K A H S' w v a->Q v a)->t Y H Q):GE X e f:=
 λJ s Y H Q I #[A,Z,S,w,S',er,so,e1,hq]=>h J s Y H Q I (hf Y H A Z S w S' er so e1 Q hq)
def GT.of {e:L6}{t:TT}{f:FT}(h:PT X e t)(hf:∀(Y:L2.St) (H:Hp) (A:Lf Lv) (Z:Fm) (S:aa) (k:L7) (S':aa),EnvRel X.K A H Z Y->StoreOk X.w X.K A H S->f Z S=ba (k,S')->∀Q:L7->Hp->Prop,(∀b a,EndB X A H S' k b a->Q b a)->t Y H Q):GT X e f:=
 λJ s Y H Q I #[A,Z,S,w,S',er,so,e1,hq]=>h J s Y H Q I (hf Y H A Z S w S' er so e1 Q hq)
def GW.of {e:L6}{t:TT}{f:FT}(h:PW X e t)(hf:∀(Y:L2.St) (H:Hp) (A:Lf Lv) (Z:Fm) (S:aa) (k:L7) (S':aa),EnvRel X.K A H Z Y->StoreOk X.w X.K A H S->f Z S=ba (k,S')->∀Q:L7->Hp->Prop,(∀b a,EndB X A H S' k b a->Q b a)->t Y H Q):GW X e f:=
 λc J s Y H Q I #[A,Z,S,w,S',er,so,e1,hq]=>h c J s Y H Q I (hf Y H A Z S w S' er so e1 Q hq)
def GA.of {es:Lf L6}{t:TA}{f:FA}(h:PA X es t)(hf:∀(Y:L2.St) (H:Hp) (A:Lf Lv) (Z:Fm) (S:aa) (ws:Lf W) (S':aa),EnvRel X.K A H Z Y->StoreOk X.w X.K A H S->f Z S=ba (ws,S')->∀Q:Lf V->Hp->Prop,(∀vs a,EndA X A H S' ws vs a->Q vs a)->t Y H Q):GA X es f:=
 λpos J s Y H Q I #[A,Z,S,w,S',er,so,e1,hq]=>h pos J s Y H Q I (hf Y H A Z S w S' er so e1 Q hq)
def GS.of {st:O0}{t:TS}{f:FS}(h:PS X st t)(hf:∀(Y:L2.St) (H:Hp) (A:Lf Lv) (Z:Fm) (S:aa) (o:Out) (S':aa),EnvRel X.K A H Z Y->StoreOk X.w X.K A H S->f Z S=ba (o,S')->∀D:Ends,Imp (EndS X A H o S') D->t D Y H):GS X st f:=
 λJ s Y H D I #[A,Z,S,o,S',er,so,e1,hq]=>h J s Y H D I (hf Y H A Z S o S' er so e1 D hq)
def GSs.of {st:Lf O0}{t:TS}{f:FS}(h:PSs X st t)(hf:∀(Y:L2.St) (H:Hp) (A:Lf Lv) (Z:Fm) (S:aa) (o:Out) (S':aa),EnvRel X.K A H Z Y->StoreOk X.w X.K A H S->f Z S=ba (o,S')->∀D:Ends,Imp (EndS X A H o S') D->t D Y H):GSs X st f:=
 λJ s Y H D I #[A,Z,S,o,S',er,so,e1,hq]=>h J s Y H D I (hf Y H A Z S o S' er so e1 D hq)
def EndV.after {A a:Lf Lv}{H c:Hp}{S':aa}{w:W}{v:V}{b:Hp}(e:Ext X.K A H a c)(h:EndV X.w X.K a c S' w v b):EndV X.w X.K A H S' w v b:=by
 obtain⟨d,x,y,z⟩:=h;show#[d,e.trans x,y,z]
def EndB.after {A a:Lf Lv}{H d:Hp}{S':aa}{k b:L7}{c:Hp}(e:Ext X.K A H a d)(h:EndB X a d S' k b c):EndB X A H S' k b c:=by
 obtain⟨g,f,x,y⟩:=h;show#[g,f,e.trans x,y]
def EndS.after {A g:Lf Lv}{H h:Hp}{S':aa}{o:Out}(e:Ext X.K A H g h):Imp (EndS X g h o S') (EndS X A H o S'):=
 #[λ_ _ #[f,A',a,b,c,d]=>#[f,A',a,e.trans b,c,d],λ_ _ #[f,A',a,b,c,d]=>#[f,A',a,e.trans b,c,d],λ_ _ #[f,A',a,b,c,d]=>#[f,A',a,e.trans b,c,d],λ_ _ #[f,A',a,b,c,d]=>#[f,A',a,e.trans b,c,d]]
abbrev fC (w:W):FE:=λ_ S=>ba (w,S)
abbrev fV (i:Ll):FE:=λZ S=>match Z[i]? with
 |some (ba w)=>ba (w,S)
 |_=>gV
def rn {e:L6}{v:V}{w:W}(h:PE X e (tC v))(r:∀A H,Rel X.K A H w v):GE X e (fC w):=
 GE.of h λY H A Z S d S' c b e Q a=>by cases e;show a _ _ (.here b (r A H))
def Ki {i:Ll}{e:L6}(h:PE X e (EQ i)):GE X e (fV i):=GE.of h λY H A Z S w S' a g e Q d=>by
 unfold fV at e;split at e
 ·rename_i j f;cases e;obtain⟨v,b,c⟩:=a.2 i _ f;show#[v,b,d _ _ (.here g c)]
 ·cases e
abbrev C6 (g:W->W->aa->Ln (W×aa))(a fb:FE):FE:=λZ S=>match a Z S with
 |some (x,S1)=>match fb Z S1 with
  |some (y,S2)=>g x y S2
  |none=>gV
 |none=>gV
def JA {a fb:FE}{g:W->W->aa->Ln (W×aa)}{Z:Fm}{S:aa}{r:W×aa}(e:C6 g a fb Z S=ba r):∃x S1 y S2,a Z S=ba (x,S1)/\fb Z S1=ba (y,S2)/\g x y S2=ba r:=by
 unfold C6 at e;split at e
 ·rename_i x S1 b;split at e
  ·rename_i y S2 c;show#[x,S1,y,S2,b,c,e]
  ·cases e
 ·cases e
def jB {g fb:FE}{Z:Fm}{S S1 S2:aa}{x y:W}{Y:L2.St}{H:Hp}{A:Lf Lv}{R:V->V->Hp->Prop}(f:EnvRel X.K A H Z Y)(l:StoreOk X.w X.K A H S)(j:g Z S=ba (x,S1))(k:fb Z S1=ba (y,S2))
  (h:∀a b c d,Ext X.K A H d c->StoreOk X.w X.K d c S2->Rel X.K d c x a->Rel X.K d c y b->R a b c):tE X g Y H λa e=>tE X fb Y e λb c=>R a b c:=by
 show#[A,Z,S,x,S1,f,l,j,λa e #[i,e1,o1,r1]=>?_]
 show#[i,Z,S1,y,S2,f.mono e1,o1,k,λb c #[d,e2,o2,r2]=>?_]
 show h a b c d (e1.trans e2) o2 (r1.mono e2) r2
inductive rOp (X:Cx)(g:W->W->aa->Ln (W×aa))(a b:V)(H:Hp)(Q:VK):Prop
 |mk (A:Lf Lv) (S:aa) (x y w:W) (S':aa) (so:StoreOk X.w X.K A H S) (rx:Rel X.K A H x a) (ry:Rel X.K A H y b) (e:g x y S=ba (w,S')) (q:∀v H',EndV X.w X.K A H S' w v H'->Q v H'):rOp X g a b H Q
inductive rCall (X:Cx)(g:Lf W->aa->Ln (W×aa))(vs:Lf V)(H:Hp)(Q:VK):Prop
 |mk (A:Lf Lv) (S:aa) (ws:Lf W) (w:W) (S':aa) (so:StoreOk X.w X.K A H S) (rl:RelL X.K A H ws vs) (e:g ws S=ba (w,S')) (q:∀v H',EndV X.w X.K A H S' w v H'->Q v H'):rCall X g vs H Q
def LOp.opr {f:Lj->Lj->V8 Lj}{g:W->W->aa->Ln (W×aa)}(h:LOp X f g):OpR X f (rOp X g):=by
 intro J s Y H a b u v Q I i j ⟨A,S,x,y,w,S',m,k,l,e,d⟩;show bF (h J s Y H A S x y a b u v w S' I m k i l j e) λo n #[c,H',A',I',r',e1,o1,z1]=>#[c,H',I',r',d c H' #[A',e1,o1,z1]]
def Ei {a b:L6}{op:TD}{pos:Oy}{c fb:FE}{g:W->W->aa->Ln (W×aa)}(o:LOp X (binaryOp op) g)(m:GE X a c)(n:GE X b fb):GE X (.BinOp a op b pos) (C6 g c fb):=
 GE.of (Hs o.opr m n) λY H A Z S w S' i t e Q p=>by
  obtain⟨x,S1,y,S2,j,k,l⟩:=JA e;show jB i t j k λa b u d h q r s=>#[d,S2,x,y,w,S',q,r,s,l,λv f z=>p v f (z.after h)]
abbrev zW (a:FE):FE:=λZ S=>match a Z S with
 |some (.int i,S1)=>ba (.int (-i),S1)
 |_=>gV
def zX {a:L6}{pos:Oy}{b:FE}(g:GE X a b):GE X (.UnaryOp .USub a pos) (zW b):=
 GE.of (Ht Ff g) λY H A Z S w S' d j e Q h=>by
  unfold zW at e;split at e
  ·rename_i i S1 f;cases e;show#[A,Z,S,_,_,d,j,f,λv k #[c,e1,o1,r1]=>?_]
   cases r1;show#[_,rfl,h _ _ #[c,e1,o1,.int]]
  ·cases e
abbrev C7 (o:COp)(a fb:FE):FE:=C6 (cx o) a fb
def FL {a b:L6}{o:COp}{pos:Oy}{c fb:FE}(q:X.A.units+iW<cLine)(l:GE X a c)(m:GE X b fb)(n:behindInMarks o.py b=false):GE X (.Compare a [o.py] [b] pos) (C7 o c fb):=
 GE.of (Ci (qQ q o).opr l m n) λY H A Z S w S' h u e Q p=>by
  obtain⟨x,S1,y,S2,i,j,k⟩:=JA e;show jB h u i j λa b B d g r s t=>#[d,S2,x,y,w,S',r,s,t,k,λv f z=>p v f (z.after g)]
abbrev zY (f:FE):FT:=λZ S=>match f Z S with
 |some (.bl k,S')=>ba (k,S')
 |_=>gV
def FM {a b:L6}{o:COp}{pos:Oy}{c fb:FE}(t:X.A.units+iW<cLine)(p:GE X a c)(q:GE X b fb)(r:behindInMarks o.py b=false):GT X (.Compare a [o.py] [b] pos) (zY (C7 o c fb)):=
 GT.of (Cj (qQ t o).opr p q r) λY H A Z S k S' i B e Q s=>by
  unfold zY at e;split at e
  ·rename_i E g j;cases e;obtain⟨x,S1,y,S2,l,m,n⟩:=JA j;show jB i B l m λa b D f h u w z=>#[f,S2,x,y,_,_,u,w,z,n,λv C #[d,z1,z2,z3]=>?_]
   cases z3;show#[k,rfl,s _ _ #[rfl,d,h.trans z1,z2]]
  ·cases e
abbrev iG (f:FE):FT:=λZ S=>match f Z S with
 |some (w,S')=>(iY S' w).map λk=>(k,S')
 |none=>gV
def cX {e:L6}{f:FE}(h:GE X e f)(l:∀a,isTrue e X.env a=(do let v <- a;standAt e.pos;holding [v] (truthy v))):GT X e (iG f):=by
 intro J s Y H Q I ⟨A,Z,S,k,S',i,n,b,m⟩;unfold iG at b;split at b
 ·rename_i w S1 j;rw[Lk]at b;obtain⟨o,g,d⟩:=b;cases d;show isTrue_plain (bF (h J s Y H (EndV X.w X.K A H _ w) I #[A,Z,S,w,_,i,n,j,λ_ _ z=>z]) λv q #[x,H1,I1,r1,A1,b,o1,z1]=>?_) (l _)
  show Kf I1 o1 z1 r1 g λp c=>#[H1,c,m _ _ #[rfl,A1,b,o1]]
 ·cases b
abbrev zZ (f g:FT):FT:=λZ S=>match f Z S with
 |some (true,S1)=>g Z S1
 |some (false,S1)=>ba (false,S1)
 |none=>gV
abbrev HV (f g:FT):FT:=λZ S=>match f Z S with
 |some (true,S1)=>ba (true,S1)
 |some (false,S1)=>g Z S1
 |none=>gV
abbrev C8 (f:FT):FT:=λZ S=>match f Z S with
 |some (k,S1)=>ba (!k,S1)
 |none=>gV
def z6 {f g:FT}{Y:L2.St}{H:Hp}{A:Lf Lv}{Z:Fm}{S:aa}{k:L7}{S':aa}(c:EnvRel X.K A H Z Y)(j:StoreOk X.w X.K A H S)(e:zZ f g Z S=ba (k,S'))(Q:L7->Hp->Prop)(i:∀b a,EndB X A H S' k b a->Q b a) :
  He (tT X f) (tT X g) Y H Q:=by
 unfold zZ at e;split at e
 ·rename_i S1 d;show#[A,Z,S,true,S1,c,j,d,λb l #[h,A1,z1,z2]=>?_]
  subst h;rw[LU rfl];show#[A1,Z,S1,k,S',c.mono z1,z2,e,λb a q=>i b a (q.after z1)]
 ·rename_i S1 d;cases e;show#[A,Z,S,false,_,c,j,d,λb l #[h,A1,z1,z2]=>?_]
  subst h;rw[L1 L5];show i _ _ #[rfl,A1,z1,z2]
 ·cases e
def C9 {f g:FT}{Y:L2.St}{H:Hp}{A:Lf Lv}{Z:Fm}{S:aa}{k:L7}{S':aa}(c:EnvRel X.K A H Z Y)(j:StoreOk X.w X.K A H S)(e:HV f g Z S=ba (k,S'))(Q:L7->Hp->Prop)(i:∀b a,EndB X A H S' k b a->Q b a) :
  KO (tT X f) (tT X g) Y H Q:=by
 unfold HV at e;split at e
 ·rename_i S1 d;cases e;show#[A,Z,S,true,_,c,j,d,λb l #[h,A1,z1,z2]=>?_]
  subst h;rw[LU rfl];show i _ _ #[rfl,A1,z1,z2]
 ·rename_i S1 d;show#[A,Z,S,false,S1,c,j,d,λb l #[h,A1,z1,z2]=>?_]
  subst h;rw[L1 L5];show#[A1,Z,S1,k,S',c.mono z1,z2,e,λb a q=>i b a (q.after z1)]
 ·cases e
def Da {a:L6}{pos:Oy}{f:FT}(h:GT X a f):GW X (.BoolOp .And [a] pos) f:=B8 h
def FN {a:L6}{pos:Oy}{f:FT}(h:GT X a f):GW X (.BoolOp .Or [a] pos) f:=ER h
def FP {a b:L6}{r:Lf L6}{pos:Oy}{f g:FT}(h:GT X a f)(d:GW X (.BoolOp .And (b::r) pos) g):GW X (.BoolOp .And (a::b::r) pos) (zZ f g):=
 GW.of (ES h d) λY H A Z S k S' c j e Q i=>z6 c j e Q i
def HW {a b:L6}{r:Lf L6}{pos:Oy}{f g:FT}(h:GT X a f)(d:GW X (.BoolOp .Or (b::r) pos) g):GW X (.BoolOp .Or (a::b::r) pos) (HV f g):=
 GW.of (Hf h d) λY H A Z S k S' c j e Q i=>C9 c j e Q i
def FQ {a:L6}{pos:Oy}{f:FT}(h:GT X a f):GT X (.UnaryOp .Not a pos) (C8 f):=
 GT.of (ET h) λY H A Z S k S' c j e Q g=>by
  unfold C8 at e;split at e
  ·rename_i i S1 d;cases e;show#[A,Z,S,i,_,c,j,d,λb m #[l,A1,z1,z2]=>?_]
   subst l;show g _ _ #[rfl,A1,z1,z2]
  ·cases e
abbrev vy (f g:FE):FE:=λZ S=>match f Z S with
 |some (.bl true,S1)=>g Z S1
 |some (.bl false,S1)=>ba (.bl false,S1)
 |_=>gV
abbrev Db (f g:FE):FE:=λZ S=>match f Z S with
 |some (.bl true,S1)=>ba (.bl true,S1)
 |some (.bl false,S1)=>g Z S1
 |_=>gV
abbrev vz (f:FE):FE:=λZ S=>match f Z S with
 |some (.bl k,S1)=>ba (.bl (!k),S1)
 |_=>gV
def FR {a:L6}{op:Wo}{pos:Oy}{f:FE}(h:GE X a f):GE X (.BoolOp op [a] pos) f:=EU h
def FU {a b:L6}{r:Lf L6}{pos:Oy}{f g:FE}(h:GE X a f)(n:GE X (.BoolOp .And (b::r) pos) g):GE X (.BoolOp .And (a::b::r) pos) (vy f g):=
 GE.of (EV h n) λY H A Z S w S' d k e Q j=>by
  unfold vy at e;split at e
  ·rename_i S1 i;show#[A,Z,S,_,S1,d,k,i,λv m #[c,z1,z2,z3]=>?_]
   cases z3;show#[true,rfl,?_];rw[LU rfl];show#[c,Z,S1,w,S',d.mono z1,z2,e,λb l q=>j b l (q.after z1)]
  ·rename_i S1 i;cases e;show#[A,Z,S,_,_,d,k,i,λv m #[c,z1,z2,z3]=>?_]
   cases z3;show#[false,rfl,?_];rw[L1 L5];show j _ _ #[c,z1,z2,.bl]
  ·cases e
def HX {a b:L6}{r:Lf L6}{pos:Oy}{f g:FE}(h:GE X a f)(n:GE X (.BoolOp .Or (b::r) pos) g):GE X (.BoolOp .Or (a::b::r) pos) (Db f g):=
 GE.of (Hi h n) λY H A Z S w S' d k e Q j=>by
  unfold Db at e;split at e
  ·rename_i S1 i;cases e;show#[A,Z,S,_,_,d,k,i,λv m #[c,z1,z2,z3]=>?_]
   cases z3;show#[true,rfl,?_];rw[LU rfl];show j _ _ #[c,z1,z2,.bl]
  ·rename_i S1 i;show#[A,Z,S,_,S1,d,k,i,λv m #[c,z1,z2,z3]=>?_]
   cases z3;show#[false,rfl,?_];rw[L1 L5];show#[c,Z,S1,w,S',d.mono z1,z2,e,λb l q=>j b l (q.after z1)]
  ·cases e
def FV {a:L6}{pos:Oy}{f:FE}(h:GE X a f):GE X (.UnaryOp .Not a pos) (vz f):=
 GE.of (EW h) λY H A Z S w S' d j e Q i=>by
  unfold vz at e;split at e
  ·rename_i l S1 g;cases e;show#[A,Z,S,_,_,d,j,g,λb k #[c,z1,z2,z3]=>?_]
   cases z3;show#[_,rfl,i _ _ #[c,z1,z2,.bl]]
  ·cases e
abbrev jC:FA:=λ_ S=>ba ([],S)
abbrev dW (f:FE)(g:FA):FA:=λZ S=>match f Z S with
 |some (w,S1)=>match g Z S1 with
  |some (ws,S2)=>ba (w::ws,S2)
  |none=>gV
 |none=>gV
def FW:GA X [] jC:=GA.of yD λY H A Z S ws S' c b e Q a=>by cases e;show a _ _ #[A,.refl,b,.nil]
def Dc {e:L6}{es:Lf L6}{f:FE}{g:FA}(h:GE X e f)(a:GA X es g)(hs:starEach (e::es) X.env=(false,eval e X.env)::starEach es X.env):GA X (e::es) (dW f g):=
 GA.of (oM h a hs) λY H A Z S ws S' c l e Q k=>by
  unfold dW at e;split at e
  ·rename_i w S1 j;split at e
   ·rename_i b S2 a;cases e;show#[A,Z,S,w,S1,c,l,j,λv m #[d,z1,z2,z3]=>?_]
    show#[d,Z,S1,b,_,c.mono z1,z2,a,λvs n #[i,y1,y2,y3]=>?_]
    show k _ _ #[i,z1.trans y1,y2,.cons (z3.mono y1) y3]
   ·cases e
  ·cases e
abbrev z8 (f:FA):FE:=λZ S=>match f Z S with
 |some (ws,S1)=>sY S1 ws
 |none=>gV
abbrev z9 (f:FA):FE:=λZ S=>match f Z S with
 |some (ws,S1)=>mT S1 ws
 |none=>gV
def Aa {es:Lf L6}{k:Ll}{pos:Oy}{f:FA}(h:GA X es f):GE X (.Tuple es k pos) (z8 f):=
 GE.of (Fi h) λY H A Z S w S' a g e Q d=>by
  unfold z8 at e;split at e
  ·rename_i ws S1 b;obtain⟨hl,rfl,rfl⟩:=uT e;show#[A,Z,S,ws,_,a,g,b,λvs j #[i,z1,z2,z3]=>#[by rw[<- ↥z3];show hl,λp c=>?_]]
   show d _ _ (EndV.after z1 (.tup z2 z3 c))
  ·cases e
def Ab {es:Lf L6}{pos:Oy}{f:FA}(h:GA X es f):GE X (.List es pos) (z9 f):=
 GE.of (Fj h) λY H A Z S w S' a g e Q d=>by
  unfold z9 at e;split at e
  ·rename_i ws S1 b;obtain⟨hl,rfl,rfl⟩:=lb e;show#[A,Z,S,ws,_,a,g,b,λvs j #[i,z1,z2,z3]=>#[by rw[<- ↥z3];show hl,λp c=>?_]]
   show d _ _ (EndV.after z1 (.lst z2 z3 c))
  ·cases e
abbrev kM (g:Lf W->aa->Ln (W×aa))(f:FA):FE:=λZ S=>match f Z S with
 |some (ws,S1)=>g ws S1
 |none=>gV
def LCall.callr {v:Lj}{g:Lf W->aa->Ln (W×aa)}(h:LCall X v g):CallR X v (rCall X g):=by
 intro J s Y H vs us Q I d ⟨A,S,ws,w,S',f,c,e,b⟩;show bF (h J s Y H A S ws vs us w S' I f c d e) λj i #[a,H',A',I',r',e1,o1,z1]=>#[a,H',I',r',b a H' #[A',e1,o1,z1]]
def nU {g:Lf W->aa->Ln (W×aa)}{f:FA}{Y:L2.St}{H:Hp}{A:Lf Lv}{Z:Fm}{S:aa}{w:W}{S':aa}(d:EnvRel X.K A H Z Y)(j:StoreOk X.w X.K A H S)(e:kM g f Z S=ba (w,S'))(Q:VK)(i:∀v a,EndV X.w X.K A H S' w v a->Q v a) :
  tA X f Y H λvs b=>rCall X g vs b Q:=by
 unfold kM at e;split at e
 ·rename_i ws S1 h;show#[A,Z,S,ws,S1,d,j,h,λvs b #[c,z1,z2,z3]=>#[c,S1,ws,w,S',z2,z3,e,λv a q=>i v a (q.after z1)]]
 ·cases e
def rq {id:Ng}{x:LW}{e:L6}{es:Lf L6}{p pos:Oy}{f:FA}{g:Lf W->aa->Ln (W×aa)}(h:LCall X (.builtin id) g)(i:Gl X x)(j:X.mg x=gV)(m:bootBuiltins x=ba (.builtin id))(d:GA X (e::es) f)
  (k:x≠"__name__") (a:(x==("__debug__": LW))=false) (hs:starEach (e::es) X.env=(false,eval e X.env)::starEach es X.env) (b:(backTo pos (starEach es X.env)).any (·.1)=false):GE X (.Call (.Name x p) (e::es) [] pos) (kM g f):=
 GE.of (qw h.callr i j m d k a hs b) λY H A Z S w S' c n e Q l=>nU c n e Q l
def rz {id:Ng}{x:LW}{e:L6}{es:Lf L6}{p pos:Oy}{f:FA}{g:Lf W->aa->Ln (W×aa)}(h:LCall X (.type id) g)(i:Gl X x)(j:X.mg x=gV)(m:bootBuiltins x=ba (.type id))(d:GA X (e::es) f)
  (k:x≠"__name__") (a:(x==("__debug__": LW))=false) (hs:starEach (e::es) X.env=(false,eval e X.env)::starEach es X.env) (b:(backTo pos (starEach es X.env)).any (·.1)=false):GE X (.Call (.Name x p) (e::es) [] pos) (kM g f):=
 GE.of (wL h.callr i j m d k a hs b) λY H A Z S w S' c n e Q l=>nU c n e Q l
end
abbrev tyOk (T:Ng)(S:aa):W->L7
 |.str _=>T == "str"
 |.ref i=>(T == "list" && (gJ S i).isSome)||(T == "dict" && (kI S i).isSome)
 |_=>false
abbrev G6 (T:Ng)(g:W->Lf W->aa->Ln (W×aa))(a:FE)(f:FA):FE:=λZ S=>match a Z S with
 |some (x,S1)=>if tyOk T S1 x then match f Z S1 with
  |some (ws,S2)=>g x ws S2
  |none=>gV
  else gV
 |none=>gV
abbrev Kj (a fb:FE):FE:=C6 qr a fb
noncomputable abbrev FO:=Fm->aa->Ln (Ln LC×aa)
abbrev FX:FO:=λ_ S=>ba (gV,S)
abbrev vA (f:FE):FO:=λZ S=>match f Z S with
 |some (.int i,S1)=>ba (ba i,S1)
 |_=>gV
abbrev HY (b:FE)(d c:FO):FE:=λZ S=>match b Z S with
 |some (x,S1)=>match d Z S1 with
  |some (lo,S2)=>match c Z S2 with
   |some (hi,a)=>tf x lo hi a
   |none=>gV
  |none=>gV
 |none=>gV
section
variable{X:Cx}
inductive rMeth (X:Cx)(g:W->Lf W->aa->Ln (W×aa))(a:V)(vs:Lf V)(H:Hp)(Q:VK):Prop
 |mk (A:Lf Lv) (S:aa) (x:W) (ws:Lf W) (w:W) (S':aa) (so:StoreOk X.w X.K A H S) (rx:Rel X.K A H x a) (rl:RelL X.K A H ws vs) (e:g x ws S=ba (w,S')) (q:∀v H',EndV X.w X.K A H S' w v H'->Q v H'):rMeth X g a vs H Q
def tyOk.is {J:Lf (Lv×Nr)}{Y:L2.St}{s:Lm}{A:Lf Lv}{H:Hp}{S:aa}{T:Ng}{x:W}{a:V}{v:Lj}(I:Inv X J Y H s)(l:StoreOk X.w X.K A H S)(r:Rel X.K A H x a)(g:RelV a v)(h:tyOk T S x=true) :
  s.TypeIs v T/\∀b,v=.ref b->∃ob,s.heap.get? b=ba ob/\ob.dict=gV:=by
 cases r with
 |str=>show yM I g (show J9 X.K T (.str _) H from eq_of_beq h)
 |ref i=>
  simp only[tyOk,NP,Lp]at h;rcases h with⟨c,d⟩|⟨c,d⟩
  ·obtain⟨xs,f⟩:=MM.mp d;obtain⟨vs,m,_⟩:=bp l f i;show yM I g (show J9 X.K T (.ref _) H from .inl #[eq_of_beq c,vs,m])
  ·obtain⟨U,f⟩:=MM.mp d;obtain⟨xs,n,_⟩:=gO l f i;obtain⟨_,_,_,o,es,p,j,k,q,t⟩:=cM I n;have e:=eq_of_beq c;subst e;obtain rfl:v=Mr _:=g;show#[#[o,j,k.1],λb e=>by cases e;show#[o,j,k.2.1]]
 |_=>cases h
def rA {o e:L6}{es:Lf L6}{name:LW}{apos cpos:Oy}{T id:Ng}{g:W->Lf W->aa->Ln (W×aa)}{k:FE}{f:FA}(B:PlainAttrs T)(slot:Slot T name id)(i:typeOf (.builtin id)=pure (.type "method_descriptor"))(r:nB X id g)
  (t:GE X o k) (q:GA X (e::es) f) (c:attributeBase o name X.env (eval o X.env)=eval o X.env)
  (h:((backTo cpos (starEach (e::es) X.env)).all (λx=>!x.1)&&(backToKw cpos (keywordEach [] X.env)).all (λx=>x.1.isSome)
   && decide ((e::es).length+([]:Lf SJ).length+(if ([]:Lf SJ).isEmpty then 0 else 1)<30))=true)
  (d:(apos.endLine==cpos.line)=true) (hs:starEach (e::es) X.env=(false,eval e X.env)::starEach es X.env) (b:(backTo cpos (starEach es X.env)).any (·.1)=false) :
  GE X (.Call (.Attribute o name apos) (e::es) [] cpos) (G6 T g k f):=by
 intro J s Y H Q I ⟨A,Z,S,w,S',j,E,e,u⟩;unfold G6 at e;split at e
 ·rename_i x S1 n;split at e
  ·rename_i y;split at e
   ·rename_i ws S2 p;show wpAny_Call_method_late c h d rfl (bF (t J s Y H (EndV X.w X.K A H S1 x) I #[A,Z,S,_,_,j,E,n,λ_ _ z=>z]) λv C #[a,H1,I1,r1,A1,e1,o1,z1]=>?_)
    obtain⟨G,t2⟩:=tyOk.is I1 o1 z1 r1 y;show#[T,id,B,slot,i,G,t2,?_];have l:=q cpos J C Y H1 (EndA X A1 H1 S2 ws) I1 #[A1,Z,S1,ws,S2,j.mono e1,o1,p,λ_ _ z=>z]
    rw[hs]at l ⊢;show Calls.callWith_builtin (by show(false||(backTo cpos (starEach es X.env)).any (·.1))=false;rw[b]<;>rfl) (Calls.evalArgs_plain ?_)
    show bF l λus D #[vs,H2,I2,r2,A2,e2,o2,z2]=>?_
    show bF (r J D Y H2 A2 S2 x a v ws vs us w S' I2 o2 (z1.mono e2) r1 z2 r2 e) λM L #[m,H',A',I',r',e3,o3,z3]=>?_
    show#[m,H',I',r',u m H' #[A',(e1.trans e2).trans e3,o3,z3]]
   ·cases e
  ·cases e
 ·cases e
def LIx.ixr {g:W->W->aa->Ln (W×aa)}(h:LIx X g):IxR X (rOp X g):=by
 intro d c J s Y H a b u v Q I j k ⟨A,S,x,y,w,S',n,l,m,e,i⟩ hs;show bF (h d c J s Y H A S x y a b u v w S' I n l j m k e hs) λp o #[f,H',A',I',r',e1,o1,z1]=>#[f,H',I',r',i f H' #[A',e1,o1,z1]]
def HZ {a b:L6}{pos:Oy}{c fb:FE}(o:X.A.units+10<cLine)(l:GE X a c)(m:GE X b fb)(hs:oP b):GE X (.Subscript a b pos) (Kj c fb):=
 GE.of (HG (Kg o).ixr l m hs) λY H A Z S w S' h s e Q n=>by
  obtain⟨x,S1,y,S2,i,j,k⟩:=JA e;show jB h s i j λa b t d g p q r=>#[d,S2,x,y,w,S',p,q,r,k,λv f z=>n v f (z.after g)]
inductive tO (X:Cx)(f:FO)(Y:L2.St)(H:Hp)(Q:Ln LC->Hp->Prop):Prop
 |mk (A:Lf Lv) (Z:Fm) (S:aa) (k:Ln LC) (S':aa) (er:EnvRel X.K A H Z Y) (so:StoreOk X.w X.K A H S) (e:f Z S=ba (k,S')) (q:∀H' A',Ext X.K A H A' H'->StoreOk X.w X.K A' H' S'->Q k H'):tO X f Y H Q
noncomputable abbrev GO (X:Cx)(e:Ln L6)(f:FO):Prop:=PO X e (tO X f)
def De:GO X gV FX:=λJ s Y H Q I #[A,Z,S,k,S',er,so,e,hq]=>by
 cases e;show Co J s Y H Q I (hq H A .refl so)
def Dg {e:L6}{f:FE}(h:GE X e f):GO X (ba e) (vA f):=λJ s Y H Q I #[A,Z,S,k,S',er,so,e,hq]=>by
 unfold vA at e;split at e
 ·rename_i i S1 c;cases e;show Cp h J s Y H Q I #[A,Z,S,_,_,er,so,c,λv b #[a,z1,z2,z3]=>?_]
  cases z3;show#[i,rfl,hq b a z1 z2]
 ·cases e
inductive rSl (X:Cx)(g:W->Ln LC->Ln LC->aa->Ln (W×aa))(a:V)(lo hi:Ln LC)(H:Hp)(Q:VK):Prop
 |mk (A:Lf Lv) (S:aa) (x w:W) (S':aa) (so:StoreOk X.w X.K A H S) (rx:Rel X.K A H x a) (e:g x lo hi S=ba (w,S')) (q:∀v H',EndV X.w X.K A H S' w v H'->Q v H'):rSl X g a lo hi H Q
def LSl.slr {g:W->Ln LC->Ln LC->aa->Ln (W×aa)}(h:LSl X g):HF X (rSl X g):=by
 intro J s Y H a v o p lo hi sl Q I l hs j k ⟨A,S,x,w,S',n,m,e,i⟩;obtain⟨T,id,c,d,f⟩:=h J s Y H A S x a v o p lo hi sl w S' I n m l hs j k e;show#[T,id,c,d,bF f λr q #[b,H',A',I',r',e1,o1,z1]=>#[b,H',I',r',i b H' #[A',e1,o1,z1]]]
def Ic {a:L6}{lo hi:Ln L6}{p2 pos:Oy}{f:FE}{i g:FO}(t:GE X a f)(hl:GO X lo i)(u:GO X hi g):GE X (.Subscript a (.Slice lo hi gV p2) pos) (HY f i g):=
 GE.of (yJ K9.slr t hl u) λY H A Z S w S' b z e Q y=>by
  unfold HY at e;split at e
  ·rename_i x S1 p;split at e
   ·rename_i l S2 r;split at e
    ·rename_i h d s;show#[A,Z,S,x,S1,b,z,p,λv D #[k,z1,z2,z3]=>?_]
     show#[k,Z,S1,l,S2,b.mono z1,z2,r,λE m c C=>?_]
     show#[m,Z,S2,h,d,b.mono (z1.trans c),C,s,λG n j B=>?_]
     show#[n,d,x,w,S',B,(z3.mono c).mono j,e,λv o q=>y v o (q.after ((z1.trans c).trans j))]
    ·cases e
   ·cases e
  ·cases e
noncomputable abbrev FF:=Lf W->aa->Ln (W×aa)
inductive spF (wd:MB)(K:LF)(n:Ll)(g:FF)(vs:Lf V)(H:Hp)(Q:VK)(E:XK):Prop
 |mk (A:Lf Lv) (S:aa) (ws:Lf W) (w:W) (S':aa) (so:StoreOk wd K A H S) (rl:RelL K A H ws vs) (hl:↥ws=n) (e:g ws S=ba (w,S')) (q:∀v H',EndV wd K A H S' w v H'->Q v H'):spF wd K n g vs H Q E
abbrev rB (n:Ll)(g:FF)(f:FA):FE:=λZ S=>match f Z S with
 |some (ws,S1)=>if ↥ws=n then g ws S1 else gV
 |none=>gV
def rC {n:Ll}{g:FF}{f:FA}{Y:L2.St}{H:Hp}{A:Lf Lv}{Z:Fm}{S:aa}{w:W}{S':aa}{E:XK}(d:EnvRel X.K A H Z Y)(j:StoreOk X.w X.K A H S)(e:rB n g f Z S=ba (w,S'))(Q:VK)(i:∀v a,EndV X.w X.K A H S' w v a->Q v a) :
  yF (spF X.w X.K n g) [] E (tA X f) Y H Q:=by
 unfold rB at e;split at e
 ·rename_i ws S1 h;split at e
  ·rename_i hl;show#[A,Z,S,ws,S1,d,j,h,λvs c #[b,z1,z2,z3]=>?_]
   change spF X.w X.K n g (vs++[]) c Q E;rw[NA];show#[b,S1,ws,w,S',z2,z3,hl,e,λv a q=>i v a (q.after z1)]
  ·cases e
 ·cases e
def FY {k n:Ll}{a:Lv}{d:OA}{ps:Lf LW}{g:FF}{x:LW}{e:L6}{es:Lf L6}{p pos:Oy}{f:FA}(F:FnOk X.prog X.w X.K X.mg X.base yn k a d ps (spF X.w X.K n g))(r:Room k X.A)(m:Gl X x)(o:X.mg x=ba (.ref a))(hk:Nm X.K (.ref a)=true)
  (j:Binds X.K d ps []) (i:GA X (e::es) f) (b:(x==("__debug__": LW))=false) (l:starEach (e::es) X.env=(false,eval e X.env)::starEach es X.env) (c:(backTo pos (starEach es X.env)).any (·.1)=false) :
  GE X (.Call (.Name x p) (e::es) [] pos) (rB n g f):=
 GE.of (Ck F r m o hk j .nil Eg i b l c) λY H A Z S w S' h s e Q q=>rC h s e Q q
def Dh {k n:Ll}{b:Lv}{d:OA}{ps:Lf LW}{g:FF}{x:LW}{p pos:Oy}(F:FnOk X.prog X.w X.K X.mg X.base yn k b d ps (spF X.w X.K n g))(z:Room k X.A)(u:Gl X x)(v:X.mg x=ba (.ref b))(hk:Nm X.K (.ref b)=true)
  (t:Binds X.K d ps []) (c:(x==("__debug__": LW))=false):GE X (.Call (.Name x p) [] [] pos) (rB n g jC):=
 GE.of (yH F z u v hk t .nil Eg c) λY H A Z S w S' s B e Q y=>by
  obtain⟨h,S1,ws,C,a,i,j,l,m,o⟩:=rC (f:=jC) (E:=E0) s B e Q y |> λ#[A,Z,S,ws,S',D,b2,q,r]=>r [] H (by cases q;show#[A,.refl,b2,.nil])
  show#[h,S1,ws,C,a,i,j,l,m,o]
def Di:GSs X [] (λZ S=>ba (.nx Z,S)):=GSs.of B9 λY H A Z S o S' a b e D hd=>by cases e;show hd.nx _ _ #[Z,A,rfl,.refl,b,a]
abbrev Dj (f g:FS):FS:=λZ S=>match f Z S with
 |some (.nx a,S1)=>g a S1
 |some (.rt w,S1)=>ba (.rt w,S1)
 |some (.bk a,S1)=>ba (.bk a,S1)
 |some (.ct a,S1)=>ba (.ct a,S1)
 |none=>gV
def Ac {st:O0}{c:Lf O0}{f g:FS}(h:GS X st f)(k:GSs X c g):GSs X (st::c) (Dj f g):=GSs.of (yz h k) λY H A Z S o S' d i e D hd=>by
 unfold Dj at e;split at e
 ·rename_i m S1 a;show#[A,Z,S,_,_,d,i,a,#[λj b #[l,A',e1,e2,e3,e4]=>?_,λv b #[w,A',e1,_,_,_]=>(by cases e1),λv b #[w,A',e1,_,_,_]=>(by cases e1),λv b #[w,A',e1,_,_,_]=>(by cases e1)]]
  cases e1;show#[A',_,S1,o,S',e4,e3,e,(EndS.after e2).trans hd]
 ·rename_i w S1 a;cases e;show#[A,Z,S,_,_,d,i,a,#[λj b #[w,A',e1,_,_,_]=>(by cases e1),hd.rt,hd.bk,hd.ct]]
 ·rename_i w S1 a;cases e;show#[A,Z,S,_,_,d,i,a,#[λj b #[w,A',e1,_,_,_]=>(by cases e1),hd.rt,hd.bk,hd.ct]]
 ·rename_i w S1 a;cases e;show#[A,Z,S,_,_,d,i,a,#[λj b #[w,A',e1,_,_,_]=>(by cases e1),hd.rt,hd.bk,hd.ct]]
 ·cases e
abbrev Dk (f:FE):FS:=λZ S=>match f Z S with
 |some (_,S1)=>ba (.nx Z,S1)
 |none=>gV
def Ig {e:L6}{pos:Oy}{f:FE}(h:GE X e f)(hs:swapsWith e gV pos.line X.env=pure false):GS X (.Expr e pos) (Dk f):=GS.of (Cd h hs) λY H A Z S o S' a d e D hd=>by
 unfold Dk at e;split at e
 ·rename_i w S1 c;cases e;show#[A,Z,S,w,_,a,d,c,λv g #[b,z1,z2,z3]=>hd.nx _ _ #[Z,b,rfl,z1,z2,a.mono z1]]
 ·cases e
abbrev Ad:FS:=λZ S=>ba (.nx Z,S)
def FZ {x:LW}{j:Ll}{pos a:Oy}:GS X (.Expr (.Constant (.str x) j pos) a) Ad:=GS.of EX λY H A Z S o S' b c e D hd=>by cases e;show hd.nx _ _ #[Z,A,rfl,.refl,c,b]
def Dl {pos:Oy}:GS X (.Pass pos) Ad:=GS.of Cc λY H A Z S o S' a b e D hd=>by cases e;show hd.nx _ _ #[Z,A,rfl,.refl,b,a]
abbrev Dm (f:FE):FS:=λZ S=>match f Z S with
 |some (w,S1)=>ba (.rt w,S1)
 |none=>gV
def F1 {e:L6}{pos:Oy}{f:FE}(h:GE X e f):GS X (.Return (ba e) pos) (Dm f):=GS.of (EY h) λY H A Z S o S' b d e D hd=>by
 unfold Dm at e;split at e
 ·rename_i w S1 c;cases e;show#[A,Z,S,w,_,b,d,c,λv g #[a,z1,z2,z3]=>hd.rt _ _ #[w,a,rfl,z1,z2,z3]]
 ·cases e
abbrev Do (c:FT)(f g:FS):FS:=λZ S=>match c Z S with
 |some (true,S1)=>f Z S1
 |some (false,S1)=>g Z S1
 |none=>gV
def Ih {c:L6}{a b:Lf O0}{pos:Oy}{j:FT}{f g:FS}(p:GT X c j)(m:GSs X a f)(n:GSs X b g):GS X (.If c a b pos) (Do j f g):=GS.of (Hk p m n) λY H A Z S o S' d k e D hd=>by
 unfold Do at e;split at e
 ·rename_i S1 h;show#[A,Z,S,_,S1,d,k,h,λb l #[i,A1,z1,z2]=>?_]
  subst i;rw[LU rfl];show#[A1,Z,S1,o,S',d.mono z1,z2,e,(EndS.after z1).trans hd]
 ·rename_i S1 h;show#[A,Z,S,_,S1,d,k,h,λb l #[i,A1,z1,z2]=>?_]
  subst i;rw[L1 L5];show#[A1,Z,S1,o,S',d.mono z1,z2,e,(EndS.after z1).trans hd]
 ·cases e
noncomputable abbrev FG:=W->Fm->aa->Ln (Fm×aa)
inductive tG (X:Cx)(f:FG)(v:V)(Y:L2.St)(H:Hp)(Q:L2.St->Hp->Prop):Prop
 |mk (A:Lf Lv) (Z:Fm) (S:aa) (w:W) (Z':Fm) (S':aa) (er:EnvRel X.K A H Z Y) (so:StoreOk X.w X.K A H S) (r:Rel X.K A H w v) (e:f w Z S=ba (Z',S')) (q:∀Y' H' A',Ext X.K A H A' H'->StoreOk X.w X.K A' H' S'->EnvRel X.K A' H' Z' Y'->Q Y' H'):tG X f v Y H Q
noncomputable abbrev GG (X:Cx)(tg:L6)(f:FG):Prop:=PG X tg (tG X f)
abbrev Ej (i:Ll):FG:=λw Z S=>ba (Z.set i (ba w),S)
def vB {i:Ll}{x:LW}{pos:Oy}(c:X.N.Nodup)(hi:X.N[i]?=ba x)(f:B6 X.env.scope x)(hf:X.fn x=true\/X.env.scope.names.lookup x=ba .local):GG X (.Name x pos) (Ej i):=by
 intro J s Y H v u Q I r ⟨A,Z,S,w,h,S',b,g,a,e,d⟩;cases e;show uM c hi f hf J s Y H v u Q I r (d _ _ A .refl g (b.set a i))
abbrev eP:Lf Ll->Lf W->Fm->Ln Fm
 |[],[],Z=>ba Z
 |i::is,w::ws,Z=>eP is ws (Z.set i (ba w))
 |_,_,_=>gV
abbrev G7 (is:Lf Ll):FG:=λw Z S=>match w with
 |.tup ws=>(eP is ws Z).map λa=>(a,S)
 |_=>gV
def xF:∀{ts:Lf L6}{is:Lf Ll},(∀x∈ts,∃y p,x=.Name y p)->RM (λ(t:L6) (i:Ll)=>∃x p,t=SK x p/\X.N[i]?=ba x/\B6 X.env.scope x/\(X.fn x=true\/X.env.scope.names.lookup x=ba .local)) ts is->X.N.Nodup->
  Hl X ts (λvs Y H Q=>∃A Z ws a S,EnvRel X.K A H Z Y/\StoreOk X.w X.K A H S/\RelL X.K A H ws vs/\eP is ws Z=ba a/\∀g,EnvRel X.K A H a g->Q g H):=by
 intro ts
 induction ts with
 |nil=>
  intro is _ h c;cases h;intro J s Y H vs us Q I r ⟨A,Z,ws,a,S,b,j,f,e,d⟩;cases f with
  |nil=>cases e;show Ce J s Y H [] us Q I r #[rfl,d _ b]
  |cons _ _=>cases e
 |cons t ts ih=>
  intro is hs h c;cases h with
  |cons k l=>
   obtain⟨x,p,rfl,hi,hl,hf⟩:=k;have:=ih (λy m=>hs y (MO _ m)) l c
   intro J s Y H vs us Q I r ⟨A,Z,ws,a,S,b,j,f,e,d⟩;cases f with
   |nil=>cases e
   |cons n o=>
    show yA (uM c hi hl hf) this rfl J s Y H _ us Q I r #[_,_,rfl,?_];show#[A,_,_,a,S,b.set n _,j,o,e,d]
def F2 {ts:Lf L6}{is:Lf Ll}{k:Ll}{pos:Oy}(o:X.calm=true)(hs:∀x∈ts,∃y p,x=.Name y p)(h:RM (λ(t:L6) (i:Ll)=>∃x p,t=SK x p/\X.N[i]?=ba x/\B6 X.env.scope x/\(X.fn x=true\/X.env.scope.names.lookup x=ba .local)) ts is)(n:X.N.Nodup)
  (q:(assignEach ts X.env).length=↥ts) (b:(assignEach ts X.env).findIdx? (·.1)=gV):GG X (.Tuple ts k pos) (G7 is):=by
 intro J s Y H v u Q I r ⟨A,Z,S,w,a,S',l,g,c,e,B⟩;unfold G7 at e;split at e
 ·rw[Lk]at e;obtain⟨D,d,j⟩:=e;cases j;cases c with
  |tup m f=>
   have hl:∀(is:Lf Ll) (ws:Lf W) (Z a:Fm),eP is ws Z=ba a->↥is=↥ws:=by
    intro is
    induction is with
    |nil=>intro ws Z a e;cases ws<;>first|rfl|cases e
    |cons i is ih=>intro ws Z a e;cases ws<;>first|cases e|(simp;show ih _ _ _ e)
   show E3 o (xF hs h n) q b J s Y H _ u Q I r #[_,_,rfl,m,by rw[<- ↥f,<- hl _ _ _ _ d,<- Rz h],A,Z,_,_,_,l,g,f,d,λC z=>B _ _ A .refl g z]
 ·cases e
abbrev Dp (c b:FE):FG:=λw Z S=>match c Z S with
 |some (o,S1)=>match b Z S1 with
  |some (i,S2)=>match jv o i w S2 with
   |some a=>ba (Z,a)
   |none=>gV
  |none=>gV
 |none=>gV
inductive rSet (X:Cx)(g:W->W->W->aa->Ln aa)(ao ai av:V)(H:Hp)(Q:Hp->Prop):Prop
 |mk (A:Lf Lv) (S:aa) (o i w:W) (S':aa) (so:StoreOk X.w X.K A H S) (r1:Rel X.K A H o ao) (r2:Rel X.K A H i ai) (r3:Rel X.K A H w av) (e:g o i w S=ba S') (q:∀H' A',Ext X.K A H A' H'->StoreOk X.w X.K A' H' S'->Q H'):rSet X g ao ai av H Q
def LSet.pset {g:W->W->W->aa->Ln aa}(h:LSet X g):E2 X (rSet X g):=by
 intro J s Y H c b d t r u Q I n m p ⟨A,S,o,i,w,S',q,j,k,l,e,f⟩;show bF (h J s Y H A S o i w c b d t r u S' I q j n k m l p e) λ_ v #[a,A',I',e1,o1]=>#[a,I',f a A' e1 o1]
def F3 {o i:L6}{pos:Oy}{g f:FE}(B:X.A.units+10<cLine)(y:GE X o g)(hi:GE X i f)(x:∀v,assign (.Subscript o i pos) X.env v=(do
   let ov <- holding [v] (eval o X.env)
   let iv <- holding [v,ov] (eval i X.env)
   standAt pos
   holding [v,ov,iv] (setItem ov iv v)
   release [v,ov,iv] [])):GG X (.Subscript o i pos) (Dp g f):=by
 intro J s Y H v u Q I r ⟨A,Z,S,w,M,S',c,C,d,e,z⟩;unfold Dp at e;split at e
 ·rename_i o' S1 p;split at e
  ·rename_i h S2 q;split at e
   ·rename_i L t;cases e;show E4 y hi (HP B).pset x J s Y H v u Q I r ?_;show#[A,Z,S,o',S1,c,C,p,λa E #[l,e1,o1,r1]=>?_]
    show#[l,Z,S1,h,S2,c.mono e1,o1,q,λb G #[m,e2,o2,r2]=>?_]
    show#[m,S2,o',h,w,_,o2,r1.mono e2,r2,d.mono (e1.trans e2),t,λn k j D=>z Y n k ((e1.trans e2).trans j) D (c.mono ((e1.trans e2).trans j))]
   ·cases e
  ·cases e
 ·cases e
abbrev lU (f:FE)(g:FG):FS:=λZ S=>match f Z S with
 |some (w,S1)=>match g w Z S1 with
  |some (a,S2)=>ba (.nx a,S2)
  |none=>gV
 |none=>gV
def ud {tg e:L6}{pos:Oy}{f:FE}{g:FG}(h:GE X e f)(k:GG X tg g)(hs:swapsWithSole [tg] e pos.line X.env=pure false)(l:swappedStores [tg] e X.env=pure gV)(a:(assignEach [tg] X.env).map (·.2)=[assign tg X.env]) :
  GS X (.Assign [tg] e pos) (lU f g):=GS.of (E5 h k hs l a) λY H A Z S o S' c m e D hd=>by
 unfold lU at e;split at e
 ·rename_i w S1 a;split at e
  ·rename_i b S2 j;cases e;show#[A,Z,S,w,S1,c,m,a,λv s #[i,z1,z2,z3]=>?_]
   show#[i,Z,S1,w,b,_,c.mono z1,z2,z3,j,λt r d n p q=>hd.nx _ _ #[b,d,rfl,z1.trans n,p,q]]
  ·cases e
 ·cases e
abbrev Dq (i j:Ll)(f:FA):FS:=λZ S=>match f Z S with
 |some ([x,y],S1)=>ba (.nx ((Z.set i (ba x)).set j (ba y)),S1)
 |_=>gV
def F4 {i j:Ll}{x y:LW}{a b:L6}{f:FA}{k py pt pos:Oy}{h g:Ll}{c:Oy}(r:X.calm=true)(p:X.N.Nodup)(hi:X.N[i]?=ba x)(s:X.N[j]?=ba y)(d:i≠j)
  (v:X.env.scope.names.lookup x=ba .local) (w:X.env.scope.names.lookup y=ba .local) (q:GA X [a,b] f)
  (u:swappedStores [.Tuple [.Name x k,.Name y py] h pt] (.Tuple [a,b] g c) X.env=pure (ba [x,y]))
  (hs:swapsWithSole [.Tuple [.Name x k,.Name y py] h pt] (.Tuple [a,b] g c) pos.line X.env=pure false) :
  GS X (.Assign [.Tuple [.Name x k,.Name y py] h pt] (.Tuple [a,b] g c) pos) (Dq i j f):=GS.of (E6 r p hi s d v w q u hs) λY H A Z S o S' l C e D hd=>by
 unfold Dq at e;split at e
 ·rename_i x y S1 n;cases e;show#[A,Z,S,_,_,l,C,n,λvs E #[m,z1,z2,z3]=>?_]
  cases z3 with
  |cons z t=>
   cases t with
   |cons B t=>
    cases t;show#[_,_,rfl,hd.nx _ _ #[_,m,rfl,z1,z2,((l.mono z1).set z i).set B j]]
 ·cases e
abbrev pG (c:FT)(b:FS):Ll->FS
 |0,_,_=>gV
 |n+1,Z,S=>match c Z S with
  |some (true,S1)=>match b Z S1 with
   |some (.nx a,S2)=>pG c b n a S2
   |some (.ct a,S2)=>pG c b n a S2
   |some (.bk a,S2)=>ba (.nx a,S2)
   |some (.rt w,S2)=>ba (.rt w,S2)
   |none=>gV
  |some (false,S1)=>ba (.nx Z,S1)
  |none=>gV
def Ae {c:L6}{body:Lf O0}{pos:Oy}{s:FT}{fb:FS}(n:Ll)(M:SI (model X.prog X.w) X.A X.env X.xe)(L:GT X c s)(J:GSs X body fb):GS X (.While c body [] pos) (pG s fb n):=GS.of (yB M L J) λY H A Z S o S' I N e D hd=>by
 show#[λm B r=>∃k i S1,Ext X.K A H k r/\EnvRel X.K k r i B/\StoreOk X.w X.K k r S1/\pG s fb m i S1=ba (o,S'),#[n,A,Z,S,.refl,I,N,e],?_]
 rintro m B r ⟨k,i,S1,p,d,q,f⟩;cases m with
 |zero=>cases f
 |succ m=>
  dsimp only[pG]at f;split at f
  ·rename_i S2 y;show#[k,i,S1,_,S2,d,q,y,λb E #[z,A2,z1,z2]=>?_]
   subst z;rw[LU rfl];show#[λG u=>∃t l g,Ext X.K A H t u/\EnvRel X.K t u l G/\StoreOk X.w X.K t u g/\pG s fb m l g=ba (o,S'),λx a h=>#[m,M7 _,h],?_]
   split at f
   ·rename_i l g j;show#[A2,i,S2,_,g,d.mono z1,z2,j,#[λx a #[C,A',y0,y1,y2,y3]=>?_,λv a #[w,A',y0,_,_,_]=>(by cases y0),λv a #[w,A',y0,_,_,_]=>(by cases y0),λv a #[w,A',y0,_,_,_]=>(by cases y0)]]
    cases y0;show#[A',_,g,(p.trans z1).trans y1,y3,y2,f]
   ·rename_i l g j;show#[A2,i,S2,_,g,d.mono z1,z2,j,#[λv a #[w,A',y0,_,_,_]=>(by cases y0),λv a #[w,A',y0,_,_,_]=>(by cases y0),λv a #[w,A',y0,_,_,_]=>(by cases y0),λx a #[C,A',y0,y1,y2,y3]=>?_]]
    cases y0;show#[A',_,g,(p.trans z1).trans y1,y3,y2,f]
   ·rename_i l g j;cases f;show#[A2,i,S2,_,_,d.mono z1,z2,j,#[λv a #[w,A',y0,_,_,_]=>(by cases y0),λv a #[w,A',y0,_,_,_]=>(by cases y0),λx a #[C,A',y0,y1,y2,y3]=>?_,λv a #[w,A',y0,_,_,_]=>(by cases y0)]]
    cases y0;show hd.nx _ _ #[_,A',rfl,(p.trans z1).trans y1,y2,y3]
   ·rename_i O g j;cases f;show#[A2,i,S2,_,_,d.mono z1,z2,j,#[λv a #[w,A',y0,_,_,_]=>(by cases y0),λv a #[w,A',y0,y1,y2,y3]=>?_,λv a #[w,A',y0,_,_,_]=>(by cases y0),λv a #[w,A',y0,_,_,_]=>(by cases y0)]]
    cases y0;show hd.rt _ _ #[_,A',rfl,(p.trans z1).trans y1,y2,y3]
   ·cases f
  ·rename_i S2 y;cases f;show#[k,i,S1,_,_,d,q,y,λb E #[z,A2,z1,z2]=>?_]
   subst z;rw[L1 L5];show hd.nx _ _ #[_,A2,rfl,p.trans z1,z2,d.mono z1]
  ·cases f
end
set_option genInjectivity false in
inductive MI where
 |its (ws:Lf W)
 |live (r:Ll)
 |zl (r q:Ll)
abbrev mW (xs ys:Lf W):Lf W:=LK (λx y=>.tup [x,y]) xs ys
abbrev MI.at (S:aa)(i:Ll):MI->Ln (Ln W)
 |.its ws=>ba ws[i]?
 |.live r=>match gJ S r with
  |some xs=>ba xs[i]?
  |none=>gV
 |.zl r q=>match gJ S r,gJ S q with
  |some xs,ba ys=>ba (mW xs ys)[i]?
  |_,_=>gV
abbrev MI.len (S:aa):MI->Ln Ll
 |.its ws=>ba ↥ws
 |.live r=>(gJ S r).map (·.length)
 |.zl r q=>match gJ S r,gJ S q with
  |some xs,ba ys=>ba (mW xs ys).length
  |_,_=>gV
noncomputable abbrev FI:=Fm->aa->Ln (MI×aa)
structure MIt (wd:MB)(K:LF)(mi:MI)(td:It)(A0:Lf Lv)(H0:Hp):Prop where
 go:∀A H S i w,Ext K A0 H0 A H->StoreOk wd K A H S->mi.at S i=ba (ba w)->td.go i H/\∀x H',td.yld i H x H'->Ext K A H A H'/\StoreOk wd K A H' S/\Rel K A H' w x
 stop:∀A H S i,Ext K A0 H0 A H->StoreOk wd K A H S->mi.at S i=ba gV->td.stop i H
inductive tI (X:Cx)(f:FI)(Y:L2.St)(H:Hp)(R:It->Hp->Prop):Prop
 |mk (A:Lf Lv) (Z:Fm) (S:aa) (mi:MI) (S':aa) (er:EnvRel X.K A H Z Y) (so:StoreOk X.w X.K A H S) (e:f Z S=ba (mi,S')) (q:∀td H' A',Ext X.K A H A' H'->StoreOk X.w X.K A' H' S'->MIt X.w X.K mi td A' H'->R td H'):tI X f Y H R
noncomputable abbrev GI (X:Cx)(tg iter:L6)(f:FI):Prop:=PI X tg iter (tI X f)
abbrev Dr (f:FE):FI:=λZ S=>match f Z S with
 |some (.tup ws,S1)=>ba (.its ws,S1)
 |some (.ref r,S1)=>match gJ S1 r with
  |some _=>ba (.live r,S1)
  |none=>gV
 |_=>gV
abbrev dw (lo:LC)(n:Ll):Lf W:=(LR n).map λ(k:Ll)=>.int (lo+(k:LC))
abbrev ue (f:FA):FI:=λZ S=>match f Z S with
 |some ([.int j],S1)=>if -(2^62)<=j/\j<2^62 then ba (.its (dw 0 j.toNat),S1)else gV
 |_=>gV
abbrev iRng2 (f:FA):FI:=λZ S=>match f Z S with
 |some ([.int i,.int j],S1)=>if -(2^62)<=i/\i<2^62/\-(2^62)<=j/\j<2^62 then ba (.its (dw i (j-i).toNat),S1)else gV
 |_=>gV
abbrev gQ (mi:MI)(g:FG)(b:FS):Ll->Ll->FS
 |0,i,Z,S=>match mi.at S i with
  |some gV=>ba (.nx Z,S)
  |_=>gV
 |n+1,i,Z,S=>match mi.at S i with
  |some (ba w)=>match g w Z S with
   |some (c,S1)=>match b c S1 with
    |some (.nx a,S2)=>gQ mi g b n (i+1) a S2
    |some (.ct a,S2)=>gQ mi g b n (i+1) a S2
    |some (.bk a,S2)=>ba (.nx a,S2)
    |some (.rt w,S2)=>ba (.rt w,S2)
    |none=>gV
   |none=>gV
  |_=>gV
abbrev Ag (a:FI)(g:FG)(b:FS):FS:=λZ S=>match a Z S with
 |some (mi,S1)=>match mi.len S1 with
  |some n=>gQ mi g b n 0 Z S1
  |none=>gV
 |none=>gV
section
variable{X:Cx}
def Ds {A:Lf Lv}{H:Hp}{ws:Lf W}{a:Lv}{vs:Lf V}(h:SqT X.K H a vs)(r:RelL X.K A H ws vs):MIt X.w X.K (.its ws) (G1 X.K a) A H:=by
 show#[λd f S i w e c hi=>?_,λd f S i e c hi=>?_]
 ·simp only[MI.at,Mh]at hi;obtain⟨v,b,g⟩:=(r.mono e).get hi;show#[#[vs,v,e.tp _ _ h,b],λx k #[j,z2]=>?_]
  subst j;have:=z2 vs (e.tp _ _ h);rw[b]at this;cases this
  show#[.refl,c,g]
 ·simp only[MI.at,Mh]at hi;show#[vs,e.tp _ _ h,?_];rw[<- ↥r];show MN.mp hi
def Dt {A:Lf Lv}{H:Hp}{r:Ll}{a:Lv}(g:A[r]?=ba a):MIt X.w X.K (.live r) (JT X.K a) A H:=by
 show#[λj k S i w e c hi=>?_,λj k S i e c hi=>?_]
 ·simp only[MI.at]at hi;split at hi
  ·rename_i xs d;simp only[Mh]at hi;obtain⟨vs,b,f⟩:=bp c d (e.ad _ _ g);obtain⟨v,h,l⟩:=f.get hi;show#[#[vs,v,b,h],λx n #[m,z2]=>?_]
   subst m;have:=z2 vs b;rw[h]at this;cases this
   show#[.refl,c,l]
  ·cases hi
 ·simp only[MI.at]at hi;split at hi
  ·rename_i xs d;simp only[Mh]at hi;obtain⟨vs,b,f⟩:=bp c d (e.ad _ _ g);show#[vs,b,?_];rw[<- ↥f];show MN.mp hi
  ·cases hi
def eQ {lo:LC}{n i:Ll}:(dw lo n)[i]?=if i<n then ba (.int (lo+i))else gV:=by
 unfold dw;rw[Lu]
 by_cases h:i<n
 ·rw[LU h,N5 h];rfl
 ·rw[L1 h,MN.mpr (by simp;omega)];rfl
def vC {A:Lf Lv}{H:Hp}{lo:LC}{n:Ll}:MIt X.w X.K (.its (dw lo n)) (Hq lo n) A H:=by
 show#[λb c S i w e a hi=>?_,λb c S i e a hi=>?_]
 ·simp only[MI.at,Mh]at hi;rw[eQ]at hi;split at hi
  ·cases hi;show#[by assumption,λx f #[d,z2]=>?_]
   subst d z2;show#[.refl,a,.int]
  ·cases hi
 ·simp only[MI.at,Mh]at hi;rw[eQ]at hi;split at hi
  ·cases hi
  ·change n<=i;omega
def rD {tg:L6}{J:Lf (Lv×Nr)}{Y:L2.St}{d:Hp}{c:Lm}{R:It->Hp->Prop}{a:Lv}{xs:Lf V}{v:Lj}(f:Inv X J Y d c)(j:RelV (.ref a) v)(h:SqL X.K d a xs)(q:R (JT X.K a) d) :
  wpAny (model X.prog X.w) X.A (pyIter v) (Ho X J Y tg R) X.xe c:=by
 cases j;obtain⟨i,k,p,hz⟩:=f.list h;show OQ p.isList ?_;show#[⇑c.heap.objs,[⇑c.heap.objs],_,_,d,rfl,f.kept (t':=c.toks) λb o e=>Li _ e,wD a _,#[_,LI _ rfl,rfl,rfl],λb g=>?_,q]
 have e:b=⇑c.heap.objs:=by simpa using g
 subst e;show f.fpOk (Ls _) (f.hok.fresh (Ls _))
def uf {tg:L6}{J:Lf (Lv×Nr)}{Y:L2.St}{d:Hp}{c:Lm}{R:It->Hp->Prop}{a:Lv}{xs:Lf V}{v:Lj}(f:Inv X J Y d c)(j:RelV (.ref a) v)(i:SqT X.K d a xs)(q:R (G1 X.K a) d) :
  wpAny (model X.prog X.w) X.A (pyIter v) (Ho X J Y tg R) X.xe c:=by
 cases j;obtain⟨g,k,p,hz⟩:=f.tuple i;show Ts (show c.heap.IsTuple a g.toArray from p) ?_
 show#[⇑c.heap.objs,[⇑c.heap.objs],_,_,d,rfl,f.kept (t':=c.toks) λb o e=>Li _ e,sP a _,#[_,LI _ rfl,rfl,rfl],λb h=>?_,q]
 have e:b=⇑c.heap.objs:=by simpa using h
 subst e;show f.fpOk (Ls _) (f.hok.fresh (Ls _))
def Du {tg a:L6}{f:FA}{p pos:Oy}(i:Gl X "range")(k:X.mg "range" = gV)(h:GA X [a] f)(hs:starEach [a] X.env=[(false,eval a X.env)]):GI X tg (.Call (.Name "range" p) [a] [] pos) (ue f):=by
 intro J s Y H R I ⟨A,Z,S,mi,S',d,n,e,l⟩;unfold ue at e;split at e
 ·rename_i j S1 g;split at e
  ·rename_i b;cases e;show wF i k h hs J s Y H R I #[A,Z,S,_,_,d,n,g,λvs o #[c,z1,z2,z3]=>?_]
   cases z3 with
   |cons m t=>
    cases t;cases m;show#[j,rfl,b.1,b.2,l _ _ c z1 z2 vC]
  ·cases e
 ·cases e
def Dv {tg a b:L6}{f:FA}{p pos:Oy}(l:Gl X "range")(n:X.mg "range" = gV)(k:GA X [a,b] f)(hs:starEach [a,b] X.env=[(false,eval a X.env),(false,eval b X.env)])(c:starEach [b] X.env=[(false,eval b X.env)]):GI X tg (.Call (.Name "range" p) [a,b] [] pos) (iRng2 f):=by
 intro J s Y H R I ⟨A,Z,S,mi,S',g,u,e,o⟩;unfold iRng2 at e;split at e
 ·rename_i i j S1 h;split at e
  ·rename_i m;cases e;show wH l n k hs c J s Y H R I #[A,Z,S,_,_,g,u,h,λvs v #[d,z1,z2,z3]=>?_]
   cases z3 with
   |cons q t=>
    cases t with
    |cons r t=>
     cases t;cases q;cases r;show#[i,j,rfl,m,o _ _ d z1 z2 vC]
  ·cases e
 ·cases e
def F5 {tg l:L6}{f:FE}(h:GE X l f):GI X tg l (Dr f):=by
 intro J s Y H R I ⟨A,Z,S,mi,S',d,i,e,g⟩;unfold Dr at e;split at e
 ·rename_i ws S1 b;cases e;show bF (h J s Y H (EndV X.w X.K A H _ (.tup ws)) I #[A,Z,S,_,_,d,i,b,λ_ _ z=>z]) λv m #[x,H1,I1,r1,A1,e1,o1,z1]=>?_
  cases z1 with
  |tup a k=>
   show uf I1 r1 a (g _ _ A1 e1 o1 (Ds a k))
 ·rename_i r S1 b;split at e
  ·rename_i ys j;cases e;show bF (h J s Y H (EndV X.w X.K A H _ (.ref r)) I #[A,Z,S,_,_,d,i,b,λ_ _ z=>z]) λv m #[x,H1,I1,r1,A1,e1,o1,z1]=>?_
   cases z1 with
   |ref c=>
    obtain⟨vs,hl,_⟩:=bp o1 j c;show rD I1 r1 hl (g _ _ A1 e1 o1 (Dt c))
  ·cases e
 ·cases e
def F6 {tg iter:L6}{body:Lf O0}{pos:Oy}{O:FI}{g:FG}{fb:FS}(hp:SI (model X.prog X.w) X.A X.env X.xe)(W:X.calm=true)(hi:GI X tg iter O)(hg:GG X tg g)(V:GSs X body fb)
  (hs:∀x,foldedSetIterable iter X.env x=pure x):GS X (.For tg iter body [] pos) (Ag O g fb):=GS.of (E8 hp W hi hg V hs) λY H A Z S o S' N so e D hd=>by
 unfold Ag at e;split at e
 ·rename_i mi S1 T;split at e
  ·rename_i n hn;show#[A,Z,S,mi,S1,N,so,T,λtd G t C z2 s=>?_]
   show#[λi m J l=>∃b u S2,Ext X.K t G b l/\EnvRel X.K b l u J/\StoreOk X.w X.K b l S2/\gQ mi g fb m i u S2=ba (o,S'),#[n,t,Z,S1,.refl,N.mono C,z2,e],?_]
   rintro i m J l ⟨b,u,S2,y,r,k,w2⟩;cases m with
   |zero=>
    dsimp only[gQ]at w2;split at w2
    ·rename_i hs;cases w2;show .inl #[s.stop b l _ i y k hs,hd.nx _ _ #[_,b,rfl,C.trans y,k,r]]
    ·cases w2
   |succ m=>
    dsimp only[gQ]at w2;split at w2
    ·rename_i w hw;obtain⟨go,yl⟩:=s.go b l S2 i w y k hw;show .inr #[go,λR q=>∃E d c,Ext X.K t G E q/\EnvRel X.K E q d R/\StoreOk X.w X.K E q c/\gQ mi g fb m (i+1) d c=ba (o,S'),λI a h=>#[m,M7 _,h],λx q hy=>?_]
     obtain⟨P,x2,x3⟩:=yl x q hy;split at w2
     ·rename_i d c U;show#[b,u,S2,w,d,c,r.mono P,x2,x3,U,λY4 Q p y1 z B=>?_]
      have ex:Ext X.K t G p Q:=(y.trans P).trans y1;split at w2
      ·rename_i M f j;show#[p,d,c,_,f,B,z,j,#[λI a #[L,A',u0,u1,u2,u3]=>?_,λv a #[w,A',y0,_,_,_]=>(by cases y0),λv a #[w,A',y0,_,_,_]=>(by cases y0),λv a #[w,A',y0,_,_,_]=>(by cases y0)]]
       cases u0;show#[A',_,f,ex.trans u1,u3,u2,w2]
      ·rename_i M f j;show#[p,d,c,_,f,B,z,j,#[λv a #[w,A',y0,_,_,_]=>(by cases y0),λv a #[w,A',y0,_,_,_]=>(by cases y0),λv a #[w,A',y0,_,_,_]=>(by cases y0),λI a #[L,A',u0,u1,u2,u3]=>?_]]
       cases u0;show#[A',_,f,ex.trans u1,u3,u2,w2]
      ·rename_i M f j;cases w2;show#[p,d,c,_,_,B,z,j,#[λv a #[w,A',y0,_,_,_]=>(by cases y0),λv a #[w,A',y0,_,_,_]=>(by cases y0),λI a #[L,A',u0,u1,u2,u3]=>?_,λv a #[w,A',y0,_,_,_]=>(by cases y0)]]
       cases u0;show hd.nx _ _ #[_,A',rfl,(C.trans ex).trans u1,u2,u3]
      ·rename_i w5 f j;cases w2;show#[p,d,c,_,_,B,z,j,#[λv a #[w,A',y0,_,_,_]=>(by cases y0),λv a #[w,A',u0,u1,u2,u3]=>?_,λv a #[w,A',y0,_,_,_]=>(by cases y0),λv a #[w,A',y0,_,_,_]=>(by cases y0)]]
       cases u0;show hd.rt _ _ #[_,A',rfl,(C.trans ex).trans u1,u2,u3]
      ·cases w2
     ·cases w2
    ·cases w2
  ·cases e
 ·cases e
end
section
variable{prog:Mn}{w:MB}{B:Ms}{E:Lj->Lm->Prop}{s:Lm}
def Dw {d:Lv}{es:LY Oj}{f:Ll}{Q:Lj->Lm->Prop}(hd:(d==sysModules)=false)(e:RawD d es f s.heap)(c:(⇑es:LC)<2^63)
  (h:Q (.int ⇑es (s.toks+1)) {s with toks:=s.toks+1+1}):wpAny (model prog w) B (call (.builtin "len") [.ref d]) Q E s:=by
 have b:=e.type;obtain⟨o,g,i,a⟩:=id e;show PQ kind_len plain_len entry_len (args_len1 _) ?_;unfold O3.«len»;show Lg (m:=oneArg "len" _) (Lo ?_);show Lg (m:=callSpecial? (.ref d) (NO "__len__")) (MP (name:=NO "__len__") b F.slot_dict_len (MU F.slot_dict_len b F.entry_dict_len ?_ (F.args_dict_len_1 _)));change wpAny _ _ (dictSize d >>= _) _ _ s;unfold dictSize;show Lg (Lg (Qm g a (Lo ?_)));change wpAny _ _ (Vg d >>= _) _ _ s;show Lg (wpAny_pendingCount_other hd ?_);show wpAny_ret_mkInt ?_;rw[T0];change wpAny _ _ _ _ _ {s with toks:=s.toks+1}
 show Lg (MY (Lo ?_));show Lg (PD ?_);change wpAny _ _ (if ((⇑es:Ll):LC)<0 then _ else _) _ _ _
 rw[L1 ∅]
 change wpAny _ _ (if ((⇑es:Ll):LC)>=2^63 then _ else _) _ _ _
 rw[L1 ∅]
 show Lg (UB (Lo #[_,rfl,h]))
end
section
variable{X:Cx}{J:Lf (Lv×Nr)}{Y:L2.St}{H:Hp}{s:Lm}{A:Lf Lv}{S:aa}
def ug:LCall X (.builtin "len") tL:=by
 intro J s Y H A S xs vs us w S' I b c f e
 by_cases hd:∃i U,xs=[.ref i]/\kI S i=ba U
 ·obtain⟨i,U,rfl,hk⟩:=hd
  (dsimp only[tL]at e;simp only[hk]at e)
  cases e;cases c with
  |cons r t=>
   cases t;cases f with
   |cons l a=>
    cases a;cases r with
    |ref g=>
     obtain⟨xs,k,j⟩:=gO b hk g;have d:=cM I k;obtain⟨es,m,raw,h⟩:=d.raw;obtain rfl:_=Mr _:=l;have hl:⇑es=↥xs:=by rw[<- Lz,h,Lh]
     have hz:=d.1;have hs:sizeLine=16777216:=MF;show Dw d.2.1 raw ∅ #[.int ↥U,H,A,I.tok _,#[_,by rw[↥j,hl]],.refl,b,.int]
 ·have:tL xs S=tj xs S:=by
   unfold tL;split
   ·rename_i i;split
    ·rename_i U hk;show absurd #[i,U,rfl,hk] hd
    ·rfl
   ·rfl
  rw[this]at e;show xf J s Y H A S xs vs us w S' I b c f e
abbrev JB (S:aa):W->Ln Ng
 |.non=>ba "NoneType"|.bl _=>ba "bool"|.int _=>ba "int"|.str _=>ba "str"|.tup _=>ba "tuple"
 |.ref i=>match gJ S i with
  |some _=>ba "list"
  |none=>(kI S i).map λ_=>"dict"
abbrev rE:Lf Ng:=["bool","int","str","tuple","list","dict"]
abbrev xG (S:aa)(x:W)(c:Ng):Ln L7:=match JB S x with
 |some t=>if rE.contains c then ba (t==c||(t == "bool" && c == "int"))else gV
 |none=>gV
def i6 {K:LF}{t c:Ng}(b:t∈["NoneType","bool","int","str","tuple","list","dict"])(a:c∈rE):PySem.W.kitOne K (.type t) (.type c)=ba (t==c||(t == "bool" && c == "int")):=by
 simp only[rE,LQ,My,NE]at b a;rcases b with rfl|rfl|rfl|rfl|rfl|rfl|rfl<;>rcases a with rfl|rfl|rfl|rfl|rfl|rfl<;>rfl
def Ah:CallR X (.builtin "isinstance") (λvs H Q=>∃A S x v c b,vs=[v,.ty c]/\StoreOk X.w X.K A H S/\Rel X.K A H x v/\xG S x c=ba b/\Q (.bl b) H):=by
 intro J s Y H vs us Q I l ⟨A,S,x,v,c,b,y,u,M,f,C⟩;subst y;cases l with
 |cons g m=>cases m with
  |cons G n=>
   cases n;obtain rfl:_=NF c:=G;unfold xG at f;split at f
   ·rename_i t e;split at f
    ·rename_i B;cases f;have d:c∈rE:=by simpa using B
     have a:∀w,EP X J Y Q (.bool (t==c||(t == "bool" && c == "int"))) {s with toks:=w}:=λw=>#[.bl _,H,I.tok _,rfl,C]
     cases M with
     |non=>cases e;cases(show _=MG from g);show ON PySem.W.kitx_none I.kIn Qu (i6 (by simp) d) (λz=>nomatch z) a
     |bl=>cases e;cases(show _=Pz _ from g);show ON PySem.W.kitx_bool I.kIn Qu (i6 (by simp) d) (λz=>nomatch z) a
     |int=>cases e;obtain⟨t',q⟩:=(show ∃t,_=Qq _ t from g);cases q;show ON PySem.W.kitx_int I.kIn Qu (i6 (by simp) d) (λz=>nomatch z) a
     |str=>cases e;obtain⟨t',q⟩:=(show ∃t,_=Qr _ t from g);cases q;show ON PySem.W.kitx_str I.kIn Qu (i6 (by simp) d) (λz=>nomatch z) a
     |tup j E=>
      cases e;obtain⟨k,l,⟨o,h,i,_⟩,hz⟩:=I.tuple j;cases(show _=Mr _ from g)
      show ON PySem.W.kitx_tuple I.kIn #[o,h,i] (i6 (by simp) d) (λz=>nomatch z) a
     |ref r=>
      cases(show _=Mr _ from g)
      dsimp only[JB]at e;split at e
      ·rename_i ws D;cases e;obtain⟨vs,j,_⟩:=bp u D r;obtain⟨k,l,p,hz⟩:=I.list j;obtain⟨o,h,i,_⟩:=p.isList;show ON PySem.W.kitx_list I.kIn #[o,h,i] (i6 (by simp) d) (λz=>nomatch z) a
      ·rw[Lk]at e;obtain⟨U,hk,rfl⟩:=e;obtain⟨xs,L,P⟩:=gO u hk r;obtain⟨es,N,⟨o,h,i,_⟩,O⟩:=(cM I L).raw;show ON PySem.W.kitx_dict I.kIn #[o,h,i.1] (i6 (by simp) d) (λz=>nomatch z) a
    ·cases f
   ·cases f
abbrev Ai (c:Ng)(f:FE):FE:=λZ S=>match f Z S with
 |some (x,S1)=>(xG S1 x c).map λb=>(.bl b,S1)
 |none=>gV
def F7 {cn:LW}{c:Ng}{e:L6}{p p2 pos:Oy}{f:FE}(r:Gl X "isinstance")(s:X.mg "isinstance" = gV)(d:Gl X cn)(g:X.mg cn=gV)(i:bootBuiltins cn=ba (.type c))(h:cn≠"__name__")(a:(cn==("__debug__": LW))=false)
  (q:GE X e f) (hs:starEach [e,.Name cn p2] X.env=(false,eval e X.env)::starEach [.Name cn p2] X.env):GE X (.Call (.Name "isinstance" p) [e,.Name cn p2] [] pos) (Ai c f):=
 GE.of (qw (Ah) r s rfl (oM q (oM (B7 (v:=.ty c) d g i rfl h a) yD) hs) #v[] #v[] hs rfl) λY H A Z S w S' n u e Q t=>by
  unfold Ai at e;split at e
  ·rename_i k S1 o;rw[Lk]at e;obtain⟨b,l,m⟩:=e;cases m;show#[A,Z,S,k,_,n,u,o,λv x #[j,z1,z2,z3]=>#[j,_,k,v,c,b,rfl,z2,z3,l,t _ _ #[j,z1,z2,.bl]]]
  ·cases e
end
abbrev dR:Lf (T×W)->Lf W->Ln (Lf (T×W))
 |U,[]=>ba U
 |U,k::v::ws=>match iF k with
  |some t=>dR (eN U t v) ws
  |none=>gV
 |_,[_]=>gV
abbrev Ek:FE:=λ_ S=>ba (.ref ↥S,S++[.dic []])
abbrev rF (f:FA):FE:=λZ S=>match f Z (S++[.dic []])with
 |some (ws,S1)=>match S1[↥S]? with
  |some (.dic [])=>match dR [] ws with
   |some U=>ba (.ref ↥S,S1.set ↥S (.dic U))
   |none=>gV
  |_=>gV
 |none=>gV
section
variable (K:LF) (A:Lf Lv) (H:Hp)
inductive RelP:Lf W->Lf (V×V)->Prop
 |nil:RelP [] []
 |cons {k v:W}{a b:V}{ws:Lf W}{ps:Lf (V×V)}:Rel K A H k a->Rel K A H v b->RelP ws ps->RelP (k::v::ws) ((a,b)::ps)
end
def RelP.mono {K:LF}{A d:Lf Lv}{H f:Hp}(e:Ext K A H d f){ws:Lf W}{ps:Lf (V×V)}(h:RelP K A H ws ps):RelP K d f ws ps:=by
 induction h with
 |nil=>show .nil
 |cons a b c ih=>show .cons (a.mono e) (b.mono e) ih
section
variable{X:Cx}{J:Lf (Lv×Nr)}{Y:L2.St}{H:Hp}{s:Lm}{A:Lf Lv}{S:aa}
abbrev Kk (X:Cx)(A:Lf Lv)(H:Hp)(S':aa)(ws:Lf W):Lf (V×V)->Hp->Prop:=λps b=>∃a,Ext X.K A H a b/\StoreOk X.w X.K a b S'/\RelP X.K a b ws ps
abbrev Ii (X:Cx)(pos:Oy)(b:Lf (Ln L6))(a:Lf L6)(f:FA):Prop:=
 ∀(J:Lf (Lv×Nr)) (s:Lm) (Y:L2.St) (H:Hp) (A:Lf Lv) (Z:Fm) (S:aa) (ws:Lf W) (S':aa),Inv X J Y H s->EnvRel X.K A H Z Y->StoreOk X.w X.K A H S->f Z S=ba (ws,S')->
  wpAny (model X.prog X.w) X.A (evalPairs (pairTrees b a X.env pos)) (λvs d=>∃ps c,Inv X J Y c d/\VV ps vs/\Kk X A H S' ws ps c) X.xe s
def Dx {pos:Oy}:Ii X pos [] [] jC:=λJ s Y H A Z S ws S' I b a e=>by
 cases e;show pairTrees_nil_walk #[[],H,I,.nil,A,.refl,a,.nil]
def Aj {pos:Oy}{k v:L6}{ks:Lf (Ln L6)}{vs:Lf L6}{d g:FE}{f:FA}(hk:GE X k d)(m:GE X v g)(l:Ii X pos ks vs f):Ii X pos (ba k::ks) (v::vs) (dW d (dW g f)):=λJ s Y H A Z S ws S' I b p e=>by
 unfold dW at e;split at e
 ·rename_i r S1 h;split at e
  ·rename_i w2 S2 a;cases e;split at a
   ·rename_i t c i;split at a
    ·rename_i D y j;cases a;show pairTrees_cons_walk (bF (hk J s Y H (EndV X.w X.K A H S1 r) I #[A,Z,S,_,_,b,p,h,λ_ _ z=>z]) λu n #[x,H1,I1,r1,A1,e1,o1,z1]=>
      bF (m J n Y H1 (EndV X.w X.K A1 H1 c t) I1 #[A1,Z,S1,_,_,b.mono e1,o1,i,λ_ _ z=>z]) λC o #[w,H2,I2,r2,A2,e2,o2,z2]=>
      bF (l J o Y H2 A2 Z c _ _ I2 (b.mono (e1.trans e2)) o2 j) λq B #[ps,H3,I3,rel,A3,e3,o3,z3]=>?_)
     show#[(x,w)::ps,H3,I3,.cons #[r1,r2] rel,A3,e1.trans (e2.trans e3),o3,.cons (z1.mono (e2.trans e3)) (z2.mono e3) z3]
    ·cases a
   ·cases a
  ·cases e
 ·cases e
def nV {r:Ll}{d:Lv}{E:Lj->Lm->Prop}(hu:X.A.units+10<cLine):∀(vs:Lf (Lj×Lj)) (ps:Lf (V×V)) (ws:Lf W) (U f:Lf (T×W)) (s:Lm) (H:Hp) (S:aa) (Q:PUnit->Lm->Prop),
  Inv X J Y H s->StoreOk X.w X.K A H S->o8 S r=ba U->A[r]?=ba d->RelP X.K A H ws ps->VV ps vs->dR U ws=ba f->↥U+↥vs<=30->
  (∀v c,Inv X J Y c v->Ext X.K A H A c->StoreOk X.w X.K A c (S.set r (.dic f))->Q Tk v)->
  wpAny (model X.prog X.w) X.A (forIn vs Tk λ(x:Lj×Lj) (_:PUnit)=>(do dictSet d x.1 x.2;pure (NQ Tk):V8 (ForInStep PUnit))) Q E s
 |[],_,_,U,f,s,H,S,Q,I,w,k,p,L,P,e,hl,i=>by
  cases P;cases L;cases e;rw[Sz];show Lo (i s H I .refl ?_);have Z:=ju k;have:S.set r (.dic U)=S:=by
   apply Rx;intro j;rw[N3];split
   ·rename_i e;subst e
    split
    ·show Z.symm
    ·rename_i h;show absurd (LB.mp Z).1 h
   ·rfl
  rw[this];show w
 |(ku,y)::vs,_,_,U,f,s,H,S,Q,I,w,k,p,L,P,e,hl,i=>by
  cases P with
  |cons hv R=>
   cases L with
   |@cons wk b va vb ws2 ps2 rk N M=>
    dsimp only[dR]at e;split at e
    ·rename_i t ht;rw[QJ];obtain⟨xs,C,kr⟩:=u6 w k p;have a:=cM I (.inl C);have dd:=a.dict I kr;obtain⟨bk,e1,z,m⟩:=jt ht rk hv.1;have z:ku=Mr bk:=z;subst z;obtain⟨q1,q2,q3⟩:=eC ht;rw[L3]at hl;have hz:↥xs<=sizeLine:=a.1;show Lg (Lg (wpAny_dictSet_heap (hsz:=hz) (show X.A.units+aA<cLine by unfold aA;omega) (j3 I m q3) dd λh' g hs=>Lo ?_))
     have l:=kr.put q2 q3 m N hv.2;have G:(storedH xs t bk y).length<=sizeLine:=by
      rw[<- ↥l];have h2:=c8 U t b;rw[MF];omega
     have dn:DicAt X.w d (storedH xs t bk y) h':=.of G a.2.1 g;obtain⟨O,ex⟩:=w.writeO (ju k) rfl p (u:=eJ X.w d (storedH xs t bk y)) (n:=.dic (eN U t b)) #[_,aP,l.mono (cK (.ext C))];have I':Inv X J Y (bE H d (eJ X.w d (storedH xs t bk y))) {s with heap:=h',toks:=s.toks+(bh X.prog X.w).draws t}:=oU I (by rw[C];show Qu) hs (let ⟨q,_,_,i,_⟩:=g;#[q,i]) dn.ok
     have D:(S.set r (.dic (eN U t b)))[r]?=ba (.dic (eN U t b)):=by
      rw[N3,LU rfl,LU (LB.mp (ju k)).1]
     show nV hu vs _ _ (eN U t b) f _ _ _ Q I' O (by unfold o8;rw[D]) p (M.mono ex) R e (by have:=c8 U t b;omega) λv c I2 B o=>?_
     rw[List.set_set]at o;show i v c I2 (ex.trans B) o
    ·cases e
def Dy {pos:Oy}:GE X (.Dict [] [] pos) Ek:=λJ s Y H Q I #[A,Z,S,w,S',er,so,e,hq]=>by
 cases e;have b:=I.hok.fresh (Ls ⇑s.heap.objs);have c:DicAt X.w ⇑s.heap.objs [] (s.heap.push {cls:=.type "dict",data:=.dict #[]}):=#[MS _,QP.mpr (Ne.symm (LX I.big)),Rm,_,#[],0,LI _ rfl,#[rfl,rfl,rfl],rfl,rfl];show wpAny_Dict_empty #[.ref ⇑s.heap.objs,_,I.laid (a:=⇑s.heap.objs) (o:=eJ X.w ⇑s.heap.objs []) (t':=s.toks) (λ_ _ q=>Li _ q) (Ls _) c.ok,rfl,hq _ _ #[A++[⇑s.heap.objs],dc b,so.pushO b #[[],aP,.nil],.ref ?_]]
 rw[<- so.len];simp
def Dz {pos:Oy}{c:Lf (Ln L6)}{b:Lf L6}{f:FA}(W:X.A.units+10<cLine)(h:Ii X pos c b f)(d:c.all (·.isSome)=true)(hl:↥c=↥b)(N:c≠[])(P:↥c<=15):GE X (.Dict c b pos) (rF f):=by
 intro J s Y H Q I ⟨A,Z,S,w,S',M,z,e,V⟩;unfold rF at e;split at e
 ·rename_i ws S1 O;split at e
  ·rename_i n;split at e
   ·rename_i U T;cases e;have y:=I.hok.fresh (Ls ⇑s.heap.objs);have L:DicAt X.w ⇑s.heap.objs [] (s.heap.push {cls:=.type "dict",data:=.dict #[]}):=#[MS _,QP.mpr (Ne.symm (LX I.big)),Rm,_,#[],0,LI _ rfl,#[rfl,rfl,rfl],rfl,rfl];have D:=I.laid (a:=⇑s.heap.objs) (o:=eJ X.w ⇑s.heap.objs []) (h':=s.heap.push {cls:=.type "dict",data:=.dict #[]}) (t':=s.toks) (λ_ _ q=>Li _ q) (Ls _) L.ok
    have i:Ext X.K A H (A++[⇑s.heap.objs]) (bE H ⇑s.heap.objs (eJ X.w ⇑s.heap.objs [])):=dc y;have r:StoreOk X.w X.K (A++[⇑s.heap.objs]) (bE H ⇑s.heap.objs (eJ X.w ⇑s.heap.objs [])) (S++[.dic []]):=z.pushO y #[[],aP,.nil];have g:=pairTrees_length c b X.env pos d hl;have p:pairTrees c b X.env pos≠[]:=λR=>by
     rw[R]at g;show N (MQ.mp g.symm)
    rw[arm_eval_Dict,zip_pairTrees c b X.env pos d hl,dictDisplay_pairs _ p ∅]
    show Lg (Qx (Lg ?_));unfold subDict;show Lg (V0 ?_);show Lg (MY ?_);rw[LU ∅]
    show Lg (NR (wpAny_evalPairs_len (h J _ Y _ _ Z _ _ _ D (M.mono i) r O)) (λvs l k=>?_) λ_ _ e=>e)
    obtain⟨hvl,ps,C,E,vv,v,j,t,rp⟩:=k;show MY ?_;have x:v[↥S]?=ba ⇑s.heap.objs:=j.ad _ _ (by rw[<- z.len];simp)
    show Lg (nV W vs ps ws [] U l C S1 _ E t (by unfold o8;rw[n]) x rp vv T (by rw[N8];omega) λs' B G m u=>?_)
    show Lo (Lo (Lo #[.ref ⇑s.heap.objs,B,G,rfl,V _ _ #[v,i.trans (j.trans m),u,.ref x]]))
   ·cases e
  ·cases e
 ·cases e
end
abbrev KS (wd:MB)(a:Lv)(o:Nr)(xs:Lf (T×Lv×Lj)):It:=
 #[λi H=>H a=ba (.frz o (eJ wd a xs))/\i<↥xs,λi H x b=>b=H/\∃q,xs[i]?=ba q/\x=.ref q.2.1,λi H=>H a=ba (.frz o (eJ wd a xs))/\↥xs<=i]
def xH {P:Mn}{w:MB}{K:LF}{tg:L6}(a it:Lv){o:Nr}{es:LY Oj}{B:Ll}{xs:Lf (T×Lv×Lj)}(D:o.ExactDict)(hd:o.data=.dict es B)(u:es.toList=xs.map (yR w)) :
  Turn P w K tg (KS w a o xs) [it] it (λi h=>h.IsKeyIter it a i ⇑es B) where
 mem:=by simp
 obj:=λi h st b f=>by
  have e:b=it:=by simpa using f
  subst e;obtain⟨o,e,c,d⟩:=st;show#[o,e,λv z=>by rw[d]at z;cases z]
 keep:=λi h h' st k=>st.at λo e=>k it (by simp) o e
 item:=by
  intro X t A hK C i J s Y H E I hf st x;subst t A hK;obtain⟨r,hi⟩:=x;have y:s.heap.get? a=ba o:=(show ObjOk X.prog X.w H s.heap a (.frz o (eJ X.w a xs))from I.hok a _ r).1
  have hl:⇑es=↥xs:=by rw[<- Lz,u,Lh]
  have g:i<⇑es:=∅
  obtain⟨l,m,M,n,p,q⟩:=hf it (by simp)
  have hk:es[i].key=.ref (xs[i]).2.1:=by
   have:es.toList[i]?=ba (yR X.w xs[i]):=by rw[u,Lu,Lq hi];rfl
   rw[MX,Mx g]at this;have:=MR this;rw[this];rfl
  show qS st #[o,y,D,hd] g λh' j N=>?_
  have G:Inv X J Y H {s with heap:=h'}:=I.turned (t':=s.toks) (λb o f e=>(N.2 b f).trans e) l m n p q
  obtain⟨o',e,c,d⟩:=id j;show#[_,rfl,uN (s:={s with heap:=h'}) e c d #v[] #[.ref (xs[i]).2.1,H,G,hk,#[rfl,xs[i],Lq hi,rfl],j,λb f=>(hf b f).1]]
 done:=by
  intro X t A hK C i J s Y H E I hf st x;subst t A hK;obtain⟨r,hi⟩:=x;have y:s.heap.get? a=ba o:=(show ObjOk X.prog X.w H s.heap a (.frz o (eJ X.w a xs))from I.hok a _ r).1
  have hl:⇑es=↥xs:=by rw[<- Lz,u,Lh]
  obtain⟨l,m,M,n,p,q⟩:=hf it (by simp)
  show u8 (I.ok.hd C) st #[o,y,D,hd] ∅ λh' L=>#[rfl,I.turned (t':=s.toks) (λb o f e=>L b o f e) l m n p q]
 self:=λ_ _ _ _ _ st h=>Sw st h
abbrev fQ (f:FE):FI:=λZ S=>match f Z S with
 |some (.tup ws,S1)=>ba (.its ws,S1)
 |some (.ref r,S1)=>match gJ S1 r with
  |some _=>ba (.live r,S1)
  |none=>match kI S1 r with
   |some U=>ba (.its (U.map λp=>p.1.w),S1.set r (.frd U))
   |none=>gV
 |_=>gV
section
variable{X:Cx}{J:Lf (Lv×Nr)}{Y:L2.St}{H:Hp}{s:Lm}{A:Lf Lv}{S:aa}
def Ak {a:Lv}{o:Nr}{U:Lf (T×W)}{xs:Lf (T×Lv×Lj)}(c:H a=ba (.frz o (eJ X.w a xs)))(d:KRel X.K A H U xs):MIt X.w X.K (.its (U.map λp=>p.1.w)) (KS X.w a o xs) A H:=by
 show#[λh j S i w e g hi=>?_,λh j S i e g hi=>?_]
 ·simp only[MI.at,Mh]at hi;obtain⟨v,b,k⟩:=((d.mono e).keysL).get hi;rw[Lu,Lk]at b;obtain⟨q,f,l⟩:=b;show#[#[e.fz _ _ _ c,(LB.mp f).1],λx n #[m,q',z2,z3]=>?_]
  subst m z3;rw[f]at z2;cases z2
  show#[.refl,g,by rw[l];show k]
 ·simp only[MI.at,Mh]at hi;show#[e.fz _ _ _ c,?_];have:=MN.mp hi;rw[Lh,↥d]at this;show this
def DA {tg l:L6}{f:FE}(h:GE X l f):GI X tg l (fQ f):=by
 intro J s Y H R I ⟨A,Z,S,mi,S',N,V,e,Q⟩
 by_cases hd:∃r S1 U,f Z S=ba (.ref r,S1)/\gJ S1 r=gV/\kI S1 r=ba U
 ·obtain⟨r,S1,U,O,y,c⟩:=hd;simp only[fQ,O,y,c]at e;cases e;show bF (h J s Y H (EndV X.w X.K A H S1 (.ref r)) I #[A,Z,S,_,_,N,V,O,λ_ _ z=>z]) λv i #[x,H1,I1,r1,A1,e1,o1,z1]=>?_
  cases z1 with
  |@ref _ a C=>
   obtain rfl:v=Mr a:=r1;have fz:∃o xs m,Inv X J Y m i/\Ext X.K A1 H1 A1 m/\StoreOk X.w X.K A1 m (S1.set r (.frd U))/\m a=ba (.frz o (eJ X.w a xs))/\KRel X.K A1 m U xs:=by
    unfold kI at c;split at c
    ·rename_i k hk;cases c;obtain⟨xs,g,q⟩:=o1.obj r _ a hk C;have d:=cM I1 (.inl g);obtain⟨_,_,_,o,es,W,B,E,G,T⟩:=id d;obtain⟨L,ex⟩:=o1.writeO hk rfl C (u:=.frz o (eJ X.w a xs)) (n:=.frd U) #[o,xs,aP,q.mono (cK (.ext g))];show#[o,xs,_,oU (h':=i.heap) (t':=i.toks) (ob:=.frz o (eJ X.w a xs)) I1 (by rw[g];show Qu) (TW _ _) #[o,B] #[B,d.ok],ex,L,aP,q.mono ex]
    ·rename_i k hk;cases c;obtain⟨o,xs,g,q⟩:=o1.obj r _ a hk C;have:S1.set r (.frd U)=S1:=by
      apply Rx;intro j;rw[N3];split
      ·rename_i e;subst e
       split
       ·show hk.symm
       ·rename_i h;show absurd (LB.mp hk).1 h
      ·rfl
     rw[this];show#[o,xs,H1,I1,.refl,o1,g,q]
    ·cases c
   obtain⟨o,xs,m,t,ex,M,g,q⟩:=fz;have d:=cM t (.inr #[o,g]);have P:i.heap.get? a=ba o:=(show ObjOk X.prog X.w m i.heap a (.frz o (eJ X.w a xs))from t.hok a _ g).1
   obtain⟨_,D,_,o',es,W,B,E,G,T⟩:=id d;rw[P]at B;cases B;show qR D #[o,P,E,G] ?_;show#[⇑i.heap.objs,[⇑i.heap.objs],_,_,m,rfl,t.kept (t':=i.toks) λb o e=>Li _ e,xH a _ E G T,#[_,LI _ rfl,rfl,rfl],λb hb=>?_,Q _ _ A1 (e1.trans ex) M (Ak g q)]
   have e:b=⇑i.heap.objs:=by simpa using hb
   subst e;show t.fpOk (Ls _) (t.hok.fresh (Ls _))
 ·have:fQ f Z S=Dr f Z S:=by
   unfold fQ Dr;cases hf:f Z S with
   |none=>rfl
   |some p=>
    obtain⟨w,S1⟩:=p;cases w with
    |ref r=>
     cases y:gJ S1 r with
     |some _=>simp only[y]
     |none=>
      cases c:kI S1 r with
      |none=>simp only[y,c]
      |some U=>show absurd #[r,S1,U,hf,y,c] hd
    |_=>rfl
  rw[this]at e;show F5 h J s Y H R I #[A,Z,S,mi,S',N,V,e,Q]
end
abbrev bG (mi:MI)(g:FG)(c:FT)(f:FE):Ll->Ll->Fm->aa->Ln (Lf W×aa)
 |0,i,_,S=>match mi.at S i with
  |some gV=>ba ([],S)
  |_=>gV
 |n+1,i,Z,S=>match mi.at S i with
  |some (ba w)=>match g w Z S with
   |some (a,S1)=>match c a S1 with
    |some (true,S2)=>match f a S2 with
     |some (y,b)=>match bG mi g c f n (i+1) a b with
      |some (ys,d)=>ba (y::ys,d)
      |none=>gV
     |none=>gV
    |some (false,S2)=>bG mi g c f n (i+1) a S2
    |none=>gV
   |none=>gV
  |_=>gV
abbrev fH (a:Lf (Ln Ll))(Z:Fm):Fm:=a.map λo=>match o with
 |some j=>(Z[j]?).join
 |none=>gV
abbrev lV (b:FI)(g:FG)(c:FT)(f:FE)(a:Lf (Ln Ll)):FE:=λZ S=>match b Z S with
 |some (mi,S1)=>match mi.len S1 with
  |some n=>match bG mi g c f n 0 (fH a Z) S1 with
   |some (ys,S2)=>mT S2 ys
   |none=>gV
  |none=>gV
 |none=>gV
abbrev El:FT:=λ_ S=>ba (true,S)
abbrev mR (X:Cx)(scope:Pu)(b:Lf (LW×Lv))(C:Lv)(N:Lf LW)(s0:Lm)(a:Hp)(ex:Lf Lv):Cx:=
 {X with env:=compEnvC scope b C X.env,N:=N,s₀:=s0,H₀:=a,outer:=X.stack,stack:=X.stack,ex:=ex,fn:=λ_=>false,pn:=[],xe:=λ_ _=>Nb}
structure CompOk (X:Cx)(scope:Pu)(cl:Lf (LW×Lv))(N:Lf LW)(cap:Lf (Ln Ll)):Prop where
 clos:closureFor scope X.env=pure cl
 kind:scope.kind=.function
 names:∀y∈scope.names,y.2=.local->scope.names.lookup y.1=ba .local
 nocell:∀y∈scope.names,y.2≠.cell
 sub:∀x c,cl.lookup x=ba c->X.env.cells.lookup x=ba c
 has:∀x,((relabel scope X.env).names.lookup x=ba .cell\/(relabel scope X.env).names.lookup x=ba .free)->∃c,cl.lookup x=ba c
 len:↥cap=↥N
 cap:∀(i j:Ll) (x:LW),cap[i]?=ba (ba j)->N[i]?=ba x->X.N[j]?=ba x/\(X.env.kindOf x=ba .cell\/X.env.kindOf x=ba .free)/\((relabel scope X.env).names.lookup x=ba .cell\/(relabel scope X.env).names.lookup x=ba .free)
def iH {prog:Mn}{w:MB}{A:Ms}{R:Ud->Lm->Prop}{s:Lm}{l a iter:L6}{o:Lf L6}{scope:Pu}{pos:Oy}{it k:Lj}{env:Tz}(I:Ll->Lm->Prop)
    (u:∀n s,I n s->wpAny (model prog w) A (pyNext it) (λr b=>match r with
      |none=>R (.ok .next) b
      |some v=>wpAny (model prog w) A (letOwnedTupleGo a it v) (λ_ b=>wpAny (model prog w) A (assign a env v) (λ_ g=>
          wpAny (model prog w) A (forIn o true λc r=>if r=true then do let ok <- isTrue c env (eval c env);pure (NQ ok)else pure (NQ r)) (λok e=>
            if ok=true then wpAny (model prog w) A (eval l env) (λx i=>
              wpAny (model prog w) A (call (.builtin "list.append") [k,x]) (λ_ j=>∃m,m<n/\I m j) (λ_ _=>Nb) i) (λ_ _=>Nb) e
            else ∃m,m<n/\I m e) (λ_ _=>Nb) g) (λ_ _=>Nb) b) (λ_ _=>Nb) b) (λ_ _=>Nb) s)
    (n:Ll) (h:I n s) :
    codeAny (model prog w) A (.compLoop (.ListComp l [#[a,iter,o,0]] scope pos) 0 it k env) R s:=by
  show codeAny_loop rfl I (λn s y=>?_) n h
  change wpAny _ A ((compTurn (.ListComp l [#[a,iter,o,0]] scope pos) 0 it k env).onRaise (λx=>do noteFrame x env;theTreesLotGoes x)) _ _ s
  show wpAny_noted ?_;rw[compTurn_list];show Lg (Qx (Lg (NR (u n s y) (λr b d=>?_) λ_ _ h'=>h'.elim)))
  cases r with
  |none=>show Lo d
  |some v=>
    show Lg (NR d (λ_ b d=>?_) λ_ _ h'=>h'.elim)
    show Lg (NR d (λ_ g p=>Lg (NR p (λok e f=>?_) λ_ _ h'=>h'.elim)) λ_ _ h'=>h'.elim)
    cases ok with
    |false=>show Lo #[rfl,f]
    |true=>
      show Lg (Lg (NR f (λx i q=>Lg (NR q (λ_ j t=>Lo (Lo #[rfl,t])) λ_ _ h'=>h'.elim)) λ_ _ h'=>h'.elim))
section
variable{X:Cx}{J:Lf (Lv×Nr)}{Y:L2.St}{H:Hp}{s:Lm}
def Inv.adopt {D:Lv}{o:HO}(I:Inv X J Y H s)(t:H D=gV)(i:D∈X.ex\/⇑X.s₀.heap.objs<=D)(l:D≠X.env.locals)(j:∀x c,X.env.cells.lookup x=ba c->c≠D)(k:∀p∈X.pn++J,p.1≠D)
  (h:ObjOk X.prog X.w (bE H D o) s.heap D o):Inv X J Y (bE H D o) s:=by
 have a:∀b u,H b=ba u->b≠D:=λb u e z=>by rw[z,t]at e;cases e
 have g:Inv X J Y (bE H D o) {s with heap:=s.heap,gens:=s.gens,drawn:=s.drawn,toks:=s.toks}:=by
  show I.step (g':=s.gens) (d':=s.drawn) (t':=s.toks) (h':=s.heap) (ch:=[D]) (λb f=>?_) (λb o _ _ d e _=>e) (λb o _ _ d e _=>#[o.slots,e]) (λb o d e n=>?_)
   (λb o d e=>#[o,e]) (λb xs e=>?_) (λb o xs e=>?_) (λb ps e=>#[#[],?_]) (λm r=>r) (λb u e=>?_) I.bare
  ·have e:b=D:=by simpa using f
   subst e;show#[i,l,j,k]
  ·rw[aF (λz=>d (by simp[z]))];show n
  ·rw[aF (a b _ e)];show e
  ·rw[aF (a b _ e)];show e
  ·rw[aF (a b _ e),e];simp
  ·by_cases f:b=D
   ·subst f;rw[aP]at e;cases e;show h
   ·rw[aF f]at e;show(I.hok b u e).stay (λc v d q=>q) (λc q=>?_) λc xs q=>?_
    ·rw[aF (a c _ q)];show q
    ·rw[aF (a c _ q)];show q
 show g
def F8 {scope:Pu}{i:Lf (LW×Lv)}{N:Lf LW}{g:Lf (Ln Ll)}{C:Lv}{s0:Lm}{ex:Lf Lv}(I:Inv X J Y H s)(f:CompOk X scope i N g)(hs:⇑s.heap.objs<=s0.heap.objs.size)(l:s0.heap.objs.size<=C)
  (hk:∀b o,s.heap.get? b=ba o->s0.heap.get? b=ba o) (a:∀b∈ex,(b≠C)/\(∀x c,X.env.cells.lookup x=ba c->c≠b)/\(∀o,X.base.get? b≠ba o)/\b∉sO X.stack) :
  (mR X scope i C N s0 H ex).Ok where
 mod:=I.ok.mod
 kind:=f.kind
 glob:=I.ok.glob
 blt:=I.ok.blt
 above:=l
 inj:=λx y c j k=>I.ok.inj x y c (f.sub x c j) (f.sub y c k)
 has:=λx h=>f.has x h
 cab:=λx c h=>by cases h
 hd:=I.ok.hd
 frames:=I.ok.frames
 stk:=.inl rfl
 exf:=λb d=>#[(a b d).1,λx c h=>(a b d).2.1 x c (f.sub x c h)]
 bs:=λb o e=>#[hk b o (I.bk b o e),(I.bs b o e).2]
 bsz:=Lw (Lw I.ok.bsz I.sz) hs
 noex:=λb o e d=>(a b d).2.2.1 o e
 exfs:=λb d=>(a b d).2.2.2
 funs:=I.stack.of_keeps λb o e _=>#[o,hk b o e,rfl]
 frf:=I.stkFree
structure BlockOk (X:Cx)(scope:Pu)(cl:Lf (LW×Lv))(N:Lf LW)(tg elt:L6)(ifs:Lf L6)(g:FG)(c:FT)(f:FE):Prop where
 tgt:∀C s0 H0 ex,GG (mR X scope cl C N s0 H0 ex) tg g
 tst:∀C s0 H0 ex J s Y H Q,Inv (mR X scope cl C N s0 H0 ex) J Y H s->tT (mR X scope cl C N s0 H0 ex) c Y H Q->
  wpAny (model X.prog X.w) X.A (forIn ifs true λc r=>if r=true then do let ok <- isTrue c (compEnvC scope cl C X.env) (eval c (compEnvC scope cl C X.env));pure (NQ ok)else pure (NQ r)) (TP (mR X scope cl C N s0 H0 ex) J Y Q) (λ_ _=>Nb) s
 elt:∀C s0 H0 ex,GE (mR X scope cl C N s0 H0 ex) elt f
def pH {prog:Mn}{w:MB}{B:Ms}{s:Lm}{E:Lj->Lm->Prop}{Q:Lj->Lm->Prop}{D:Lv}{c:Lf Lj}{n:Ll}{u:Lj}(e:s.heap.get? D=ba {cls:=.type "list",data:=.seq c.toArray n})(hz:↥c<sizeLine)
  (h:∀h' i,h'.get? D=ba {cls:=.type "list",data:=.seq (c++[u]).toArray i}->(∀b o,b≠D->s.heap.get? b=ba o->h'.get? b=ba o)->Q .none {s with heap:=h'}) :
  wpAny (model prog w) B (call (.builtin "list.append") [.ref D,u]) Q E s:=by
 show Q9 F.slot_list_append #[_,e,rfl] F.entry_list_append (F.args_list_append_2 _ _) (TN D c.toArray n u (by rw[LM];show Ni ‹_›)) #[e,?_]
 have q:=Uh e (λa=>a.push u)
 have d:c.toArray.push u=(c++[u]).toArray:=by simp
 rw[d]at q;show h _ _ q (λb o f g=>(ME s.heap (Nj λa=>a.push u) (Ne.symm f)).trans g)
def nW {scope:Pu}{cl:Lf (LW×Lv)}{N:Lf LW}{cap:Lf (Ln Ll)}{tg elt iter:L6}{ifs:Lf L6}{g:FG}{c:FT}{f:FE}{pos:Oy}{A:Lf Lv}{Z:Fm}{S S':aa}{mi:MI}{n:Ll}{ws:Lf W}{E:Lj->Lm->Prop}
  {it:Lv}{B:Lf Lv}{tn:Ll->MD->Prop}{td:It}{RR:Lj->Lv->Ud->Lm->Prop}
  (I:Inv X J Y H s) (hc:X.calm=true) (er:EnvRel X.K A H Z Y) (so:StoreOk X.w X.K A H S) (ck:CompOk X scope cl N cap) (bk:BlockOk X scope cl N tg elt ifs g c f)
  (T:Turn X.prog X.w X.K tg td B it tn) (t0:tn 0 s.heap) (O:∀b∈B,iT X J H b) (mit:MIt X.w X.K mi td A H) (e:bG mi g c f n 0 (fH cap Z) S=ba (ws,S')) (hz:↥ws<=sizeLine)
  (fin:∀D C U h G vs m,U.heap.Ns C m->h D=gV->D≠C->C≠X.env.locals->C∉X.fs->h C=gV->⇑X.s₀.heap.objs<=C->(∀x c,X.env.cells.lookup x=ba c->c≠C)->(∀p∈X.pn++J,p.1≠C)->
   Inv X J Y (bE h D (.lst vs)) U->Ext X.K A H G h->StoreOk X.w X.K G h S'->RelL X.K G h ws vs->RR (.ref D) C (.ok .next) U) :
  wpAny (model X.prog X.w) X.A (newList []) (λacc s₃=>wpAny (model X.prog X.w) X.A (newFunctionEnv scope X.env.globals cl [] X.env.qual gV .none (ba X.env)) (λcenv s₄=>
   codeAny (model X.prog X.w) X.A (.compStart (.ListComp elt [#[tg,iter,ifs,0]] scope pos) 0 (.ref it) acc {cenv with scope:=relabel scope X.env}) (RR acc cenv.locals) s₄) E s₃) E s:=by
 show MC (wpAny_newFunctionEnv ck.nocell (by intro y hy;simp at hy) (λh₁ P R=>?_) ck.kind)
 dsimp only at P R ⊢;generalize hH2:s.heap.push {cls:=.type "list",dict:=gV,data:=.seq ([]:Lf Lj).toArray}=h2 at P R ⊢;have hCs:⇑h2.objs=⇑s.heap.objs+1:=by rw[<- hH2,Nv]
 have k2:∀b o,s.heap.get? b=ba o->h2.get? b=ba o:=λb o z=>hH2▸Li _ z
 have lt2:∀b o,h2.get? b=ba o->b<⇑h2.objs:=λb o z=>LO z
 have k1:∀b o,h2.get? b=ba o->h₁.get? b=ba o:=λb o z=>R.extBut b o (LX (lt2 b o z)) (Li _ z)
 have hD2:h2.get? ⇑s.heap.objs=ba {cls:=.type "list",data:=.seq ([]:Lf Lj).toArray}:=hH2▸LI _ rfl;have hDC:⇑s.heap.objs≠⇑h2.objs:=by rw[hCs];omega
 have fresh:∀a,⇑s.heap.objs<=a->H a=gV:=λa ha=>I.hok.fresh ha
 have L:∀x c,X.env.cells.lookup x=ba c->c<⇑s.heap.objs:=λx c z=>let ⟨_,q⟩:=I.cell x c z;q.lt
 have fpLt:∀b∈B,b<⇑s.heap.objs:=λb d=>let ⟨_,q,_⟩:=T.obj 0 s.heap t0 b d;LO q
 have stkLt:∀b∈sO X.stack,b<⇑s.heap.objs:=λb d=>let ⟨_,o,q,_⟩:=I.stack.mem d;LO q
 have baseLt:∀b o,X.base.get? b=ba o->b<⇑s.heap.objs:=λb o z=>LO (I.bk b o z)
 have fpStk:∀b∈B,b∉sO X.stack:=λb d z=>by
  rcases LQ.mp (I.stkSub b z)with q|q
  ·show(O b d).2.1 q
  ·show(O b d).2.2.1 q
 have fpBase:∀b∈B,∀o,X.base.get? b≠ba o:=λb d o z=>by
  rcases(O b d).2.2.2.1 with q|q
  ·show I.ok.noex b o z q
  ·show absurd (LZ (LO (I.ok.bs b o z).1) q) (M6 _)
 have ltC:∀{b:Lv},b<⇑s.heap.objs->b≠⇑h2.objs:=λd=>by rw[hCs];show LX (Ol d)
 let s3:Lm:={s with heap:=h2}
 have ok':(mR X scope cl ⇑h2.objs N s3 H (B++[⇑s.heap.objs])).Ok:=by
  show F8 I ck (show ⇑s.heap.objs<=⇑h2.objs by rw[hCs];omega) (Ls _) k2 λb d=>?_
  rcases Ma.mp d with d|d
  ·show#[ltC (fpLt b d),(O b d).2.2.2.2.1,fpBase b d,fpStk b d]
  ·have eb:b=⇑s.heap.objs:=by simpa using d
   subst eb;show#[hDC,λx c z=>LX (L x c z),λo z=>M6 _ (baseLt _ o z),λz=>M6 _ (stkLt _ z)]
 obtain⟨m0,hn0,hl0⟩:=I.loc;have I0:Inv (mR X scope cl ⇑h2.objs N s3 H (B++[⇑s.heap.objs])) [] (cap.map λo=>match o with|some j=>(Y[j]?).join|none=>gV) H {s3 with heap:=h₁,toks:=s3.toks+([]:Lf (LW×Lj)).length}:=by
  show#[ok',rfl,I.bare,Un.kept k1,#[_,P,λi x v e1 e2 e3=>?_],λx V z=>?_,fresh _ (show ⇑s.heap.objs<=⇑h2.objs by rw[hCs];show OP _),λx V z=>I.freeC x V (ck.sub x V z),λp Q=>absurd Q (by simp[mR]),(I.hok.kept k2).kept k1,by rw[Lh];show ck.len]
  ·rw[Lu]at e2;cases q:cap[i]? with
   |none=>rw[q]at e2;cases e2
   |some oj=>
    rw[q]at e2;cases oj with
    |none=>cases e2
    |some j=>
     obtain⟨z1,z2,z3⟩:=ck.cap i j x q e1;have e2':(Y[j]?).join=ba v:=by simpa using e2
     have e2'':Y[j]?=ba (ba v):=by
      cases r:Y[j]? with
      |none=>rw[r]at e2';cases e2'
      |some y=>rw[r]at e2';show congrArg ba e2'
     obtain⟨u,ru,lk⟩:=hl0 j x v z1 e2'' (by
      rcases z2 with z|z
      ·show .inr (.inl z)
      ·show .inr (.inr z))
     show#[u,ru,?_];rcases lk with⟨zk,_⟩|⟨_,V,zc,zi⟩
     ·rcases z2 with z|z<;>(rw[zk]at z;cases z)
     ·obtain⟨c2,hc2⟩:=ck.has x z3;have:=ck.sub x c2 hc2;rw[zc]at this;cases this
      show .inr #[z3,V,hc2,?_];obtain⟨o,ho,hd⟩:=zi;show#[o,k1 _ _ (k2 _ _ ho),hd]
  ·obtain⟨v,o,ho,hd⟩:=I.cell x V (ck.sub x V z);show#[v,o,k1 _ _ (k2 _ _ ho),hd]
 have er0:EnvRel X.K A H (fH cap Z) (cap.map λo=>match o with|some j=>(Y[j]?).join|none=>gV):=by
  show#[by simp[fH],λi w q=>?_]
  unfold fH at q;rw[Lu]at q ⊢;cases r:cap[i]? with
  |none=>rw[r]at q;cases q
  |some oj=>
   rw[r]at q;cases oj with
   |none=>cases q
   |some j=>
    have q':(Z[j]?).join=ba w:=by simpa using q
    have q'':Z[j]?=ba (ba w):=by
     cases z:Z[j]? with
     |none=>rw[z]at q';cases q'
     |some y=>rw[z]at q';show congrArg ba q'
    obtain⟨v,z1,z2⟩:=er.2 j w q'';show#[v,by simp[z1],z2]
 have t1:tn 0 h₁:=T.keep 0 s.heap h₁ t0 λb d o z=>k1 b o (k2 b o z)
 have fpOk':∀{h:Hp}{pp:Lf (Lv×Nr)},(∀b∈B,h b=gV)->(∀p∈pp,p.1=⇑s.heap.objs)->∀b∈B,iT (mR X scope cl ⇑h2.objs N s3 H (B++[⇑s.heap.objs])) pp h b:=λhn Q b d=>
  #[hn b d,ltC (fpLt b d),fpStk b d,.inl (MZ _ d),λx V z=>(O b d).2.2.2.2.1 x V (ck.sub x V z),λp hpp=>by
   rw[Q p (by simpa [mR]using hpp)]
   show(LX (fpLt b d)).symm]
 have M:⇑s.heap.objs∈B++[⇑s.heap.objs]:=Mf _ (by simp)
 have cellD:∀x c,cl.lookup x=ba c->c≠⇑s.heap.objs:=λx V z=>LX (L x V (ck.sub x V z))
 have fpD:∀b∈B,b≠⇑s.heap.objs:=λb d=>LX (fpLt b d)
 have theEnd:∀U Y' h G vs t nn,Inv (mR X scope cl ⇑h2.objs N s3 H (B++[⇑s.heap.objs])) [] Y' h U->U.heap.get? ⇑s.heap.objs=ba {cls:=.type "list",data:=.seq t nn}->∀(hits:∃l:Lf Lj,t=l.toArray/\Vals vs l),h ⇑s.heap.objs=gV->Ext X.K A H G h->StoreOk X.w X.K G h S'->RelL X.K G h ws vs->
   RR (.ref ⇑s.heap.objs) ⇑h2.objs (.ok .next) U:=by
  intro U Y' h G vs t nn I' hD hits hDn ex so' rl;obtain⟨l,rfl,rv⟩:=hits;obtain⟨m,hn,_⟩:=id I'.loc;have un:Un (sO X.stack) (B++[⇑s.heap.objs]) H h s.heap U.heap:=(Un.kept k2).trans I'.base;have hch:∀b∈B++[⇑s.heap.objs],(b∈X.ex\/⇑X.s₀.heap.objs<=b)/\b≠X.env.locals/\(∀x c,X.env.cells.lookup x=ba c->c≠b)/\∀p∈X.pn++J,p.1≠b:=λb d=>by
   rcases Ma.mp d with d|d
   ·show#[(O b d).2.2.2.1,(O b d).2.1,(O b d).2.2.2.2.1,(O b d).2.2.2.2.2]
   ·have eb:b=⇑s.heap.objs:=by simpa using d
    subst eb;show#[.inr I.sz,(LX I.lt).symm,λx V z=>LX (L x V z),λp Q=>LX (LO (I.pin p Q).1)]
  have I2:Inv X J Y h U:=I.call' (show U.os=s.os from I'.os) un I'.hok I'.bare hch
  have I3:Inv X J Y (bE h ⇑s.heap.objs (.lst vs)) U:=Inv.adopt I2 hDn (hch _ M).1 (hch _ M).2.1 (hch _ M).2.2.1 (hch _ M).2.2.2 #[by rw[<- ↥rl];show hz,l,nn,rv,hD]
  have hCle:⇑s.heap.objs<=⇑h2.objs:=by rw[hCs];show OP _
  show fin _ _ U h G vs m hn hDn hDC (Mk (LZ I.lt hCle)) (I.nofs hCle) I'.free (Lw I.sz hCle) (λx V z=>LX (LZ (L x V z) hCle))
   (λp Q=>LX (LZ (LO (I.pin p Q).1) hCle)) I3 ex so' rl
 have loop:∀s4:Lm,s4={s3 with heap:=h₁,toks:=s3.toks+([]:Lf (LW×Lj)).length}->
   codeAny (model X.prog X.w) X.A (.compLoop (.ListComp elt [#[tg,iter,ifs,0]] scope pos) 0 (.ref it) (.ref ⇑s.heap.objs) (compEnvC scope cl ⇑h2.objs X.env)) (RR (.ref ⇑s.heap.objs) ⇑h2.objs) s4:=by
  rintro s4 rfl;show iH (λk s5=>∃i Y5 H5 A5 Z5 S5 done t nn vs ys,Inv (mR X scope cl ⇑h2.objs N s3 H (B++[⇑s.heap.objs])) [] Y5 H5 s5/\tn i s5.heap/\(∀b∈B,H5 b=gV)/\s5.heap.get? ⇑s.heap.objs=ba {cls:=.type "list",data:=.seq (t:Lf Lj).toArray nn}/\H5 ⇑s.heap.objs=gV/\Vals vs t/\
   Ext X.K A H A5 H5/\EnvRel X.K A5 H5 Z5 Y5/\StoreOk X.w X.K A5 H5 S5/\RelL X.K A5 H5 done vs/\ws=done++ys/\bG mi g c f k i Z5 S5=ba (ys,S')) ?_ n
   #[0,_,H,A,_,S,[],[],0,[],ws,I0,t1,λb d=>(O b d).1,k1 _ _ hD2,fresh _ (Ls _),.nil,.refl,er0,so,.nil,rfl,e]
  rintro k s5 ⟨i,Y5,H5,A5,Z5,S5,done,t,nn,vs,ys,I5,t5,f5,d5,n5,v5,e5,er5,so5,rl5,hw5,w5⟩;have pinD:Inv (mR X scope cl ⇑h2.objs N s3 H (B++[⇑s.heap.objs])) [(⇑s.heap.objs,{cls:=.type "list",data:=.seq t.toArray nn})] Y5 H5 s5:=I5.pins_of λp Q=>by
   have hp':p=(⇑s.heap.objs,{cls:=.type "list",data:=.seq t.toArray nn}):=by simpa using Q
   subst hp';show#[d5,n5,hDC,λz=>M6 _ (stkLt _ z),λv z=>by cases z]
  have oneD:∀p∈[(⇑s.heap.objs,({cls:=.type "list",data:=.seq t.toArray nn}:Nr))],p.1=⇑s.heap.objs:=λp Q=>by
   have hp':p=(⇑s.heap.objs,{cls:=.type "list",data:=.seq t.toArray nn}):=by simpa using Q
   rw[hp']
  cases k with
  |zero=>
   dsimp only[bG]at w5;split at w5
   ·rename_i hst;cases w5;rw[NA]at hw5;subst hw5;show bF (T.done (mR X scope cl ⇑h2.objs N s3 H (B++[⇑s.heap.objs])) rfl rfl rfl hc i _ s5 Y5 H5 _ pinD (fpOk' f5 oneD) t5 (mit.stop A5 H5 _ i e5 so5 hst)) λr s6 #[hr,I6]=>?_
    subst hr;have p6:=I6.pin _ (Mf _ (LA.mpr rfl));show theEnd s6 Y5 H5 A5 vs _ nn (I6.pins_of λp Q=>absurd Q (by simp)) p6.1 #[t,rfl,v5] n5 e5 so5 rl5
   ·cases w5
  |succ k=>
   dsimp only[bG]at w5;split at w5
   ·rename_i w hw;obtain⟨go,yl⟩:=mit.go A5 H5 S5 i w e5 so5 hw;show bF (T.item (mR X scope cl ⇑h2.objs N s3 H (B++[⇑s.heap.objs])) rfl rfl rfl hc i _ s5 Y5 H5 _ pinD (fpOk' f5 oneD) t5 go) λr s6 #[u,hr,h6]=>?_
    subst hr;show bF h6 λ_ s7 #[x,H7,I7,r7,y7,t7,f7]=>?_
    obtain⟨x1,x2,x3⟩:=yl x H7 y7;have I7':=I7.pinned (fpOk' f7 oneD) (T.obj _ _ t7);split at w5
    ·rename_i Z8 S8 h8;show bF (bk.tgt _ _ _ _ _ s7 Y5 H7 x u (λY' h=>∃G,Ext X.K A5 H5 G h/\StoreOk X.w X.K G h S8/\EnvRel X.K G h Z8 Y') I7' r7 #[A5,Z5,S5,w,Z8,S8,er5.mono x1,x2,x3,h8,λY' h G q1 q2 q3=>#[G,x1.trans q1,q2,q3]]) λ_ s8 #[Y8,H8,I8,A8,e58,so8,er8]=>?_
     have e8:Ext X.K A H A8 H8:=e5.trans e58;have pD:∀{Y':L2.St}{h:Hp}{U:Lm},Inv (mR X scope cl ⇑h2.objs N s3 H (B++[⇑s.heap.objs])) ([(⇑s.heap.objs,{cls:=.type "list",data:=.seq t.toArray nn})]++jU B s7.heap) Y' h U->U.heap.get? ⇑s.heap.objs=ba {cls:=.type "list",data:=.seq t.toArray nn}/\h ⇑s.heap.objs=gV:=λI'=>
      let q:=I'.pin _ (Mf _ (MZ _ (LA.mpr rfl)))
      #[q.1,q.2.1]
     have pF:∀{Y':L2.St}{h:Hp}{U:Lm},Inv (mR X scope cl ⇑h2.objs N s3 H (B++[⇑s.heap.objs])) ([(⇑s.heap.objs,{cls:=.type "list",data:=.seq t.toArray nn})]++jU B s7.heap) Y' h U->(∀b∈B,h b=gV)/\∀b∈B,∀o,s7.heap.get? b=ba o->U.heap.get? b=ba o:=λI'=>
      #[λb d=>by
       obtain⟨o,eo,_⟩:=T.obj _ _ t7 b d;show(I'.pin (b,o) (Mf _ (Mf _ (gk d eo)))).2.1,
       λb d o eo=>(I'.pin (b,o) (Mf _ (Mf _ (gk d eo)))).1]
     split at w5
     ·rename_i S9 h9;show bF (bk.tst _ _ _ _ _ s8 Y8 H8 (λb h=>b=true/\∃G,Ext X.K A8 H8 G h/\StoreOk X.w X.K G h S9) I8 #[A8,Z8,S8,true,S9,er8,so8,h9,λb h #[z0,G,z1,z2]=>#[z0,G,z1,z2]]) λb s9 #[H9,I9,z0,A9,e9,so9]=>?_
      subst z0;rw[LU rfl];split at w5
      ·rename_i y S10 h10;split at w5
       ·rename_i ys' S4 h11;cases w5;show bF (bk.elt _ _ _ _ _ s9 Y8 H9 (EndV X.w X.K A9 H9 S10 y) I9 #[A9,Z8,S9,y,S10,er8.mono e9,so9,h10,λ_ _ z=>z]) λu10 s10 #[v10,H10,I10,r10,A10,e10,so10,rl10]=>?_
        obtain⟨d10,n10⟩:=pD I10;obtain⟨f10,k10⟩:=pF I10;have hlen:↥t<sizeLine:=by
         have l1:=↥v5;have l2:=↥rl5;rw[hw5,Lx,L3]at hz;omega
        show pH d10 hlen λh' n' hd' hk'=>?_
        have Ib:Inv (mR X scope cl ⇑h2.objs N s3 H (B++[⇑s.heap.objs])) [] Y8 H10 {s10 with heap:=h'}:=by
         have Ia:Inv (mR X scope cl ⇑h2.objs N s3 H (B++[⇑s.heap.objs])) [] Y8 H10 s10:=I10.pins_of λp Q=>absurd Q (by simp)
         show Ia.turned (t':=s10.toks) (it:=⇑s.heap.objs) hk' n10 hDC (.inl M) cellD (λp Q=>absurd Q (by simp[mR]))
        show#[k,M7 k,i+1,Y8,H10,A10,Z8,S10,done++[y],t++[u10],n',vs++[v10],ys',Ib,?_,f10,hd',n10,v5.append #v[r10],(e8.trans e9).trans e10,(er8.mono e9).mono e10,so10,?_,?_,h11]
        ·show T.keep (i+1) s7.heap h' t7 λb d o eo=>hk' b o (fpD b d) (k10 b d o eo)
        ·show(rl5.mono ((e58.trans e9).trans e10)).append #v[rl10]
        ·rw[hw5,N2];rfl
       ·cases w5
      ·cases w5
     ·rename_i S9 h9;show bF (bk.tst _ _ _ _ _ s8 Y8 H8 (λb h=>b=false/\∃G,Ext X.K A8 H8 G h/\StoreOk X.w X.K G h S9) I8 #[A8,Z8,S8,false,S9,er8,so8,h9,λb h #[z0,G,z1,z2]=>#[z0,G,z1,z2]]) λb s9 #[H9,I9,z0,A9,e9,so9]=>?_
      subst z0;rw[L1 L5];obtain⟨d9,n9⟩:=pD I9;obtain⟨f9,k9⟩:=pF I9;show#[k,M7 k,i+1,Y8,H9,A9,Z8,S9,done,t,nn,vs,ys,I9.pins_of λp Q=>absurd Q (by simp),T.keep (i+1) s7.heap _ t7 k9,f9,d9,n9,v5,e8.trans e9,er8.mono e9,so9,rl5.mono (e58.trans e9),hw5,w5]
     ·cases w5
    ·cases w5
   ·cases w5
 show codeAny_compStart_list (loop _ rfl) (T.self X.A 0 _ _ _ t1 (loop _ rfl))
def rG {b:FI}{g:FG}{c:FT}{f:FE}{a:Lf (Ln Ll)}{Z:Fm}{S:aa}{w:W}{S':aa}(e:lV b g c f a Z S=ba (w,S')) :
  ∃mi S1 n ys S2,b Z S=ba (mi,S1)/\mi.len S1=ba n/\bG mi g c f n 0 (fH a Z) S1=ba (ys,S2)/\↥ys<=sizeLine/\w=.ref ↥S2/\S'=S2++[.lst ys]:=by
 unfold lV at e;split at e
 ·rename_i mi S1 d;split at e
  ·rename_i n h;split at e
   ·rename_i ys S2 i;obtain⟨j,k,l⟩:=lb e;show#[mi,S1,n,ys,S2,d,h,i,j,k,l]
   ·cases e
  ·cases e
 ·cases e
def DB {scope:Pu}{N:Lf LW}{h:Lf (Ln Ll)}{tg i iter:L6}{j:Lf L6}{W:FI}{g:FG}{c:FT}{f:FE}{pos:Oy}(hc:X.calm=true)(hi:GI X tg iter W)(E:X.Ok->∃p,CompOk X scope p N h/\BlockOk X scope p N tg i j g c f)
  (hs:∀x,foldedSetIterable iter X.env x=pure x):GE X (.ListComp i [#[tg,iter,j,0]] scope pos) (lV W g c f h):=by
 intro J s Y H Q I ⟨A,Z,S,w,S',V,so,e,hq⟩;obtain⟨mi,S1,n,ys,S2,h1,h2,h3,h4,rfl,rfl⟩:=rG e;obtain⟨p,k,bk⟩:=E I.ok;rw[eval_ListComp];show RE (use:=gV) rfl hs k.clos k.kind k.names (bF (hi J s Y H (λR d=>∃a,Ext X.K A H a d/\StoreOk X.w X.K a d S1/\MIt X.w X.K mi R a d) I #[A,Z,S,mi,S1,V,so,h1,λR d a z1 z2 z3=>#[a,z1,z2,z3]]) λv s1 q1=>bF q1 λitv s2 q2=>?_)
 obtain⟨it,fp,tn,R,H2,rfl,I2,T,t0,G,A2,U,O,M⟩:=q2;show nW (RR:=λl C=>compPost (model X.prog X.w) X.A X.xe gV (EP X J Y Q) l C) I2 hc (V.mono U) O k bk T t0 G M h3 h4 ?_
 intro D C s' d a vs m hn B z q hCf t y r u I3 ex P rl;show#[m,hn,λh' L=>?_]
 have I4:Inv X J Y (bE d D (.lst vs)) {s' with heap:=h'}:=I3.turned (t':=s'.toks) (it:=C) (λb o hb eo=>L.extBut b o hb eo) (by rw[aF (Ne.symm z)];show t) q (.inr y) r u
 show#[.ref D,_,I4,rfl,hq _ _ (EndV.after (U.trans ex) (.lst P rl B))]
def uh {scope:Pu}{N:Lf LW}{r:Lf (Ln Ll)}{tg a iter:L6}{d:Lf L6}{fi:FI}{g:FG}{c:FT}{f:FE}{pos py j:Oy}{y:LW}{i:Ll}(hc:X.calm=true)(hi:GI X tg iter fi)(hck:X.Ok->∃R,CompOk X scope R N r/\BlockOk X scope R N tg a d g c f)
  (hs:∀x,foldedSetIterable iter X.env x=pure x) (hsw:swapsWith (.ListComp a [#[tg,iter,d,0]] scope pos) (ba (.Name y py)) j.line X.env=pure true) (hN:X.N.Nodup) (hy:X.N[i]?=ba y) (hl:X.env.scope.names.lookup y=ba .local) :
  GS X (.Assign [.Name y py] (.ListComp a [#[tg,iter,d,0]] scope pos) j) (lU (lV fi g c f r) (Ej i)):=by
 intro J s Y H Dd I ⟨A,Z,S,o,S',V,so,e,hd⟩;unfold lU at e;split at e
 ·rename_i w S0 h0;simp only[Ej]at e;cases e;obtain⟨mi,S1,n,ys,S2,h1,h2,h3,h4,rfl,rfl⟩:=rG h0;obtain⟨R,G,bk⟩:=hck I.ok;rw[exec_Assign_Name_used _ _ _ _ hsw];show Lg (Qx (Lg ?_));change wpAny _ X.A (do let _ <- comprehension (.ListComp a [#[tg,iter,d,0]] scope pos) scope X.env _ (newList []) false (eval iter X.env) (ba (assign (.Name y py) X.env))) _ _ s
  show Lg (NR (RE (use:=ba (assign (.Name y py) X.env)) (Q:=λ_ q=>SP X J Dd .next q) rfl hs G.clos G.kind G.names
   (bF (hi J s Y H (λtd h=>∃l,Ext X.K A H l h/\StoreOk X.w X.K l h S1/\MIt X.w X.K mi td l h) I #[A,Z,S,mi,S1,V,so,h1,λtd h l z1 z2 z3=>#[l,z1,z2,z3]]) λv s1 q1=>bF q1 λitv s2 q2=>?_)) (λ_ q hq=>Lo (Lo hq)) λ_ _ e=>e)
  obtain⟨it,fp,tn,td,H2,rfl,I2,T,t0,hfp,A2,e2,so2,mit⟩:=q2;show nW (RR:=λP C=>compPost (model X.prog X.w) X.A X.xe (ba (assign (.Name y py) X.env)) (λ_ q=>SP X J Dd .next q) P C) I2 hc (V.mono e2) so2 G bk T t0 hfp mit h3 h4 ?_
  intro D C q h l vs m hn hDn B t hCf u hCs hCc hCp I3 ex so3 rl;obtain⟨L,W,U,hoC,E,hrC⟩:=id hn;have M:Inv X (J++[(C,L)]) Y (bE h D (.lst vs)) q:=I3.pins_of λp k=>by
   rcases Ma.mp k with k|k
   ·show I3.pin p (Mf _ k)
   ·have hp':p=(C,L):=by simpa using k
    subst hp';show#[hoC,by rw[aF (Ne.symm B)];show u,t,hCf,λv z=>by rw[E]at z;cases z]
  change wpAny _ X.A (assign (.Name y py) X.env (.ref D)) _ _ _;show TB (jh M hN hy (.inl hl) (v:=.ref D) rfl (λs4 O=>?_) (.inr hl))
  have pC:=O.pin (C,L) (Mf _ (Mf _ (LA.mpr rfl)));show#[m,#[L,W,U,pC.1,E,hrC],λh' hs'=>?_]
  have I5:Inv X J (Y.set i (ba (.ref D))) (bE h D (.lst vs)) s4:=O.pins_of λp k=>O.pin p (Mf _ (MZ _ k))
  have I6:Inv X J (Y.set i (ba (.ref D))) (bE h D (.lst vs)) {s4 with heap:=h'}:=I5.turned (t':=s4.toks) (it:=C) (λb o hb eo=>hs'.extBut b o hb eo) (by rw[aF (Ne.symm B)];show u) t (.inr hCs) hCc hCp
  obtain⟨Af,f1,f2,f3⟩:=EndV.after (e2.trans ex) (EndV.lst so3 rl hDn);show#[_,_,I6,hd.nx _ _ #[_,Af,rfl,f1,f2,(V.mono f1).set f3 i]]
 ·cases e
end
open PySem.Builtin.SmallTypes (nextOf)
structure Zap (z p q i j:Lv):Prop where
 pz:p≠z
 qz:q≠z
 iz:i≠z
 jz:j≠z
 pq:p≠q
 pi:p≠i
 pj:p≠j
 qi:q≠i
 qj:q≠j
 ij:i≠j
section
variable{prog:Mn}{w:MB}
structure Zit (prog:Mn)(w:MB)(it:Lv)(T:Ll->MD->Prop)(C:MD->Prop)(i:Ll)(Uqa:Ln (Lj->Prop)):Prop where
 keep:∀j h h',T j h->(∀o,h.get? it=ba o->h'.get? it=ba o)->T j h'
 next:∀V,Uqa=ba V->∀(B:Ms) (s:Lm) (Q:Lj->Lm->Prop) (E:Lj->Lm->Prop),T i s.heap->C s.heap->(∀u h' tk,V u->T (i+1) h'->NN it s.heap h'->Q u {s with heap:=h',toks:=tk})->wpAny (model prog w) B (nextOf (.ref it)) Q E s
 stop:Uqa=gV->∀(B:Ms) (s:Lm) (Q:Lj->Lm->Prop) (E:Lj->Lm->Prop),B.handled=gV->T i s.heap->C s.heap->(∀h' e,Sv it s.heap h'->(∃o,h'.get? e=ba o/\o.cls=.type "StopIteration")->E (.ref e) {s with heap:=h'})->wpAny (model prog w) B (nextOf (.ref it)) Q E s
variable{B:Ms}{E:Lj->Lm->Prop}{s:Lm}{z p q i1 i2:Lv}{T1 T2:Ll->MD->Prop}{C1 C2:MD->Prop}{i:Ll}{a b:Lj}
abbrev Zc (z q i1 i2:Lv)(C:MD->Prop):Prop:=∀h h',C h->(∀c o,c≠z->c≠q->c≠i1->c≠i2->h.get? c=ba o->h'.get? c=ba o)->C h'
def lW {L U2:Ln (Lj->Prop)}{Q:Lj->Lm->Prop}(D:Zap z p q i1 i2)(N:Zit prog w i1 T1 C1 i L)(Z2':∀G,L=ba G->Zit prog w i2 T2 C2 i U2)(k1:Zc z q i1 i2 C1)(k2:Zc z q i1 i2 C2)(hh:B.handled=gV)
  (hz:SY s.heap z p q .none) (hp:Qw s.heap p (.ref i1) (.ref i2)) (hq:Qw s.heap q a b) (t1:T1 i s.heap) (t2:T2 i s.heap) (c1:C1 s.heap) (c2:C2 s.heap)
  (hI:∀G M,L=ba G->U2=ba M->∀u v h' I,G u->M v->SY h' z p q (rawInt ⇑s.heap.objs)->Qw h' q u v->T1 (i+1) h'->T2 (i+1) h'->Qw h' ⇑s.heap.objs u v->
   (∀c o,c≠z->c≠q->c≠i1->c≠i2->s.heap.get? c=ba o->h'.get? c=ba o)->Q (.ref ⇑s.heap.objs) {s with heap:=h',toks:=I})
  (hE:L=gV\/U2=gV->∀h' I e,(∀c o,c≠z->c≠q->c≠i1->c≠i2->s.heap.get? c=ba o->h'.get? c=ba o)->(∃o,h'.get? e=ba o/\o.cls=.type "StopIteration")->E (.ref e) {s with heap:=h',toks:=I}) :
  wpAny (model prog w) B (O3.«zip.__next__» #[[.ref z],[]]) (λm s'=>∃v,m=.done (.ret v)/\Q v s') E s:=by
 change wpAny _ _ (field (.ref z) 2 >>= _) _ _ s;show Lg (Nu hz rfl (x:=.bool false) rfl ?_);change wpAny _ _ (field (.ref z) 3 >>= _) _ _ s;show Lg (Nu hz rfl (x:=.ref p) rfl (Lg (Nn hp rfl ?_)));change wpAny _ _ (NM (.ref z) >>= _) _ _ s;unfold NM;show Lg (Lg (Nu hz rfl (x:=.none) rfl (Lo ?_)));simp only[NC];show Lg (Q1 (Lg (Nu hz rfl (x:=.ref q) rfl ?_)));show Lg (OC hz (by simp) λg1 A s1=>?_)
 replace A:SY g1 z p q .ellipsis:=A;show Lg ?_;simp only[List.zipIdx_cons,List.zipIdx_nil,QJ,Sz];show Lg (Lg (Vy ?_));change wpAny _ _ (nextOf (.ref i1) >>= _) _ _ _;have k:∀c o,c≠z->s.heap.get? c=ba o->g1.get? c=ba o:=λc o n e=>s1.extBut c o n e
 have X:T1 i g1:=N.keep _ _ _ t1 λo e=>k _ _ D.iz e
 have R:C1 g1:=k1 _ _ c1 λc o n _ _ _ e=>k c o n e
 have m:∀(g:MD) (I:Ll) (it e:Lv),(it=i1\/it=i2)->L=gV\/U2=gV->SY g z p q .ellipsis->(∀c o,c≠z->c≠q->c≠i1->c≠i2->s.heap.get? c=ba o->g.get? c=ba o)->(∃o,g.get? e=ba o/\o.cls=.type "StopIteration")->
   wpAny (model prog w) B (setField (.ref z) 0 .none) (λ_ s''=>E (.ref e) s'') E {s with heap:=g,toks:=I}:=λg I it e _ hu gz kg #[oe,H,n]=>by
  have ne:e≠z:=λx=>by subst x;rw[gz]at H;cases H;simp at n
  show OC gz (by simp) λg' _ sb=>hE hu g' I e (λc o d l h P x=>sb.extBut _ _ d (kg c o d l h P x)) #[oe,sb.extBut _ _ ne H,n]
 cases j:L with
 |none=>
  show Lg (N.stop j _ _ _ _ hh X R λg2 e T H=>?_)
  show m g2 s.toks i1 e (.inl rfl) (.inl j) (T _ _ D.iz.symm A) (λc o d _ h _ x=>T _ _ h (k c o d x)) H
 |some G=>
  have O:=Z2' G j;show Lg (N.next G j _ _ _ _ X R λu g2 tk2 hu t12 s2=>Lo ?_)
  have q2:Qw g2 q a b:=s2.extBut _ _ D.qi (k _ _ D.qz hq);show Lg (Nn q2 rfl (Lg (SA q2 λU q3 s3=>?_)))
  replace q3:Qw U q u b:=q3;show Lg (PD (Lo ?_));show Lg (Lg (Vy ?_));change wpAny _ _ (nextOf (.ref i2) >>= _) _ _ _;have t:∀c o,c≠z->c≠q->c≠i1->s.heap.get? c=ba o->U.get? c=ba o:=λc o d l h x=>s3.extBut _ _ l (s2.extBut _ _ h (k c o d x))
  have zz3:SY U z p q .ellipsis:=s3.extBut _ _ D.qz.symm (s2.extBut _ _ D.iz.symm A);have Y:T2 i U:=O.keep _ _ _ t2 λo e=>t _ _ D.jz D.qj.symm D.ij.symm e
  have S:C2 U:=k2 _ _ c2 λc o d l h _ e=>t c o d l h e
  cases r:U2 with
  |none=>
   show Lg (O.stop r _ _ _ _ hh Y S λg4 e T H=>?_)
   show m g4 tk2 i2 e (.inr rfl) (.inr r) (T _ _ D.jz.symm zz3) (λc o d l h P x=>T _ _ P (t c o d l h x)) H
  |some M=>
   show Lg (O.next M r _ _ _ _ Y S λv g4 tk4 hv t24 V=>Lo ?_)
   have q4:Qw g4 q u b:=V.extBut _ _ D.qj q3;show Lg (Nn q4 rfl (Lg (SA q4 λf q5 W=>?_)))
   replace q5:Qw f q u v:=q5;show Lg (PD (Lo (Lo ?_)));show Lg (Nn q5 rfl (Lg (Rf ?_)));have sz:⇑f.objs=⇑s.heap.objs:=by rw[W.1,V.1,s3.1,s2.1,s1.1]
   have zz5:SY f z p q .ellipsis:=W.extBut _ _ D.qz.symm (V.extBut _ _ D.jz.symm zz3);have t15:T1 (i+1) f:=N.keep _ _ _ t12 λo e=>W.extBut _ _ D.qi.symm (V.extBut _ _ D.ij (s3.extBut _ _ D.qi.symm e))
   have t25:T2 (i+1) f:=O.keep _ _ _ t24 λo e=>W.extBut _ _ D.qj.symm e
   have Z:z<⇑f.objs:=LO zz5;change wpAny _ _ (Os (.ref z) (.ref ⇑f.objs) >>= _) _ _ _;show Lg ?_;unfold Os;have zz6:SY (f.push {cls:=.type "tuple",data:=.seq [u,v].toArray}) z p q .ellipsis:=Li _ zz5;show Lg (OC zz6 (by simp) λg7 J s7=>?_)
   replace J:SY g7 z p q (rawInt ⇑f.objs):=J;show OC J (by simp) λg8 C s8=>?_
   replace C:SY g8 z p q (rawInt ⇑f.objs):=C;have y:∀c o,c≠z->f.get? c=ba o->g8.get? c=ba o:=λc o n e=>s8.extBut _ _ n (s7.extBut _ _ n (Li _ e))
   have n8:Qw g8 ⇑f.objs u v:=s8.extBut _ _ (Mk Z) (s7.extBut _ _ (Mk Z) (LI _ rfl));rw[sz]at C n8;show Lo #[_,rfl,?_];change Q (.ref ⇑f.objs) _;rw[sz];show hI G M j r u v g8 tk4 hu hv C (y _ _ D.qz q5) (N.keep _ _ _ t15 λo e=>y _ _ D.iz e) (O.keep _ _ _ t25 λo e=>y _ _ D.jz e) n8 λc o d l h P e=>y c o d (W.extBut _ _ l (V.extBut _ _ P (t c o d l h e)))
end
end Mi
namespace Mi
open PySem PySem.Spec PyProof.Rows L2
open PySem.Builtin.SmallTypes (nextOf)
abbrev fI (prog:Mn)(w:MB)(v:Lj)(o:Nr)(C:MD->Prop):Prop:=∀(B:Ms) (s:Lm) (Q:Lj->Lm->Prop) (E:Lj->Lm->Prop),C s.heap->Q (.ref ⇑s.heap.objs) {s with heap:=s.heap.push o}->wpAny (model prog w) B (pyIter v) Q E s
abbrev Ij (h:MD)(a b:Nr):MD:=(h.push a).push b
abbrev Ik (h:MD)(a b:Nr):MD:=(Ij h a b).push {cls:=.type "tuple",data:=.seq [.ref ⇑h.objs,.ref (h.push a).objs.size].toArray}
abbrev Il (h:MD)(a b:Nr):MD:=(Ik h a b).push {cls:=.type "tuple",data:=.seq [.none,.none].toArray}
abbrev Em (h:MD)(a b:Nr):MD:=(Il h a b).push {cls:=.type "zip",data:=.fields [.none,.bool false,.bool false,.ref (Ij h a b).objs.size,.ref (Ik h a b).objs.size].toArray}
section
variable{prog:Mn}{w:MB}{B:Ms}{E:Lj->Lm->Prop}{s:Lm}{v1 v2:Lj}{o1 o2:Nr}{C1 C2:MD->Prop}
def uj (k:fI prog w v1 o1 C1)(l:fI prog w v2 o2 C2)(m:∀h o,C2 h->C2 (h.push o)) :
  MeetsIn prog w (O3.«zip.__new__» #[[.type "zip",v1,v2],[]]) (λ_ R s=>C1 s.heap/\C2 s.heap/\R (.ok (.ret (.ref (Il s.heap o1 o2).objs.size))) {s with heap:=Em s.heap o1 o2}):=
 .of_wp λA R s h=>by
  obtain⟨a,g,d,b,os⟩:=s;obtain⟨e,f,h⟩:=h;have c:=sub_zip;have i:∀(B:Ms) (Q:Lj->Lm->Prop) (E:Lj->Lm->Prop),Q (.ref ⇑a.objs) #[a.push o1,g,d,b,os]->wpAny (model prog w) B (pyIter v1) Q E #[a,g,d,b,os]:=λB Q E q=>k B #[a,g,d,b,os] Q E e q
  have j:∀(B:Ms) (Q:Lj->Lm->Prop) (E:Lj->Lm->Prop),Q (.ref (a.push o1).objs.size) #[(a.push o1).push o2,g,d,b,os]->wpAny (model prog w) B (pyIter v2) Q E #[a.push o1,g,d,b,os]:=λB Q E q=>l B #[a.push o1,g,d,b,os] Q E (m _ _ f) q
  wp_walk using i _ _ _,j _ _ _
  show#[_,rfl,h]
def Al {Q:Lj->Lm->Prop}(p:fI prog w v1 o1 C1)(q:fI prog w v2 o2 C2)(r:∀h o,C2 h->C2 (h.push o))(k:C1 s.heap)(l:C2 s.heap)(t:o1.isFreed=false)(u:o2.isFreed=false)
  (h:∀h',SY h' (⇑s.heap.objs+4) (⇑s.heap.objs+2) (⇑s.heap.objs+3) .none->Qw h' (⇑s.heap.objs+2) (.ref ⇑s.heap.objs) (.ref (⇑s.heap.objs+1))->Qw h' (⇑s.heap.objs+3) .none .none->
   h'.get? ⇑s.heap.objs=ba o1->h'.get? (⇑s.heap.objs+1)=ba o2->⇑h'.objs=⇑s.heap.objs+5->(∀c o,s.heap.get? c=ba o->h'.get? c=ba o)->Q (.ref (⇑s.heap.objs+4)) {s with heap:=h'}) :
  wpAny (model prog w) B (call (.type "zip") [v1,v2]) Q E s:=by
 show Vb F.called_zip #v[] (F.typeCall_zip_2 _ _) (F.newCall_zip_2 _ _) (λobj=>F.args_object_init_3 obj _ _) F.entry_zip_new (uj p q r) #[k,l,?_]
 have a:(s.heap.push o1).objs.size=⇑s.heap.objs+1:=Nv ..;have b:(Ij s.heap o1 o2).objs.size=⇑s.heap.objs+2:=by unfold Ij;rw[Nv,a]
 have d:(Ik s.heap o1 o2).objs.size=⇑s.heap.objs+3:=by unfold Ik;rw[Nv,b]
 have e:(Il s.heap o1 o2).objs.size=⇑s.heap.objs+4:=by unfold Il;rw[Nv,d]
 have m:(Em s.heap o1 o2).objs.size=⇑s.heap.objs+5:=by unfold Em;rw[Nv,e]
 have f:(Em s.heap o1 o2).get? (Il s.heap o1 o2).objs.size=ba _:=LI _ rfl;have j:(Em s.heap o1 o2).get? (Ik s.heap o1 o2).objs.size=ba _:=Li _ (LI _ rfl);have i:(Em s.heap o1 o2).get? (Ij s.heap o1 o2).objs.size=ba _:=Li _ (Li _ (LI _ rfl));have g:(Em s.heap o1 o2).get? (s.heap.push o1).objs.size=ba o2:=Li _ (Li _ (Li _ (LI _ u)));have n:(Em s.heap o1 o2).get? ⇑s.heap.objs=ba o1:=Li _ (Li _ (Li _ (Li _ (LI _ t))));rw[b,d,e]at f;rw[a,b]at i;rw[d]at j;rw[a]at g;change _/\_;rw[e];show#[#[_,f,rfl],h _ f i j n g m λc o x=>Li _ (Li _ (Li _ (Li _ (Li _ x))))]
end
end Mi
namespace Mi
open PySem PySem.Spec PyProof.Rows L2
open PySem.Builtin.SmallTypes (nextOf)
section
variable{prog:Mn}{w:MB}{A:Ms}{E:Lj->Lm->Prop}{s:Lm}
def Im {it t:Lv}{i:Ll}{items:LY Lj}{x:Lj}{Q:Lj->Lm->Prop}(hit:s.heap.IsTupleIter it t i)(f:s.heap.IsTuple t items)(g:items[i]?=ba x)
  (d:∀h',h'.IsTupleIter it t (i+1)->NN it s.heap h'->Q x {s with heap:=h'}):wpAny (model prog w) A (nextOf (.ref it)) Q E s:=by
 obtain⟨o,a,e,hd⟩:=id hit;obtain⟨j,c,_,h,b⟩:=f;unfold Rs;show Lg (MP (name:=NO "__next__") hit.typeIs F.slot_tuple_iterator_next (MU F.slot_tuple_iterator_next hit.typeIs F.entry_tuple_iterator_next ?_ (F.args_tuple_iterator_next_1 _)));change wpAny _ _ (field (.ref it) 0 >>= _) _ _ s;show Lg (Nu a hd (x:=.ref t) rfl ?_);change wpAny _ _ (if (Mr t==MG)=true then _ else _) _ _ s
 rw[L1 (show ¬ ((Mr t==MG)=true)from L5)]
 change wpAny _ _ (field (.ref it) 1 >>= _) _ _ s;show Lg (Nu a hd (x:=.int i 0) rfl (Lg (Nn c b ?_)));simp only[LP,g];show Lg (Rh a hd (by simp) (Lo #[x,rfl,Lo (d _ #[_,No _ a (Sl (Qa hd _)),(TX ..).trans e,?_] (O4 ..))]))
 rw[Qa hd];simp[rawInt]
def Io {it t:Lv}{i:Ll}{items:LY Lj}{Q:Lj->Lm->Prop}(f:A.handled=gV)(hit:s.heap.IsTupleIter it t i)(h:s.heap.IsTuple t items)(j:items[i]?=gV)
  (g:∀h' e,Sv it s.heap h'->(∃o,h'.get? e=ba o/\o.cls=.type "StopIteration")->E (.ref e) {s with heap:=h'}):wpAny (model prog w) A (nextOf (.ref it)) Q E s:=by
 obtain⟨o,c,k,hd⟩:=id hit;obtain⟨n,d,_,l,b⟩:=h;unfold Rs;show Lg (MP (name:=NO "__next__") hit.typeIs F.slot_tuple_iterator_next (MU F.slot_tuple_iterator_next hit.typeIs F.entry_tuple_iterator_next ?_ (F.args_tuple_iterator_next_1 _)));change wpAny _ _ (field (.ref it) 0 >>= _) _ _ s;show Lg (Nu c hd (x:=.ref t) rfl ?_);change wpAny _ _ (if (Mr t==MG)=true then _ else _) _ _ s
 rw[L1 (show ¬ ((Mr t==MG)=true)from L5)]
 change wpAny _ _ (field (.ref it) 1 >>= _) _ _ s;show Lg (Nu c hd (x:=.int i 0) rfl (Lg (Nn d b ?_)));simp only[LP,j];show Lg (Q1 (Lg (Rh c hd (by simp) ?_)))
 change wpAny _ _ (newExc (.type "StopIteration") [] >>= _) _ _ _;show Lg ?_;simp only[newExc,newTuple];show Lg (MC ?_ (by size_fits))
 show Lg (m:=firstArgMember _ _) (Qd (a:=MG) (by first|rfl|(simp only[firstArgMember];rfl)) (MC ?_ (by size_fits)))
 simp only[raiseNew];show Lg (SV ?_)
 first|rw[show A.in1.handled=gV from f]|rw[f]
 show Lg (Lo (Uz (g _ _ (((O4 ..).extBut.push _).push _) #[_,LI _ rfl,rfl])))
end
set_option genInjectivity false in
inductive Zs where|tup (a:Lv)|lst (a:Lv)
abbrev Zs.T (it:Lv):Zs->Ll->MD->Prop
 |.tup a,i,h=>h.IsTupleIter it a i
 |.lst a,i,h=>h.IsListIter it a i
abbrev Zs.at (K:LF)(H:Hp)(i:Ll)(v:V):Zs->Prop
 |.tup a=>∃xs,SqT K H a xs/\xs[i]?=ba v
 |.lst a=>∃xs,SqL K H a xs/\xs[i]?=ba v
abbrev Zs.out (K:LF)(H:Hp)(i:Ll):Zs->Prop
 |.tup a=>∃xs,SqT K H a xs/\↥xs<=i
 |.lst a=>∃xs,SqL K H a xs/\↥xs<=i
def Zs.keep {S:Zs}{it:Lv}{j:Ll}{h h':MD}(t:S.T it j h)(k:∀o,h.get? it=ba o->h'.get? it=ba o):S.T it j h':=by
 cases S with
 |tup a=>show t.at k
 |lst a=>show t.at k
section
variable{X:Cx}{J:Lf (Lv×Nr)}{Y:L2.St}{H:Hp}{s:Lm}
def Am (I:Inv X J Y H s){a b:Lv}{o:Nr}(h:X.K.lookup a=ba o)(f:iT X J H b):a≠b:=λz=>by
 subst z;have c:=I.ok.mod.kin a o h;rcases f.2.2.2.1 with q|q
 ·show I.ok.noex a o c q
 ·show absurd (LZ (LO (I.ok.bs a o c).1) q) (M6 _)
end
end Mi
namespace Mi
open PySem PySem.Spec PyProof.Rows L2
open PySem.Builtin.SmallTypes (nextOf)
section
variable{X:Cx}{J:Lf (Lv×Nr)}{Y:L2.St}{H:Hp}{s:Lm}{h':MD}
def An {a b:Lv}{u:HO}(h:Rd H a u)(f:H b=gV):a≠b:=λz=>by
 subst z;rcases h with h|⟨o,h⟩<;>(rw[f]at h;cases h)
def Inv.turnedL {t':Ll}{ch:Lf Lv}(I:Inv X J Y H s)(k:∀b o,b∉ch->s.heap.get? b=ba o->h'.get? b=ba o)(hf:∀b∈ch,iT X J H b):Inv X J Y H {s with heap:=h',toks:=t'}:=by
 have d:∀b u,H b=ba u->b∉ch:=λb u e z=>by have:=(hf b z).1;rw[e]at this;cases this
 show I.step (g':=s.gens) (d':=s.drawn) (ch:=ch) (λb l=>?_) (λb o _ _ a e _=>k b o a e) (λb o _ _ a e _=>#[o.slots,k b o a e]) (λ_ _ _ _ n=>n) (λb o a e=>#[o,k b o a e]) (λ_ _ e=>e) (λ_ _ _ e=>e) (λb ps e=>#[#[],by rw[e];simp]) (λm p=>?_) (λb u e=>?_) I.bare
 ·obtain⟨_,g,_,h,i,j⟩:=hf b l;show#[h,g,i,j]
 ·obtain⟨o,es,f,t,r⟩:=p;show#[o,es,f,k _ o (λz=>(hf _ z).2.1 rfl) t,r]
 ·show(I.hok b u e).stay (λc v a q=>k c v ?_ q) (λ_ q=>q) λ_ _ q=>q
  rcases a with z|z
  ·rw[z];show d b u e
  ·show d c _ z
def Zs.zit {S:Zs}{it z q i1 f:Lv}{i:Ll}{Uqa:Ln V}(I:Inv X J Y H s)(hf:∀b∈[z,q,i1,f],iT X J H b)(g:match Uqa with|some v=>S.at X.K H i v|none=>S.out X.K H i) :
  ∃C,Zit X.prog X.w it (S.T it) C i (Uqa.map λv u=>RelV v u)/\C s.heap/\Zc z q i1 f C:=by
 have Z:∀(a:Lv) (P:MD->Prop),(∀h h',P h->(∀o,h.get? a=ba o->h'.get? a=ba o)->P h')->(∀b∈[z,q,i1,f],a≠b)->Zc z q i1 f P:=λa P hP G h h' p k=>
  hP h h' p λo e=>k a o (G z (by simp)) (G q (by simp)) (G i1 (by simp)) (G f (by simp)) e
 have sep:∀{a:Lv}{u:HO}{o:Nr}{b:Lv},(Rd H a u\/X.K.lookup a=ba o)->b∈[z,q,i1,f]->a≠b:=λh d=>h.elim (λr=>An r (hf _ d).1) λr=>Am I r (hf _ d)
 cases S with
 |tup a=>
  obtain⟨xs,w,y⟩:∃xs,SqT X.K H a xs/\(match Uqa with|some v=>xs[i]?=ba v|none=>↥xs<=i):=by
   cases Uqa<;>show g
  obtain⟨m,A,p,_⟩:=I.tuple w;have l:∀b∈[z,q,i1,f],a≠b:=λb d=>by
   rcases w with r|⟨o,_,_,r,_⟩
   ·show An r (hf b d).1
   ·show Am I r (hf b d)
  show#[λh=>h.IsTuple a m.toArray,#[λj h h' t k=>Zs.keep (S:=.tup a) t k,λV n B D Q E t c M=>?_,λN B D Q E O t c L=>?_],p,Z a _ (λh h' #[o,e,r] k=>#[o,k _ e,r]) l]
  ·cases Uqa with
   |none=>cases n
   |some v=>
    cases n;obtain⟨u,R,U⟩:=A.get y;show Im t c (x:=u) (by simpa using R) λh' t' W=>M u h' D.toks U t' W
  ·cases Uqa with
   |some v=>cases N
   |none=>
    have:=L2.Vals.length A;have T:↥xs<=i:=y;show Io O t c (by simp;omega) L
 |lst a=>
  obtain⟨xs,w,y⟩:∃xs,SqL X.K H a xs/\(match Uqa with|some v=>xs[i]?=ba v|none=>↥xs<=i):=by
   cases Uqa<;>show g
  obtain⟨m,A,p,_⟩:=I.list w;have l:∀b∈[z,q,i1,f],a≠b:=λb d=>by
   rcases w with r|⟨o,_,_,r,_⟩
   ·show An r (hf b d).1
   ·show Am I r (hf b d)
  show#[λh=>h.IsList a m.toArray,#[λj h h' t k=>Zs.keep (S:=.lst a) t k,λV n B D Q E t c M=>?_,λN B D Q E O t c L=>?_],p.isList,Z a _ (λh h' #[o,e,r] k=>#[o,k _ e,r]) l]
  ·cases Uqa with
   |none=>cases n
   |some v=>
    cases n;obtain⟨u,R,U⟩:=A.get y;show wpAny_nextOf_list_item t c (x:=u) (by simpa using R) λh' t' W=>M u h' D.toks U t' W
  ·cases Uqa with
   |some v=>cases N
   |none=>
    have:=L2.Vals.length A;have T:↥xs<=i:=y;show wpAny_nextOf_list_end O t c (by simp;omega) L
end
abbrev Zs.is (K:LF)(H:Hp)(i:Ll)(v:V):Zs->Prop
 |.tup a=>∀xs,SqT K H a xs->xs[i]?=ba v
 |.lst a=>∀xs,SqL K H a xs->xs[i]?=ba v
def Zs.at_is {S:Zs}{X:Cx}{J:Lf (Lv×Nr)}{Y:L2.St}{H:Hp}{s:Lm}{i:Ll}{v:V}(I:Inv X J Y H s)(h:S.at X.K H i v):S.is X.K H i v:=by
 cases S with
 |tup a=>obtain⟨xs,b,c⟩:=h;show λys d=>by rw[I.tuple_inj d b];show c
 |lst a=>obtain⟨xs,b,c⟩:=h;show λys d=>by rw[I.list_inj d b];show c
abbrev JC (K:LF)(S1 S2:Zs):It:=
 #[λi H=>∃x y,S1.at K H i x/\S2.at K H i y,λi H v a=>∃p x y,S1.is K H i x/\S2.is K H i y/\v=.ref p/\H p=gV/\a=bE H p (.tup [x,y]),λi H=>S1.out K H i\/(∃x,S1.at K H i x)/\S2.out K H i]
def Ao {P:Mn}{w:MB}{K:LF}{Z:Lf L6}{k0:Ll}{tp:Oy}{S1 S2:Zs}{z p q i1 l:Lv}(D:Zap z p q i1 l) :
  Turn P w K (.Tuple Z k0 tp) (JC K S1 S2) [z,p,q,i1,l] z (λi h=>SY h z p q .none/\Qw h p (.ref i1) (.ref l)/\(∃a b,Qw h q a b)/\S1.T i1 i h/\S2.T l i h) where
 mem:=by simp
 obj:=λi h #[a,b,#[u,v,c],d,e] b' f=>by
  have it:∀{S:Zs}{it:Lv},S.T it i h->∃o,h.get? it=ba o/\∀v,o.data≠.cell v:=λ{S it} t=>by
   cases S with
   |tup a=>obtain⟨o,e,_,d⟩:=t;show#[o,e,λv z=>by rw[d]at z;cases z]
   |lst a=>obtain⟨o,e,_,d⟩:=t;show#[o,e,λv z=>by rw[d]at z;cases z]
  simp only[LQ,My,NE]at f;rcases f with rfl|rfl|rfl|rfl|rfl
  ·show#[_,a,λv z=>by cases z]
  ·show#[_,b,λv z=>by cases z]
  ·show#[_,c,λv z=>by cases z]
  ·show it d
  ·show it e
 keep:=λi h h' #[a,b,#[u,v,c],d,e] k=>#[k z (by simp) _ a,k p (by simp) _ b,#[u,v,k q (by simp) _ c],Zs.keep d (k i1 (by simp)),Zs.keep e (k l (by simp))]
 item:=by
  intro X hP hw hK B i J s Y H E I hf st hg;subst hP hw hK;obtain⟨x,y,A,Q⟩:=hg;obtain⟨a,b,⟨u,v,c⟩,d,e⟩:=st;have j:∀b∈[z,q,i1,l],iT X J H b:=λb f=>hf b (by simp only[LQ,My,NE]at f ⊢;rcases f with h|h|h|h<;>simp[h])
  obtain⟨C1,C,G,N⟩:=Zs.zit (it:=i1) (Uqa:=ba x) I j A;obtain⟨C2,U,V,k2⟩:=Zs.zit (it:=l) (Uqa:=ba y) I j Q;have M:s.TypeIs (.ref z) "zip":=#[_,a,rfl];unfold pyNext;show Lg (Pr (MP (name:=NO "__next__") M F.slot_zip_next (MU F.slot_zip_next M F.entry_zip_next ?_ (F.args_zip_next_1 _))));show lW D C (λ_ _=>U) N k2 (I.ok.hd B) a b c d e G V (λR V2 L W u1 u2 g m r1 r2 zg qg t1 t2 ng kp=>?_) (λz=>by rcases z with z|z<;>cases z)
  cases L;cases W;show Lo #[_,rfl,?_];show wpAny_letOwnedTupleGo_zip (s:={s with heap:=g,toks:=m}) zg λg' zg' O=>?_
  have N0:H ⇑s.heap.objs=gV:=I.hok.fresh (Ls _);have lt:∀{b:Lv},b∈[z,p,q,i1,l]->⇑s.heap.objs≠b:=λ{b} f=>by
   have:∃o,s.heap.get? b=ba o:=by
    have it:∀{S:Zs}{it:Lv},S.T it i s.heap->∃o,s.heap.get? it=ba o:=λ{S it} t=>by
     cases S with
     |tup a=>obtain⟨o,e,_⟩:=t;show#[o,e]
     |lst a=>obtain⟨o,e,_⟩:=t;show#[o,e]
    simp only[LQ,My,NE]at f;rcases f with rfl|rfl|rfl|rfl|rfl
    ·show#[_,a]
    ·show#[_,b]
    ·show#[_,c]
    ·show it d
    ·show it e
   obtain⟨o,e⟩:=this;show Mk (LO e)
  have up:∀b o,b∉[z,q,i1,l]->s.heap.get? b=ba o->g'.get? b=ba o:=λb o f e=>by
   simp only[LQ,My,NE,Uk]at f;show O.extBut _ _ f.1 (kp b o f.1 f.2.1 f.2.2.1 f.2.2.2 e)
  have I1:Inv X J Y H {s with heap:=g',toks:=m}:=Mi.Inv.turnedL I up j
  have ng':Qw g' ⇑s.heap.objs u1 u2:=O.extBut _ _ (lt (by simp)) ng
  have I2:Inv X J Y (bE H ⇑s.heap.objs (.tup [x,y])) {s with heap:=g',toks:=m}:=by
   show Mi.Inv.adopt I1 N0 (.inr I.sz) (Mk I.lt) (λw c e=>?_) (λp hp=>?_) #[by change 2<=sizeLine;decide,[u1,u2],.cons r1 #v[r2],#[_,ng',rfl,0,rfl]]
   ·obtain⟨v,q⟩:=I.cell w c e;show LX q.lt
   ·show LX (LO (I.pin p hp).1)
  show#[.ref ⇑s.heap.objs,_,I2,rfl,#[⇑s.heap.objs,x,y,Zs.at_is I A,Zs.at_is I Q,rfl,N0,rfl],#[zg',up p _ ?_ b,#[u1,u2,O.extBut _ _ D.qz qg],Zs.keep t1 λo e=>O.extBut _ _ D.iz e,Zs.keep t2 λo e=>O.extBut _ _ D.jz e],λb f=>?_]
  ·simp only[LQ,My,NE,Uk];show#[D.pz,D.pq,D.pi,D.pj]
  ·rw[aF (Ne.symm (lt f))];show(hf b f).1
 done:=by
  intro X hP hw hK B i J s Y H E I hf st hg;subst hP hw hK;obtain⟨a,b,⟨u,v,c⟩,d,e⟩:=st;have j:∀b∈[z,q,i1,l],iT X J H b:=λb f=>hf b (by simp only[LQ,My,NE]at f ⊢;rcases f with h|h|h|h<;>simp[h])
  have M:s.TypeIs (.ref z) "zip":=#[_,a,rfl];unfold pyNext;show Lg (Pr (MP (name:=NO "__next__") M F.slot_zip_next (MU F.slot_zip_next M F.entry_zip_next ?_ (F.args_zip_next_1 _))));have n:∀h' m e,(∀c o,c≠z->c≠q->c≠i1->c≠l->s.heap.get? c=ba o->h'.get? c=ba o)->(∃o,h'.get? e=ba o/\o.cls=.type "StopIteration")->
    wpAny (model X.prog X.w) X.A (do if <- isInstance (.ref e) (.type "StopIteration")then pure (gV:Ln Lj)else throw (.ref e)) (λr s1=>r=gV/\Inv X J Y H s1) E {s with heap:=h',toks:=m}:=λh' m e k #[o,ho,B]=>
   Lg (O8 (T:="StopIteration") (b:=true) #[o,ho,B] Rc (Lo #[rfl,Mi.Inv.turnedL I (λb o f e=>by
    simp only[LQ,My,NE,Uk]at f;show k b o f.1 f.2.1 f.2.2.1 f.2.2.2 e) j]))
  rcases hg with A|⟨⟨x,A⟩,Q⟩
  ·obtain⟨C1,C,G,N⟩:=Zs.zit (it:=i1) (Uqa:=gV) I j A;show lW (U2:=gV) D C (λR L=>by cases L) N (C2:=λ_=>UE) (λ_ _ _ _=>trivial) (I.ok.hd B) a b c d e G trivial (λR V2 L _=>by cases L) λ_ h' m e k he=>n h' m e k he
  ·obtain⟨C1,C,G,N⟩:=Zs.zit (it:=i1) (Uqa:=ba x) I j A;obtain⟨C2,U,V,k2⟩:=Zs.zit (it:=l) (Uqa:=gV) I j Q;show lW D C (λ_ _=>U) N k2 (I.ok.hd B) a b c d e G V (λR V2 _ W=>by cases W) λ_ h' m e k he=>n h' m e k he
 self:=λ_ _ _ _ _ st h=>Ur st.1 h
end Mi
namespace Mi
open PySem PySem.Spec PyProof.Rows L2
abbrev G8:W->Ln (Lf W)
 |.tup xs=>ba xs
 |_=>gV
abbrev DC (f:FA):FI:=λZ S=>match f Z S with
 |some ([x,y],S1)=>match G8 x,G8 y with
  |some xs,ba ys=>ba (.its (mW xs ys),S1)
  |_,_=>match x,y with
   |.ref r,.ref q=>match gJ S1 r,gJ S1 q with
    |some _,ba _=>ba (.zl r q,S1)
    |_,_=>gV
   |_,_=>gV
 |_=>gV
section
variable{X:Cx}{J:Lf (Lv×Nr)}{Y:L2.St}{H:Hp}{s:Lm}{A:Lf Lv}
abbrev ZRel (K:LF)(A:Lf Lv)(H:Hp)(xs:Lf W):Zs->Prop
 |.tup a=>∃vs,SqT K H a vs/\RelL K A H xs vs
 |.lst a=>Nb
def ZRel.mono {K:LF}{A b:Lf Lv}{H c:Hp}{xs:Lf W}{S:Zs}(e:Ext K A H b c)(h:ZRel K A H xs S):ZRel K b c xs S:=by
 cases S with
 |tup a=>obtain⟨vs,d,f⟩:=h;show#[vs,e.tp _ _ d,f.mono e]
 |lst a=>show h
def ZRel.at {K:LF}{xs:Lf W}{S:Zs}{i:Ll}{w:W}(h:ZRel K A H xs S)(hi:xs[i]?=ba w):∃v,S.at K H i v/\Rel K A H w v:=by
 cases S with
 |tup a=>obtain⟨vs,b,c⟩:=h;obtain⟨v,d,e⟩:=c.get hi;show#[v,#[vs,b,d],e]
 |lst a=>show h.elim
def ZRel.is {K:LF}{xs:Lf W}{S:Zs}{i:Ll}{w:W}{v:V}(h:ZRel K A H xs S)(hi:xs[i]?=ba w)(z:S.is K H i v):Rel K A H w v:=by
 obtain⟨d,b,c⟩:=h.at hi;cases S with
 |tup a=>
  obtain⟨vs,q,e⟩:=b;have:=z vs q;rw[e]at this;cases this
  show c
 |lst a=>show h.elim
def ZRel.out {K:LF}{xs:Lf W}{S:Zs}{i:Ll}(h:ZRel K A H xs S)(hi:↥xs<=i):S.out K H i:=by
 cases S with
 |tup a=>obtain⟨vs,b,c⟩:=h;show#[vs,b,by rw[<- ↥c];show hi]
 |lst a=>show h.elim
def rH {xs ys:Lf W}{i:Ll}{w:W}(h:(mW xs ys)[i]?=ba w):∃x y,xs[i]?=ba x/\ys[i]?=ba y/\w=.tup [x,y]:=by
 unfold mW at h;rw[Sn]at h;split at h
 ·rename_i x y a b;cases h;show#[x,y,a,b,rfl]
 ·cases h
def DD {S1 S2:Zs}{xs ys:Lf W}(b:ZRel X.K A H xs S1)(g:ZRel X.K A H ys S2):MIt X.w X.K (.its (mW xs ys)) (JC X.K S1 S2) A H:=by
 show#[λc d S i w e k hi=>?_,λc d S i e k hi=>?_]
 ·simp only[MI.at,Mh]at hi;obtain⟨x,y,h,j,rfl⟩:=rH hi;obtain⟨v,f,q⟩:=(b.mono e).at h;obtain⟨u,l,r⟩:=(g.mono e).at j;show#[#[v,u,f,l],λp o #[a,v',u',q1,q2,hp,hn,hH]=>?_]
  subst hp hH;have ex:Ext X.K c d c (bE d a (.tup [v',u'])):=cK (.inl hn);show#[ex,k.lay hn,.tup (.of aP) #v[((b.mono e).is h q1).mono ex,((g.mono e).is j q2).mono ex]]
 ·simp only[MI.at,Mh,MN,mW,N6]at hi
  by_cases m:↥xs<=i
  ·show .inl ((b.mono e).out m)
  ·have n:i<↥xs:=∅
   obtain⟨v,f,_⟩:=(b.mono e).at (Lq n);show .inr #[#[v,f],(g.mono e).out ∅]
def Ap {r q:Ll}{a b:Lv}(t:A[r]?=ba a)(z:A[q]?=ba b):MIt X.w X.K (.zl r q) (JC X.K (.lst a) (.lst b)) A H:=by
 show#[λk l S i w e d hi=>?_,λk l S i e d hi=>?_]
 ·simp only[MI.at]at hi;split at hi
  ·rename_i xs ys m o;simp only[Mh]at hi;obtain⟨x,y,D,E,rfl⟩:=rH hi;obtain⟨vs,f,j⟩:=bp d m (e.ad _ _ t);obtain⟨us,h,s⟩:=bp d o (e.ad _ _ z);obtain⟨v,g,G⟩:=j.get D;obtain⟨u,B,I⟩:=s.get E;show#[#[v,u,#[vs,f,g],#[us,h,B]],λp J #[c,v',u',z1,z2,hp,hn,hH]=>?_]
   subst hp hH;have C:=z1 vs f;rw[g]at C;cases C
   have t2:=z2 us h;rw[B]at t2;cases t2
   have ex:Ext X.K k l k (bE l c (.tup [v,u])):=cK (.inl hn);show#[ex,d.lay hn,.tup (.of aP) #v[G.mono ex,I.mono ex]]
  ·cases hi
 ·simp only[MI.at]at hi;split at hi
  ·rename_i xs ys m o;simp only[Mh,MN,mW,N6]at hi;obtain⟨vs,f,j⟩:=bp d m (e.ad _ _ t);obtain⟨us,h,s⟩:=bp d o (e.ad _ _ z)
   by_cases hl:↥xs<=i
   ·show .inl #[vs,f,by rw[<- ↥j];show hl]
   ·have n:i<↥xs:=∅
    obtain⟨v,g,_⟩:=j.get (Lq n);show .inr #[#[v,vs,f,g],us,h,by rw[<- ↥s];omega]
  ·cases hi
def pI {x:W}{v:V}{u:Lj}{xs:Lf W}(I:Inv X J Y H s)(r:Rel X.K A H x v)(j:RelV v u)(e:G8 x=ba xs) :
  ∃(S:Zs) (o:Nr) (C:MD->Prop),ZRel X.K A H xs S/\fI X.prog X.w u o C/\C s.heap/\(∀h o,C h->C (h.push o))/\o.isFreed=false/\∀it h,h.get? it=ba o->S.T it 0 h:=by
 cases r with
 |@tup ws a vs d i=>
  cases e;obtain⟨b,k,p,_⟩:=I.tuple d;obtain rfl:u=Mr a:=j;show#[.tup a,{cls:=.type "tuple_iterator",data:=.fields [.ref a,.int 0 0].toArray},λh=>h.IsTuple a b.toArray,#[vs,d,i],λB s Q E c f=>Ts c f,p,λh o #[g,e,r]=>#[g,Li _ e,r],rfl,λit h e=>#[_,e,rfl,rfl]]
 |_=>cases e
def Aq:bootBuiltins "zip" = ba (.type "zip"):=rfl
def vD {a:Lv}{xs:Lf V}{u:Lj}(I:Inv X J Y H s)(i:RelV (.ref a) u)(f:SqL X.K H a xs) :
  ∃(o:Nr) (C:MD->Prop),fI X.prog X.w u o C/\C s.heap/\(∀h o,C h->C (h.push o))/\o.isFreed=false/\∀it h,h.get? it=ba o->(Zs.lst a).T it 0 h:=by
 obtain⟨b,j,p,_⟩:=I.list f;obtain rfl:u=Mr a:=i;show#[{cls:=.type "list_iterator",data:=.fields [.ref a,.int 0 0].toArray},λh=>h.IsList a b.toArray,λB s Q E c d=>OQ c d,p.isList,λh o #[g,e,r]=>#[g,Li _ e,r],rfl,λit h e=>#[_,e,rfl,rfl]]
def Ga {B:Lf L6}{k0:Ll}{tp:Oy}{a b:L6}{f:FA}{p pos:Oy}(hg:Gl X "zip")(hm:X.mg "zip" = gV)(ha:GA X [a,b] f)(hs:starEach [a,b] X.env=[(false,eval a X.env),(false,eval b X.env)])(G:starEach [b] X.env=[(false,eval b X.env)]) :
  GI X (.Tuple B k0 tp) (.Call (.Name "zip" p) [a,b] [] pos) (DC f):=by
 intro J s Y H R I ⟨A,Z,S,mi,S',er,so,e,hq⟩;have C:∀{c:Lm}{i:Hp}{u v:Lj}{l m:Zs}{j ob:Nr}{k g:MD->Prop},Inv X J Y i c->fI X.prog X.w u j k->k c.heap->j.isFreed=false->(∀it h,h.get? it=ba j->l.T it 0 h)->fI X.prog X.w v ob g->g c.heap->(∀h o,g h->g (h.push o))->ob.isFreed=false->(∀it h,h.get? it=ba ob->m.T it 0 h)->R (JC X.K l m) i->
   wpAny (model X.prog X.w) X.A (call (.type "zip") [u,v]) (λv s=>wpAny (model X.prog X.w) X.A (pyIter v) (Ho X J Y (.Tuple B k0 tp) R) X.xe s) X.xe c:=λ{c i u v l m j ob k g} d L n O Q M w N P T hR=>by
  show Al L M N n w O P λh' hz hp U g1 g2 hsz kp=>?_
  have I2:Inv X J Y i {c with heap:=h'}:=d.kept (t':=c.toks) kp
  show Ur (s:={c with heap:=h'}) hz ?_
  have D:Zap (⇑c.heap.objs+4) (⇑c.heap.objs+2) (⇑c.heap.objs+3) ⇑c.heap.objs (⇑c.heap.objs+1):=by constructor<;>(intro z;simp at z)
  show#[⇑c.heap.objs+4,_,_,_,i,rfl,I2,Ao (S1:=l) (S2:=m) D,#[hz,hp,#[_,_,U],Q _ _ g1,T _ _ g2],λb hb=>?_,hR]
  have E:⇑c.heap.objs<=b:=by
   simp only[LQ,My,NE]at hb;rcases hb with rfl|rfl|rfl|rfl|rfl
   ·show Ox _ _
   ·show Ox _ _
   ·show Ox _ _
   ·show Ls _
   ·show Ox _ _
  show d.fpOk E (d.hok.fresh E)
 unfold DC at e;split at e
 ·rename_i x y S1 h1;show WM (iS I hg hm Aq (NX (bF (ha pos J s Y H _ I #[A,Z,S,_,_,er,so,h1,λ_ _ z=>z]) λus c #[vs,i,d,r1,A1,z1,z2,z3]=>?_) (by rw[hs,G]) (by rw[G];rfl)))
  cases z3 with
  |cons ra t=>
   cases t with
   |cons rb t=>
    cases t;cases r1 with
    |cons ua t=>
     cases t with
     |cons ub t=>
      cases t;split at e
      ·rename_i xs ys e1 e2;cases e;obtain⟨l,j,k,za,L,n,ka,O,Q⟩:=pI d ra ua e1;obtain⟨m,ob,g,zb,M,w,N,P,T⟩:=pI d rb ub e2;show C d L n O Q M w N P T (hq _ _ A1 z1 z2 (DD za zb))
      ·split at e
       ·rename_i r q;split at e
        ·rename_i xs ys hx hy;cases e;cases ra with
         |@ref _ a V=>
          cases rb with
          |@ref _ b W=>
           obtain⟨va,q1,_⟩:=bp z2 hx V;obtain⟨vb,q2,_⟩:=bp z2 hy W;obtain⟨j,k,L,n,ka,O,Q⟩:=vD d ua q1;obtain⟨ob,g,M,w,N,P,T⟩:=vD d ub q2;show C d L n O Q M w N P T (hq _ _ A1 z1 z2 (Ap V W))
        ·cases e
       ·cases e
 ·cases e
end
open PySem.Builtin.SmallTypes (nextOf)
section
variable{prog:Mn}{w:MB}{B:Ms}{E:Lj->Lm->Prop}{s:Lm}{e it:Lv}{T:Ll->MD->Prop}{C:MD->Prop}{i:Ll}{old:Lj}
structure EnAt (h0 h:MD)(e it:Lv)(fs:LY Lj)(T:MD->Prop):Prop where
 here:h.get? e=ba {cls:=.type "enumerate",dict:=gV,data:=.fields fs,slots:=#[]}
 turn:T h
 kept:∀b o,b≠e->b≠it->h0.get? b=ba o->h.get? b=ba o
def EnAt.put {f:MD}{a:LY Lj}{T:MD->Prop}{k:Ll}{v:Lj}{Q:WL->Lm->Prop}(x:EnAt f s.heap e it a T)(c:e≠it)(j:∀h h',T h->(∀o,h.get? it=ba o->h'.get? it=ba o)->T h')(hk:k<⇑a)
  (q:∀h',EnAt f h' e it (a.setIfInBounds k v) T->NN e s.heap h'->Q () {s with heap:=h'}):wpAny (model prog w) B (setField (.ref e) k v) Q E s:=
 OC x.here hk λh' y d=>q h' #[y,j _ _ x.turn λo z=>d.extBut _ _ (Ne.symm c) z,λb o g i z=>d.extBut b o g (x.kept b o g i z)] d
def nX {Uqa:Ln (Lj->Prop)}{Q:Lj->Lm->Prop}(H:Zit prog w it T C i Uqa)(hh:B.handled=gV)(L:Wq s.heap e it (i:LC) old)(t:T i s.heap)(c:C s.heap)(h:e≠it)
  (Z:∀V,Uqa=ba V->∀u h' S M,V u->IsEnumOut h' e it ((i:LC)+1) u ⇑s.heap.objs->T (i+1) h'->h'.get? ⇑s.heap.objs=ba {cls:=.type "tuple",data:=.seq [.int i M,u].toArray}->
   (∀b o,b≠e->b≠it->s.heap.get? b=ba o->h'.get? b=ba o)->Q (.ref ⇑s.heap.objs) {s with heap:=h',toks:=S})
  (Y:Uqa=gV->∀h' x,Sv it s.heap h'->(∃o,h'.get? x=ba o/\o.cls=.type "StopIteration")->E (.ref x) {s with heap:=h'}) :
  wpAny (model prog w) B (O3.«enumerate.__next__» #[[.ref e],[]]) (λI s'=>∃v,I=.done (.ret v)/\Q v s') E s:=by
 obtain⟨r,g,d,S,os⟩:=s;change wpAny _ _ (field (.ref e) 2 >>= _) _ _ _;show Lg (Nu L rfl (x:=.ref it) rfl (Lg ?_));cases Uqa with
 |none=>show H.stop rfl _ _ _ _ hh t c λh' x a b=>Y rfl h' x a b
 |some V=>
  show H.next V rfl _ _ _ _ t c λu m f hu R j=>?_
  have n:=H.keep (i+1);have D:EnAt r m e it [.none,.bool false,.ref it,rawInt i,.none,old].toArray (T (i+1)):=#[(j.2 e h).trans L,R,λb o _ p z=>j.extBut b o p z]
  have W:⇑m.objs=⇑r.objs:=j.1;clear j R;change wpAny _ _ (field (.ref e) 3 >>= _) _ _ #[m,g,d,f,os];show Lg (Nu D.here rfl (x:=rawInt i) rfl ?_);change wpAny _ _ (field (.ref e) 4 >>= _) _ _ #[m,g,d,f,os];show Lg (Nu D.here rfl (x:=.none) rfl ?_);change wpAny _ _ (mkInt i >>= _) _ _ #[m,g,d,f,os];show Lg (UB (Lg (D.put (s:=#[m,g,d,f+1,os]) h n (by simp) λP U y=>Lg (U.put (s:=#[P,g,d,f+1,os]) h n (by simp) λq G A=>Lg (Rf ?_)))))
  have O:⇑q.objs=⇑r.objs:=by rw[A.1,<- W];show y.1
  have k:⇑r.objs≠e:=Mk (LO L);have l:=LI q (o:={cls:=.type "tuple",data:=.seq [.int i f,u].toArray}) rfl;have xd:EnAt r (q.push {cls:=.type "tuple",data:=.seq [.int i f,u].toArray}) e it [.none,.bool false,.ref it,rawInt ((i:LC)+1),.none,old].toArray (T (i+1)):=#[Li _ G.here,n _ _ G.turn λo z=>Li _ z,λb o J p z=>Li _ (G.kept b o J p z)]
  rw[O]at l;change wpAny _ _ (NM (.ref e) >>= _) _ _ #[q.push _,g,d,f+1,os];rw[O];generalize q.push {cls:=.type "tuple",data:=.seq [.int i f,u].toArray}=hd at l xd ⊢;clear O A G y U P D W;show Lg ?_;unfold NM;show Lg (Nu xd.here rfl (x:=.none) rfl (Lo ?_));simp only[NC];show Lg (Q1 (Lg (Nu xd.here rfl (x:=old) rfl (Lg (xd.put (s:=#[hd,g,d,f+1,os]) h n (by simp) λJ x1 s1=>Lg ?_)))))
  unfold Os;show Lg (x1.put (s:=#[J,g,d,f+1,os]) h n (by simp) λp x2 s2=>x2.put (s:=#[p,g,d,f+1,os]) h n (by simp) λX N s3=>Lg (PD (Lo #[_,rfl,Z V rfl u X (f+1) f hu N.here N.turn ?_ N.kept])))
  show s3.extBut _ _ k (s2.extBut _ _ k (s1.extBut _ _ k l))
variable{v:Lj}{o:Nr}
def rJ (i:fI prog w v o C) :
  MeetsIn prog w (O3.«enumerate.__new__» #[[.type "enumerate",v],[]]) (λ_ R s=>C s.heap/\R (.ok (.ret (.ref (s.heap.push o).objs.size))) {s with heap:=(s.heap.push o).push {cls:=.type "enumerate",data:=.fields [.none,.bool false,.ref ⇑s.heap.objs,rawInt 0,.none,.none].toArray}}):=
 .of_wp λA R s h=>by
  obtain⟨a,g,d,e,os⟩:=s;obtain⟨c,h⟩:=h;have f:=sub_enumerate;have b:∀(B:Ms) (Q:Lj->Lm->Prop) (E:Lj->Lm->Prop),Q (.ref ⇑a.objs) #[a.push o,g,d,e,os]->wpAny (model prog w) B (pyIter v) Q E #[a,g,d,e,os]:=λB Q E q=>i B #[a,g,d,e,os] Q E c q
  wp_walk
  show wpAny_stack_any λst=>Lo ?_
  split
  ·rename_i c _ _ _ _ _;cases(c==NF "enumerate")
   ·wp_walk using b _ _ _
    show#[_,rfl,h]
   ·wp_walk using b _ _ _
    show#[_,rfl,h]
  ·wp_walk using b _ _ _
   show#[_,rfl,h]
def xI {Q:Lj->Lm->Prop}(d:fI prog w v o C)(c:C s.heap)(e:o.isFreed=false)
  (h:∀h',Wq h' (⇑s.heap.objs+1) ⇑s.heap.objs 0 .none->h'.get? ⇑s.heap.objs=ba o->(∀b o,s.heap.get? b=ba o->h'.get? b=ba o)->Q (.ref (⇑s.heap.objs+1)) {s with heap:=h'}) :
  wpAny (model prog w) B (call (.type "enumerate") [v]) Q E s:=by
 show Vb F.called_enumerate #v[] (F.typeCall_enumerate_1 _) (F.newCall_enumerate_1 _) (λobj=>F.args_object_init_2 obj _) F.entry_enumerate_new (rJ d) #[c,?_]
 have hz:(s.heap.push o).objs.size=⇑s.heap.objs+1:=Nv ..;change _/\_;rw[hz];have a:Wq ((s.heap.push o).push {cls:=.type "enumerate",data:=.fields [.none,.bool false,.ref ⇑s.heap.objs,rawInt 0,.none,.none].toArray}) (⇑s.heap.objs+1) ⇑s.heap.objs 0 .none:=by
  have:=LI (s.heap.push o) (o:={cls:=.type "enumerate",data:=.fields [.none,.bool false,.ref ⇑s.heap.objs,rawInt 0,.none,.none].toArray}) rfl;rw[hz]at this;show this
 show#[#[_,a,rfl],h _ a (Li _ (LI _ e)) λb o x=>Li _ (Li _ x)]
end
abbrev KT (K:LF)(S1:Zs):It:=
 #[λi H=>∃x,S1.at K H i x,λi H v a=>∃p x,S1.is K H i x/\v=.ref p/\H p=gV/\a=bE H p (.tup [.int i,x]),λi H=>S1.out K H i]
def xJ {P:Mn}{w:MB}{K:LF}{C:Lf L6}{k0:Ll}{tp:Oy}{S1:Zs}{z i1:Lv}(D:z≠i1) :
  Turn P w K (.Tuple C k0 tp) (KT K S1) [z,i1] z (λi h=>(∃j,Wq h z i1 i j)/\S1.T i1 i h) where
 mem:=by simp
 obj:=λi h #[#[j,a],d] b' f=>by
  have it:∀{S:Zs}{it:Lv},S.T it i h->∃o,h.get? it=ba o/\∀v,o.data≠.cell v:=λ{S it} t=>by
   cases S with
   |tup a=>obtain⟨o,e,_,d⟩:=t;show#[o,e,λv z=>by rw[d]at z;cases z]
   |lst a=>obtain⟨o,e,_,d⟩:=t;show#[o,e,λv z=>by rw[d]at z;cases z]
  simp only[LQ,My,NE]at f;rcases f with rfl|rfl
  ·show#[_,a,λv z=>by cases z]
  ·show it d
 keep:=λi h h' #[#[j,a],d] k=>#[#[j,k z (by simp) _ a],Zs.keep d (k i1 (by simp))]
 item:=by
  intro X G M hK n i J s Y H E I hf st L;subst G M hK;obtain⟨x,W⟩:=L;obtain⟨⟨j,a⟩,d⟩:=st;have l:∀b∈[z,z,i1,i1],iT X J H b:=λb f=>hf b (by simp only[LQ,My,NE]at f ⊢;rcases f with h|h|h|h<;>simp[h])
  obtain⟨Z,y,A,k1⟩:=Zs.zit (it:=i1) (Uqa:=ba x) I l W;have m:s.TypeIs (.ref z) "enumerate":=#[_,a,rfl];unfold pyNext;show Lg (Pr (MP (name:=NO "__next__") m F.slot_enumerate_next (MU F.slot_enumerate_next m F.entry_enumerate_next ?_ (F.args_enumerate_next_1 _))));show nX y (I.ok.hd n) a d A D (λV B u g Q r r1 zg t1 ng kp=>?_) (λz=>by cases z)
  cases B;show Lo #[_,rfl,?_];show wpAny_letOwnedTupleGo_enum (s:={s with heap:=g,toks:=Q}) zg λg' R O=>?_
  have U:H ⇑s.heap.objs=gV:=I.hok.fresh (Ls _);have lt:∀{b:Lv},b∈[z,i1]->⇑s.heap.objs≠b:=λ{b} f=>by
   have:∃o,s.heap.get? b=ba o:=by
    have it:∀{S:Zs}{it:Lv},S.T it i s.heap->∃o,s.heap.get? it=ba o:=λ{S it} t=>by
     cases S with
     |tup a=>obtain⟨o,e,_⟩:=t;show#[o,e]
     |lst a=>obtain⟨o,e,_⟩:=t;show#[o,e]
    simp only[LQ,My,NE]at f;rcases f with rfl|rfl
    ·show#[_,a]
    ·show it d
   obtain⟨o,e⟩:=this;show Mk (LO e)
  have up:∀b o,b∉[z,i1]->s.heap.get? b=ba o->g'.get? b=ba o:=λb o f e=>by
   simp only[LQ,My,NE,Uk]at f;show O.extBut _ _ f.1 (kp b o f.1 f.2 e)
  have I1:Inv X J Y H {s with heap:=g',toks:=Q}:=Mi.Inv.turnedL I up hf
  have N:g'.get? ⇑s.heap.objs=ba {cls:=.type "tuple",data:=.seq [.int i r,u].toArray}:=O.extBut _ _ (lt (by simp)) ng
  have I2:Inv X J Y (bE H ⇑s.heap.objs (.tup [.int i,x])) {s with heap:=g',toks:=Q}:=by
   show Mi.Inv.adopt I1 U (.inr I.sz) (Mk I.lt) (λw c e=>?_) (λp hp=>?_) #[by change 2<=sizeLine;decide,[.int i r,u],.cons #[_,rfl] #v[r1],#[_,N,rfl,0,rfl]]
   ·obtain⟨v,q⟩:=I.cell w c e;show LX q.lt
   ·show LX (LO (I.pin p hp).1)
  show#[.ref ⇑s.heap.objs,_,I2,rfl,#[⇑s.heap.objs,x,Zs.at_is I W,rfl,U,rfl],#[#[_,R],Zs.keep t1 λo e=>O.extBut _ _ (Ne.symm D) e],λb f=>?_]
  rw[aF (Ne.symm (lt f))];show(hf b f).1
 done:=by
  intro X G M hK n i J s Y H E I hf st L;subst G M hK;obtain⟨⟨j,a⟩,d⟩:=st;have l:∀b∈[z,z,i1,i1],iT X J H b:=λb f=>hf b (by simp only[LQ,My,NE]at f ⊢;rcases f with h|h|h|h<;>simp[h])
  obtain⟨Z,y,A,k1⟩:=Zs.zit (it:=i1) (Uqa:=gV) I l L;have m:s.TypeIs (.ref z) "enumerate":=#[_,a,rfl];unfold pyNext;show Lg (Pr (MP (name:=NO "__next__") m F.slot_enumerate_next (MU F.slot_enumerate_next m F.entry_enumerate_next ?_ (F.args_enumerate_next_1 _))));show nX y (I.ok.hd n) a d A D (λV B=>by cases B) λ_ h' e k #[o,ho,n]=>?_
  show Lg (O8 (T:="StopIteration") (b:=true) #[o,ho,n] Rc (Lo #[rfl,Mi.Inv.turnedL (t':=s.toks) I (λb o f e=>by
    simp only[LQ,My,NE,Uk]at f;show k b o f.2 e) hf]))
 self:=λ_ _ _ _ _ st h=>by obtain⟨⟨j,a⟩,_⟩:=st;show T6 a h
abbrev pJ (xs:Lf W):Lf W:=xs.zipIdx.map λp=>.tup [.int (p.2:Ll),p.1]
def rK {xs:Lf W}{i:Ll}{w:W}(h:(pJ xs)[i]?=ba w):∃x,xs[i]?=ba x/\w=.tup [.int i,x]:=by
 unfold pJ at h;rw[Lu,List.getElem?_zipIdx,U7,Lk]at h;obtain⟨x,a,rfl⟩:=h;show#[x,a,by simp]
abbrev DE (f:FA):FI:=λZ S=>match f Z S with
 |some ([x],S1)=>match G8 x with
  |some xs=>ba (.its (pJ xs),S1)
  |none=>gV
 |_=>gV
section
variable{X:Cx}{J:Lf (Lv×Nr)}{Y:L2.St}{H:Hp}{s:Lm}{A:Lf Lv}
def Ar {S1:Zs}{xs:Lf W}(d:ZRel X.K A H xs S1):MIt X.w X.K (.its (pJ xs)) (KT X.K S1) A H:=by
 show#[λb c S i w e g hi=>?_,λb c S i e g hi=>?_]
 ·simp only[MI.at,Mh]at hi;obtain⟨x,f,rfl⟩:=rK hi;obtain⟨v,h,k⟩:=(d.mono e).at f;show#[#[v,h],λp j #[a,v',q1,hp,hn,hH]=>?_]
  subst hp hH;have ex:Ext X.K b c b (bE c a (.tup [.int i,v'])):=cK (.inl hn);show#[ex,g.lay hn,.tup (.of aP) #v[.int,((d.mono e).is f q1).mono ex]]
 ·simp only[MI.at,Mh,MN,pJ,Lh,List.length_zipIdx]at hi;show(d.mono e).out hi
def xK:bootBuiltins "enumerate" = ba (.type "enumerate"):=rfl
def DF {g:Lf L6}{y:Ll}{tp:Oy}{a:L6}{f:FA}{p pos:Oy}(r:Gl X "enumerate")(u:X.mg "enumerate" = gV)(q:GA X [a] f)(hs:starEach [a] X.env=[(false,eval a X.env)]) :
  GI X (.Tuple g y tp) (.Call (.Name "enumerate" p) [a] [] pos) (DE f):=by
 intro J s Y H R I ⟨A,Z,S,mi,S',m,D,e,v⟩;unfold DE at e;split at e
 ·rename_i x S1 o;split at e
  ·rename_i xs l;cases e;show WM (iS I r u xK (NX (bF (q pos J s Y H _ I #[A,Z,S,_,_,m,D,o,λ_ _ z=>z]) λus c #[vs,H1,I1,r1,A1,z1,z2,z3]=>?_) (by rw[hs];rfl) (by rfl)))
   cases z3 with
   |cons C t=>
    cases t;cases r1 with
    |cons G t=>
     cases t;obtain⟨j,N,M,L,w,k,ka,B,E⟩:=pI I1 C G l;show xI w k B λh' hz n kp=>?_
     have i:Inv X J Y H1 {c with heap:=h'}:=I1.kept (t':=c.toks) kp
     show T6 (s:={c with heap:=h'}) hz ?_
     show#[⇑c.heap.objs+1,_,_,_,H1,rfl,i,xJ (S1:=j) (i1:=⇑c.heap.objs) (by simp),#[#[_,hz],E _ _ n],λb h=>?_,v _ _ A1 z1 z2 (Ar L)]
     have d:⇑c.heap.objs<=b:=by
      simp only[LQ,My,NE]at h;rcases h with rfl|rfl
      ·show Ox _ _
      ·show Ls _
     show I1.fpOk d (I1.hok.fresh d)
  ·cases e
 ·cases e
end
end Mi
namespace Mi
open PySem PySem.Spec PyProof.Rows L2
section
variable{X:Cx}{J:Lf (Lv×Nr)}{Y:L2.St}{H:Hp}{s:Lm}{A:Lf Lv}{S:aa}
abbrev lX:Lf W->Ln (Lf LC)
 |[]=>ba []
 |.int i::ws=>(lX ws).map (i :: ·)
 |_::_=>gV
abbrev As (ns:Lf LC):L7:=decide (↥ns<=1000)&&ns.all λn=>decide (0<=n)&&decide (n<2^53)
abbrev DH (xs:Lf W)(S:aa):Ln (W×aa):=match xs with
 |[.ref i]=>match gJ S i with
  |some ws=>match lX ws with
   |some ns=>if As ns then ba (.int ns.sum,S)else gV
   |none=>gV
  |none=>gV
 |_=>gV
def rL {A:Lf Lv}{H:Hp}:∀{ws:Lf W}{vs:Lf V}{us:Lf Lj}{ns:Lf LC},RelL X.K A H ws vs->Vals vs us->lX ws=ba ns->TR us ns
 |_,_,_,ns,.nil,.nil,e=>by cases e;show .nil
 |_,_,_,ns,.cons r t,.cons q p,e=>by
  cases r with
  |int=>
   obtain⟨z,a,b⟩:=Lk.mp e;subst b;obtain⟨c,rfl⟩:∃t,_=Qq _ t:=q;show .cons _ c (rL t p a)
  |_=>cases e
def gR (ns:Lf LC):∀j,preSum (λi=>ns.getD i 0) j=(ns.take j).sum
 |0=>by rw[Vc];rfl
 |j+1=>by
  change preSum _ j+ns.getD j 0=_;rw[gR ns j,L8,UO,LS];cases ns[j]?<;>simp
def Gb {ns:Lf LC}(h:∀n∈ns,0<=n/\n<2^53):0<=ns.sum/\ns.sum<=(↥ns:LC)*2^53:=by
 induction ns with
 |nil=>simp
 |cons n ns ih=>
  obtain⟨a,b⟩:=ih λx e=>h x (MO _ e)
  obtain⟨c,d⟩:=h n M3;rw[N1,L3];show#[∅,∅]
def xL (C:X.A.handled=gV):LCall X (.builtin "sum") DH:=by
 intro J s Y H A S xs vs us w S' I u L M e;unfold DH at e;split at e
 ·rename_i i;obtain⟨a,x,rfl⟩:=jq (xs:=[]) L M;split at e
  ·rename_i ws E;split at e
   ·rename_i ns k;split at e
    ·rename_i c;cases e;unfold As at c;rw[Lp,LJ,LN]at c;have f:∀n∈ns,0<=n/\n<2^53:=λn k=>by simpa using c.2 n k
     obtain⟨N,y,G⟩:=bp u E x;obtain⟨d,r,p,hz⟩:=I.list y;have hi:=rL G r k;have g:⇑d.toArray=↥ns:=by rw[LM];show ↥hi
     have h:a<⇑s.heap.objs:=by obtain⟨_,m,_⟩:=p.isList;show LO m
     show call_sum_walk (OQ p.isList ?_);have W:=Tn (prog:=X.prog) (w:=X.w) (A:=X.A.in1) C ⇑s.heap.objs a (LX h) d.toArray;have D:∀j,0<=(ns.take j).sum/\(ns.take j).sum<=1000*2^53:=λj=>by
      obtain⟨a,b⟩:=Gb (ns:=ns.take j) λn k=>f n (Nw k)
      have:=List.length_take_le j ns;have:=List.length_take_le' j ns;show#[a,∅]
     show#[_,_,_,_,_,_,(λi=>ns.getD i 0),rfl,W,#[#[_,LI _ rfl,rfl,rfl],?_],λb c=>?_,λj v l=>?_,λj P=>?_,λh' Q t' hk=>?_]
     ·obtain⟨o,m,B⟩:=p.isList;show#[o,Li _ m,B]
     ·have:b<⇑s.heap.objs+1:=by
       rcases LQ.mp c with rfl|c
       ·show M7 _
       ·rw[LA.mp c];show Ol h
      simpa [WB]using this
     ·have l:d[j]?=ba v:=by simpa using l
      have hl:j<↥ns:=by
       rw[<- ↥hi];show(LB.mp l).1
      obtain⟨t,q⟩:=hi.get j ns[j] (by simp[hl])
      rw[q]at l;cases l;show#[t,by change _=Qq (ns.getD j 0) t;rw[LS,Lq hl];rfl]
     ·rw[gR];have:=D (j+1);have O:0<=ns.getD j 0/\ns.getD j 0<2^53:=by
       rw[LS];cases q:ns[j]? with
       |none=>show#[#v[],#v[]]
       |some n=>show f n (LD q)
      show#[(#[∅,∅]:InLong (ns.getD j 0)),#[∅,∅]]
     ·show#[.int ns.sum,H,A,I.kept (λb o e=>hk b o (λz=>?_) (Li _ e)),?_,.refl,u,.int]
      ·have c:=LO e;rw[LA.mp z]at c;show M6 _ c
      ·show#[t',?_];rw[gR,g,Mg]
    ·cases e
   ·cases e
  ·cases e
 ·cases e
end
abbrev At (a b:Lf W->aa->Ln (W×aa))(xs:Lf W)(S:aa):Ln (W×aa):=match a xs S with
 |some r=>ba r
 |none=>b xs S
def lY {X:Cx}{f:Lj}{a b:Lf W->aa->Ln (W×aa)}(h:LCall X f a)(i:LCall X f b):LCall X f (At a b):=by
 intro J s Y H A S xs vs us w S' I g c d e;unfold At at e;split at e
 ·rename_i r j;cases e;show h J s Y H A S xs vs us w S' I g c d j
 ·show i J s Y H A S xs vs us w S' I g c d e
inductive Bi where|len|list|tuple|int|set|sorted|range|sum|all|min
 deriving Od
abbrev Bi.fn:Bi->Lf W->aa->Ln (W×aa)
 |.len=>tL|.list=>At nE nK|.tuple=>lT|.int=>HK|.set=>lR|.sorted=>At di gl|.range=>tz|.sum=>DH|.all=>CS|.min=>At zw zU
abbrev Bi.name:Bi->LW
 |.len=>"len"|.list=>"list"|.tuple=>"tuple"|.int=>"int"|.set=>"set"|.sorted=>"sorted"|.range=>"range"|.sum=>"sum"|.all=>"all"|.min=>"min"
inductive Me where|append|extend|join|pop|get
 deriving Od
abbrev Me.fn:Me->W->Lf W->aa->Ln (W×aa)
 |.append=>jm|.extend=>jn|.join=>uZ|.pop=>Fv|.get=>u7
abbrev Me.name:Me->LW
 |.append=>"append"|.extend=>"extend"|.join=>"join"|.pop=>"pop"|.get=>"get"
abbrev Me.ty:Me->Ng
 |.append=>"list"|.extend=>"list"|.join=>"str"|.pop=>"list"|.get=>"dict"
set_option genInjectivity false in
inductive Tg where
 |nm (i:Ll)|tp (is:Lf Ll)
set_option genSizeOf false in
set_option genInjectivity false in
set_option genInjectivity false in
mutual
inductive E where
 |c (w:W)|v (i:Ll)
 |op (o:BOp) (a b:E)
 |cmp (o:COp) (a b:E)
 |and (a b:E)|or (a b:E)|not (a:E)
 |own (f:LW) (n:Ll) (es:Es)|bi (b:Bi) (es:Es)|me (m:Me) (o:E) (es:Es)
 |ix (a b:E)|sl (a:E) (lo hi:Ep)|tup (es:Es)|lst (es:Es)
 |isi (c:Ng) (a:E)
 |neg (a:E)|dnew|disp (es:Es)
 |comp (elt:E) (tg:Tg) (it:Ie) (cs:Es) (cap:Lf (Ln Ll))
inductive Es where
 |nil|cons (e:E) (es:Es)
inductive Ep where
 |no|yes (e:E)
inductive Ie where
 |seq (e:E)|rng (es:Es)|zip (es:Es)|rng2 (es:Es)|enu (es:Es)
end
set_option genSizeOf false in
set_option genInjectivity false in
set_option genInjectivity false in
mutual
inductive Sm where
 |set (i:Ll) (e:E)|asg (is:Lf Ll) (e:E)|par (i j:Ll) (es:Es)|put (o k e:E)
 |ex (e:E)|ret (e:E)|pass
 |ite (t:E) (a b:Ss)|whl (t:E) (b:Ss)|loop (tg:Tg) (it:Ie) (b:Ss)
inductive Ss where
 |nil|cons (s:Sm) (ss:Ss)
end
abbrev gE:Tg->FG
 |.nm i=>Ej i
 |.tp is=>G7 is
section
variable (M:LW->FF)
mutual
def aD:E->FE
 |.c w=>fC w
 |.v i=>fV i
 |.op o a b=>C6 (fm o) (aD a) (aD b)
 |.cmp o a b=>C7 o (aD a) (aD b)
 |.and a b=>vy (aD a) (aD b)
 |.or a b=>Db (aD a) (aD b)
 |.not a=>vz (aD a)
 |.own f n es=>rB n (M f) (du es)
 |.bi b es=>kM b.fn (du es)
 |.me m o es=>G6 m.ty m.fn (aD o) (du es)
 |.ix a b=>Kj (aD a) (aD b)
 |.sl a lo hi=>HY (aD a) (vE lo) (vE hi)
 |.tup es=>z8 (du es)
 |.lst es=>z9 (du es)
 |.isi c a=>Ai c (aD a)
 |.neg a=>zW (aD a)
 |.dnew=>Ek
 |.disp es=>rF (du es)
 |.comp elt tg it cs cap=>lV (j8 it) (gE tg) (DI cs) (aD elt) cap
def dL:E->FT
 |.cmp o a b=>zY (C7 o (aD a) (aD b))
 |.and a b=>zZ (dL a) (dL b)
 |.or a b=>HV (dL a) (dL b)
 |.not a=>C8 (dL a)
 |.c w=>iG (fC w)
 |.v i=>iG (fV i)
 |.op o a b=>iG (C6 (fm o) (aD a) (aD b))
 |.own f n es=>iG (rB n (M f) (du es))
 |.bi b es=>iG (kM b.fn (du es))
 |.me m o es=>iG (G6 m.ty m.fn (aD o) (du es))
 |.ix a b=>iG (Kj (aD a) (aD b))
 |.sl a lo hi=>iG (HY (aD a) (vE lo) (vE hi))
 |.tup es=>iG (z8 (du es))
 |.lst es=>iG (z9 (du es))
 |.isi c a=>iG (Ai c (aD a))
 |.neg a=>iG (zW (aD a))
 |.dnew=>λ_ _=>gV
 |.disp _=>λ_ _=>gV
 |.comp _ _ _ _ _=>λ_ _=>gV
def du:Es->FA
 |.nil=>jC
 |.cons e es=>dW (aD e) (du es)
def DI:Es->FT
 |.nil=>El
 |.cons e .nil=>dL e
 |.cons _ (.cons _ _)=>λ_ _=>gV
def vE:Ep->FO
 |.no=>FX
 |.yes e=>vA (aD e)
def j8:Ie->FI
 |.seq e=>fQ (aD e)
 |.rng es=>ue (du es)
 |.zip es=>DC (du es)
 |.rng2 es=>iRng2 (du es)
 |.enu es=>DE (du es)
end
variable (fuel:Ll)
mutual
def gS:Sm->FS
 |.set i e=>lU (aD M e) (Ej i)
 |.asg is e=>lU (aD M e) (G7 is)
 |.par i j es=>Dq i j (du M es)
 |.put o k e=>lU (aD M e) (Dp (aD M o) (aD M k))
 |.ex e=>Dk (aD M e)
 |.ret e=>Dm (aD M e)
 |.pass=>Ad
 |.ite t a b=>Do (dL M t) (gT a) (gT b)
 |.whl t b=>pG (dL M t) (gT b) fuel
 |.loop tg it b=>Ag (j8 M it) (gE tg) (gT b)
def gT:Ss->FS
 |.nil=>λZ S=>ba (.nx Z,S)
 |.cons s ss=>Dj (gS s) (gT ss)
end
end
set_option genInjectivity false in
structure Gam where
 sc:Lf (LW×NU)
 N:Lf LW
 fns:Lf (LW×Ll)
 blt:Lf LW
 dfn:L7
abbrev Gc:Ln NU->L7
 |some .local=>true|some .cell=>true|some .free=>true|_=>false
abbrev DJ:Ln NU->L7
 |some .cell=>true|some .free=>true|_=>false
abbrev gU (names outer:Lf (LW×NU)):Lf (LW×NU):=names.map λ(n,k)=>if (k==.free&&outer.lookup n==ba .cell)then(n,.cell)else(n,k)
abbrev slot (Γ:Gam)(x:LW):Ln Ll:=if Gc (Γ.sc.lookup x) && !(x==("__debug__": LW)) && !(x==("__classdict__": LW))then Γ.N.findIdx? (· == x)else gV
abbrev vF:TD->Ln BOp
 |.Add=>ba .add|.Sub=>ba .sub|.Mult=>ba .mul|.FloorDiv=>ba .fdiv|.Mod=>ba .mod|.Pow=>ba .pow|_=>gV
abbrev vG:VC->Ln COp
 |.Eq=>ba .eq|.NotEq=>ba .ne|.Lt=>ba .lt|.LtE=>ba .le|.Gt=>ba .gt|.GtE=>ba .ge|.In=>ba .isin|.NotIn=>ba .notin|.Is=>ba .is|.IsNot=>ba .isnot
abbrev DK (x:LW):Ln Bi:=[Bi.len,.list,.tuple,.int,.set,.sorted,.range,.sum,.all,.min].find? λb=>b.name==x
abbrev DL (x:LW):Ln Me:=[Me.append,.extend,.join,.pop,.get].find? λb=>b.name==x
abbrev Ip (Γ:Gam)(x:LW):L7:=Γ.sc.lookup x==ba .globalImplicit && !(x==("__debug__": LW))
abbrev Au (x:LW):Ln Ng:=if x==("bool": LW)then ba "bool" else if x==("int": LW)then ba "int" else if x==("str": LW)then ba "str" else if x==("tuple": LW)then ba "tuple" else if x==("list": LW)then ba "list" else if x==("dict": LW)then ba "dict" else gV
abbrev vH:Lf (Ln L6)->Lf L6->Lf L6
 |some k::ks,v::vs=>k::v::vH ks vs
 |_,_=>[]
abbrev DM (Γ:Gam)(f:L6->Ln E):Lf L6->Ln E
 |[a,.Name c _]=>if Ip Γ c&&Γ.blt.contains c then match Au c,f a with
  |some d,ba b=>ba (.isi d b)
  |_,_=>gV
  else gV
 |_=>gV
abbrev io:L6->L7
 |.Name _ _=>true|.Constant _ _ _=>true|.Subscript _ _ _=>true|_=>false
abbrev lZ (Γ:Gam)(x:LW):L7:=Γ.sc.lookup x==ba .globalImplicit && !(x==("__debug__": LW))
abbrev dy (Γ:Gam)(x:LW):Ln Ll:=if (Γ.sc.lookup x==ba .local)||(Γ.dfn&&Γ.sc.lookup x==ba .cell)then Γ.N.findIdx? (· == x)else gV
abbrev cA (f:L6->Ln E)(es:Lf L6):Ln Es:=es.foldr (λe a=>match f e,a with|some c,ba b=>ba (.cons c b)|_,_=>gV) (ba .nil)
abbrev cB (f:L6->Ln E)(op:Wo):Lf L6->Ln E
 |[]=>gV
 |[a]=>f a
 |a::b::aU=>match f a,cB f op (b::aU)with
  |some c,ba d=>ba (match op with|.And=>.and c d|.Or=>.or c d)
  |_,_=>gV
abbrev cP (f:L6->Ln E):Ln L6->Ln Ep
 |none=>ba .no
 |some e=>(f e).map .yes
abbrev isTup:L6->L7
 |.Tuple _ _ _=>true
 |_=>false
abbrev cI (Γ:Gam)(f:L6->Ln E)(tg:L6):L6->Ln Ie
 |.Call (.Name x p) [a] [] q=>if x==("range": LW)&&lZ Γ x&&Γ.blt.contains x then(cA f [a]).map .rng else if x==("enumerate": LW)&&lZ Γ x&&Γ.blt.contains x&&isTup tg then(cA f [a]).map .enu else(f (.Call (.Name x p) [a] [] q)).map .seq
 |.Call (.Name x p) [a,b] [] q=>if x==("zip": LW)&&lZ Γ x&&Γ.blt.contains x&&isTup tg then(cA f [a,b]).map .zip else if x==("range": LW)&&lZ Γ x&&Γ.blt.contains x then(cA f [a,b]).map .rng2 else(f (.Call (.Name x p) [a,b] [] q)).map .seq
 |e=>(f e).map .seq
abbrev G9 (Γ:Gam):Lf L6->Ln (Lf Ll)
 |[]=>ba []
 |.Name x _::ts=>match dy Γ x,G9 Γ ts with
  |some i,ba is=>ba (i::is)
  |_,_=>gV
 |_::_=>gV
abbrev cT (Γ:Gam):L6->Ln Tg
 |.Name x _=>(dy Γ x).map .nm
 |.Tuple ts _ _=>(G9 Γ ts).map .tp
 |_=>gV
abbrev iM (names:Lf (LW×NU)):Lf LW:=(names.filter λp=>p.2==.local||p.2==.free).map (·.1)
abbrev ip (Γ:Gam)(names:Lf (LW×NU)):Lf (Ln Ll):=(iM names).map λx=>if names.lookup x==ba .local then gV else Γ.N.findIdx? (· == x)
abbrev Av (Γ:Gam)(scope:Pu):L7:=
 (scope.kind==.function)&&scope.names.all (λy=>!(y.2==.local)||scope.names.lookup y.1==ba .local)&&scope.names.all (λy=>!(y.2==.cell)) &&
 scope.names.all (λy=>!(y.2==.free)||(DJ (Γ.sc.lookup y.1)&&scope.names.lookup y.1==ba .free&&(Γ.N.findIdx? (· == y.1)).isSome))&&decide (iM scope.names).Nodup
abbrev iN (Γ:Gam)(scope:Pu):Gam:={Γ with sc:=gU scope.names Γ.sc,N:=iM scope.names,dfn:=false}
abbrev Aw (f:L6->Ln E)(b:Lf (Ln L6))(a:Lf L6):Ln E:=
 if b.isEmpty&&a.isEmpty then ba .dnew
 else if b.all (·.isSome)&&decide (↥b=↥a)&&decide (↥b<=15)then(cA f (vH b a)).map .disp else gV
abbrev cE:Ll->Gam->L6->Ln E
 |0,_,_=>gV
 |n+1,Γ,e=>match e with
  |.Constant (.int i) _ _=>ba (.c (.int i))
  |.Constant (.str x) _ _=>ba (.c (.str x))
  |.Constant (.bool b) _ _=>ba (.c (.bl b))
  |.Constant .none _ _=>ba (.c .non)
  |.Name x _=>match slot Γ x with
   |some i=>ba (.v i)
   |none=>gV
  |.BinOp a op b _=>match vF op,cE n Γ a,cE n Γ b with
   |some o,ba d,ba g=>ba (.op o d g)
   |_,_,_=>gV
  |.UnaryOp .Not a _=>(cE n Γ a).map .not
  |.UnaryOp .USub a _=>(cE n Γ a).map .neg
  |.BoolOp op vs _=>cB (cE n Γ) op vs
  |.Compare a [op] [b] _=>match vG op,cE n Γ a,cE n Γ b with
   |some o,ba d,ba g=>ba (.cmp o d g)
   |_,_,_=>gV
  |.Call (.Name f _) args [] _=>if lZ Γ f then match Γ.fns.lookup f with
    |some k=>(cA (cE n Γ) args).map (.own f k)
    |none=>if f==("isinstance": LW)then(if Γ.blt.contains f then DM Γ (cE n Γ) args else gV)else match DK f,args with
     |some b,a::as=>if Γ.blt.contains f then(cA (cE n Γ) (a::as)).map (.bi b)else gV
     |_,_=>gV
   else gV
  |.Call (.Attribute o m apos) (a::as) [] cpos=>match DL m,cE n Γ o,cA (cE n Γ) (a::as)with
   |some v,ba o',ba es=>if io o&&(apos.endLine==cpos.line)&&decide ((a::as).length<29)then ba (.me v o' es)else gV
   |_,_,_=>gV
  |.Subscript a (.Slice lo hi gV _) _=>match cE n Γ a,cP (cE n Γ) lo,cP (cE n Γ) hi with
   |some d,ba r,ba q=>ba (.sl d r q)
   |_,_,_=>gV
  |.Subscript a b _=>match cE n Γ a,cE n Γ b with
   |some d,ba g=>ba (.ix d g)
   |_,_=>gV
  |.Tuple es _ _=>(cA (cE n Γ) es).map .tup
  |.List es _=>(cA (cE n Γ) es).map .lst
  |.Dict j c _=>Aw (cE n Γ) j c
  |.ListComp p [#[tg,iter,h,l]] scope _=>if (l==0)&&(Av Γ scope&&decide (↥h<=1))then
    match cI Γ (cE n Γ) tg iter,cT (iN Γ scope) tg,cA (cE n (iN Γ scope)) h,cE n (iN Γ scope) p with
    |some it,ba t,ba s,ba u=>ba (.comp u t it s (ip Γ scope.names))
    |_,_,_,_=>gV
   else gV
  |_=>gV
structure CtxOk (M:LW->FF)(X:Cx)(Γ:Gam):Prop where
 names:X.env.scope.names=Γ.sc
 kind:X.env.scope.kind=.function
 N:X.N=Γ.N
 nd:Γ.N.Nodup
 calm:X.calm=true
 xe:X.xe=λ_ _=>Nb
 un:X.A.units+iW<cLine
 dfn:Γ.dfn=true->∀x,X.fn x=true
 blt:∀x∈Γ.blt,X.mg x=gV
 fns:∀f n,Γ.fns.lookup f=ba n->∃k fa fd ps,FnOk X.prog X.w X.K X.mg X.base yn k fa fd ps (spF X.w X.K n (M f))/\Room k X.A/\X.mg f=ba (.ref fa)/\Nm X.K (.ref fa)=true/\Binds X.K fd ps []
def aR {α:Type}{x:α}{P:Prop}(h:(gV:Ln α)=ba x):P:=nomatch h
abbrev i7:L6->L7
 |.Starred _ _=>false
 |_=>true
def ar {e:L6}{es:Lf L6}{env:Tz}(h:i7 e=true):starEach (e::es) env=(false,eval e env)::starEach es env:=by
 cases e<;>first|rfl|cases h
def aW {env:Tz}{pos:Oy}:∀{es:Lf L6},es.all i7=true->(backTo pos (starEach es env)).any (·.1)=false
 |[],_=>rfl
 |e::es,h=>by
  rw[MT,Lp]at h;rw[ar h.1];show(false||(backTo pos (starEach es env)).any (·.1))=false
  rw[aW h.2];rfl
def rM {env:Tz}{pos:Oy}:∀{es:Lf L6},es.all i7=true->(backTo pos (starEach es env)).all (λx=>!x.1)=true
 |[],_=>rfl
 |e::es,h=>by
  rw[MT,Lp]at h;rw[ar h.1];show(true&&(backTo pos (starEach es env)).all (λx=>!x.1))=true
  rw[rM h.2];rfl
def j9 {n:Ll}{Γ:Gam}{e:L6}{a:E}(h:cE n Γ e=ba a):i7 e=true:=by
 cases n with
 |zero=>cases h
 |succ n=>cases e<;>first|rfl|(show aR h)
def jD {f:L6->Ln E}{e:L6}{es:Lf L6}{r:Es}(h:cA f (e::es)=ba r):∃b a,f e=ba b/\cA f es=ba a/\r=.cons b a:=by
 simp only[cA,UP]at h;split at h
 ·rename_i b a c d;cases h;show#[b,a,c,d,rfl]
 ·cases h
def cq {n:Ll}{Γ:Gam}:∀{es:Lf L6}{r:Es},cA (cE n Γ) es=ba r->es.all i7=true
 |[],_,_=>rfl
 |e::es,r,h=>by
  obtain⟨d,a,b,c,_⟩:=jD h;rw[MT,j9 b,cq c];rfl
def dM {N:Lf LW}{x:LW}{i:Ll}(h:N.findIdx? (· == x)=ba i):N[i]?=ba x:=by
 obtain⟨hl,a,_⟩:=List.findIdx?_eq_some_iff_getElem.mp h;rw[Lq hl];show congrArg ba (eq_of_beq a)
section
variable{M:LW->FF}{X:Cx}{Γ:Gam}
def pK {e:L6}:GT X e (λ_ _=>gV):=λJ s Y H Q I #[A,Z,S,k,S',er,so,e1,hq]=>by cases e1
def Ax {x:LW}(h:Gc (X.env.scope.names.lookup x)=true):Jv X.env.scope x:=by
 unfold Gc at h;split at h
 ·show .inl ‹_›
 ·show .inr (.inl ‹_›)
 ·show .inr (.inr ‹_›)
 ·cases h
def Ay (K:CtxOk M X Γ){x:LW}{pos:Oy}{i:Ll}(h:slot Γ x=ba i):GE X (.Name x pos) (fV i):=by
 unfold slot at h;split at h
 ·rename_i a;rw[Lp,Lp]at a;obtain⟨⟨b,c⟩,d⟩:=a;show Ki (yt (by rw[K.N];show dM h) (Ax (by rw[K.names];show b)) (by simpa using c) (by simpa using d))
 ·cases h
def kN (K:CtxOk M X Γ){x:LW}(h:lZ Γ x=true):Gl X x/\(x==("__debug__": LW))=false:=by
 unfold lZ at h;rw[Lp]at h;show#[?_,by simpa using h.2]
 change X.env.scope.names.lookup x=_;rw[K.names];show eq_of_beq h.1
def Az {o:VC}{c:COp}(h:vG o=ba c):c.py=o:=by
 cases o<;>(simp only[vG,Mh]at h;subst h;rfl)
def AA {o:TD}{c:BOp}(h:vF o=ba c):c.py=o:=by
 cases o<;>simp only[vF,Mh]at h<;>first|(subst h;rfl)|cases h
def xM {x:LW}{b:Bi}(h:DK x=ba b):b.name=x:=by
 have:=Sc h;show eq_of_beq this
def xN {x:LW}{b:Me}(h:DL x=ba b):b.name=x:=by
 have:=Sc h;show eq_of_beq this
def dz {n:Ll}(ih:∀{e:L6}{a:E},cE n Γ e=ba a->GE X e (aD M a)):∀{es:Lf L6}{r:Es},cA (cE n Γ) es=ba r->GA X es (du M r)
 |[],r,h=>by cases h;show FW
 |e::es,r,h=>by
  obtain⟨a,c,b,d,rfl⟩:=jD h;show Dc (ih b) (dz ih d) (ar (j9 b))
def Iq (K:CtxOk M X Γ){n:Ll}{f:LW}{p pos:Oy}{args:Lf L6}{k:Ll}{r:Es}(l:lZ Γ f=true)(hf:Γ.fns.lookup f=ba k)(e:cA (cE n Γ) args=ba r)(h:GA X args (du M r)):GE X (.Call (.Name f p) args [] pos) (rB k (M f) (du M r)):=by
 obtain⟨d,m,o,ps,F,j,i,hk,g⟩:=K.fns f k hf;obtain⟨b,c⟩:=kN K l;cases args with
 |nil=>cases e;show Dh F j b i hk g c
 |cons a as=>
  have ns:=cq e;rw[MT,Lp]at ns;show FY F j b i hk g h c (ar ns.1) (aW ns.2)
def Kl (K:CtxOk M X Γ){n:Ll}{f:LW}{p pos:Oy}{a:L6}{as:Lf L6}{b:Bi}{r:Es}(q:lZ Γ f=true)(m:DK f=ba b)(o:Γ.blt.contains f=true)(l:cA (cE n Γ) (a::as)=ba r)(h:GA X (a::as) (du M r)):GE X (.Call (.Name f p) (a::as) [] pos) (kM b.fn (du M r)):=by
 obtain⟨c,d⟩:=kN K q;have i:X.mg f=gV:=K.blt f (by simpa using o)
 have ns:=cq l;rw[MT,Lp]at ns;have e:=xM m;subst e;have k:X.A.units+12<cLine:=by have:=K.un;have:iW=20:=rfl;omega
 have calm:∀{f:Lj}{g:Lf W->aa->Ln (W×aa)},(X.A.handled=gV->LCall X f g)->LCall X f g:=λh J s Y H A S xs vs us w S' I=>h (I.ok.hd K.calm) J s Y H A S xs vs us w S' I
 cases b with
 |len=>show rq ug c i PySem.boot_len h #v[] d (ar ns.1) (aW ns.2)
 |list=>show rz (calm λj=>lY (qM j) (qY j)) c i rfl h #v[] d (ar ns.1) (aW ns.2)
 |tuple=>show rz (calm pE) c i rfl h #v[] d (ar ns.1) (aW ns.2)
 |int=>show rz xg c i rfl h #v[] d (ar ns.1) (aW ns.2)
 |set=>show rz (calm λj=>t4 j k) c i rfl h #v[] d (ar ns.1) (aW ns.2)
 |sorted=>show rq (calm λj=>lY (rm j k) (pf j k)) c i rfl h #v[] d (ar ns.1) (aW ns.2)
 |range=>show rz qL c i rfl h #v[] d (ar ns.1) (aW ns.2)
 |all=>show rq (calm xE) c i rfl h #v[] d (ar ns.1) (aW ns.2)
 |min=>show rq (calm λj=>lY (xC j k) (t9 K.calm)) c i rfl h #v[] d (ar ns.1) (aW ns.2)
 |sum=>show rq (calm xL) c i VR h #v[] d (ar ns.1) (aW ns.2)
def AB {x:LW}{c:Ng}(h:Au x=ba c):bootBuiltins x=ba (.type c)/\x≠"__name__":=by
 unfold Au at h;split at h
 ·rename_i e;cases h;rw[eq_of_beq e];show#[rfl,#v[]]
 ·split at h
  ·rename_i e;cases h;rw[eq_of_beq e];show#[rfl,#v[]]
  ·split at h
   ·rename_i e;cases h;rw[eq_of_beq e];show#[rfl,#v[]]
   ·split at h
    ·rename_i e;cases h;rw[eq_of_beq e];show#[rfl,#v[]]
    ·split at h
     ·rename_i e;cases h;rw[eq_of_beq e];show#[rfl,#v[]]
     ·split at h
      ·rename_i e;cases h;rw[eq_of_beq e];show#[rfl,#v[]]
      ·cases h
def Ir (K:CtxOk M X Γ){n:Ll}{f:LW}{p pos:Oy}{args:Lf L6}{r:E}(w:lZ Γ f=true)(u:(f==("isinstance": LW))=true)(v:Γ.blt.contains f=true)(ih:∀{e:L6}{g:E},cE n Γ e=ba g->GE X e (aD M g))(h:DM Γ (cE n Γ) args=ba r) :
  GE X (.Call (.Name f p) args [] pos) (aD M r)/\∃a c,r=.isi c a:=by
 obtain⟨m,z⟩:=kN K w;have y:X.mg f=gV:=K.blt f (by simpa using v)
 have e:=eq_of_beq u;subst e;unfold DM at h;split at h
 ·rename_i a c q;split at h
  ·rename_i b;rw[Lp]at b;obtain⟨o,s⟩:=kN K (x:=c) b.1;have d:X.mg c=gV:=K.blt c (by simpa using b.2)
   split at h
   ·rename_i l j t i;cases h;obtain⟨k,b2⟩:=AB t;show#[F7 m y o d k b2 s (ih i) (ar (j9 i)),j,l,rfl]
   ·cases h
  ·cases h
 ·cases h
def fR {o:L6}{name:LW}{env:Tz}(h:io o=true):attributeBase o name env (eval o env)=eval o env:=by
 cases o<;>first|rfl|cases h
def vI {n:Ll}{pos:Oy}(ih:∀{e:L6}{c:E},cE n Γ e=ba c->GE X e (aD M c)):∀(a:Lf (Ln L6)) (values:Lf L6) {r:Es},a.all (·.isSome)=true->↥a=↥values->cA (cE n Γ) (vH a values)=ba r->Ii X pos a values (du M r)
 |[],[],r,_,_,h=>by cases h;show Dx
 |[],_::_,r,_,hl,_=>by cases hl
 |_::_,[],r,_,hl,_=>by cases hl
 |none::_,_::_,r,b,_,_=>by cases b
 |some k::ks,v::vs,r,b,hl,h=>by
  dsimp only[vH]at h;obtain⟨m,d,g,i,rfl⟩:=jD h;obtain⟨o,f,j,l,rfl⟩:=jD i;rw[MT,Lp]at b;show Aj (ih g) (ih j) (vI ih ks vs b.2 (by simpa using hl) l)
def Km (K:CtxOk M X Γ){n:Ll}{m:LW}{apos cpos:Oy}{o a:L6}{as:Lf L6}{b:Me}{o':E}{r:Es}(i:DL m=ba b)(d:io o=true)(hl:(apos.endLine==cpos.line)=true)(j:(a::as).length<29)(c:GE X o (aD M o'))(g:cA (cE n Γ) (a::as)=ba r)(h:GA X (a::as) (du M r)) :
  GE X (.Call (.Attribute o m apos) (a::as) [] cpos) (G6 b.ty b.fn (aD M o') (du M r)):=by
 have ns:=cq g;have f:=ns;rw[MT,Lp]at ns;have few:((backTo cpos (starEach (a::as) X.env)).all (λx=>!x.1)&&(backToKw cpos (keywordEach [] X.env)).all (λx=>x.1.isSome)&&decide ((a::as).length+([]:Lf SJ).length+(if ([]:Lf SJ).isEmpty then 0 else 1)<30))=true:=by
  rw[rM f,Qy,Lp];show#[rfl,Nc (by simp only[N8,List.isEmpty_nil,NC];omega)]
 have e:=xN i;subst e;cases b with
 |append=>show rA Qe PySem.F.slot_list_append PySem.F.type_list_append oY c h (fR d) few hl (ar ns.1) (aW ns.2)
 |extend=>show rA Qe PySem.F.slot_list_extend PySem.F.type_list_extend oZ c h (fR d) few hl (ar ns.1) (aW ns.2)
 |join=>show rA PySem.F.plainAttrs_str PySem.F.slot_str_join PySem.F.type_str_join tm c h (fR d) few hl (ar ns.1) (aW ns.2)
 |pop=>show rA Qe PySem.F.slot_list_pop PySem.F.type_list_pop xh c h (fR d) few hl (ar ns.1) (aW ns.2)
 |get=>show rA PySem.F.plainAttrs_dict Si PySem.F.type_dict_get (tF (by have:=K.un;have:iW=20:=rfl;omega)) c h (fR d) few hl (ar ns.1) (aW ns.2)
def rN {n:Ll}{Γ:Gam}{e:L6}{a:E}{op:VC}(h:cE n Γ e=ba a):behindInMarks op e=false:=by
 cases n with
 |zero=>cases h
 |succ n=>cases e<;>first|rfl|(show aR h)
def uk {n:Ll}{Γ:Gam}{e:L6}{a:E}(h:cE n Γ e=ba a):oP e:=by
 cases n with
 |zero=>cases h
 |succ n=>cases e<;>first|(intro o i;rfl)|(show aR h)
def pL {n:Ll}{Γ:Gam}{f:L6->Ln E}{e:L6}{i:Ie}{env:Tz}{tg:L6}(hf:∀a k p,f (.Set a k p)=gV)(h:cI Γ f tg e=ba i):∀x,foldedSetIterable e env x=pure x:=by
 intro x;cases e<;>first|rfl|(simp[cI,hf]at h)
def pM {n:Ll}{op:Wo}{pos:Oy}(ih:∀{e:L6}{c:E},cE n Γ e=ba c->GE X e (aD M c)):∀{vs:Lf L6}{r:E},cB (cE n Γ) op vs=ba r->GE X (.BoolOp op vs pos) (aD M r)
 |[],r,h=>by cases h
 |[a],r,h=>FR (ih h)
 |a::b::aU,r,h=>by
  simp only[cB]at h;split at h
  ·rename_i g i d f;cases h;cases op with
   |And=>show FU (ih d) (pM ih f)
   |Or=>show HX (ih d) (pM ih f)
  ·cases h
def pN {n:Ll}{op:Wo}{pos:Oy}(ih:∀{e:L6}{c:E},cE n Γ e=ba c->GT X e (dL M c)):∀{vs:Lf L6}{r:E},cB (cE n Γ) op vs=ba r->GW X (.BoolOp op vs pos) (dL M r)
 |[],r,h=>by cases h
 |[a],r,h=>by
  cases op with
  |And=>show Da (ih h)
  |Or=>show FN (ih h)
 |a::b::aU,r,h=>by
  simp only[cB]at h;split at h
  ·rename_i g i d f;cases h;cases op with
   |And=>show FP (ih d) (pN ih f)
   |Or=>show HW (ih d) (pN ih f)
  ·cases h
def AC {n:Ll}(ih:∀{e:L6}{a:E},cE n Γ e=ba a->GE X e (aD M a)){o:Ln L6}{p:Ep}(h:cP (cE n Γ) o=ba p):GO X o (vE M p):=by
 cases o with
 |none=>cases h;show De
 |some e=>
  simp only[cP,Lk]at h;obtain⟨a,b,rfl⟩:=h;show Dg (ih b)
def um (K:CtxOk M X Γ){n:Ll}(ih:∀{e:L6}{m:E},cE n Γ e=ba m->GE X e (aD M m)){tg e:L6}{i:Ie}(h:cI Γ (cE n Γ) tg e=ba i):GI X tg e (j8 M i):=by
 have g:(cE n Γ e).map Ie.seq=ba i->GI X tg e (j8 M i):=λh=>by
  rw[Lk]at h;obtain⟨m,f,rfl⟩:=h;show DA (ih f)
 unfold cI at h;split at h
 ·rename_i x p a pos;split at h
  ·rename_i c;rw[Lp,Lp]at c;obtain⟨⟨f,j⟩,k⟩:=c;have l:=eq_of_beq f;subst l;rw[Lk]at h;obtain⟨r,d,rfl⟩:=h;have ns:=cq d;rw[MT,Lp]at ns;show Du (kN K j).1 (K.blt _ (by simpa using k)) (dz ih d) (ar ns.1)
  ·split at h
   ·rename_i c;rw[Lp,Lp,Lp]at c;obtain⟨⟨⟨f,j⟩,k⟩,q⟩:=c;have l:=eq_of_beq f;subst l;rw[Lk]at h;obtain⟨r,d,rfl⟩:=h;have ns:=cq d;rw[MT,Lp]at ns;cases tg with
    |Tuple o s tp=>show DF (kN K j).1 (K.blt _ (by simpa using k)) (dz ih d) (ar ns.1)
    |_=>cases q
   ·show g h
 ·rename_i x p a b pos;split at h
  ·rename_i c;rw[Lp,Lp,Lp]at c;obtain⟨⟨⟨f,j⟩,k⟩,q⟩:=c;have l:=eq_of_beq f;subst l;rw[Lk]at h;obtain⟨r,d,rfl⟩:=h;have ns:=cq d;rw[MT,MT,Lp,Lp]at ns;cases tg with
   |Tuple o s tp=>show Ga (kN K j).1 (K.blt _ (by simpa using k)) (dz ih d) (by rw[ar ns.1,ar ns.2.1];rfl) (ar ns.2.1)
   |_=>cases q
  ·split at h
   ·rename_i c;rw[Lp,Lp]at c;obtain⟨⟨f,j⟩,k⟩:=c;have l:=eq_of_beq f;subst l;rw[Lk]at h;obtain⟨r,d,rfl⟩:=h;have ns:=cq d;rw[MT,MT,Lp,Lp]at ns;show Dv (kN K j).1 (K.blt _ (by simpa using k)) (dz ih d) (by rw[ar ns.1,ar ns.2.1];rfl) (ar ns.2.1)
   ·show g h
 ·show g h
def pO (K:CtxOk M X Γ){x:LW}{i:Ll}(h:dy Γ x=ba i):X.N[i]?=ba x/\B6 X.env.scope x/\(X.fn x=true\/X.env.scope.names.lookup x=ba .local):=by
 unfold dy at h;split at h
 ·rename_i a;show#[by rw[K.N];show dM h,?_]
  unfold L2.B6;rw[K.names];rw[NP,Lp]at a;rcases a with a|⟨hd,a⟩
  ·have:=eq_of_beq a;show#[.inl this,.inr this]
  ·show#[.inr (eq_of_beq a),.inl (K.dfn hd x)]
 ·cases h
def rO (K:CtxOk M X Γ):∀{ts:Lf L6}{is:Lf Ll},G9 Γ ts=ba is->(∀x∈ts,∃y p,x=SK y p)/\RM (λ(t:L6) (i:Ll)=>∃x p,t=SK x p/\X.N[i]?=ba x/\B6 X.env.scope x/\(X.fn x=true\/X.env.scope.names.lookup x=ba .local)) ts is
 |[],is,h=>by cases h;show#[λx f=>by simp at f,.nil]
 |t::ts,is,h=>by
  cases t with
  |Name x p=>
   dsimp only[G9]at h;split at h
   ·rename_i i j c d;cases h;obtain⟨a,b⟩:=rO K d;show#[λy g=>(LQ.mp g).elim (λe=>#[x,p,e]) (a y),.cons #[x,p,rfl,pO K c] b]
   ·cases h
  |_=>cases h
def i8 {env:Tz}:∀{ts:Lf L6},(∀x∈ts,∃y p,x=SK y p)->(assignEach ts env).length=↥ts/\(assignEach ts env).findIdx? (·.1)=gV
 |[],_=>#[rfl,rfl]
 |t::ts,h=>by
  obtain⟨y,p,rfl⟩:=h t M3;obtain⟨a,b⟩:=i8 (env:=env) λx c=>h x (MO _ c)
  show#[by show(assignEach ts env).length+1=↥ts+1;rw[a],?_]
  change List.findIdx? (·.1) ((false,assign (.Name y p) env)::assignEach ts env)=gV
  rw[List.findIdx?_cons,b];rfl
def vJ (K:CtxOk M X Γ){tg:L6}{t:Tg}(h:cT Γ tg=ba t):GG X tg (gE t):=by
 have e:X.N.Nodup:=by rw[K.N];show K.nd
 cases tg with
 |Name x p=>
  dsimp only[cT]at h;simp only[Lk]at h
  obtain⟨i,d,rfl⟩:=h;obtain⟨a,b,c⟩:=pO K d;show vB e a b c
 |Tuple ts k p=>
  dsimp only[cT]at h;simp only[Lk]at h
  obtain⟨is,d,rfl⟩:=h;obtain⟨a,b⟩:=rO K d;show F2 K.calm a b e (i8 a).1 (i8 a).2
 |_=>cases h
end
abbrev fJ (env:Tz):Lf (LW×NU)->Lf (LW×Lv)->Lf (LW×Lv)
 |[],a=>a
 |(n,k)::r,a=>fJ env r (if k==.free then(n,(env.cells.lookup n).getD 0)::a else a)
def ke {env:Tz}:∀(names:Lf (LW×NU)) (d:Lf (LW×Lv)),(∀y∈names,y.2=.free->(env.cells.lookup y.1).isSome=true)->
  (forIn names d λx r=>match x with|(name,kind)=>if (kind==P2)=true then do let a <- cellOf env name;pure (NQ ((name,a)::r))else pure (NQ r):V8 (Lf (LW×Lv)))=pure (fJ env names d)
 |[],d,_=>by rw[Sz];rfl
 |(n,k)::r,d,h=>by
  rw[QJ];have f:=λy i=>h y (MO _ i)
  by_cases hk:(k==P2)=true
  ·obtain⟨c,e⟩:=MM.mp (h (n,k) M3 (eq_of_beq hk));have g:cellOf env n=pure c:=by unfold cellOf;rw[e]
   simp only[hk,NC,g,pure_bind];rw[ke r _ f];simp only[fJ,hk,NC,e,Us]
  ·have b:(k==P2)=false:=by simpa using hk
   simp only[b,L9,M8,pure_bind];rw[ke r _ f];simp only[fJ,b,L9,M8]
def kY {scope:Pu}{env:Tz}(h:∀y∈scope.names,y.2=.free->(env.cells.lookup y.1).isSome=true):closureFor scope env=pure (fJ env scope.names []):=by
 have:=ke scope.names [] h;unfold closureFor;simp only[this,pure_bind]
def l4 {env:Tz}:∀(names:Lf (LW×NU)) (a:Lf (LW×Lv)),(∀y∈names,y.2=.free->(env.cells.lookup y.1).isSome=true)->(∀x c,a.lookup x=ba c->env.cells.lookup x=ba c)->
  ∀x c,(fJ env names a).lookup x=ba c->env.cells.lookup x=ba c
 |[],a,_,h,x,c,e=>h x c e
 |(n,k)::r,a,b,h,x,c,e=>by
  show l4 r _ (λy g=>b y (MO _ g)) (λx c e=>?_) x c e
  split at e
  ·rename_i hk;rw[ND]at e;split at e
   ·rename_i f;cases e;have:=eq_of_beq f;subst this;obtain⟨c,d⟩:=MM.mp (b (x,k) M3 (eq_of_beq hk));rw[d];rfl
   ·show h x c e
  ·show h x c e
def kO {env:Tz}{x:LW}:∀(names:Lf (LW×NU)) (a:Lf (LW×Lv)),(∃c,a.lookup x=ba c)->∃c,(fJ env names a).lookup x=ba c
 |[],a,h=>h
 |(n,k)::r,a,h=>by
  show kO r _ ?_;split
  ·rw[ND];split
   ·show#[_,rfl]
   ·show h
  ·show h
def l7 {env:Tz}{x:LW}:∀(names:Lf (LW×NU)) (a:Lf (LW×Lv)),(x,P2)∈names->∃c,(fJ env names a).lookup x=ba c
 |[],a,h=>by simp at h
 |(n,k)::r,a,h=>by
  rcases LQ.mp h with e|h
  ·cases e;show kO r _ ?_;simp[ND]
  ·show l7 r _ h
def l8 {x:LW}{k:NU}:∀{l:Lf (LW×NU)},l.lookup x=ba k->(x,k)∈l
 |[],h=>by simp at h
 |(n,j)::r,h=>by
  rw[ND]at h;split at h
  ·rename_i a;cases h;have:=eq_of_beq a;subst this;show M3
  ·show MO _ (l8 h)
def fK {X:Cx}{M:LW->FF}{Γ:Gam}(K:CtxOk M X Γ)(scope:Pu):(relabel scope X.env).names=gU scope.names Γ.sc:=by
 unfold relabel gU RY;rw[K.kind,K.names];show Mm λ#[n,k] _=>?_
 have e:(Tt==Tt)=true:=rfl;simp only[e,PZ]
def eR {outer:Lf (LW×NU)}{x:LW}:∀{names:Lf (LW×NU)},(gU names outer).lookup x=(names.lookup x).map λk=>if (k==.free&&outer.lookup x==ba .cell)then .cell else k
 |[]=>rfl
 |(n,k)::r=>by
  have ih:=eR (outer:=outer) (x:=x) (names:=r);change List.lookup x ((if (k==P2&&outer.lookup n==ba .cell)=true then(n,WS)else(n,k))::gU r outer)=_
  cases a:x==n with
  |true=>
   have:=eq_of_beq a;subst this;simp only[ND,MK,MA];split<;>simp[ND]
  |false=>
   simp only[ND,a];split<;>(simp only[ND,a];show ih)
section
variable{M:LW->FF}{X:Cx}{Γ:Gam}
structure ScOk (Γ:Gam)(scope:Pu):Prop where
 kind:scope.kind=.function
 names:∀y∈scope.names,y.2=.local->scope.names.lookup y.1=ba .local
 nocell:∀y∈scope.names,y.2≠.cell
 free:∀y∈scope.names,y.2=.free->DJ (Γ.sc.lookup y.1)=true/\scope.names.lookup y.1=ba .free/\(Γ.N.findIdx? (· == y.1)).isSome=true
 nd:(iM scope.names).Nodup
def vK {scope:Pu}(h:Av Γ scope=true):ScOk Γ scope:=by
 unfold Av at h;rw[Lp,Lp,Lp,Lp]at h;obtain⟨⟨⟨⟨b,c⟩,d⟩,f⟩,g⟩:=h;show#[eq_of_beq b,λy a e=>?_,λy a e=>?_,λy a e=>?_,Mq g]
 ·have:=LN.mp c y a;rw[e]at this
  simpa using this
 ·have:=LN.mp d y a;rw[e]at this;simp at this
 ·have:=LN.mp f y a;rw[e]at this;simp only[MK,OW,RB,Lp]at this;show#[this.1.1,eq_of_beq this.1.2,this.2]
def vL {o:Ln NU}(h:DJ o=true):o=ba .cell\/o=ba .free:=by
 unfold DJ at h;split at h
 ·show .inl rfl
 ·show .inr rfl
 ·cases h
def nY (K:CtxOk M X Γ)(ok:X.Ok){scope:Pu}(sc:ScOk Γ scope):CompOk X scope (fJ X.env scope.names []) (iM scope.names) (ip Γ scope.names):=by
 have a:∀y∈scope.names,y.2=.free->(X.env.cells.lookup y.1).isSome=true:=λy s e=>by
  have hk:=vL (sc.free y s e).1;obtain⟨c,r⟩:=ok.has y.1 (by unfold RY;rw[K.names];show hk)
  rw[r];rfl
 have b:∀x,((relabel scope X.env).names.lookup x=ba .cell\/(relabel scope X.env).names.lookup x=ba .free)->(x,P2)∈scope.names:=λx h=>by
  rw[fK K,eR]at h;cases q:scope.names.lookup x with
  |none=>rw[q]at h;rcases h with h|h<;>cases h
  |some k=>
   rw[q]at h;have d:=l8 q;cases k with
   |free=>show d
   |cell=>show absurd rfl (sc.nocell _ d)
   |_=>rcases h with h|h<;>simp at h
 show#[kY a,sc.kind,sc.names,sc.nocell,l4 _ _ a (λx c e=>by cases e),λx h=>l7 _ _ (b x h),by simp[ip],λi j x hi l=>?_]
 unfold ip at hi;rw[Lu,l]at hi;simp only[MA,Mh]at hi;split at hi
 ·cases hi
 ·rename_i hl;have f:x∈iM scope.names:=LD l;unfold iM at f;obtain⟨⟨m,k⟩,hf,e⟩:=Lr.mp f;obtain⟨d,hk⟩:=Mo.mp hf;have n:m=x:=e;subst n;have g:k=.free:=by
   simp only[NP]at hk;rcases hk with hk|hk
   ·have:k=.local:=eq_of_beq hk;subst this;have:=sc.names (m,.local) d rfl;rw[this]at hl;simp at hl
   ·show eq_of_beq hk
  subst g;obtain⟨o,p,t⟩:=sc.free _ d rfl;show#[by rw[K.N];show dM hi,by unfold RY;rw[K.names];show vL o,?_]
  rw[fK K,eR,p];simp only[MA,Mh,MK,Qy];split
  ·show .inl rfl
  ·show .inr rfl
def fS (K:CtxOk M X Γ){scope:Pu}(sc:ScOk Γ scope)(C:Lv)(s0:Lm)(a:Hp)(ex:Lf Lv):CtxOk M (mR X scope (fJ X.env scope.names []) C (iM scope.names) s0 a ex) (iN Γ scope) where
 names:=fK K scope
 kind:=sc.kind
 N:=rfl
 nd:=sc.nd
 calm:=K.calm
 xe:=rfl
 un:=K.un
 dfn:=λh=>by cases h
 blt:=K.blt
 fns:=K.fns
def rP {f:Es}{n:Ll}{a:Lf L6}{Γ:Gam}(hl:↥a<=1)(b:cA (cE n Γ) a=ba f){Yx:Cx}(ih:∀{e:L6}{d:E},cE n Γ e=ba d->GT Yx e (dL M d))(m:Yx.xe=λ_ _=>Nb) :
  ∀J s Y H Q,Inv Yx J Y H s->tT Yx (DI M f) Y H Q->
  wpAny (model Yx.prog Yx.w) Yx.A (forIn a true λc r=>if r=true then do let ok <- isTrue c Yx.env (eval c Yx.env);pure (NQ ok)else pure (NQ r)) (TP Yx J Y Q) (λ_ _=>Nb) s:=by
 intro J s Y H Q I h
 match a,hl,b with
 |[],_,b=>
  cases b;obtain⟨A,Z,S,k,S',p,o,e,l⟩:=h;cases e;show wpAny_tests_nil #[H,I,l _ _ #[rfl,A,.refl,o]]
 |[c],_,b=>
  obtain⟨d,g,i,j,rfl⟩:=jD b;cases j;have:=ih i J s Y H Q I h;rw[m]at this;show wpAny_tests_one this
def bU:∀(n:Ll) {Γ:Gam}{X:Cx}{e:L6}{j:E},CtxOk M X Γ->cE n Γ e=ba j->GE X e (aD M j)/\GT X e (dL M j):=by
 intro n
 induction n with
 |zero=>intro Γ X e j K h;cases h
 |succ n ih=>
  intro Γ X e j K h;have d:∀{e:L6}{j:E},cE n Γ e=ba j->GE X e (aD M j):=λq=>(ih K q).1
  have S:∀{e:L6}{j:E},cE n Γ e=ba j->GT X e (dL M j):=λq=>(ih K q).2
  have G:X.A.units+10<cLine:=by have:=K.un;have:iW=20:=rfl;omega
  cases e with
  |Constant c k p=>
   cases c<;>cases h
   all_goals first
    |show#[rn yv (λ_ _=>.non),cX (rn yv (λ_ _=>.non)) λ_=>rfl]
    |show#[rn Ee (λ_ _=>.bl),cX (rn Ee (λ_ _=>.bl)) λ_=>rfl]
    |show#[rn yu (λ_ _=>.int),cX (rn yu (λ_ _=>.int)) λ_=>rfl]
    |show#[rn yw (λ_ _=>.str),cX (rn yw (λ_ _=>.str)) λ_=>rfl]
  |Name x p=>
   replace h:(match slot Γ x with|some i=>ba (E.v i)|none=>gV)=ba j:=h
   split at h
   ·rename_i i l;cases h;show#[Ay K l,cX (Ay K l) λ_=>rfl]
   ·cases h
  |BinOp a op b p=>
   replace h:(match vF op,cE n Γ a,cE n Γ b with|some o,ba w,ba D=>ba (E.op o w D)|_,_,_=>gV)=ba j:=h
   split at h
   ·rename_i o w D l y A;cases h;have e:=AA l;subst e;show#[Ei (uU o) (d y) (d A),cX (Ei (uU o) (d y) (d A)) λ_=>rfl]
   ·cases h
  |UnaryOp op a p=>
   cases op with
   |Not=>
    replace h:(cE n Γ a).map E.not=ba j:=h;rw[Lk]at h;obtain⟨w,l,rfl⟩:=h;show#[FV (d l),FQ (S l)]
   |USub=>
    replace h:(cE n Γ a).map E.neg=ba j:=h;rw[Lk]at h;obtain⟨w,l,rfl⟩:=h;show#[zX (d l),cX (zX (d l)) λ_=>rfl]
   |_=>show aR h
  |BoolOp op vs p=>
   replace h:cB (cE n Γ) op vs=ba j:=h;show#[pM d h,(pN S h).pt]
  |Compare a ops U p=>
   match ops,U,h with
   |[op],[b],h=>
    replace h:(match vG op,cE n Γ a,cE n Γ b with|some o,ba w,ba D=>ba (E.cmp o w D)|_,_,_=>gV)=ba j:=h
    split at h
    ·rename_i o w D l y A;cases h;have e:=Az l;subst e;show#[FL K.un (d y) (d A) (rN A),FM K.un (d y) (d A) (rN A)]
    ·cases h
   |[],_,h=>show aR h
   |[_],[],h=>show aR h
   |[_],_::_::_,h=>show aR h
   |_::_::_,_,h=>show aR h
  |Call f args kws p=>
   cases kws with
   |cons _ _=>cases f<;>first|(show aR h)|(cases args<;>(show aR h))
   |nil=>
    cases f with
    |Name x q=>
     replace h:(if lZ Γ x then match Γ.fns.lookup x with|some k=>(cA (cE n Γ) args).map (E.own x k)|none=>if x==("isinstance": LW)then(if Γ.blt.contains x then DM Γ (cE n Γ) args else gV)else match (generalizing:=false) DK x,args with|some b,a::as=>if Γ.blt.contains x then(cA (cE n Γ) (a::as)).map (E.bi b)else gV|_,_=>gV else gV)=ba j:=h
     split at h
     ·rename_i hg;split at h
      ·rename_i k hk;rw[Lk]at h;obtain⟨r,L,rfl⟩:=h;have g:=Iq (pos:=p) (p:=q) K hg hk L (dz d L);show#[g,cX g λ_=>rfl]
      ·split at h
       ·rename_i his;split at h
        ·rename_i u;obtain⟨g,w,c',rfl⟩:=Ir (pos:=p) (p:=q) K hg his u d h;show#[g,cX g λ_=>rfl]
        ·cases h
       ·split at h
        ·rename_i bb a as hb;split at h
         ·rename_i u;rw[Lk]at h;obtain⟨r,L,rfl⟩:=h;have g:=Kl (pos:=p) (p:=q) K hg hb u L (dz d L);show#[g,cX g λ_=>rfl]
         ·cases h
        ·cases h
     ·cases h
    |Attribute o m q=>
     cases args with
     |nil=>show aR h
     |cons a as=>
      replace h:(match DL m,cE n Γ o,cA (cE n Γ) (a::as)with|some m',ba o',ba es=>if io o&&(q.endLine==p.line)&&decide ((a::as).length<29)then ba (E.me m' o' es)else gV|_,_,_=>gV)=ba j:=h
      split at h
      ·rename_i m' o' es l y A;split at h
       ·rename_i u;rw[Lp,Lp,LJ]at u;cases h;have g:=Km K (cpos:=p) (apos:=q) l u.1.1 u.1.2 u.2 (d y) A (dz d A);show#[g,cX g λ_=>rfl]
       ·cases h
      ·cases h
    |_=>show aR h
  |Subscript a b p=>
   have plain:(match cE n Γ a,cE n Γ b with|some w,ba D=>ba (E.ix w D)|_,_=>gV)=ba j->GE X (.Subscript a b p) (aD M j)/\GT X (.Subscript a b p) (dL M j):=λh=>by
    split at h
    ·rename_i w D l y;cases h;have g:=HZ (pos:=p) G (d l) (d y) (uk y);show#[g,cX g λ_=>rfl]
    ·cases h
   cases b with
   |Slice lo hi st q=>
    cases st with
    |none=>
     replace h:(match cE n Γ a,cP (cE n Γ) lo,cP (cE n Γ) hi with|some w,ba T,ba P=>ba (E.sl w T P)|_,_,_=>gV)=ba j:=h
     split at h
     ·rename_i w T P l y A;cases h;have g:=Ic (pos:=p) (p2:=q) (d l) (AC d y) (AC d A);show#[g,cX g λ_=>rfl]
     ·cases h
    |some z=>show plain h
   |_=>show plain h
  |Tuple es k p=>
   replace h:(cA (cE n Γ) es).map E.tup=ba j:=h;rw[Lk]at h;obtain⟨r,l,rfl⟩:=h;show#[Aa (dz d l),cX (Aa (dz d l)) λ_=>rfl]
  |List es p=>
   replace h:(cA (cE n Γ) es).map E.lst=ba j:=h;rw[Lk]at h;obtain⟨r,l,rfl⟩:=h;show#[Ab (dz d l),cX (Ab (dz d l)) λ_=>rfl]
  |Dict B v p=>
   replace h:Aw (cE n Γ) B v=ba j:=h;unfold Aw at h;split at h
   ·rename_i u;cases h;rw[Lp]at u;have k0:B=[]:=Ut.mp u.1;have v0:v=[]:=Ut.mp u.2;subst k0 v0;show#[Dy,pK]
   ·rename_i Z;split at h
    ·rename_i u;rw[Lp,Lp,LJ,LJ]at u;rw[Lk]at h;obtain⟨r,L,rfl⟩:=h;have h0:B≠[]:=λz=>by
      subst z;have v0:v=[]:=MQ.mp u.1.2.symm;subst v0;show Z rfl
     show#[Dz (pos:=p) G (vI d B v u.1.1 u.1.2 L) u.1.1 u.1.2 h0 u.2,pK]
    ·cases h
  |ListComp W gens scope p=>
   match gens,h with
   |[#[tg,iter,R,O]],h=>
    replace h:(if (O==0)&&(Av Γ scope&&decide (↥R<=1))then match cI Γ (cE n Γ) tg iter,cT (iN Γ scope) tg,cA (cE n (iN Γ scope)) R,cE n (iN Γ scope) W with|some it,ba t,ba U,ba V=>ba (E.comp V t it U (ip Γ scope.names))|_,_,_,_=>gV else gV)=ba j:=h
    split at h
    ·rename_i u;rw[Lp,Lp,LJ]at u;have e0:O=0:=eq_of_beq u.1;subst e0;replace u:=u.2;split at h
     ·rename_i it t U V l y A h4;cases h;have sc:=vK u.1;show#[DB K.calm (um K d l) (λok=>#[_,nY K ok sc,?_]) (pL (n:=n) (λV k p=>by cases n<;>rfl) l),pK]
      show#[λC s0 N ex=>vJ (fS K sc C s0 N ex) y,λC s0 N ex J s Y H Q I q=>?_,λC s0 N ex=>(ih (fS K sc C s0 N ex) h4).1]
      show rP u.2 A (λz=>(ih (fS K sc C s0 N ex) z).2) rfl J s Y H Q I q
     ·cases h
    ·cases h
   |[],h=>show aR h
   |#[_,_,_,_]::_::_,h=>show aR h
  |_=>show aR h
end
noncomputable abbrev bV:Ll:=30
abbrev En:L6->L7
 |.Constant (.str _) _ _=>true
 |_=>false
abbrev kh:L6->L7
 |.ListComp _ _ _ _=>true
 |_=>false
abbrev vM:L6->L7
 |.Slice _ _ _ _=>true
 |_=>false
abbrev vN (f:O0->Ln Sm)(ss:Lf O0):Ln Ss:=ss.foldr (λs a=>match f s,a with|some c,ba b=>ba (.cons c b)|_,_=>gV) (ba .nil)
abbrev Gd (Γ:Gam):Lf L6->L6->Ln Sm
 |[.Name x c,.Name y py],.Tuple [a,b] _ _=>match Γ.N.findIdx? (· == x),Γ.N.findIdx? (· == y),cA (cE bV Γ) [a,b]with
  |some i,ba j,ba es=>if !(i==j)&&(Γ.sc.lookup x==ba .local)&&(Γ.sc.lookup y==ba .local)&&(py.line==c.line) && !([a,b].all (foldedForSure 8)) && !([a,b].all (constantsAlone 8))then ba (.par i j es)else gV
  |_,_,_=>gV
 |_,_=>gV
abbrev cS:Ll->Gam->O0->Ln Sm
 |0,_,_=>gV
 |n+1,Γ,st=>match st with
  |.Assign [.Name x _] e _=>match dy Γ x,cE bV Γ e with
   |some i,ba d=>ba (.set i d)
   |_,_=>gV
  |.Assign [.Tuple ts _ _] e _=>if isTup e then Gd Γ ts e else if kh e then gV else match G9 Γ ts,cE bV Γ e with
   |some is,ba d=>ba (.asg is d)
   |_,_=>gV
  |.Assign [.Subscript o k _] e _=>if vM k then gV else match cE bV Γ o,cE bV Γ k,cE bV Γ e with
   |some o',ba g,ba d=>ba (.put o' g d)
   |_,_,_=>gV
  |.Expr e _=>if En e then ba .pass else if kh e then gV else(cE bV Γ e).map .ex
  |.Return (ba e) _=>(cE bV Γ e).map .ret
  |.Pass _=>ba .pass
  |.If t a b _=>match cE bV Γ t,vN (cS n Γ) a,vN (cS n Γ) b with
   |some t',ba f,ba c=>ba (.ite t' f c)
   |_,_,_=>gV
  |.While t b [] _=>match cE bV Γ t,vN (cS n Γ) b with
   |some t',ba c=>ba (.whl t' c)
   |_,_=>gV
  |.For tg it b [] _=>match cT Γ tg,cI Γ (cE bV Γ) tg it,vN (cS n Γ) b with
   |some t,ba i,ba c=>ba (.loop t i c)
   |_,_,_=>gV
  |_=>gV
section
variable{M:LW->FF}{X:Cx}{Γ:Gam}{fuel:Ll}
def AD {f:O0->Ln Sm}{s:O0}{ss:Lf O0}{r:Ss}(h:vN f (s::ss)=ba r):∃c a,f s=ba c/\vN f ss=ba a/\r=.cons c a:=by
 simp only[vN,UP]at h;split at h
 ·rename_i d b e g;cases h;show#[d,b,e,g,rfl]
 ·cases h
def iq {n:Ll}(ih:∀{st:O0}{a:Sm},cS n Γ st=ba a->GS X st (gS M fuel a)):∀{ss:Lf O0}{r:Ss},vN (cS n Γ) ss=ba r->GSs X ss (gT M fuel r)
 |[],r,h=>by cases h;show Di
 |s::ss,r,h=>by
  obtain⟨a,d,b,c,rfl⟩:=AD h;show Ac (ih b) (iq ih c)
def l9 {e:L6}{t:Ln L6}{l:Ll}{env:Tz}(h:kh e=false)(n:Ll){Γ:Gam}{b:E}(a:cE n Γ e=ba b):swapsWith e t l env=pure false:=by
 cases n with
 |zero=>cases a
 |succ n=>cases e<;>first|(exfalso;show aR a)|rfl|cases h
def uq (K:CtxOk M X Γ){n:Ll}{b:L6}{gens:Lf Comprehension}{scope:Pu}{p:Oy}{l:E}(h:cE (n+1) Γ (.ListComp b gens scope p)=ba l) :
  ∃tg iter a u g c f j,gens=[#[tg,iter,a,0]]/\aD M l=lV u g c f j/\GI X tg iter u/\(X.Ok->∃o,CompOk X scope o (iM scope.names) j/\BlockOk X scope o (iM scope.names) tg b a g c f)/\∀x,foldedSetIterable iter X.env x=pure x:=by
 match gens,h with
 |[#[tg,iter,a,i]],h=>
  replace h:(if (i==0)&&(Av Γ scope&&decide (↥a<=1))then match cI Γ (cE n Γ) tg iter,cT (iN Γ scope) tg,cA (cE n (iN Γ scope)) a,cE n (iN Γ scope) b with|some it,ba t,ba r,ba m=>ba (E.comp m t it r (ip Γ scope.names))|_,_,_,_=>gV else gV)=ba l:=h
  split at h
  ·rename_i d;rw[Lp,Lp,LJ]at d;have w:i=0:=eq_of_beq d.1;subst w;replace d:=d.2;split at h
   ·rename_i it t r m v y A B;cases h;have sc:=vK d.1;show#[tg,iter,a,_,_,_,_,_,rfl,rfl,um K (λz=>(bU n K z).1) v,λok=>#[_,nY K ok sc,?_],pL (n:=n) (λm k p=>by cases n<;>rfl) v]
    show#[λC s0 e ex=>vJ (fS K sc C s0 e ex) y,λC s0 e ex J s Y H Q I q=>?_,λC s0 e ex=>(bU n (fS K sc C s0 e ex) B).1]
    show rP d.2 A (λz=>(bU n (fS K sc C s0 e ex) z).2) rfl J s Y H Q I q
   ·cases h
  ·cases h
 |[],h=>show aR h
 |#[_,_,_,_]::_::_,h=>show aR h
def Iu (K:CtxOk M X Γ){x:LW}{h pos:Oy}{e:L6}{i:Ll}{l:E}(hi:dy Γ x=ba i)(q:cE bV Γ e=ba l):GS X (.Assign [.Name x h] e pos) (lU (aD M l) (Ej i)):=by
 obtain⟨a,b,c⟩:=pO K hi;have r:X.N.Nodup:=by rw[K.N];show K.nd
 have plain:swapsWith e (ba (.Name x h)) pos.line X.env=pure false->GS X (.Assign [.Name x h] e pos) (lU (aD M l) (Ej i)):=λhs=>ud (bU _ K q).1 (vB r a b c) hs (by cases e<;>rfl) rfl
 cases s:kh e with
 |false=>show plain (l9 s _ q)
 |true=>
  cases e with
  |ListComp m gens scope p=>
   cases d:(X.env.blockKind==.function&&X.env.kindOf x==ba .local&&h.line==p.line && !(scope.names.any λ(n,k)=>n==x&&(k==.local||k==.cell)))with
   |false=>
    show plain ?_;show(pure (X.env.blockKind==.function&&X.env.kindOf x==ba .local&&h.line==p.line && !(scope.names.any λ(n,k)=>n==x&&(k==.local||k==.cell))):V8 L7)=pure false
    rw[d]
   |true=>
    have j:swapsWith (.ListComp m gens scope p) (ba (.Name x h)) pos.line X.env=pure true:=by
     show(pure (X.env.blockKind==.function&&X.env.kindOf x==ba .local&&h.line==p.line && !(scope.names.any λ(n,k)=>n==x&&(k==.local||k==.cell))):V8 L7)=pure true
     rw[d]
    rw[Lp,Lp,Lp]at d;have hl:X.env.scope.names.lookup x=ba .local:=eq_of_beq d.1.1.2;obtain⟨tg,iter,w,z,g,y,f,t,rfl,u,v,o,hs⟩:=uq K q;rw[u];show uh K.calm v o hs j r a hl
  |_=>cases s
def rQ (K:CtxOk M X Γ){x y:LW}{f py pt o:Oy}{s r:Ll}{a b:L6}(e:x≠y)(p:Γ.sc.lookup x=ba .local)(q:Γ.sc.lookup y=ba .local)(hl:(py.line==f.line)=true)(h:[a,b].all (foldedForSure 8)=false)(i:[a,b].all (constantsAlone 8)=false)(hs:i7 a=true)(l:i7 b=true) :
  swappedStores [.Tuple [.Name x f,.Name y py] s pt] (.Tuple [a,b] r o) X.env=pure (ba [x,y]):=by
 have kx:(X.env.kindOf x==ba .local)=true:=by unfold RY;rw[K.names,p];rfl
 have t:(X.env.kindOf y==ba .local)=true:=by unfold RY;rw[K.names,q];rfl
 have bk:(X.env.blockKind != .function)=false:=by
  unfold Env.blockKind;rw[K.kind];rfl
 have w:(f.line==f.line)=true:=by simp
 have v:([x,y].eraseDups.length != [x,y].length)=false:=by
  have:(y==x)=false:=by simpa using Ne.symm e
  simp[SN,this]
 have m:X.env.kindOf x=ba .local:=eq_of_beq kx;have n:X.env.kindOf y=ba .local:=eq_of_beq t;have k:py.line=f.line:=eq_of_beq hl;have g:X.env.blockKind=.function:=by simpa using bk
 have u:(y==x)=false:=by simpa using Ne.symm e
 have c:(foldedForSure 8 a&&foldedForSure 8 b)=false:=by simpa using h
 have d:(constantsAlone 8 a&&constantsAlone 8 b)=false:=by simpa using i
 unfold swappedStores;simp only[Ov,List.any_nil,SU,O1,List.filterMap_nil,m,n,g,List.head?_cons,MA,Us,L3,N8,MT,List.all_nil,PZ,c,d];show Eq.trans (L1 ?_) (Eq.trans (L1 ?_) ?_)
 ·decide
 ·rw[NP];rintro(j|j)
  ·clear h i c d;cases a<;>first|(cases j;done)|(cases hs;done)
  ·clear h i c d;cases b<;>first|(cases j;done)|(cases l;done)
 ·delta Expr.pos;simp[k,u,SN]
def DN (fuel:Ll)(K:CtxOk M X Γ):∀(n:Ll) {st:O0}{g:Sm},cS n Γ st=ba g->GS X st (gS M fuel g):=by
 have S:X.N.Nodup:=by rw[K.N];show K.nd
 have own:SI (model X.prog X.w) X.A X.env X.xe:=by rw[K.xe];show WH
 intro n
 induction n with
 |zero=>intro st g h;cases h
 |succ n ih=>
  intro st g h;cases st with
  |Expr e p=>
   replace h:(if En e then ba Sm.pass else if kh e then gV else(cE bV Γ e).map Sm.ex)=ba g:=h
   split at h
   ·rename_i hd;cases h;cases e with
    |Constant c k q=>
     cases c with
     |str x=>show FZ
     |_=>cases hd
    |_=>cases hd
   ·split at h
    ·cases h
    ·rename_i hd w;rw[Lk]at h;obtain⟨m,d,rfl⟩:=h;show Ig (bU _ K d).1 (l9 (by simpa using w) _ d)
  |Return o p=>
   cases o with
   |none=>cases h
   |some e=>
    replace h:(cE bV Γ e).map Sm.ret=ba g:=h;rw[Lk]at h;obtain⟨m,d,rfl⟩:=h;show F1 (bU _ K d).1
  |Pass p=>cases h;show Dl
  |If t a b p=>
   replace h:(match cE bV Γ t,vN (cS n Γ) a,vN (cS n Γ) b with|some t',ba G,ba s=>ba (Sm.ite t' G s)|_,_,_=>gV)=ba g:=h
   split at h
   ·rename_i t' G s d f u;cases h;show Ih (bU _ K d).2 (iq ih f) (iq ih u)
   ·cases h
  |While t b o p=>
   cases o with
   |cons _ _=>show aR h
   |nil=>
    replace h:(match cE bV Γ t,vN (cS n Γ) b with|some t',ba s=>ba (Sm.whl t' s)|_,_=>gV)=ba g:=h
    split at h
    ·rename_i t' s d f;cases h;show Ae fuel own (bU _ K d).2 (iq ih f)
    ·cases h
  |For tg it b o p=>
   cases o with
   |cons _ _=>show aR h
   |nil=>
    replace h:(match cT Γ tg,cI Γ (cE bV Γ) tg it,vN (cS n Γ) b with|some t,ba i,ba s=>ba (Sm.loop t i s)|_,_,_=>gV)=ba g:=h
    split at h
    ·rename_i t i s d f u;cases h;show F6 own K.calm (um K (λz=>(bU _ K z).1) f) (vJ K d) (iq ih u) (pL (n:=bV) (λU k p=>rfl) f)
    ·cases h
  |Assign ts e p=>
   match ts,h with
   |[],h=>show aR h
   |a::_::_,h=>cases a<;>show aR h
   |[t],h=>
    cases t with
    |Name x B=>
     replace h:(match dy Γ x,cE bV Γ e with|some i,ba m=>ba (Sm.set i m)|_,_=>gV)=ba g:=h
     split at h
     ·rename_i i m d f;cases h;show Iu K d f
     ·cases h
    |Subscript o k q=>
     replace h:(if vM k then gV else match cE bV Γ o,cE bV Γ k,cE bV Γ e with|some o',ba J,ba m=>ba (Sm.put o' J m)|_,_,_=>gV)=ba g:=h
     split at h
     ·cases h
     ·rename_i w;split at h
      ·rename_i o' J m d f u;cases h;show ud (bU _ K u).1 (F3 (by have:=K.un;have:iW=20:=rfl;omega) (bU _ K d).1 (bU _ K f).1 ?_) (by cases e<;>rfl) (by cases e<;>rfl) rfl
       intro v;cases k<;>first|rfl|show absurd rfl w
      ·cases h
    |Tuple r k q=>
     have E:∀{x y:LW}{B py:Oy}{a b:PySem.Expr}{L:Ll}{N:Oy},(match Γ.N.findIdx? (· == x),Γ.N.findIdx? (· == y),cA (cE bV Γ) [a,b]with
       |some i,ba j,ba es=>if !(i==j)&&(Γ.sc.lookup x==ba .local)&&(Γ.sc.lookup y==ba .local)&&(py.line==B.line) && !([a,b].all (foldedForSure 8)) && !([a,b].all (constantsAlone 8))then ba (Sm.par i j es)else gV
       |_,_,_=>gV)=ba g->GS X (.Assign [.Tuple [.Name x B,.Name y py] k q] (.Tuple [a,b] L N) p) (gS M fuel g):=λ{x y B py a b L N} h=>by
      split at h
      ·rename_i i j es d f u;split at h
       ·rename_i w;cases h;rw[Lp,Lp,Lp,Lp,Lp]at w;obtain⟨⟨⟨⟨⟨O,H⟩,I⟩,P⟩,Q⟩,R⟩:=w;have A:i≠j:=by simpa using O
        have ns:=cq u;rw[MT,MT,Lp,Lp]at ns;have hi:X.N[i]?=ba x:=by rw[K.N];show dM d
        have T:X.N[j]?=ba y:=by rw[K.N];show dM f
        show F4 K.calm S hi T A (by rw[K.names];show eq_of_beq H) (by rw[K.names];show eq_of_beq I) (dz (λz=>(bU _ K z).1) u) (rQ K ?_ (eq_of_beq H) (eq_of_beq I) P (by rw[<- Pw];show Q) (by rw[<- Pw];show R) ns.1 ns.2.1) rfl
        rintro rfl;rw[d]at f;cases f;show A rfl
       ·cases h
      ·cases h
     replace h:(if isTup e then Gd Γ r e else if kh e then gV else match G9 Γ r,cE bV Γ e with|some is,ba m=>ba (Sm.asg is m)|_,_=>gV)=ba g:=h
     split at h
     ·unfold Gd at h;split at h
      ·show E h
      ·cases h
     ·split at h
      ·cases h
      ·rename_i C D;split at h
       ·rename_i is m d f;cases h;show ud (bU _ K f).1 (vJ (tg:=.Tuple r k q) (t:=.tp is) K (by(delta cT;simp[d]))) (l9 (t:=ba (.Tuple r k q)) (l:=p.line) (env:=X.env) (by simpa using D) _ f) ?_ rfl
        cases e<;>first|rfl|show absurd rfl C
       ·cases h
    |_=>show aR h
  |_=>show aR h
end
set_option genInjectivity false in
structure Df where
 ps:Lf LW
 N:Lf LW
 body:Ss
abbrev gp (N:Lf LW)(ws:Lf W):Fm:=ws.map ba++Mu (↥N-↥ws) gV
abbrev ak (defs:Lf (LW×Df))(fuel:Ll):Ll->LW->FF
 |0,_,_,_=>gV
 |d+1,f,ws,S=>match defs.lookup f with
  |some df=>if ↥ws=↥df.ps then match gT (ak defs fuel d) fuel df.body (gp df.N ws) S with
    |some (.rt w,S')=>ba (w,S')
    |some (.nx _,S')=>ba (.non,S')
    |_=>gV
   else gV
  |none=>gV
set_option genInjectivity false in
structure Md where
 fns:Lf (LW×Ll)
 blt:Lf LW
abbrev AE (Mqa:Md)(st:O0)(N:Lf LW):Gam:={sc:=(aV st).names,N:=N,fns:=Mqa.fns,blt:=Mqa.blt,dfn:=true}
abbrev Iv (Mqa:Md)(st:O0)(df:Df):Prop:=vN (cS 20 (AE Mqa st df.N)) (cJ st)=ba df.body
def nZ {K:LF}{A:Lf Lv}{H:Hp}{ws:Lf W}{vs:Lf V}{N:Lf LW}(r:RelL K A H ws vs):EnvRel K A H (gp N ws) (gL N vs):=by
 show#[by simp[gp,L2.gL,↥r],λi w h=>?_]
 unfold gp at h;unfold L2.gL
 by_cases hi:i<↥ws
 ·rw[Mw (by simpa using hi),Lu]at h
  rw[Mw (by rw[Lh,<- ↥r];show hi),Lu]
  cases q:ws[i]? with
  |none=>rw[q]at h;cases h
  |some c=>
   rw[q]at h;simp only[MA,Mh]at h;subst h;obtain⟨v,a,b⟩:=r.get q;show#[v,by rw[a];rfl,b]
 ·rw[Nt (by simpa using hi)]at h
  have:=LD h;simp at this
section
variable{P:Mn}{w:MB}{K:LF}{mg:LW->Ln Lj}{base:MD}
abbrev Eo (P:Mn)(w:MB)(K:LF)(mg:LW->Ln Lj)(base:MD)(Mqa:Md)(defs:Lf (LW×Df))(fuel d:Ll):Prop:=
 ∀f n,Mqa.fns.lookup f=ba n->∃a b ps,FnOk P w K mg base yn d a b ps (spF w K n (ak defs fuel d f))/\mg f=ba (.ref a)/\Nm K (.ref a)=true/\Binds K b ps []
structure MdOk (w:MB)(K:LF)(mg:LW->Ln Lj)(Mqa:Md):Prop where
 blt:∀y∈Mqa.blt,mg y=gV
def Er {Mqa:Md}{defs:Lf (LW×Df)}{fuel d:Ll}{x b:LW}{st:O0}{f:Lv}{q:OA}{df:Df}(F:Fun K x b st f q)(S:FnScope df.N df.ps (aV st))(hd:defs.lookup x=ba df)(J:Iv Mqa st df)
  (I:MdOk w K mg Mqa) (j:Eo P w K mg base Mqa defs fuel d):FnOk P w K mg base yn (d+1) f q df.ps (spF w K ↥df.ps (ak defs fuel (d+1) x)):=by
 show F.ok S (λvs H Q E h=>?_) (λcdv A outer s H vs Q E t h=>?_)
 ·obtain⟨A,S,ws,M,S',_,k,hl,_⟩:=h;rw[<- ↥k];show hl
 ·obtain⟨o,p,ws,M,S',u,k,hl,e,r⟩:=h;have y:CtxOk (ak defs fuel d) (sT yn P w K mg base df.N b (aV st) f cdv A outer s H E).nox (AE Mqa st df.N):=by
   show#[rfl,S.kind,rfl,S.nd,rfl,rfl,?_,λ_ _=>rfl,I.blt,λg n L=>?_]
   ·have:=t.un;show(A.deeper _).units+20<cLine;omega
   ·obtain⟨B,l,m,i,C,D,G⟩:=j g n L;show#[d,B,l,m,i,t,C,D,G]
  show#[tS _ (gT (ak defs fuel d) fuel df.body),iq (λz=>DN fuel y 20 z) J,?_]
  (dsimp only[ak]at e;simp only[hd]at e)
  rw[LU hl]at e;split at e
  ·rename_i O S1 i;cases e;show#[o,gp df.N ws,p,_,_,nZ k,u,i,#[λc a #[_,_,z,_,_,_]=>(by cases z),λv a #[w2,A2,z0,z1,z2,z3]=>?_,λc a #[_,_,z,_,_,_]=>(by cases z),λc a #[_,_,z,_,_,_]=>(by cases z)]]
   cases z0;show r v a #[A2,z1,z2,z3]
  ·rename_i N S1 i;cases e;show#[o,gp df.N ws,p,_,_,nZ k,u,i,#[λc a #[w2,A2,z0,z1,z2,z3]=>?_,λc a #[_,_,z,_,_,_]=>(by cases z),λc a #[_,_,z,_,_,_]=>(by cases z),λc a #[_,_,z,_,_,_]=>(by cases z)]]
   show r _ a #[A2,z1,z2,.non]
  ·cases e
def xO {H:Hp}{a:Lv}{ns:Lf LC}(f:yO H)(g:SqL K H a (ns.map V.int)):StoreOk w K [a] H [.fro (ns.map W.int)]/\RelL K [a] H [.ref 0] [.ref a]:=by
 have l:∀ns:Lf LC,RelL K [a] H (ns.map W.int) (ns.map V.int):=by
  intro ns
  induction ns with
  |nil=>show .nil
  |cons n ns ih=>show .cons .int ih
 have e:FroL K H a (ns.map V.int):=by
  rcases g with(h|⟨o,h⟩)|h
  ·rcases f a with z|⟨o,xs,z⟩<;>(rw[z]at h;cases h)
  ·show .inl #[o,h]
  ·show .inr h
 show#[#[rfl,λi j b o u c k d m _ _=>?_,λi o b c d=>?_],.cons (.ref rfl) .nil]
 ·cases i with
  |zero=>simp at c;subst c;cases k
  |succ i=>simp at c
 ·cases i with
  |zero=>
   simp at c d;subst c d;show#[_,e,l ns]
  |succ i=>simp at c
def Ge {g:FF}{H:Hp}{a:Lv}{ns:Lf LC}(h:∃S',g [.ref 0] [.fro (ns.map W.int)]=ba (.bl true,S'))(b:yO H)(c:SqL K H a (ns.map V.int)):spF w K 1 g [.ref a] H (λv _=>v=.bl true) λ_ _ _=>Nb:=by
 obtain⟨S',e⟩:=h;obtain⟨f,d⟩:=xO b c;show#[[a],_,_,_,S',f,d,rfl,e,λv j #[i,z1,z2,z3]=>by cases z3;rfl]
end
abbrev Wp {α:Type}(o:Ln α)(Q:α->Prop):Prop:=∃a,o=ba a/\Q a
def ac {α:Type}{a:α}{Q:α->Prop}:Wp (ba a) Q↔Q a:=#[λ#[b,e,h]=>(by cases e;show h),λh=>#[a,rfl,h]]
def ae {α:Type}{Q:α->Prop}:Wp (gV:Ln α) Q↔Nb:=#[λ#[b,e,h]=>(by cases e),λh=>h.elim]
def Wp.mono {α:Type}{o:Ln α}{Q b:α->Prop}(h:Wp o Q)(k:∀a,Q a->b a):Wp o b:=let ⟨a,e,q⟩:=h;#[a,e,k a q]
section
variable{M:LW->FF}{fuel:Ll}{Z:Fm}{S:aa}
noncomputable abbrev QW:=W×aa->Prop
def La {w:W}{Q:QW}:Wp (aD M (.c w) Z S) Q↔Q (w,S):=by(delta aD;simp[fC,ac,ae])
def KU {i:Ll}{Q:QW}:Wp (aD M (.v i) Z S) Q↔∃w,Z[i]?=ba (ba w)/\Q (w,S):=by
 (delta aD;simp only[fV])
 rcases h:Z[i]? with _|_|w<;>simp[ac,ae]
def AF {g:W->W->aa->Ln (W×aa)}{a b:FE}{Q:QW}:Wp (C6 g a b Z S) Q↔Wp (a Z S) λp=>Wp (b Z p.2) λq=>Wp (g p.1 q.1 q.2) Q:=by
 unfold C6;rcases h:a Z S with _|⟨x,S1⟩
 ·simp[ac,ae]
 ·rcases c:b Z S1 with _|⟨y,S2⟩<;>simp[ac,ae,c]
def Kn {o:BOp}{a b:E}{Q:QW}:Wp (aD M (.op o a b) Z S) Q↔Wp (aD M a Z S) λp=>Wp (aD M b Z p.2) λq=>Wp (fm o p.1 q.1 q.2) Q:=by delta aD;show AF
def Et {o:COp}{a b:E}{Q:QW}:Wp (aD M (.cmp o a b) Z S) Q↔Wp (aD M a Z S) λp=>Wp (aD M b Z p.2) λq=>Wp (cx o p.1 q.1 q.2) Q:=by delta aD;show AF
def Ko {a b:E}{Q:QW}:Wp (aD M (.ix a b) Z S) Q↔Wp (aD M a Z S) λp=>Wp (aD M b Z p.2) λq=>Wp (qr p.1 q.1 q.2) Q:=by delta aD;show AF
def Iw {a b:E}{Q:QW}:Wp (aD M (.and a b) Z S) Q↔Wp (aD M a Z S) λp=>∃k,p.1=.bl k/\(k=true->Wp (aD M b Z p.2) Q)/\(k=false->Q (.bl false,p.2)):=by
 (delta aD;delta vy)
 rcases h:aD M a Z S with _|⟨x,S1⟩
 ·simp[ac,ae]
 ·cases x<;>simp[ac,ae]
  rename_i b;cases b<;>simp[ac,ae]
def Kq {a b:E}{Q:QW}:Wp (aD M (.or a b) Z S) Q↔Wp (aD M a Z S) λp=>∃k,p.1=.bl k/\(k=true->Q (.bl true,p.2))/\(k=false->Wp (aD M b Z p.2) Q):=by
 (delta aD;delta Db)
 rcases h:aD M a Z S with _|⟨x,S1⟩
 ·simp[ac,ae]
 ·cases x<;>simp[ac,ae]
  rename_i b;cases b<;>simp[ac,ae]
def Ix {a:E}{Q:QW}:Wp (aD M (.not a) Z S) Q↔Wp (aD M a Z S) λp=>∃k,p.1=.bl k/\Q (.bl (!k),p.2):=by
 (delta aD;delta vz)
 rcases h:aD M a Z S with _|⟨x,S1⟩
 ·simp[ac,ae]
 ·cases x<;>simp[ac,ae]
  rename_i k;cases k<;>simp
def Eu {f:LW}{n:Ll}{es:Es}{Q:QW}:Wp (aD M (.own f n es) Z S) Q↔Wp (du M es Z S) λp=>↥p.1=n/\Wp (M f p.1 p.2) Q:=by
 (delta aD;delta rB)
 rcases h:du M es Z S with _|⟨x,S1⟩
 ·simp[ac,ae]
 ·by_cases hl:↥x=n<;>simp[ac,ae,hl]
def Iy {b:Bi}{es:Es}{Q:QW}:Wp (aD M (.bi b es) Z S) Q↔Wp (du M es Z S) λp=>Wp (b.fn p.1 p.2) Q:=by
 (delta aD;delta kM)
 rcases h:du M es Z S with _|⟨x,S1⟩<;>simp[ac,ae]
def Kr {m:Me}{o:E}{es:Es}{Q:QW}:Wp (aD M (.me m o es) Z S) Q↔Wp (aD M o Z S) λp=>tyOk m.ty p.2 p.1=true/\Wp (du M es Z p.2) λq=>Wp (m.fn p.1 q.1 q.2) Q:=by
 (delta aD;delta G6)
 rcases h:aD M o Z S with _|⟨x,S1⟩
 ·simp[ac,ae]
 ·by_cases a:tyOk m.ty S1 x=true
  ·rcases b:du M es Z S1 with _|⟨y,S2⟩<;>simp[ac,ae,a,b]
  ·simp[ac,ae,a]
def Ks {a:E}{lo hi:Ep}{Q:QW}:Wp (aD M (.sl a lo hi) Z S) Q↔Wp (aD M a Z S) λp=>Wp (vE M lo Z p.2) λq=>Wp (vE M hi Z q.2) λr=>Wp (tf p.1 q.1 r.1 r.2) Q:=by
 (delta aD;delta HY)
 rcases h:aD M a Z S with _|⟨x,S1⟩
 ·simp[ac,ae]
 ·rcases b:vE M lo Z S1 with _|⟨y,S2⟩
  ·simp[ac,ae,b]
  ·rcases c:vE M hi Z S2 with _|⟨z,d⟩<;>simp[ac,ae,b,c]
def Kt {Q:Ln LC×aa->Prop}:Wp (vE M .no Z S) Q↔Q (gV,S):=by(delta vE;simp[FX,ac,ae])
def Iz {a:E}{Q:Ln LC×aa->Prop}:Wp (vE M (.yes a) Z S) Q↔Wp (aD M a Z S) λp=>∃i,p.1=.int i/\Q (ba i,p.2):=by
 (delta vE;simp only[vA])
 rcases h:aD M a Z S with _|⟨x,S1⟩
 ·simp[ac,ae]
 ·cases x<;>simp[ac,ae]
def IA {es:Es}{Q:QW}:Wp (aD M (.tup es) Z S) Q↔Wp (du M es Z S) λp=>↥p.1<=sizeLine/\Q (.tup p.1,p.2):=by
 (delta aD;(delta z8;simp only[sY]))
 rcases h:du M es Z S with _|⟨x,S1⟩
 ·simp[ac,ae]
 ·by_cases hl:↥x<=sizeLine<;>simp[ac,ae,hl]
def IB {es:Es}{Q:QW}:Wp (aD M (.lst es) Z S) Q↔Wp (du M es Z S) λp=>↥p.1<=sizeLine/\Q (.ref ↥p.2,p.2++[.lst p.1]):=by
 (delta aD;(delta z9;simp only[mT]))
 rcases h:du M es Z S with _|⟨x,S1⟩
 ·simp[ac,ae]
 ·by_cases hl:↥x<=sizeLine<;>simp[ac,ae,hl]
def Ev {c:Ng}{a:E}{Q:QW}:Wp (aD M (.isi c a) Z S) Q↔Wp (aD M a Z S) λp=>∃k,xG p.2 p.1 c=ba k/\Q (.bl k,p.2):=by
 (delta aD;simp only[Ai])
 rcases h:aD M a Z S with _|⟨x,S1⟩
 ·simp[ac,ae]
 ·cases b:xG S1 x c<;>simp[ac,ae,b]
  rename_i k;cases k<;>simp
def IC {a:E}{Q:QW}:Wp (aD M (.neg a) Z S) Q↔Wp (aD M a Z S) λp=>∃i,p.1=.int i/\Q (.int (-i),p.2):=by
 (delta aD;simp only[zW])
 rcases h:aD M a Z S with _|⟨x,S1⟩
 ·simp[ac,ae]
 ·cases x<;>simp[ac,ae]
def Gf {es:Es}{Q:QW}:Wp (aD M (.disp es) Z S) Q↔Wp (du M es Z (S++[.dic []])) λp=>p.2[↥S]?=ba (.dic [])/\∃U,dR [] p.1=ba U/\Q (.ref ↥S,p.2.set ↥S (.dic U)):=by
 have e:aD M (.disp es) Z S=rF (du M es) Z S:=by delta aD
 rw[e];unfold rF;cases du M es Z (S++[.dic []])with
 |none=>simp[ae]
 |some p=>
  obtain⟨x,S1⟩:=p;simp only[ac];cases c:S1[↥S]? with
  |none=>simp[ae]
  |some o=>
   cases o with
   |lst _=>simp[ae]
   |fro _=>simp[ae]
   |frd _=>simp[ae]
   |stt _=>simp[ae]
   |rng _ _=>simp[ae]
   |dic U=>
    cases U with
    |nil=>cases d:dR [] x<;>simp[ac,ae]
    |cons a b=>simp[ae]
def ID {Q:Lf W×aa->Prop}:Wp (du M .nil Z S) Q↔Q ([],S):=by(delta du;(delta jC;simp[ac,ae]))
def Gg {e:E}{es:Es}{Q:Lf W×aa->Prop}:Wp (du M (.cons e es) Z S) Q↔Wp (aD M e Z S) λp=>Wp (du M es Z p.2) λq=>Q (p.1::q.1,q.2):=by
 (delta du;delta dW)
 rcases h:aD M e Z S with _|⟨x,S1⟩
 ·simp[ac,ae]
 ·rcases a:du M es Z S1 with _|⟨y,S2⟩<;>simp[ac,ae,a]
noncomputable abbrev QB:=L7×aa->Prop
def IE {f:FE}{Q:QB}:Wp (zY f Z S) Q↔Wp (f Z S) λp=>∃k,p.1=.bl k/\Q (k,p.2):=by
 unfold zY;rcases h:f Z S with _|⟨x,S1⟩
 ·simp[ac,ae]
 ·cases x<;>simp[ac,ae]
  rename_i k;cases k<;>simp
def vO {f:FE}{Q:QB}:Wp (iG f Z S) Q↔Wp (f Z S) λp=>∃k,iY p.2 p.1=ba k/\Q (k,p.2):=by
 unfold iG;rcases h:f Z S with _|⟨x,S1⟩
 ·simp[ac,ae]
 ·cases a:iY S1 x<;>simp[ac,ae,a]
  rename_i k;cases k<;>simp
def IF {o:COp}{a b:E}{Q:QB}:Wp (dL M (.cmp o a b) Z S) Q↔Wp (aD M (.cmp o a b) Z S) λp=>∃k,p.1=.bl k/\Q (k,p.2):=by delta dL aD;show IE
def IG {a b:E}{Q:QB}:Wp (dL M (.and a b) Z S) Q↔Wp (dL M a Z S) λp=>(p.1=true->Wp (dL M b Z p.2) Q)/\(p.1=false->Q (false,p.2)):=by
 (delta dL;simp only[zZ])
 rcases h:dL M a Z S with _|⟨x,S1⟩
 ·simp[ac,ae]
 ·cases x<;>simp[ac,ae]
def Ku {a b:E}{Q:QB}:Wp (dL M (.or a b) Z S) Q↔Wp (dL M a Z S) λp=>(p.1=true->Q (true,p.2))/\(p.1=false->Wp (dL M b Z p.2) Q):=by
 (delta dL;simp only[HV])
 rcases h:dL M a Z S with _|⟨x,S1⟩
 ·simp[ac,ae]
 ·cases x<;>simp[ac,ae]
def IH {a:E}{Q:QB}:Wp (dL M (.not a) Z S) Q↔Wp (dL M a Z S) λp=>Q (!p.1,p.2):=by
 (delta dL;simp only[C8])
 rcases h:dL M a Z S with _|⟨x,S1⟩<;>simp[ac,ae]
def Lb {i:Ll}{Q:QB}:Wp (dL M (.v i) Z S) Q↔Wp (aD M (.v i) Z S) λp=>∃k,iY p.2 p.1=ba k/\Q (k,p.2):=by delta dL aD;show vO
def II {f:LW}{n:Ll}{es:Es}{Q:QB}:Wp (dL M (.own f n es) Z S) Q↔Wp (aD M (.own f n es) Z S) λp=>∃k,iY p.2 p.1=ba k/\Q (k,p.2):=by delta dL aD;show vO
def Kv {b:Bi}{es:Es}{Q:QB}:Wp (dL M (.bi b es) Z S) Q↔Wp (aD M (.bi b es) Z S) λp=>∃k,iY p.2 p.1=ba k/\Q (k,p.2):=by delta dL aD;show vO
def IJ {c:Ng}{a:E}{Q:QB}:Wp (dL M (.isi c a) Z S) Q↔Wp (aD M (.isi c a) Z S) λp=>∃k,iY p.2 p.1=ba k/\Q (k,p.2):=by delta dL aD;show vO
noncomputable abbrev QO:=Out×aa->Prop
def IK {Q:QO}:Wp (gT M fuel .nil Z S) Q↔Q (.nx Z,S):=by(delta gT;simp[ac,ae])
def Gh {s:Sm}{ss:Ss}{Q:QO}:Wp (gT M fuel (.cons s ss) Z S) Q↔Wp (gS M fuel s Z S) λp=>(∀a,p.1=.nx a->Wp (gT M fuel ss a p.2) Q)/\((∀a,p.1≠.nx a)->Q p):=by
 (delta gT;simp only[Dj])
 rcases h:gS M fuel s Z S with _|⟨o,S1⟩
 ·simp[ac,ae]
 ·cases o<;>simp[ac,ae]
def AG {f:FE}{g:FG}{Q:QO}:Wp (lU f g Z S) Q↔Wp (f Z S) λp=>Wp (g p.1 Z p.2) λq=>Q (.nx q.1,q.2):=by
 unfold lU;rcases h:f Z S with _|⟨x,S1⟩
 ·simp[ac,ae]
 ·rcases a:g x Z S1 with _|⟨y,S2⟩<;>simp[ac,ae,a]
def Gi {i:Ll}{e:E}{Q:QO}:Wp (gS M fuel (.set i e) Z S) Q↔Wp (aD M e Z S) λp=>Q (.nx (Z.set i (ba p.1)),p.2):=by
 delta gS;rw[AG];simp[Ej,ac,ae]
def Gj {is:Lf Ll}{e:E}{Q:QO}:Wp (gS M fuel (.asg is e) Z S) Q↔Wp (aD M e Z S) λp=>∃ws a,p.1=.tup ws/\eP is ws Z=ba a/\Q (.nx a,p.2):=by
 delta gS;rw[AG]
 constructor
 ·show λh=>h.mono λp d=>?_
  obtain⟨w,S1⟩:=p;obtain⟨q,b,c⟩:=d;cases w with
  |tup ws=>
   simp only[G7,Lk]at b;obtain⟨a,g,rfl⟩:=b;show#[ws,a,rfl,g,c]
  |_=>cases b
 ·show λh=>h.mono λp d=>?_
  obtain⟨w,S1⟩:=p;obtain⟨ws,a,f,b,c⟩:=d;subst f;show#[(a,S1),by simp[G7,b],c]
def Gk {i j:Ll}{es:Es}{Q:QO}:Wp (gS M fuel (.par i j es) Z S) Q↔Wp (du M es Z S) λp=>∃x y,p.1=[x,y]/\Q (.nx ((Z.set i (ba x)).set j (ba y)),p.2):=by
 (delta gS;delta Dq)
 rcases h:du M es Z S with _|⟨x,S1⟩
 ·simp[ae]
 ·match x with
  |[]=>simp[ac,ae]
  |[_]=>simp[ac,ae]
  |[a,b]=>
   simp only[ac];show#[λh=>#[a,b,rfl,h],λ#[x,y,e,h]=>by cases e;show h]
  |_::_::_::_=>simp[ac,ae]
def Gm {o k e:E}{Q:QO}:Wp (gS M fuel (.put o k e) Z S) Q↔Wp (aD M e Z S) λp=>Wp (aD M o Z p.2) λq=>Wp (aD M k Z q.2) λr=>∃S',jv q.1 r.1 p.1 r.2=ba S'/\Q (.nx Z,S'):=by
 delta gS;rw[AG]
 rcases h:aD M e Z S with _|⟨x,S1⟩
 ·simp[ac,ae]
 ·simp only[ac];unfold Dp;rcases d:aD M o Z S1 with _|⟨y,S2⟩
  ·simp[ac,ae]
  ·rcases a:aD M k Z S2 with _|⟨z,b⟩
   ·simp[ac,ae,a]
   ·cases c:jv y z x b<;>simp[ac,ae,a,c]
def IL {e:E}{Q:QO}:Wp (gS M fuel (.ex e) Z S) Q↔Wp (aD M e Z S) λp=>Q (.nx Z,p.2):=by
 (delta gS;simp only[Dk])
 rcases h:aD M e Z S with _|⟨x,S1⟩<;>simp[ac,ae]
def Gn {e:E}{Q:QO}:Wp (gS M fuel (.ret e) Z S) Q↔Wp (aD M e Z S) λp=>Q (.rt p.1,p.2):=by
 (delta gS;simp only[Dm])
 rcases h:aD M e Z S with _|⟨x,S1⟩<;>simp[ac,ae]
def Go {t:E}{a b:Ss}{Q:QO}:Wp (gS M fuel (.ite t a b) Z S) Q↔Wp (dL M t Z S) λp=>(p.1=true->Wp (gT M fuel a Z p.2) Q)/\(p.1=false->Wp (gT M fuel b Z p.2) Q):=by
 (delta gS;simp only[Do])
 rcases h:dL M t Z S with _|⟨x,S1⟩
 ·simp[ac,ae]
 ·cases x<;>simp[ac,ae]
abbrev AH (I:Fm->aa->Prop)(Q:QO)(o:Out×aa):Prop:=match o.1 with
 |.nx a=>I a o.2
 |.ct a=>I a o.2
 |.bk a=>Q (.nx a,o.2)
 |.rt w=>Q (.rt w,o.2)
def ki {mi:MI}{g:FG}{b:FS}{xs:Lf W}{Q:QO}(I:Ll->Fm->aa->Prop)(d:∀i Z S,I i Z S->mi.at S i=ba xs[i]?)
  (a:∀i w Z S,xs[i]?=ba w->I i Z S->Wp (g w Z S) λq=>Wp (b q.1 q.2) (AH (I (i+1)) Q)) (c:∀Z S,I ↥xs Z S->Q (.nx Z,S)):∀(n i:Ll) (Z:Fm) (S:aa),i+n=↥xs->I i Z S->Wp (gQ mi g b n i Z S) Q
 |0,i,Z,S,hl,f=>by
  have e:mi.at S i=ba gV:=by rw[d i Z S f,Ps ∅]
  simp only[gQ,e];have hi:i=↥xs:=∅
  show ac.mpr (c Z S (hi▸f))
 |n+1,i,Z,S,hl,f=>by
  have hi:i<↥xs:=∅
  have e:mi.at S i=ba (ba xs[i]):=by rw[d i Z S f,Lq hi]
  obtain⟨⟨m,S1⟩,k,⟨o,S2⟩,l,j⟩:=a i xs[i] Z S (Lq hi) f;simp only[gQ,e,k,l];cases o with
  |nx h=>show ki I d a c n (i+1) h S2 ∅ j
  |ct h=>show ki I d a c n (i+1) h S2 ∅ j
  |bk h=>show ac.mpr j
  |rt w=>show ac.mpr j
def IM {a:FI}{g:FG}{b:FS}{Q:QO}:Wp (Ag a g b Z S) Q↔Wp (a Z S) λp=>∃n,p.1.len p.2=ba n/\Wp (gQ p.1 g b n 0 Z p.2) Q:=by
 unfold Ag;rcases h:a Z S with _|⟨mi,S1⟩
 ·simp[ae]
 ·cases c:mi.len S1<;>simp[ac,ae,c]
def d6 {mi:MI}{g:FG}{c:FT}{f:FE}{xs:Lf W}{Q:Lf W×aa->Prop}(I:Ll->Lf W->Fm->aa->Prop)(d:∀i ys Z S,I i ys Z S->mi.at S i=ba xs[i]?)
  (a:∀i w ys Z S,xs[i]?=ba w->I i ys Z S->Wp (g w Z S) λq=>Wp (c q.1 q.2) λk=>(k.1=true->Wp (f q.1 k.2) λy=>I (i+1) (ys++[y.1]) q.1 y.2)/\(k.1=false->I (i+1) ys q.1 k.2))
  (b:∀ys Z S,I ↥xs ys Z S->Q (ys,S)):∀(n i:Ll) (ys:Lf W) (Z:Fm) (S:aa),i+n=↥xs->I i ys Z S->Wp (bG mi g c f n i Z S) λp=>Q (ys++p.1,p.2)
 |0,i,ys,Z,S,hl,h=>by
  have e:mi.at S i=ba gV:=by rw[d i ys Z S h,Ps ∅]
  simp only[bG,e];show ac.mpr ?_;have:i=↥xs:=∅
  simpa using b ys Z S (this▸h)
 |n+1,i,ys,Z,S,hl,h=>by
  have hi:i<↥xs:=∅
  have e:mi.at S i=ba (ba xs[i]):=by rw[d i ys Z S h,Lq hi]
  obtain⟨⟨j,S1⟩,m,⟨k,S2⟩,o,r,s⟩:=a i xs[i] ys Z S (Lq hi) h;simp only[bG,e,m,o];cases k with
  |true=>
   obtain⟨⟨y,l⟩,t,u⟩:=r rfl;simp only[t];obtain⟨⟨A,z⟩,v,x⟩:=d6 I d a b n (i+1) (ys++[y]) j l ∅ u
   simp only[v];show ac.mpr (by simpa using x)
  |false=>show d6 I d a b n (i+1) ys j S2 ∅ (s rfl)
def AI {b:E}{tg:Tg}{it:Ie}{c:Es}{a:Lf (Ln Ll)}{Q:QW}:Wp (aD M (.comp b tg it c a) Z S) Q↔Wp (j8 M it Z S) λp=>∃n,p.1.len p.2=ba n/\Wp (bG p.1 (gE tg) (DI M c) (aD M b) n 0 (fH a Z) p.2) λq=>↥q.1<=sizeLine/\Q (.ref ↥q.2,q.2++[.lst q.1]):=by
 (delta aD;simp only[lV,mT])
 rcases h:j8 M it Z S with _|⟨mi,S1⟩
 ·simp[ae]
 ·rcases d:mi.len S1 with _|n
  ·simp[ac,ae,d]
  ·rcases e:bG mi (gE tg) (DI M c) (aD M b) n 0 (fH a Z) S1 with _|⟨ys,S2⟩
   ·simp[ac,ae,d,e]
   ·by_cases hl:↥ys<=sizeLine<;>simp[ac,ae,d,e,hl]
def IN {Q:QB}:Wp (DI M .nil Z S) Q↔Q (true,S):=by(delta DI;simp[El,ac])
def IP {e:E}{Q:QB}:Wp (DI M #v[e] Z S) Q↔Wp (dL M e Z S) Q:=by delta DI;show Iff.rfl
def ma {c:FT}{b:FS}{Q:QO}(I:Ll->Fm->aa->Prop)(a:∀m Z S,I m Z S->Wp (c Z S) λk=>(k.1=true->∃d,m=d+1/\Wp (b Z k.2) (AH (I d) Q))/\(k.1=false->Q (.nx Z,k.2))) :
  ∀(n m:Ll) (Z:Fm) (S:aa),m<n->I m Z S->Wp (pG c b n Z S) Q
 |0,m,Z,S,h,_=>∅
 |n+1,m,Z,S,h,p=>by
  obtain⟨⟨k,S1⟩,g,i,j⟩:=a m Z S p;simp only[pG,g];cases k with
  |false=>show ac.mpr (j rfl)
  |true=>
   obtain⟨d,rfl,⟨o,S2⟩,l,f⟩:=i rfl;simp only[l];cases o with
   |nx e=>show ma I a n d e S2 ∅ f
   |ct e=>show ma I a n d e S2 ∅ f
   |bk e=>show ac.mpr f
   |rt w=>show ac.mpr f
def xP {defs:Lf (LW×Df)}{d:Ll}{f:LW}{ws:Lf W}{df:Df}{Q:QW}(h:defs.lookup f=ba df)(hl:↥ws=↥df.ps)
  (c:Wp (gT (ak defs fuel d) fuel df.body (gp df.N ws) S) λp=>match p.1 with|.rt w=>Q (w,p.2)|.nx _=>Q (.non,p.2)|_=>Nb):Wp (ak defs fuel (d+1) f ws S) Q:=by
 obtain⟨⟨o,S1⟩,b,a⟩:=c;simp only[ak,h,LU hl,b];cases o with
 |rt w=>show ac.mpr a
 |nx Z=>show ac.mpr a
 |bk _=>show a.elim
 |ct _=>show a.elim
end
section
variable{S:aa}{Q:QW}
def bW {a b:LC}:fm .add (.int a) (.int b) S=ba (.int (a+b),S):=rfl
def md {a b:LC}:fm .sub (.int a) (.int b) S=ba (.int (a-b),S):=rfl
def pP {c:LC->LC->L7}{f:LC->LC->LC}{i j:LC}(h:c i j=true):BX c f (.int i) (.int j) S=ba (.int (f i j),S):=by
 unfold BX;dsimp only;rw[LU h]
def kP {a b:LC}(h : -(2^64)<b)(d:b<2^64):fm .mul (.int a) (.int b) S=ba (.int (a*b),S):=pP (c:=wY) (f:=(· * ·)) (by
 unfold wY;simp only[NP,Lp,LJ];show .inr #[h,d])
def jE {a b:LC}(h:0<b):fm .mod (.int a) (.int b) S=ba (.int (a % b),S):=pP (c:=λ_ j=>decide (0<j)) (f:=(· % ·)) (Nc h)
def gq {a b:LC}(h:0<b)(d:b<1073741824):fm .fdiv (.int a) (.int b) S=ba (.int (a/b),S):=pP (c:=λ_ j=>Cz j) (f:=(· / ·)) (by
 unfold Cz;simp only[Lp,LJ];show#[h,d])
def Gp:fm .pow (.int 10) (.int 18) S=ba (.int 1000000000000000000,S):=rfl
def Gq {x y:LW}(h:↥x+↥y<=sizeLine):fm .add (.str x) (.str y) S=ba (.str (x++y),S):=by simp only[fm,w6];rw[LU h]
def gW {xs ys:Lf W}(h:(xs++ys).length<=sizeLine):fm .add (.tup xs) (.tup ys) S=ba (.tup (xs++ys),S):=by simp only[fm,w6,sY];rw[LU h]
def AJ {i j:Ll}{xs ys:Lf W}(a:S[i]?=ba (.lst xs))(b:S[j]?=ba (.lst ys))(h:(xs++ys).length<=sizeLine):fm .add (.ref i) (.ref j) S=ba (.ref ↥S,S++[.lst (xs++ys)]):=by
 simp only[fm,w6,qp,a,b,mT];rw[LU h]
def i9 {a b:LC}:cx .eq (.int a) (.int b) S=ba (.bl (a==b),S):=rfl
def Kw {a b:LC}:cx .ne (.int a) (.int b) S=ba (.bl (!(a==b)),S):=rfl
def xQ {a b:LC}:cx .lt (.int a) (.int b) S=ba (.bl (decide (a<b)),S):=rfl
def IQ {a b:LC}:cx .gt (.int a) (.int b) S=ba (.bl (decide (a > b)),S):=rfl
def Kx {a b:LC}:cx .ge (.int a) (.int b) S=ba (.bl (decide (a>=b)),S):=rfl
def Ew {a b:LW}:cx .eq (.str a) (.str b) S=ba (.bl (a==b),S):=rfl
def IR {a b:LW}:cx .ne (.str a) (.str b) S=ba (.bl (!(a==b)),S):=rfl
def ay {r:Ll}{xs:Lf W}(h:S[r]?=ba (.lst xs)):gJ S r=ba xs:=by simp[gJ,h]
def DO {r:Ll}{xs:Lf W}(h:S[r]?=ba (.fro xs)):gJ S r=ba xs:=by simp[gJ,h]
def dj {r:Ll}{xs:Lf W}(h:S[r]?=ba (.lst xs)):qp S r=ba xs:=by simp[qp,h]
def pQ {r:Ll}{xs:Lf W}(h:S[r]?=ba (.lst xs)):kI S r=gV:=by simp[kI,h]
def cN {r:Ll}{U:Lf (T×W)}(h:S[r]?=ba (.dic U)):kI S r=ba U:=by simp[kI,h]
def pR {r:Ll}{U:Lf (T×W)}(h:S[r]?=ba (.dic U)):gJ S r=gV:=by simp[gJ,h]
def DP {r:Ll}{U:Lf (T×W)}(h:S[r]?=ba (.frd U)):kI S r=ba U:=by simp[kI,h]
def atI_nat {α:Type}{xs:Lf α}{j:Ll}{w:α}(h:xs[j]?=ba w):qx xs (j:LC)=ba w:=by
 have hl:=(LB.mp h).1;unfold qx uQ;rw[LU (LV j),LU (by exact_mod_cast hl)]
 simpa using h
def pS {α:Type}{xs:Lf α}{i:LC}{w:α}(a:0<=i)(h:xs[i.toNat]?=ba w):qx xs i=ba w:=by
 have:=atI_nat h
 rwa [PU a]at this
def AK {r:Ll}{xs:Lf W}{i:LC}{w:W}(h:S[r]?=ba (.lst xs))(a:0<=i)(b:xs[i.toNat]?=ba w):qr (.ref r) (.int i) S=ba (w,S):=by
 change w8 (.ref r) (.int i) S=_;simp[w8,ay h,pS a b]
def IS {xs:Lf W}{i:LC}{w:W}(a:0<=i)(b:xs[i.toNat]?=ba w):qr (.tup xs) (.int i) S=ba (w,S):=by
 change w8 (.tup xs) (.int i) S=_;simp[w8,pS a b]
def Ex {x:LW}{i:LC}{c:Ll}(hz:↥x<=sizeLine)(a:0<=i)(b:x.cps.toList[i.toNat]?=ba c):qr (.str x) (.int i) S=ba (.str #[[c].toArray],S):=by
 change w8 (.str x) (.int i) S=_;simp[w8,hz,pS a b]
def Ey {r:Ll}{xs:Lf W}{i:LC}{w:W}(h:S[r]?=ba (.lst xs))(a:0<=i)(hi:i.toNat<↥xs):jv (.ref r) (.int i) w S=ba (S.set r (.lst (xs.set i.toNat w))):=by
 change w9 (.ref r) (.int i) w S=_;have:uQ ↥xs i=ba i.toNat:=by
  unfold uQ;rw[LU a,LU ∅]
 simp[w9,dj h,this]
def Ez {r:Ll}{xs:Lf W}(h:S[r]?=ba (.lst xs)):tL [.ref r] S=ba (.int ↥xs,S):=by
 (delta tL tj;simp[pQ h,ay h])
def vP {r:Ll}{xs:Lf W}{y:W}(h:S[r]?=ba (.lst xs))(hl:↥xs<sizeLine):jm (.ref r) [y] S=ba (.non,S.set r (.lst (xs++[y]))):=by
 simp[jm,dj h,hl]
def IT {r:Ll}{xs:Lf W}(h:S[r]?=ba (.lst xs)):lT [.ref r] S=ba (.tup xs,S):=by
 (delta lT lC;simp[CP,h,ay h])
def dS {r:Ll}{xs:Lf W}(h:S[r]?=ba (.lst xs)):tyOk "list" S (.ref r)=true:=by simp[tyOk,ay h]
def bB {r:Ll}{o o':O}(h:S[r]?=ba o):(S.set r o')[r]?=ba o':=by
 rw[N3,LU rfl,LU (LB.mp h).1]
def bz {r j:Ll}{o':O}(h:r≠j):(S.set r o')[j]?=S[j]?:=by rw[N3,L1 h]
def af {o:O}:(S++[o])[↥S]?=ba o:=by simp
def aj {j:Ll}{o u:O}(h:S[j]?=ba o):(S++[u])[j]?=ba o:=by rw[Mw (LB.mp h).1];show h
def b7 {j:Ll}{o:O}(h:S[j]?=ba o):j<↥S:=(LB.mp h).1
structure Kp (r:Ll)(S S':aa):Prop where
 get:∀j o,j≠r->S[j]?=ba o->S'[j]?=ba o
 len:↥S<=↥S'
def Kp.refl {r:Ll}{S:aa}:Kp r S S:=#[λ_ _ _ h=>h,Ls _]
def Kp.trans {r:Ll}{S S' c:aa}(a:Kp r S S')(b:Kp r S' c):Kp r S c:=#[λj o n h=>b.get j o n (a.get j o n h),Lw a.len b.len]
def Kp.set {r:Ll}{S:aa}{o:O}:Kp r S (S.set r o):=#[λj u n h=>by rw[bz (Ne.symm n)];show h,by simp]
def Kp.push {r:Ll}{S:aa}{o:O}:Kp r S (S++[o]):=#[λj u n h=>aj h,by simp]
def Kp.late {r t:Ll}{S0 S:aa}{o:O}(a:Kp r S0 S)(h:↥S0<=t):Kp r S0 (S.set t o):=
 #[λj u n e=>by
  have:=b7 e;rw[bz ∅];show a.get j u n e,by simpa using a.len]
end
abbrev wO {α:Type}(o:Ln α)(Q:α->Prop):Prop:=match o with
 |some a=>Q a
 |none=>Nb
def cw {α:Type}{o:Ln α}{Q:α->Prop}(h:wO o Q):Wp o Q:=by
 cases o with
 |none=>show h.elim
 |some a=>show#[a,rfl,h]
def IU {α:Type}{o:Ln α}{Q:α->Prop}(h:Wp o Q):wO o Q:=by
 obtain⟨a,rfl,q⟩:=h;show q
def ab {α:Type}{o:Ln α}{a:α}{Q:α->Prop}(e:o=ba a)(h:Q a):wO o Q:=by subst e;show h
abbrev wB:W->(L7->Prop)->Prop
 |.bl k,Q=>Q k
 |_,_=>Nb
abbrev wN:W->(LC->Prop)->Prop
 |.int k,Q=>Q k
 |_,_=>Nb
abbrev wU:W->(Lf W->Prop)->Prop
 |.tup k,Q=>Q k
 |_,_=>Nb
def vQ {w:W}{Q:L7->Prop}(h:wB w Q):∃k,w=.bl k/\Q k:=by cases w<;>first|show h.elim|show#[_,rfl,h]
def EA {w:W}{Q:LC->Prop}(h:wN w Q):∃k,w=.int k/\Q k:=by cases w<;>first|show h.elim|show#[_,rfl,h]
def IV {w:W}{Q:Lf W->Prop}(h:wU w Q):∃k,w=.tup k/\Q k:=by cases w<;>first|show h.elim|show#[_,rfl,h]
abbrev w2:Lf W->(W->W->Prop)->Prop
 |[x,y],Q=>Q x y
 |_,_=>Nb
def IW {xs:Lf W}{Q:W->W->Prop}(h:w2 xs Q):∃x y,xs=[x,y]/\Q x y:=by
 match xs,h with
 |[x,y],h=>show#[x,y,rfl,h]
abbrev wG:Ln W->(W->Prop)->Prop
 |some w,Q=>Q w
 |none,_=>Nb
abbrev wV:Fm->Ll->(W->Prop)->Prop
 |[],_,_=>Nb
 |o::_,0,Q=>wG o Q
 |_::Z,n+1,Q=>wV Z n Q
def AL {Q:W->Prop}:∀{Z:Fm}{i:Ll},wV Z i Q->∃w,Z[i]?=ba (ba w)/\Q w
 |[],i,h=>h.elim
 |some w::Z,0,h=>#[w,rfl,h]
 |none::Z,0,h=>h.elim
 |x::Z,n+1,h=>by
  obtain⟨w,a,q⟩:=AL (Z:=Z) (i:=n) h;show#[w,a,q]
abbrev aQ (M:LW->FF)(f:LW)(n:Ll)(ws:Lf W)(S:aa):Ln (W×aa):=if ↥ws=n then M f ws S else gV
section
variable (M:LW->FF) (fuel:Ll)
mutual
def wE:E->Fm->aa->QW->Prop
 |.c w,_,S,Q=>Q (w,S)
 |.v i,Z,S,Q=>wV Z i λw=>Q (w,S)
 |.op o a b,Z,S,Q=>wE a Z S λp=>wE b Z p.2 λq=>wO (fm o p.1 q.1 q.2) Q
 |.cmp o a b,Z,S,Q=>wE a Z S λp=>wE b Z p.2 λq=>wO (cx o p.1 q.1 q.2) Q
 |.and a b,Z,S,Q=>wE a Z S λp=>wB p.1 λk=>(k=true->wE b Z p.2 Q)/\(k=false->Q (.bl false,p.2))
 |.or a b,Z,S,Q=>wE a Z S λp=>wB p.1 λk=>(k=true->Q (.bl true,p.2))/\(k=false->wE b Z p.2 Q)
 |.not a,Z,S,Q=>wE a Z S λp=>wB p.1 λk=>Q (.bl (!k),p.2)
 |.own f n es,Z,S,Q=>wA es Z S λp=>wO (aQ M f n p.1 p.2) Q
 |.bi b es,Z,S,Q=>wA es Z S λp=>wO (b.fn p.1 p.2) Q
 |.me m o es,Z,S,Q=>wE o Z S λp=>tyOk m.ty p.2 p.1=true/\wA es Z p.2 λq=>wO (m.fn p.1 q.1 q.2) Q
 |.ix a b,Z,S,Q=>wE a Z S λp=>wE b Z p.2 λq=>wO (qr p.1 q.1 q.2) Q
 |.sl a lo hi,Z,S,Q=>wE a Z S λp=>wP lo Z p.2 λq=>wP hi Z q.2 λr=>wO (tf p.1 q.1 r.1 r.2) Q
 |.tup es,Z,S,Q=>wA es Z S λp=>Q (.tup p.1,p.2)
 |.lst es,Z,S,Q=>wA es Z S λp=>Q (.ref ↥p.2,p.2++[.lst p.1])
 |.isi c a,Z,S,Q=>wE a Z S λp=>wO (xG p.2 p.1 c) λk=>Q (.bl k,p.2)
 |.neg a,Z,S,Q=>wE a Z S λp=>wN p.1 λi=>Q (.int (-i),p.2)
 |.dnew,_,S,Q=>Q (.ref ↥S,S++[.dic []])
 |.disp es,Z,S,Q=>wA es Z (S++[.dic []]) λp=>p.2[↥S]?=ba (.dic [])/\wO (dR [] p.1) λU=>Q (.ref ↥S,p.2.set ↥S (.dic U))
 |.comp elt tg it cs cap,Z,S,Q=>Wp (aD M (.comp elt tg it cs cap) Z S) Q
def wT:E->Fm->aa->QB->Prop
 |.cmp o a b,Z,S,Q=>wE a Z S λp=>wE b Z p.2 λq=>wO (cx o p.1 q.1 q.2) λr=>wB r.1 λk=>Q (k,r.2)
 |.and a b,Z,S,Q=>wT a Z S λp=>(p.1=true->wT b Z p.2 Q)/\(p.1=false->Q (false,p.2))
 |.or a b,Z,S,Q=>wT a Z S λp=>(p.1=true->Q (true,p.2))/\(p.1=false->wT b Z p.2 Q)
 |.not a,Z,S,Q=>wT a Z S λp=>Q (!p.1,p.2)
 |.isi c a,Z,S,Q=>wE a Z S λp=>wO (xG p.2 p.1 c) λk=>Q (k,p.2)
 |.c w,Z,S,Q=>Wp (dL M (.c w) Z S) Q
 |.v i,Z,S,Q=>wV Z i λw=>wO (iY S w) λk=>Q (k,S)
 |.op o a b,Z,S,Q=>Wp (dL M (.op o a b) Z S) Q
 |.own f n es,Z,S,Q=>wA es Z S λp=>wO (aQ M f n p.1 p.2) λq=>wO (iY q.2 q.1) λk=>Q (k,q.2)
 |.bi b es,Z,S,Q=>wA es Z S λp=>wO (b.fn p.1 p.2) λq=>wO (iY q.2 q.1) λk=>Q (k,q.2)
 |.me m o es,Z,S,Q=>Wp (dL M (.me m o es) Z S) Q
 |.ix a b,Z,S,Q=>Wp (dL M (.ix a b) Z S) Q
 |.sl a lo hi,Z,S,Q=>Wp (dL M (.sl a lo hi) Z S) Q
 |.tup es,Z,S,Q=>Wp (dL M (.tup es) Z S) Q
 |.lst es,Z,S,Q=>Wp (dL M (.lst es) Z S) Q
 |.neg a,Z,S,Q=>Wp (dL M (.neg a) Z S) Q
 |.dnew,Z,S,Q=>Wp (dL M .dnew Z S) Q
 |.disp es,Z,S,Q=>Wp (dL M (.disp es) Z S) Q
 |.comp elt tg it cs cap,Z,S,Q=>Wp (dL M (.comp elt tg it cs cap) Z S) Q
def wA:Es->Fm->aa->(Lf W×aa->Prop)->Prop
 |.nil,_,S,Q=>Q ([],S)
 |.cons e es,Z,S,Q=>wE e Z S λp=>wA es Z p.2 λq=>Q (p.1::q.1,q.2)
def wP:Ep->Fm->aa->(Ln LC×aa->Prop)->Prop
 |.no,_,S,Q=>Q (gV,S)
 |.yes a,Z,S,Q=>wE a Z S λp=>wN p.1 λi=>Q (ba i,p.2)
end
abbrev sN (K:Fm->aa->Prop)(Q:QO)(p:Out×aa):Prop:=match p.1 with
 |.nx Z=>K Z p.2
 |o=>Q (o,p.2)
mutual
def wS:Sm->Fm->aa->(Fm->aa->Prop)->QO->Prop
 |.set i e,Z,S,K,_=>wE M e Z S λp=>K (Z.set i (ba p.1)) p.2
 |.asg is e,Z,S,K,_=>wE M e Z S λp=>wU p.1 λws=>wO (eP is ws Z) λc=>K c p.2
 |.par i j es,Z,S,K,_=>wA M es Z S λp=>w2 p.1 λx y=>K ((Z.set i (ba x)).set j (ba y)) p.2
 |.put o k e,Z,S,K,_=>wE M e Z S λp=>wE M o Z p.2 λq=>wE M k Z q.2 λr=>wO (jv q.1 r.1 p.1 r.2) λS'=>K Z S'
 |.ex e,Z,S,K,_=>wE M e Z S λp=>K Z p.2
 |.ret e,Z,S,_,Q=>wE M e Z S λp=>Q (.rt p.1,p.2)
 |.pass,Z,S,K,_=>K Z S
 |.ite t a b,Z,S,K,Q=>wT M t Z S λp=>∀d:QO,(∀c S',K c S'->d (.nx c,S'))->(∀o S',(∀c,o≠.nx c)->Q (o,S')->d (o,S'))->(p.1=true->DQ a Z p.2 d)/\(p.1=false->DQ b Z p.2 d)
 |.whl t b,Z,S,K,Q=>Wp (gS M fuel (.whl t b) Z S) (sN K Q)
 |.loop tg it b,Z,S,K,Q=>Wp (gS M fuel (.loop tg it b) Z S) (sN K Q)
def DQ:Ss->Fm->aa->QO->Prop
 |.nil,Z,S,Q=>Q (.nx Z,S)
 |.cons s ss,Z,S,Q=>wS s Z S (λc S'=>DQ ss c S' Q) Q
end
end
abbrev JD:Es->Ll
 |.nil=>0
 |.cons _ es=>JD es+1
mutual
def d7:E->L7
 |.c _|.v _|.comp _ _ _ _ _|.dnew=>true
 |.op _ a b|.cmp _ a b|.and a b|.or a b|.ix a b=>d7 a&&d7 b
 |.neg a|.not a|.isi _ a=>d7 a
 |.own _ n es=>JD es==n&&n0 es
 |.bi _ es|.disp es=>n0 es
 |.me _ o es=>d7 o&&n0 es
 |.sl a lo hi=>d7 a&&Ky lo&&Ky hi
 |.tup es|.lst es=>decide (JD es<=1000)&&n0 es
def n0:Es->L7
 |.nil=>true
 |.cons e es=>d7 e&&n0 es
def Ky:Ep->L7
 |.no=>true
 |.yes e=>d7 e
end
mutual
def KW:Sm->L7
 |.set _ e|.asg _ e|.ex e|.ret e=>d7 e
 |.put o k e=>d7 o&&d7 k&&d7 e
 |.par _ _ es=>n0 es
 |.ite t a b=>d7 t&&iI a&&iI b
 |_=>true
def iI:Ss->L7
 |.nil=>true
 |.cons s ss=>KW s&&iI ss
end
section
variable{M:LW->FF}{fuel:Ll}
def jF:∀{es:Es}{Z:Fm}{S S':aa}{ws:Lf W},du M es Z S=ba (ws,S')->↥ws=JD es
 |.nil,Z,S,S',ws,h=>by dsimp only[du]at h;cases h;rfl
 |.cons e es,Z,S,S',ws,h=>by
  dsimp only[du]at h;unfold dW at h;split at h
  ·split at h
   ·rename_i a;cases h;rw[L3,jF a];rfl
   ·cases h
  ·cases h
def AM {n:Ll}(h:decide (n<=1000)=true):n<=sizeLine:=Lw (Mq h) (by rw[MF];decide)
def dU {a b:L7}(h:(a&&b)=true):a=true:=by cases a<;>first|rfl|cases h
def fL {a b:L7}(h:(a&&b)=true):b=true:=by cases a<;>first|show h|cases h
mutual
theorem bu:∀(e:E) {Z:Fm}{S:aa}{Q:QW},d7 e=true->wE M e Z S Q->Wp (aD M e Z S) Q
 |.c w,Z,S,Q,k,h=>La.mpr h
 |.v i,Z,S,Q,k,h=>KU.mpr (AL h)
 |.op o a b,Z,S,Q,k,h=>Kn.mpr ((bu a (dU k) h).mono λp d=>(bu b (fL k) d).mono λq g=>cw g)
 |.cmp o a b,Z,S,Q,k,h=>Et.mpr ((bu a (dU k) h).mono λp d=>(bu b (fL k) d).mono λq g=>cw g)
 |.and a b,Z,S,Q,k,h=>Iw.mpr ((bu a (dU k) h).mono λp d=>let ⟨c,e,h1,h2⟩:=vQ d;#[c,e,λz=>bu b (fL k) (h1 z),h2])
 |.or a b,Z,S,Q,k,h=>Kq.mpr ((bu a (dU k) h).mono λp d=>let ⟨c,e,h1,h2⟩:=vQ d;#[c,e,h1,λz=>bu b (fL k) (h2 z)])
 |.not a,Z,S,Q,k,h=>Ix.mpr ((bu a k h).mono λp d=>vQ d)
 | .own f n es,Z,S,Q,k,h=>Eu.mpr (by
   obtain⟨⟨ws,S1⟩,e,g⟩:=iO es (fL k) h;have hl:↥ws=n:=(jF e).trans (eq_of_beq (dU k));simp only[aQ,LU hl]at g;show#[_,e,hl,cw g])
 |.bi b es,Z,S,Q,k,h=>Iy.mpr ((iO es k h).mono λp d=>cw d)
 |.me m o es,Z,S,Q,k,h=>Kr.mpr ((bu o (dU k) h).mono λp d=>#[d.1,(iO es (fL k) d.2).mono λq g=>cw g])
 |.ix a b,Z,S,Q,k,h=>Ko.mpr ((bu a (dU k) h).mono λp d=>(bu b (fL k) d).mono λq g=>cw g)
 |.sl a lo hi,Z,S,Q,k,h=>Ks.mpr ((bu a (dU (dU k)) h).mono λp d=>(EB lo (fL (dU k)) d).mono λq g=>(EB hi (fL k) g).mono λr s=>cw s)
 | .tup es,Z,S,Q,k,h=>IA.mpr (by
   obtain⟨⟨ws,S1⟩,e,g⟩:=iO es (fL k) h;show#[_,e,by rw[jF e];show AM (dU k),g])
 | .lst es,Z,S,Q,k,h=>IB.mpr (by
   obtain⟨⟨ws,S1⟩,e,g⟩:=iO es (fL k) h;show#[_,e,by rw[jF e];show AM (dU k),g])
 |.isi c a,Z,S,Q,k,h=>Ev.mpr ((bu a k h).mono λp d=>cw d)
 |.neg a,Z,S,Q,k,h=>IC.mpr ((bu a k h).mono λp d=>EA d)
 |.dnew,Z,S,Q,k,h=>#[_,rfl,h]
 |.disp es,Z,S,Q,k,h=>Gf.mpr ((iO es k h).mono λp d=>#[d.1,let ⟨U,e,q⟩:=cw d.2;#[U,e,q]])
 |.comp l tg it t j,Z,S,Q,k,h=>h
theorem iO:∀(es:Es) {Z:Fm}{S:aa}{Q:Lf W×aa->Prop},n0 es=true->wA M es Z S Q->Wp (du M es Z S) Q
 |.nil,Z,S,Q,k,h=>ID.mpr h
 |.cons e es,Z,S,Q,k,h=>Gg.mpr ((bu e (dU k) h).mono λp d=>iO es (fL k) d)
theorem EB:∀(e:Ep) {Z:Fm}{S:aa}{Q:Ln LC×aa->Prop},Ky e=true->wP M e Z S Q->Wp (vE M e Z S) Q
 |.no,Z,S,Q,k,h=>Kt.mpr h
 |.yes a,Z,S,Q,k,h=>Iz.mpr ((bu a k h).mono λp d=>EA d)
theorem kQ:∀(e:E) {Z:Fm}{S:aa}{Q:QB},d7 e=true->wT M e Z S Q->Wp (dL M e Z S) Q
 |.cmp o a b,Z,S,Q,k,h=>IF.mpr (Et.mpr ((bu a (dU k) h).mono λp d=>(bu b (fL k) d).mono λq g=>(cw g).mono λr s=>vQ s))
 |.and a b,Z,S,Q,k,h=>IG.mpr ((kQ a (dU k) h).mono λp d=>#[λz=>kQ b (fL k) (d.1 z),d.2])
 |.or a b,Z,S,Q,k,h=>Ku.mpr ((kQ a (dU k) h).mono λp d=>#[d.1,λz=>kQ b (fL k) (d.2 z)])
 |.not a,Z,S,Q,k,h=>IH.mpr (kQ a k h)
 |.isi c a,Z,S,Q,k,h=>IJ.mpr (Ev.mpr ((bu a k h).mono λp d=>let ⟨b,e,q⟩:=cw d;#[b,e,b,rfl,q]))
 |.v i,Z,S,Q,k,h=>Lb.mpr (KU.mpr (let ⟨w,e,q⟩:=AL h;#[w,e,cw q]))
 | .own f n es,Z,S,Q,k,h=>II.mpr (Eu.mpr (by
   obtain⟨⟨ws,S1⟩,e,g⟩:=iO es (fL k) h;have hl:↥ws=n:=(jF e).trans (eq_of_beq (dU k));simp only[aQ,LU hl]at g;show#[_,e,hl,(cw g).mono λq g=>cw g]))
 |.c w,Z,S,Q,k,h=>h
 |.op o a b,Z,S,Q,k,h=>h
 |.bi b es,Z,S,Q,k,h=>Kv.mpr (Iy.mpr ((iO es k h).mono λp d=>(cw d).mono λq g=>cw g))
 |.me m o es,Z,S,Q,k,h=>h
 |.ix a b,Z,S,Q,k,h=>h
 |.sl a lo hi,Z,S,Q,k,h=>h
 |.tup es,Z,S,Q,k,h=>h
 |.lst es,Z,S,Q,k,h=>h
 |.neg a,Z,S,Q,k,h=>h
 |.dnew,Z,S,Q,k,h=>h
 |.disp es,Z,S,Q,k,h=>h
 |.comp l tg it t j,Z,S,Q,k,h=>h
end
mutual
theorem IX:∀(s:Sm) {Z:Fm}{S:aa}{K:Fm->aa->Prop}{Q:QO},KW s=true->wS M fuel s Z S K Q->Wp (gS M fuel s Z S) (sN K Q)
 |.set i e,Z,S,K,Q,k,h=>Gi.mpr (bu e k h)
 |.asg is e,Z,S,K,Q,k,h=>Gj.mpr ((bu e k h).mono λp hp=>let ⟨ws,e1,h1⟩:=IV hp;let ⟨Z',e2,h2⟩:=cw h1;#[ws,Z',e1,e2,h2])
 |.par i j es,Z,S,K,Q,k,h=>Gk.mpr ((iO es k h).mono λp hp=>IW hp)
 |.put o i e,Z,S,K,Q,k,h=>Gm.mpr ((bu e (fL k) h).mono λp hp=>(bu o (dU (dU k)) hp).mono λq hq=>(bu i (fL (dU k)) hq).mono λr hr=>cw hr)
 |.ex e,Z,S,K,Q,k,h=>IL.mpr (bu e k h)
 |.ret e,Z,S,K,Q,k,h=>Gn.mpr (bu e k h)
 |.pass,Z,S,K,Q,k,h=>#[_,rfl,h]
 | .ite t a b,Z,S,K,Q,k,h=>Go.mpr ((kQ t (dU (dU k)) h).mono λp hp=>by
   obtain⟨h1,h2⟩:=hp (sN K Q) (λZ' S' z=>z) (λo S' hn z=>by cases o<;>first|show z|show absurd rfl (hn _))
   show#[λz=>kj a (fL (dU k)) (h1 z),λz=>kj b (fL k) (h2 z)])
 |.whl t b,Z,S,K,Q,k,h=>h
 |.loop tg it b,Z,S,K,Q,k,h=>h
theorem kj:∀(ss:Ss) {Z:Fm}{S:aa}{Q:QO},iI ss=true->DQ M fuel ss Z S Q->Wp (gT M fuel ss Z S) Q
 |.nil,Z,S,Q,k,h=>IK.mpr h
 | .cons s ss,Z,S,Q,k,h=>Gh.mpr ((IX s (dU k) h).mono λp hp=>by
   obtain⟨o,S1⟩:=p;cases o with
   |nx Z'=>show#[λZ2 e=>by cases e;show kj ss (fL k) hp,λz=>absurd rfl (z Z')]
   |_=>show#[λZ2 e=>(by cases e),λ_=>hp])
end
structure wZ (M:LW->FF)(fuel:Ll)(ss:Ss)(Z:Fm)(S:aa)(Q:QO):Prop where
 out:DQ M fuel ss Z S Q
def IY {ss:Ss}{Z:Fm}{S:aa}{Q:QO}:DQ M fuel ss Z S Q=wZ M fuel ss Z S Q:=propext #[λh=>#[h],λh=>h.out]
def Gr {defs:Lf (LW×Df)}{d:Ll}{f:LW}{n:Ll}{ws:Lf W}{df:Df}{S:aa}{Q:QW}(h:defs.lookup f=ba df)(e:↥ws=n)(hl:↥ws=↥df.ps)(ok:iI df.body=true)
  (c:∀a:QO,(∀w S',Q (w,S')->a (.rt w,S'))->wZ (ak defs fuel d) fuel df.body (gp df.N ws) S a):wO (aQ (ak defs fuel (d+1)) f n ws S) Q:=by
 unfold aQ;rw[LU e];show IU (xP h hl ((kj _ ok (c (λp=>match p.1 with|.rt w=>Q (w,p.2)|_=>Nb) λw S' q=>q).out).mono λp b=>by
  obtain⟨o,S1⟩:=p;cases o<;>first|show b|show b.elim))
end
section
variable{M:LW->FF}{fuel:Ll}{Z:Fm}{S:aa}{K:Fm->aa->Prop}{Q:QO}
abbrev yq (M:LW->FF)(fuel:Ll)(b:Ss)(Z:Fm)(S:aa)(I:Fm->aa->Prop)(Q:QO):Prop:=∀a:QO,(∀c S',I c S'->a (.nx c,S'))->(∀w S',Q (.rt w,S')->a (.rt w,S'))->wZ M fuel b Z S a
def ja {tg:Tg}{it:Ie}{b:Ss}{mi:MI}{S1:aa}{xs:Lf W}(I:Ll->Fm->aa->Prop)(ok:iI b=true)(hi:j8 M it Z S=ba (mi,S1))(d:∀i Z S,I i Z S->mi.at S i=ba xs[i]?)(hl:mi.len S1=ba ↥xs)(e:I 0 Z S1)
  (a:∀(i:Ll) (w:W) (Z:Fm) (S:aa),xs[i]?=ba w->I i Z S->wO (gE tg w Z S) λq=>yq M fuel b q.1 q.2 (I (i+1)) Q) (c:∀Z S,I ↥xs Z S->K Z S):Wp (gS M fuel (.loop tg it b) Z S) (sN K Q):=by
 rw[gS,IM];show#[_,hi,↥xs,hl,?_];show ki (Q:=sN K Q) I d (λi w Z S f g=>?_) (λZ S h=>c Z S h) _ 0 Z S1 ∅ e
 show(cw (a i w Z S f g)).mono λq j=>kj b ok (wZ.out (j _ (λ_ _ h=>h) λ_ _ h=>h))
def bK {e:E}{Q:QW}(ok:d7 e=true)(h:wE M e Z S Q):∃w S',aD M e Z S=ba (w,S')/\Q (w,S'):=let ⟨⟨w,S'⟩,a,b⟩:=bu e ok h;#[w,S',a,b]
def cO {g:Ll}{e:E}{b:Ss}(j:LC)(I:Ll->Fm->aa->Prop)(n:d7 e=true)(ok:iI b=true)(m : -(2^62)<=j/\j<2^62)(l:wE M e Z S λp=>p.1=.int j/\I 0 Z p.2)
  (a:∀(i:Ll) (Z:Fm) (S:aa),(i:LC)<j->I i Z S->yq M fuel b (Z.set g (ba (.int i))) S (I (i+1)) Q) (c:∀Z S,I j.toNat Z S->K Z S):Wp (gS M fuel (.loop (.nm g) (.rng #v[e]) b) Z S) (sN K Q):=by
 obtain⟨w,S1,h,rfl,k⟩:=bK n l;have hl:(dw 0 j.toNat).length=j.toNat:=by simp[dw]
 show ja (mi:=.its (dw 0 j.toNat)) (S1:=S1) (xs:=dw 0 j.toNat) I ok ?_ (λ_ _ _ _=>rfl) rfl k (λi w Z S d f=>?_) λZ S f=>c Z S (hl▸f)
 ·simp only[j8,du,dW,jC,ue,h];rw[LU m]
 ·rw[eQ]at d;split at d
  ·rename_i hk;cases d;rw[RZ];show a i Z S ∅ f
  ·cases d
def for_tup {tg:Tg}{e:E}{b:Ss}(xs:Lf W)(I:Ll->Fm->aa->Prop)(h:d7 e=true)(ok:iI b=true)(g:wE M e Z S λp=>p.1=.tup xs/\I 0 Z p.2)
  (a:∀(i:Ll) (w:W) (Z:Fm) (S:aa),xs[i]?=ba w->I i Z S->wO (gE tg w Z S) λq=>yq M fuel b q.1 q.2 (I (i+1)) Q) (c:∀Z S,I ↥xs Z S->K Z S):Wp (gS M fuel (.loop tg (.seq e) b) Z S) (sN K Q):=by
 obtain⟨w,S1,d,rfl,f⟩:=bK h g;show ja (mi:=.its xs) (S1:=S1) I ok (by simp only[j8,fQ,d]) (λ_ _ _ _=>rfl) rfl f a c
def jG {tg:Tg}{e:E}{b:Ss}(t:Ll)(xs:Lf W)(I:Ll->Fm->aa->Prop)(k:d7 e=true)(ok:iI b=true)(j:wE M e Z S λp=>p.1=.ref t/\I 0 Z p.2)(a:∀i Z S,I i Z S->S[t]?=ba (.lst xs))
  (c:∀(i:Ll) (w:W) (Z:Fm) (S:aa),xs[i]?=ba w->I i Z S->wO (gE tg w Z S) λq=>yq M fuel b q.1 q.2 (I (i+1)) Q) (d:∀Z S,I ↥xs Z S->K Z S):Wp (gS M fuel (.loop tg (.seq e) b) Z S) (sN K Q):=by
 obtain⟨w,S1,g,rfl,f⟩:=bK k j;show ja (mi:=.live t) (S1:=S1) I ok (by simp only[j8,fQ,g,ay (a _ _ _ f)]) (λi Z S h=>by simp only[MI.at,ay (a _ _ _ h)]) (by simp only[MI.len,ay (a _ _ _ f),MA]) f c d
def AN {t:E}{b:Ss}(I:Ll->Fm->aa->Prop)(m:Ll)(i:d7 t=true)(ok:iI b=true)(g:m<fuel)(d:I m Z S)
  (a:∀m Z S,I m Z S->wT M t Z S λk=>(k.1=true->∃c,m=c+1/\yq M fuel b Z k.2 (I c) Q)/\(k.1=false->K Z k.2)):Wp (gS M fuel (.whl t b) Z S) (sN K Q):=by
 rw[gS];show ma (Q:=sN K Q) I (λm Z S f=>(kQ t i (a m Z S f)).mono λk hk=>#[λz=>?_,λz=>hk.2 z]) fuel m Z S g d
 obtain⟨c,e,h⟩:=hk.1 z;show#[c,e,kj b ok (wZ.out (h _ (λ_ _ h=>h) λ_ _ h=>h))]
abbrev wC (M:LW->FF):Es->Fm->aa->QB->Prop
 |.nil,_,S,Q=>Q (true,S)
 |.cons e .nil,Z,S,Q=>wT M e Z S Q
 |.cons _ (.cons _ _),_,_,_=>Nb
def EC {a:Es}{Q:QB}(ok:n0 a=true)(h:wC M a Z S Q):Wp (DI M a Z S) Q:=by
 match a,h,ok with
 |.nil,h,_=>show IN.mpr h
 |.cons e .nil,h,ok=>show IP.mpr (kQ e (dU ok) h)
abbrev gX (M:LW->FF)(a:E)(b:Es)(Z:Fm)(S:aa)(G:W->Fm->aa->Prop)(N:Fm->aa->Prop):Prop:=wC M b Z S λk=>(k.1=true->wE M a Z k.2 λy=>G y.1 Z y.2)/\(k.1=false->N Z k.2)
def km {a:E}{tg:Tg}{it:Ie}{e:Es}{c:Lf (Ln Ll)}{mi:MI}{S1:aa}{xs:Lf W}{Q:QW}(I:Ll->Lf W->Fm->aa->Prop)(m:d7 a=true)(oc:n0 e=true)(hi:j8 M it Z S=ba (mi,S1))(f:∀i ys Z S,I i ys Z S->mi.at S i=ba xs[i]?)(hl:mi.len S1=ba ↥xs)(h:I 0 [] (fH c Z) S1)
  (b:∀(i:Ll) (w:W) (ys:Lf W) (Z:Fm) (S:aa),xs[i]?=ba w->I i ys Z S->wO (gE tg w Z S) λq=>gX M a e q.1 q.2 (λy=>I (i+1) (ys++[y])) (I (i+1) ys))
  (d:∀ys Z S,I ↥xs ys Z S->↥ys<=sizeLine/\Q (.ref ↥S,S++[.lst ys])):Wp (aD M (.comp a tg it e c) Z S) Q:=by
 rw[AI];show#[_,hi,↥xs,hl,?_];show(d6 (xs:=xs) (Q:=λq=>↥q.1<=sizeLine/\Q (.ref ↥q.2,q.2++[.lst q.1])) I f (λi w ys Z S j l=>?_) d ↥xs 0 [] _ S1 ∅ h).mono λq g=>by simpa using g
 show(cw (b i w ys Z S j l)).mono λq g=>(EC oc g).mono λk hk=>#[λz=>bu a m (hk.1 z),hk.2]
def dD {a e:E}{k:Ll}{g:Es}{c:Lf (Ln Ll)}{Q:QW}(j:LC)(I:Ll->Lf W->Fm->aa->Prop)(r:d7 e=true)(q:d7 a=true)(oc:n0 g=true)(o : -(2^62)<=j/\j<2^62)(n:wE M e Z S λp=>p.1=.int j/\I 0 [] (fH c Z) p.2)
  (b:∀(i:Ll) (ys:Lf W) (Z:Fm) (S:aa),(i:LC)<j->I i ys Z S->gX M a g (Z.set k (ba (.int i))) S (λy=>I (i+1) (ys++[y])) (I (i+1) ys))
  (d:∀ys Z S,I j.toNat ys Z S->↥ys<=sizeLine/\Q (.ref ↥S,S++[.lst ys])):Wp (aD M (.comp a (.nm k) (.rng #v[e]) g c) Z S) Q:=by
 obtain⟨w,S1,l,rfl,m⟩:=bK r n;have hl:(dw 0 j.toNat).length=j.toNat:=by simp[dw]
 show km (mi:=.its (dw 0 j.toNat)) (S1:=S1) (xs:=dw 0 j.toNat) I q oc ?_ (λ_ _ _ _ _=>rfl) rfl m (λi w ys Z S f h=>?_) λys Z S h=>d ys Z S (hl▸h)
 ·simp only[j8,du,dW,jC,ue,l];rw[LU o]
 ·rw[eQ]at f;split at f
  ·rename_i hk;cases f;rw[RZ];show b i ys Z S ∅ h
  ·cases f
def vR {a e:E}{tg:Tg}{f:Es}{c:Lf (Ln Ll)}{Q:QW}(xs:Lf W)(I:Ll->Lf W->Fm->aa->Prop)(l:d7 e=true)(k:d7 a=true)(oc:n0 f=true)(j:wE M e Z S λp=>p.1=.tup xs/\I 0 [] (fH c Z) p.2)
  (b:∀(i:Ll) (w:W) (ys:Lf W) (Z:Fm) (S:aa),xs[i]?=ba w->I i ys Z S->wO (gE tg w Z S) λq=>gX M a f q.1 q.2 (λy=>I (i+1) (ys++[y])) (I (i+1) ys))
  (d:∀ys Z S,I ↥xs ys Z S->↥ys<=sizeLine/\Q (.ref ↥S,S++[.lst ys])):Wp (aD M (.comp a tg (.seq e) f c) Z S) Q:=by
 obtain⟨w,S1,g,rfl,h⟩:=bK l j;show km (mi:=.its xs) (S1:=S1) I k oc (by simp only[j8,fQ,g]) (λ_ _ _ _ _=>rfl) rfl h b d
def pT {a e:E}{tg:Tg}{g:Es}{d:Lf (Ln Ll)}{Q:QW}(t:Ll)(xs:Lf W)(I:Ll->Lf W->Fm->aa->Prop)(n:d7 e=true)(m:d7 a=true)(oc:n0 g=true)(l:wE M e Z S λp=>p.1=.ref t/\I 0 [] (fH d Z) p.2)(b:∀i ys Z S,I i ys Z S->S[t]?=ba (.lst xs))
  (c:∀(i:Ll) (w:W) (ys:Lf W) (Z:Fm) (S:aa),xs[i]?=ba w->I i ys Z S->wO (gE tg w Z S) λq=>gX M a g q.1 q.2 (λy=>I (i+1) (ys++[y])) (I (i+1) ys))
  (f:∀ys Z S,I ↥xs ys Z S->↥ys<=sizeLine/\Q (.ref ↥S,S++[.lst ys])):Wp (aD M (.comp a tg (.seq e) g d) Z S) Q:=by
 obtain⟨w,S1,k,rfl,j⟩:=bK n l;show km (mi:=.live t) (S1:=S1) I m oc (by simp only[j8,fQ,k,ay (b _ _ _ _ j)]) (λi ys Z S h=>by simp only[MI.at,ay (b _ _ _ _ h)]) (by simp only[MI.len,ay (b _ _ _ _ j),MA]) j c f
def DR {b a:E}{tg:Tg}{f:Es}{d:Lf (Ln Ll)}{Q:QW}(xs:Lf W)(I:Ll->Lf W->Fm->aa->Prop)(o:d7 a=true)(r:d7 b=true)(oc:n0 f=true)(l:wE M a Z S λp=>G8 p.1=ba xs/\I 0 [] (fH d Z) p.2)
  (c:∀(i:Ll) (x:W) (ys:Lf W) (Z:Fm) (S:aa),xs[i]?=ba x->I i ys Z S->wO (gE tg (.tup [.int i,x]) Z S) λq=>gX M b f q.1 q.2 (λy=>I (i+1) (ys++[y])) (I (i+1) ys))
  (e:∀ys Z S,I ↥xs ys Z S->↥ys<=sizeLine/\Q (.ref ↥S,S++[.lst ys])):Wp (aD M (.comp b tg (.enu #v[a]) f d) Z S) Q:=by
 obtain⟨x,S1,h,k,j⟩:=bK o l;have hl:(pJ xs).length=↥xs:=by simp[pJ]
 show km (mi:=.its (pJ xs)) (S1:=S1) (xs:=pJ xs) I r oc (by simp only[j8,du,dW,jC,DE,h,k]) (λ_ _ _ _ _=>rfl) rfl j (λi w ys Z S m g=>?_) λys Z S g=>e ys Z S (hl▸g)
 obtain⟨y,n,rfl⟩:=rK m;show c i y ys Z S n g
def st {s:Sm}{ss:Ss}(h:wS M fuel s Z S (λa S'=>wZ M fuel ss a S' Q) Q):wZ M fuel (.cons s ss) Z S Q:=#[by
 delta DQ;simp only[IY];show h]
def bX (h:Q (.nx Z,S)):wZ M fuel .nil Z S Q:=#[h]
def aE {t:L7}{a b:Ss}{Q Q0:QO}{K:Fm->aa->Prop}(h:t=true->∀c:QO,(∀d S',K d S'->c (.nx d,S'))->(∀w S',Q (.rt w,S')->c (.rt w,S'))->wZ M fuel a Z S c)(i:t=false->∀c:QO,(∀d S',K d S'->c (.nx d,S'))->(∀w S',Q (.rt w,S')->c (.rt w,S'))->wZ M fuel b Z S c) :
  ∀c:QO,(∀d S',K d S'->c (.nx d,S'))->(∀o S',(∀d,o≠.nx d)->Q (o,S')->c (o,S'))->(t=true->DQ M fuel a Z S c)/\(t=false->DQ M fuel b Z S c):=
 λc f g=>#[λe=>(h e c f λw S'=>g (.rt w) S' (λ_ z=>nomatch z)).out,λe=>(i e c f λw S'=>g (.rt w) S' (λ_ z=>nomatch z)).out]
end
abbrev eS:Ss:=
 #v[.ret (.lst #v[.bi .list #v[.v 0],.c (.int 0),.c (.int 0),.c (.int 1),.c (.int 0)])]
abbrev cY:Ss:=
 #v[.ite (.and (.cmp .eq (.ix (.v 0) (.c (.int 2))) (.c (.int 0))) (.cmp .lt (.ix (.v 0) (.c (.int 1))) (.bi .len #v[.ix (.v 0) (.c (.int 0))]))) #v[.set 2 (.ix (.ix (.v 0) (.c (.int 0))) (.ix (.v 0) (.c (.int 1)))),.put (.v 0) (.c (.int 1)) (.op .add (.ix (.v 0) (.c (.int 1))) (.c (.int 1))),.ite (.cmp .ge (.v 2) (.op .pow (.c (.int 10)) (.c (.int 18)))) #v[.put (.v 0) (.c (.int 2)) (.v 2)] #v[.put (.v 0) (.c (.int 3)) (.op .mod (.op .add (.op .add (.op .mul (.ix (.v 0) (.c (.int 3))) (.c (.int 40013))) (.op .mod (.v 2) (.c (.int 1000003)))) (.c (.int 1))) (.c (.int 2147483647)))]] .nil,.ite (.cmp .gt (.ix (.v 0) (.c (.int 2))) (.c (.int 0))) #v[.set 3 (.op .mod (.ix (.v 0) (.c (.int 2))) (.v 1)),.put (.v 0) (.c (.int 2)) (.op .fdiv (.ix (.v 0) (.c (.int 2))) (.v 1)),.ret (.v 3)] .nil,.put (.v 0) (.c (.int 4)) (.op .add (.ix (.v 0) (.c (.int 4))) (.c (.int 1))),.put (.v 0) (.c (.int 3)) (.op .mod (.op .add (.op .add (.op .mul (.ix (.v 0) (.c (.int 3))) (.c (.int 48271))) (.c (.int 12820163))) (.ix (.v 0) (.c (.int 4)))) (.c (.int 2147483647))),.ret (.op .mod (.op .fdiv (.op .mod (.op .mul (.op .add (.op .mod (.ix (.v 0) (.c (.int 3))) (.c (.int 65521))) (.c (.int 1))) (.op .add (.op .fdiv (.ix (.v 0) (.c (.int 3))) (.c (.int 65521))) (.c (.int 7919)))) (.c (.int 1000003))) (.c (.int 7))) (.v 1))]
abbrev dE:Ss:=
 #v[.ret (.me .join (.c (.str "")) #v[.comp (.ix (.c (.str "abcdefghijklmnopqrstuvwxyz")) (.own "_law_pick" 2 #v[.v 2,.c (.int 26)])) (.nm 1) (.rng #v[.v 1]) .nil [gV,gV,ba 0]])]
abbrev gr:Ss:=
 #v[.ite (.cmp .ne (.v 1) (.c (.str ""))) #v[.ret (.op .add (.v 1) (.own "_law_letters" 2 #v[.v 0,.op .add (.c (.int 1)) (.own "_law_pick" 2 #v[.v 0,.c (.int 2)])]))] .nil,.ite (.cmp .eq (.own "_law_pick" 2 #v[.v 0,.c (.int 6)]) (.c (.int 0))) #v[.set 2 (.lst #v[.c (.str "markss"),.c (.str "mark"),.c (.str "way"),.c (.str "wayss"),.c (.str "bars"),.c (.str "ba"),.c (.str "somex")]),.set 2 (.op .add (.v 2) (.lst #v[.c (.str "eachx"),.c (.str "note"),.c (.str "no"),.c (.str "ands"),.c (.str "ors"),.c (.str "o"),.c (.str "iss")])),.ret (.ix (.v 2) (.own "_law_pick" 2 #v[.v 0,.c (.int 14)]))] .nil,.ret (.own "_law_letters" 2 #v[.v 0,.op .add (.c (.int 1)) (.own "_law_pick" 2 #v[.v 0,.c (.int 8)])])]
abbrev da:Ss:=
 #v[.set 2 (.c (.str "")),.ite (.cmp .eq (.own "_law_pick" 2 #v[.v 0,.c (.int 3)]) (.c (.int 0))) #v[.set 2 (.own "_law_letters" 2 #v[.v 0,.op .add (.c (.int 1)) (.own "_law_pick" 2 #v[.v 0,.c (.int 6)])])] .nil,.set 3 (.lst #v[.c (.str "marks"),.c (.str "ways"),.c (.str "bar"),.c (.str "some"),.c (.str "each"),.c (.str "not"),.c (.str "and"),.c (.str "or"),.c (.str "is")]),.loop (.nm 4) (.rng #v[.v 1]) #v[.set 5 (.own "_law_name" 2 #v[.v 0,.v 2]),.set 6 (.c (.int 0)),.whl (.cmp .isin (.v 5) (.v 3)) #v[.set 5 (.op .mul (.ix (.c (.str "abcdefghijklmnopqrstuvwxyz")) (.op .mod (.v 6) (.c (.int 26)))) (.op .add (.c (.int 1)) (.op .fdiv (.v 6) (.c (.int 26))))),.set 6 (.op .add (.v 6) (.c (.int 1)))],.ex (.me .append (.v 3) #v[.v 5])],.ret (.bi .tuple #v[.sl (.v 3) (.yes (.c (.int 9))) .no])]
abbrev dF:Ss:=
 #v[.ite (.cmp .lt (.v 3) (.v 2)) #v[.ret (.ix (.ix (.ix (.v 1) (.v 2)) (.c (.int 1))) (.v 3))] .nil,.ret (.ix (.ix (.ix (.v 0) (.c (.int 1))) (.ix (.ix (.ix (.v 1) (.v 3)) (.c (.int 1))) (.v 2))) (.c (.int 1)))]
abbrev gv:Ss:=
 #v[.set 3 (.lst .nil),.loop (.nm 4) (.rng #v[.bi .len #v[.v 2]]) #v[.set 5 (.ix (.v 2) (.v 4)),.ex (.me .append (.v 3) #v[.tup #v[.ix (.ix (.v 1) (.v 5)) (.c (.int 0)),.bi .tuple #v[.comp (.own "_law_between" 4 #v[.v 3,.v 4,.v 2,.v 1]) (.nm 1) (.seq (.sl (.v 2) .no (.yes (.v 4)))) .nil [gV,gV,ba 5,ba 0,ba 1]]]])],.ret (.bi .tuple #v[.v 3])]
abbrev gY:Ss:=
 #v[.ret (.lst #v[.tup #v[.c (.int 0),.c (.int 1),.c (.int 2)],.tup #v[.c (.int 0),.c (.int 2),.c (.int 1)],.tup #v[.c (.int 1),.c (.int 0),.c (.int 2)],.tup #v[.c (.int 1),.c (.int 2),.c (.int 0)],.tup #v[.c (.int 2),.c (.int 0),.c (.int 1)],.tup #v[.c (.int 2),.c (.int 1),.c (.int 0)]])]
abbrev d8:Ss:=
 #v[.ret (.bi .min #v[.comp (.own "_law_part" 3 #v[.v 2,.v 3,.v 1]) (.nm 1) (.seq (.own "_law_turns" 0 .nil)) .nil [gV,gV,ba 0,ba 1]])]
abbrev fw:Ss:=
 #v[.set 2 (.ix (.lst #v[.lst #v[.tup #v[.c (.int 0)]],.lst #v[.tup #v[.c (.int 0),.c (.int 1)],.tup #v[.c (.int 1),.c (.int 0)]],.lst #v[.tup #v[.c (.int 0),.c (.int 1),.c (.int 2)],.tup #v[.c (.int 1),.c (.int 0),.c (.int 2)],.tup #v[.c (.int 0),.c (.int 2),.c (.int 1)]]]) (.op .sub (.v 1) (.c (.int 1)))),.ret (.ix (.v 2) (.own "_law_pick" 2 #v[.v 0,.bi .len #v[.v 2]]))]
abbrev dG:Ss:=
 #v[.set 4 (.own "_law_names" 2 #v[.v 0,.op .add (.v 1) (.bi .len #v[.v 2])]),.set 5 (.bi .tuple #v[.comp (.tup #v[.ix (.v 4) (.op .add (.v 3) (.v 1)),.ix (.v 2) (.v 1)]) (.nm 1) (.rng #v[.bi .len #v[.v 2]]) .nil [gV,gV,ba 2,ba 1,ba 4]]),.ret (.tup #v[.sl (.v 4) .no (.yes (.v 1)),.v 5,.bi .tuple #v[.bi .sorted #v[.v 3]]])]
abbrev cr:Ss:=
 #v[.set 3 (.lst .nil),.loop (.nm 4) (.rng #v[.c (.int 3)]) #v[.ex (.me .append (.v 3) #v[.tup #v[.own "_law_pick" 2 #v[.v 0,.v 1],.bi .tuple #v[.comp (.own "_law_pick" 2 #v[.v 2,.v 3]) (.nm 1) (.rng #v[.v 4]) .nil [gV,gV,ba 0,ba 2]]]])],.ret (.bi .tuple #v[.v 3])]
abbrev fA:Ss:=
 #v[.set 1 (.lst #v[.tup #v[.c (.int 1),.c (.int 1)],.tup #v[.c (.int 2),.c (.int 1)],.tup #v[.c (.int 3),.c (.int 1)],.tup #v[.c (.int 1),.c (.int 2)],.tup #v[.c (.int 1),.c (.int 2)],.tup #v[.c (.int 2),.c (.int 2)],.tup #v[.c (.int 2),.c (.int 2)],.tup #v[.c (.int 3),.c (.int 2)],.tup #v[.c (.int 1),.c (.int 3)],.tup #v[.c (.int 1),.c (.int 3)],.tup #v[.c (.int 2),.c (.int 3)]]),.ret (.ix (.v 1) (.own "_law_pick" 2 #v[.v 0,.c (.int 11)]))]
abbrev dk:Ss:=
 #v[.asg [1,2] (.own "_law_sizes" 1 #v[.v 0]),.set 3 (.own "_law_rule_of" 4 #v[.v 0,.v 1,.own "_law_backs" 2 #v[.v 0,.v 2],.tup .nil]),.set 4 .dnew,.loop (.nm 5) (.rng #v[.own "_law_pick" 2 #v[.v 0,.c (.int 9)]]) #v[.put (.v 4) (.own "_law_figure" 2 #v[.v 3,.own "_law_free_three" 3 #v[.v 0,.v 1,.v 2]]) (.c (.bl true))],.ret (.tup #v[.ix (.v 3) (.c (.int 0)),.ix (.v 3) (.c (.int 1)),.bi .tuple #v[.bi .sorted #v[.v 4]]])]
abbrev bY:Ss:=
 #v[.set 1 (.lst #v[.tup #v[.tup #v[.c (.int 1),.c (.int 0)],.disp #v[.tup #v[.c (.int 0),.c (.int 0)],.lst #v[.c (.int 0)]],.c (.int 3)],.tup #v[.tup #v[.c (.int 0),.c (.int 2),.c (.int 1)],.disp #v[.tup #v[.c (.int 1),.c (.int 1)],.lst #v[.c (.int 1)]],.c (.int 2)],.tup #v[.tup #v[.c (.int 0),.c (.int 1)],.disp #v[.tup #v[.c (.int 1),.c (.int 1)],.lst #v[.c (.int 1)]],.c (.int 3)]]),.ex (.me .append (.v 1) #v[.tup #v[.tup #v[.c (.int 0),.c (.int 1)],.disp #v[.tup #v[.c (.int 1),.c (.int 1)],.lst #v[.c (.int 1)],.tup #v[.c (.int 0),.c (.int 0)],.lst #v[.c (.int 1)]],.c (.int 3)]]),.ex (.me .append (.v 1) #v[.tup #v[.tup #v[.c (.int 0),.c (.int 1)],.disp #v[.tup #v[.c (.int 1),.c (.int 1)],.lst .nil],.c (.int 1)]]),.ex (.me .append (.v 1) #v[.tup #v[.tup #v[.c (.int 0),.c (.int 2),.c (.int 1)],.disp #v[.tup #v[.c (.int 0),.c (.int 0)],.lst #v[.c (.int 0)],.tup #v[.c (.int 0),.c (.int 1)],.lst #v[.c (.int 1)],.tup #v[.c (.int 1),.c (.int 0)],.lst #v[.c (.int 1)],.tup #v[.c (.int 1),.c (.int 1)],.lst #v[.c (.int 1)]],.c (.int 2)]]),.ex (.me .append (.v 1) #v[.tup #v[.tup #v[.c (.int 1),.c (.int 0)],.dnew,.c (.int 3)]]),.ex (.me .append (.v 1) #v[.tup #v[.tup #v[.c (.int 0),.c (.int 1),.c (.int 2)],.disp #v[.tup #v[.c (.int 2),.c (.int 2)],.lst #v[.c (.int 2)],.tup #v[.c (.int 1),.c (.int 2)],.lst #v[.c (.int 1)],.tup #v[.c (.int 2),.c (.int 1)],.lst #v[.c (.int 1)],.tup #v[.c (.int 1),.c (.int 1)],.lst #v[.c (.int 1),.c (.int 2)]],.c (.int 2)]]),.ex (.me .append (.v 1) #v[.tup #v[.tup #v[.c (.int 0),.c (.int 1),.c (.int 2)],.disp #v[.tup #v[.c (.int 0),.c (.int 0)],.lst #v[.c (.int 0),.c (.int 1)]],.c (.int 2)]]),.ret (.ix (.v 1) (.own "_law_pick" 2 #v[.v 0,.c (.int 9)]))]
abbrev eg:Ss:=
 #v[.set 5 (.disp #v[.tup #v[.c (.int 1),.c (.int 0)],.v 2,.tup #v[.c (.int 2),.c (.int 0)],.v 3,.tup #v[.c (.int 2),.c (.int 1)],.v 4]),.loop (.nm 6) (.seq (.bi .list #v[.v 5])) #v[.put (.v 5) (.tup #v[.ix (.v 6) (.c (.int 1)),.ix (.v 6) (.c (.int 0))]) (.ix (.v 0) (.ix (.v 5) (.v 6)))],.loop (.tp [7,8,9]) (.seq (.own "_law_turns" 0 .nil)) #v[.ite (.cmp .notin (.ix (.v 5) (.tup #v[.v 7,.v 9])) (.me .get (.v 1) #v[.tup #v[.ix (.v 5) (.tup #v[.v 7,.v 8]),.ix (.v 5) (.tup #v[.v 8,.v 9])],.lst #v[.ix (.v 5) (.tup #v[.v 7,.v 9])]])) #v[.ret (.c (.bl true))] .nil],.ret (.c (.bl false))]
abbrev bq:Ss:=
 #v[.set 3 (.bi .len #v[.v 1]),.set 4 (.lst #v[.lst #v[.tup #v[.c (.int 0)]],.lst #v[.tup #v[.c (.int 0),.c (.int 1)],.tup #v[.c (.int 1),.c (.int 0)]]]),.ex (.me .append (.v 4) #v[.lst #v[.tup #v[.c (.int 0),.c (.int 1),.c (.int 2)],.tup #v[.c (.int 0),.c (.int 2),.c (.int 1)],.tup #v[.c (.int 2),.c (.int 0),.c (.int 1)],.tup #v[.c (.int 2),.c (.int 1),.c (.int 0)]]]),.set 5 (.ix (.v 4) (.op .sub (.v 3) (.c (.int 1)))),.ite (.cmp .eq (.v 1) (.tup #v[.c (.int 0),.c (.int 1),.c (.int 2)])) #v[.set 5 (.own "_law_turns" 0 .nil)] .nil,.set 6 (.ix (.v 5) (.own "_law_pick" 2 #v[.v 0,.bi .len #v[.v 5]])),.set 7 (.op .mul (.lst #v[.c (.int 0)]) (.v 3)),.loop (.nm 8) (.rng #v[.v 3]) #v[.put (.v 7) (.ix (.v 6) (.v 8)) (.ix (.v 6) (.ix (.v 1) (.v 8)))],.set 9 .dnew,.loop (.tp [10,11]) (.seq (.v 2)) #v[.put (.v 9) (.tup #v[.ix (.v 6) (.v 10),.ix (.v 6) (.v 11)]) (.comp (.ix (.v 2) (.v 1)) (.nm 1) (.seq (.ix (.v 2) (.tup #v[.v 10,.v 11]))) .nil [gV,gV,ba 6])],.ret (.tup #v[.bi .tuple #v[.v 7],.v 9])]
abbrev bZ:Ss:=
 #v[.set 1 (.own "_law_pick" 2 #v[.v 0,.c (.int 7)]),.ite (.cmp .eq (.v 1) (.c (.int 0))) #v[.ret (.own "_law_free_rule" 1 #v[.v 0])] .nil,.ite (.cmp .eq (.v 1) (.c (.int 1))) #v[.ret (.own "_law_one_way_rule" 1 #v[.v 0])] .nil,.asg [2,3,4] (.own "_law_laying_kind" 1 #v[.v 0]),.set 5 (.op .add (.c (.int 1)) (.own "_law_pick" 2 #v[.v 0,.v 4])),.asg [2,3] (.own "_law_numbered" 3 #v[.v 0,.v 2,.v 3]),.set 6 (.own "_law_rule_of" 4 #v[.v 0,.v 5,.v 2,.tup .nil]),.set 7 .dnew,.set 8 (.bi .len #v[.v 2]),.loop (.nm 9) (.rng #v[.op .mul (.op .mul (.v 8) (.v 8)) (.v 8)]) #v[.par 10 11 #v[.op .mod (.v 9) (.v 8),.op .mod (.op .fdiv (.v 9) (.v 8)) (.v 8)],.set 12 (.op .fdiv (.op .fdiv (.v 9) (.v 8)) (.v 8)),.ite (.own "_law_breaks" 5 #v[.v 2,.v 3,.v 10,.v 11,.v 12]) #v[.loop (.nm 13) (.seq (.own "_law_rising" 1 #v[.v 5])) #v[.set 14 (.tup #v[.tup #v[.ix (.v 13) (.c (.int 0)),.tup .nil],.tup #v[.ix (.v 13) (.c (.int 1)),.tup #v[.v 10]]]),.put (.v 7) (.own "_law_figure" 2 #v[.v 6,.op .add (.v 14) (.tup #v[.tup #v[.ix (.v 13) (.c (.int 2)),.tup #v[.v 11,.v 12]]])]) (.c (.bl true))]] .nil],.ret (.tup #v[.ix (.v 6) (.c (.int 0)),.ix (.v 6) (.c (.int 1)),.bi .tuple #v[.bi .sorted #v[.v 7]]])]
abbrev en:Ss:=
 #v[.set 1 (.lst .nil),.loop (.nm 2) (.rng #v[.v 0]) #v[.loop (.nm 3) (.rng2 #v[.v 2,.v 0]) #v[.set 1 (.op .add (.v 1) (.comp (.tup #v[.v 2,.v 3,.v 1]) (.nm 1) (.rng2 #v[.v 3,.v 0]) .nil [gV,gV,ba 2,ba 3]))]],.ret (.v 1)]
abbrev cQ:Ss:=
 #v[.asg [1,2] (.own "_law_sizes" 1 #v[.v 0]),.set 3 (.own "_law_rule_of" 4 #v[.v 0,.v 1,.own "_law_backs" 2 #v[.v 0,.v 2],.tup .nil]),.set 5 (.comp (.v 1) (.nm 1) (.rng #v[.v 2]) #v[.cmp .eq (.ix (.ix (.ix (.v 2) (.c (.int 1))) (.v 1)) (.c (.int 1))) (.v 1)] [gV,gV,ba 3]),.ite (.or (.cmp .eq (.v 5) (.lst .nil)) (.cmp .eq (.v 2) (.c (.int 1)))) #v[.ret (.v 3)] .nil,.set 6 (.ix (.v 5) (.own "_law_pick" 2 #v[.v 0,.bi .len #v[.v 5]])),.set 7 .dnew,.loop (.nm 4) (.rng #v[.own "_law_pick" 2 #v[.v 0,.c (.int 9)]]) #v[.set 8 (.own "_law_free_three" 3 #v[.v 0,.v 1,.v 2]),.ite (.and (.cmp .ne (.ix (.ix (.ix (.v 8) (.c (.int 1))) (.c (.int 1))) (.c (.int 0))) (.v 6)) (.cmp .notin (.v 6) (.ix (.ix (.v 8) (.c (.int 2))) (.c (.int 1))))) #v[.put (.v 7) (.own "_law_figure" 2 #v[.v 3,.v 8]) (.c (.bl true))] .nil],.ret (.tup #v[.ix (.v 3) (.c (.int 0)),.ix (.v 3) (.c (.int 1)),.bi .tuple #v[.bi .sorted #v[.v 7]]])]
abbrev bL:Ss:=
 #v[.set 1 (.op .add (.c (.int 1)) (.own "_law_pick" 2 #v[.v 0,.c (.int 3)])),.set 2 (.comp (.tup #v[.tup #v[.v 1,.tup .nil],.tup #v[.v 1,.tup #v[.c (.int 0)]],.tup #v[.v 1,.tup #v[.c (.int 0),.c (.int 0)]]]) (.nm 1) (.rng #v[.v 1]) #v[.cmp .eq (.own "_law_pick" 2 #v[.v 2,.c (.int 2)]) (.c (.int 0))] [gV,gV,ba 0]),.ret (.own "_law_rule_of" 4 #v[.v 0,.v 1,.tup #v[.c (.int 0)],.v 2])]
abbrev bn:Ss:=
 #v[.ite (.cmp .is (.v 1) (.c .non)) #v[.ret (.cmp .is (.v 0) (.c .non))] .nil,.ite (.or (.isi "bool" (.v 1)) (.isi "bool" (.v 0))) #v[.ret (.and (.isi "bool" (.v 1)) (.and (.isi "bool" (.v 0)) (.cmp .eq (.v 0) (.v 1))))] .nil,.ite (.isi "int" (.v 1)) #v[.ret (.and (.isi "int" (.v 0)) (.cmp .eq (.v 0) (.v 1)))] .nil,.ite (.isi "str" (.v 1)) #v[.ret (.and (.isi "str" (.v 0)) (.cmp .eq (.v 0) (.v 1)))] .nil,.ite (.or (.cmp .ne (.isi "tuple" (.v 1)) (.isi "tuple" (.v 0))) (.cmp .ne (.isi "list" (.v 1)) (.isi "list" (.v 0)))) #v[.ret (.c (.bl false))] .nil,.ret (.and (.cmp .eq (.bi .len #v[.v 0]) (.bi .len #v[.v 1])) (.bi .all #v[.comp (.own "_law_alike" 2 #v[.ix (.v 3) (.v 1),.ix (.v 2) (.v 1)]) (.nm 1) (.rng #v[.bi .len #v[.v 1]]) .nil [gV,gV,ba 1,ba 0]]))]
abbrev Is (defs:Lf (LW×Df))(f:LW)(a nn:Ll)(b:Ss):Prop:=∃df:Df,defs.lookup f=ba df/\↥df.ps=a/\↥df.N=nn/\df.body=b
def az {defs:Lf (LW×Df)}{fuel d:Ll}{f:LW}{c nn:Ll}{b:Ss}{ws:Lf W}{S:aa}{Q:QW}(h:Is defs f c nn b)(hl:↥ws=c)(ok:iI b=true)
  (l:∀a:QO,(∀w S',Q (w,S')->a (.rt w,S'))->wZ (ak defs fuel d) fuel b (ws.map ba++Mu (nn-c) gV) S a):wO (aQ (ak defs fuel (d+1)) f c ws S) Q:=by
 obtain⟨df,e,g,i,j⟩:=h;subst j;show Gr e hl (hl.trans g.symm) ok λa k=>?_
 have:=l a k;unfold gp;rw[i,hl];show this
structure Gen (defs:Lf (LW×Df)):Prop where
 pick:Is defs ("_law_pick": LW) 2 4 cY
 letters:Is defs ("_law_letters": LW) 2 2 dE
 name:Is defs ("_law_name": LW) 2 3 gr
 names:Is defs ("_law_names": LW) 2 7 da
 between:Is defs ("_law_between": LW) 4 4 dF
 part:Is defs ("_law_part": LW) 3 6 gv
 turns:Is defs ("_law_turns": LW) 0 0 gY
 figure:Is defs ("_law_figure": LW) 2 2 d8
 backs:Is defs ("_law_backs": LW) 2 3 fw
 rule_of:Is defs ("_law_rule_of": LW) 4 6 dG
 free_three:Is defs ("_law_free_three": LW) 3 5 cr
 sizes:Is defs ("_law_sizes": LW) 1 2 fA
 any_rule:Is defs ("_law_any_rule": LW) 1 6 dk
 laying_kind:Is defs ("_law_laying_kind": LW) 1 2 bY
 breaks:Is defs ("_law_breaks": LW) 5 10 eg
 numbered:Is defs ("_law_numbered": LW) 3 12 bq
 laying_rule:Is defs ("_law_laying_rule": LW) 1 15 bZ
 rising:Is defs ("_law_rising": LW) 1 4 en
 free_rule:Is defs ("_law_free_rule": LW) 1 9 cQ
 one_way_rule:Is defs ("_law_one_way_rule": LW) 1 3 bL
structure FlA (S:aa)(r q:Ll)(ns:Lf LC)(i c x n:LC):Prop where
 at_r:S[r]?=ba (.lst [.ref q,.int i,.int c,.int x,.int n])
 at_q:S[q]?=ba (.lst (ns.map W.int))
 lt:q<r
 i0:0<=i
 c0:0<=c
 x0:0<=x
 x1:x<2147483647
def FlA.ne {S:aa}{r q:Ll}{ns:Lf LC}{i c x n:LC}(h:FlA S r q ns i c x n):q≠r:=LX h.lt
abbrev Fl (S:aa)(r:Ll):Prop:=∃(q:Ll) (ns:Lf LC) (i c x n:LC),FlA S r q ns i c x n
def FlA.put {S:aa}{r q:Ll}{ns:Lf LC}{i c x n d b a e:LC}(h:FlA S r q ns i c x n)(f:0<=d)(g:0<=b)(j:0<=a)(k:a<2147483647):FlA (S.set r (.lst [.ref q,.int d,.int b,.int a,.int e])) r q ns d b a e:=
 #[bB h.at_r,by rw[bz (Ne.symm h.ne)];show h.at_q,h.lt,f,g,j,k]
def Fl.keep {S S':aa}{r:Ll}(h:Fl S r)(a:S'[r]?=S[r]?)(k:Kp r S S'):Fl S' r:=
 let ⟨q,ns,i,c,x,n,f⟩:=h;#[q,ns,i,c,x,n,by rw[a];show f.at_r,k.get _ _ f.ne f.at_q,f.lt,f.i0,f.c0,f.x0,f.x1]
def Fl.lt {S:aa}{r:Ll}(h:Fl S r):r<↥S:=let ⟨_,_,_,_,_,_,f⟩:=h;b7 f.at_r
structure Ka (S S':aa):Prop where
 get:∀(j:Ll) (o:O),S[j]?=ba o->S'[j]?=ba o
 len:↥S<=↥S'
def Ka.refl {S:aa}:Ka S S:=#[λ_ _ h=>h,Ls _]
def Ka.trans {S S' c:aa}(a:Ka S S')(b:Ka S' c):Ka S c:=#[λj o h=>b.get j o (a.get j o h),Lw a.len b.len]
def Ka.push {S:aa}{o:O}:Ka S (S++[o]):=#[λj u h=>aj h,by simp]
def Ka.late {t:Ll}{S0 S:aa}{o:O}(a:Ka S0 S)(h:↥S0<=t):Ka S0 (S.set t o):=
 #[λj u e=>by have:=b7 e;rw[bz ∅];show a.get j u e,by simpa using a.len]
def Ka.kp {S S':aa}(a:Ka S S')(r:Ll):Kp r S S':=#[λj o _ h=>a.get j o h,a.len]
def Fl.ka {S S':aa}{r:Ll}(h:Fl S r)(k:Ka S S'):Fl S' r:=h.keep (by obtain⟨q,ns,i,c,x,n,f⟩:=h;rw[k.get _ _ f.at_r,f.at_r]) (k.kp r)
def Fl.own {S:aa}{r t:Ll}{o:O}(h:Fl S r)(a:r<t):Fl (S.set t o) r:=by
 obtain⟨q,ns,i,c,x,n,f⟩:=h;have:=f.lt;show#[q,ns,i,c,x,n,by rw[bz (Mk ‹_›)];show f.at_r,by rw[bz ∅];show f.at_q,f.lt,f.i0,f.c0,f.x0,f.x1]
def eu {S:aa}{r:Ll}{xs:Lf W}{i:Ll}{w:W}{Q:QW}(h:S[r]?=ba (.lst xs))(a:xs[i]?=ba w)(q:Q (w,S)):wO (qr (.ref r) (.int (i:LC)) S) Q:=ab (AK h (LV i) (by rw[LP];show a)) q
def n6 {S:aa}{r:Ll}{xs:Lf W}{i:Ll}{w:W}{Q:aa->Prop}(h:S[r]?=ba (.lst xs))(hi:WW (i+1) ↥xs=true)(q:Q (S.set r (.lst (xs.set i w)))):wO (jv (.ref r) (.int (i:LC)) w S) Q:=ab (Ey h (LV i) (by rw[LP];show LL hi)) (by rw[LP];show q)
section
variable{defs:Lf (LW×Df)}{fuel d:Ll}{S:aa}{r:Ll}{Q:QW}
def aZ (hd:Is defs ("_law_pick": LW) 2 4 cY){m:LC}(hf:Fl S r)(A:0<m)(M:m<1073741824)(k:∀v S',0<=v->v<m->Fl S' r->Kp r S S'->Q (.int v,S')) :
  wO (aQ (ak defs fuel (d+1)) "_law_pick" 2 [.ref r,.int m] S) Q:=by
 obtain⟨q,ns,i,c,x,n,f⟩:=hf;show az hd rfl rfl λt H=>?_
 replace k:∀v S',0<=v->v<m->Fl S' r->Kp r S S'->t (.rt (.int v),S'):=λv S' a b c e=>H _ _ (k v S' a b c e)
 clear H;change wZ _ _ cY [ba (.ref r),ba (.int m),gV,gV] S t;have aU:∀(S1:aa) (w2:Ln W) (i1 s p l:LC),FlA S1 r q ns i1 s p l->Kp r S S1->wZ (ak defs fuel d) fuel (match cY with|.cons _ ss=>ss|.nil=>.nil) [ba (.ref r),ba (.int m),w2,gV] S1 t:=by
  intro S1 w2 i1 s p l g I;delta cY;show st ?_;delta wS wT wE wV wG;show eu (i:=2) g.at_r rfl ?_;delta IQ wO wB;show aE (Q0:=t) (λB o h C=>?_) (λB o h C=>?_)
  ·clear h;show st ?_;delta wS wE wV wG;show eu (i:=2) g.at_r rfl (ab (jE A) ?_);show st ?_;delta wS wE wV wG LH;show eu (i:=2) g.at_r rfl (ab (gq A M) (n6 (i:=2) g.at_r rfl ?_));show st ?_;delta wS wE wV wG LH;show C _ _ (k _ _ (Op _ ∅) (Ob _ A) #[q,ns,i1,s/m,p,l,g.put g.i0 (QM g.c0 ∅) g.x0 g.x1] (I.trans .set))
  ·show bX (h _ _ ?_);clear h C;have D:FlA (S1.set r (.lst [.ref q,.int i1,.int s,.int p,.int (l+1)])) r q ns i1 s p (l+1):=g.put g.i0 g.c0 g.x0 g.x1;show st ?_;delta wS wE wV wG;show eu (i:=4) g.at_r rfl ?_;delta bW wO;show n6 (i:=4) g.at_r rfl ?_;show st ?_;delta wS wE wV wG LH;show eu (i:=3) D.at_r rfl (ab (kP #v[] #v[]) ?_)
   delta bW wO;show eu (i:=4) D.at_r rfl ?_;delta bW wO;show(n6 (i:=3) D.at_r rfl ?_);have u:FlA ((S1.set r (.lst [.ref q,.int i1,.int s,.int p,.int (l+1)])).set r (.lst [.ref q,.int i1,.int s,.int ((p*48271+12820163+(l+1)) % 2147483647),.int (l+1)])) r q ns i1 s ((p*48271+12820163+(l+1)) % 2147483647) (l+1):=D.put g.i0 g.c0 (Op _ #v[]) (Ob _ #v[])
   delta LH;generalize(p*48271+12820163+(l+1)) % 2147483647=y at u ⊢;have L:y/65521+7919<2^64:=by
    have:=u.x1;have:=Int.ediv_le_self 65521 u.x0;omega
   have b2 : -(2^64)<y/65521+7919:=by
    have:=QM u.x0 (show(0:LC)<=65521 by decide)
    omega
   show st ?_;delta wS wE wV wG LH;show eu (i:=3) u.at_r rfl (ab (jE #v[]) ?_)
   delta bW wO;show eu (i:=3) u.at_r rfl ?_;delta bW wO;show ab (kP b2 L) ?_;show ab (jE A) ?_;show k _ _ (Op _ ∅) (Ob _ A) #[q,ns,_,_,_,_,u] (I.trans (Kp.set.trans .set))
 dsimp only[cY]at aU ⊢;show st ?_;delta wS wT wE wV wG wA;show eu (i:=2) f.at_r rfl ?_;delta i9 wO wB;have skip:∀o:QO,(∀G S',wZ (ak defs fuel d) fuel _ G S' t->o (.nx G,S'))->o (.nx [ba (.ref r),ba (.int m),gV,gV],S):=λo h=>h _ _ (aU S gV i c x n f .refl)
 show#[λ_=>?_,λ_ o h C=>#[λz=>(by cases z),λ_=>(bX (skip o h)).out]]
 show eu (i:=1) f.at_r rfl (eu (i:=0) f.at_r rfl (ab (Ez f.at_q) ?_));delta xQ wO wB;show aE (Q0:=t) (λhl o h _=>?_) (λB o h C=>bX (skip o h))
 clear skip;have E:i.toNat<↥ns:=by
  have:=Mq hl;rw[Lh]at this;have:=f.i0;omega
 have j:(ns.map W.int)[i.toNat]?=ba (.int ns[i.toNat]):=by simp[E]
 generalize ns[i.toNat]=cell at j;have g:FlA (S.set r (.lst [.ref q,.int (i+1),.int c,.int x,.int n])) r q ns (i+1) c x n:=f.put (by have:=f.i0;omega) f.c0 f.x0 f.x1
 show st ?_;delta wS wE wV wG;show eu (i:=0) f.at_r rfl (eu (i:=1) f.at_r rfl (ab (AK f.at_q f.i0 j) ?_));show st ?_;delta wS wE wV wG LH;show eu (i:=1) f.at_r rfl ?_;delta bW wO;show n6 (i:=1) f.at_r rfl ?_;show st ?_;delta wS wT wE wV wG Gp Kx wO wB;show aE (Q0:=t) (λB J w _=>?_) (λB J w _=>?_)
 ·show st ?_;delta wS wE wV wG;show n6 (i:=2) g.at_r rfl (bX (w _ _ (bX (h _ _ ?_))));show aU _ _ (i+1) cell x n (g.put g.i0 (by have:=Mq B;omega) f.x0 f.x1) (Kp.set.trans .set)
 ·show st ?_;delta wS wE wV wG;show eu (i:=3) g.at_r rfl (ab (kP #v[] #v[]) (ab (jE #v[]) ?_))
  delta bW wO;show n6 (i:=3) g.at_r rfl (bX (w _ _ (bX (h _ _ ?_))));show aU _ _ (i+1) c _ n (g.put g.i0 f.c0 (Op _ #v[]) (Ob _ #v[])) (Kp.set.trans .set)
end
abbrev dr:Ll->Ss->Ss
 |0,ss=>ss
 |n+1,.cons _ ss=>dr n ss
 |_,.nil=>.nil
def aM {α:Type}{a:α}{Q:α->Prop}:wO (ba a) Q=Q a:=rfl
def aN {M:LW->FF}{fuel:Ll}{Z:Fm}{S:aa}{Q:QO}{s:Sm}{ss:Ss}(h:∀K:Fm->aa->Prop,(∀a S',wZ M fuel ss a S' Q->K a S')->wS M fuel s Z S K Q):wZ M fuel (.cons s ss) Z S Q:=st (h _ λ_ _ h=>h)
def IZ {M:LW->FF}{fuel:Ll}{Z:Fm}{S:aa}{i:Ll}{e:E}{K:Fm->aa->Prop}{Q:QO}(h:wE M e Z S λp=>K (Z.set i (ba p.1)) p.2):wS M fuel (.set i e) Z S K Q:=h
def jH {n:Ll}(h:WW n 1000=true):n<=sizeLine:=Lw (LL h) (by rw[MF];decide)
def few {n:Ll}(h:n<=1000):n<=sizeLine:=Lw h (by rw[MF];decide)
def dX {S:aa}{r:Ll}{xs:Lf W}{i:LC}{w:W}{Q:QW}(h:S[r]?=ba (.lst xs))(a:0<=i)(b:xs[i.toNat]?=ba w)(q:Q (w,S)):wO (qr (.ref r) (.int i) S) Q:=ab (AK h a b) q
def al {S:aa}{xs:Lf W}{i:LC}{w:W}{Q:QW}(a:0<=i)(b:xs[i.toNat]?=ba w)(q:Q (w,S)):wO (qr (.tup xs) (.int i) S) Q:=ab (IS a b) q
def vS {S:aa}{r:Ll}{xs:Lf W}{y:W}{Q:QW}(h:S[r]?=ba (.lst xs))(hl:↥xs<1000)(q:Q (.non,S.set r (.lst (xs++[y])))):wO (Me.append.fn (.ref r) [y] S) Q:=ab (vP h (LZ hl (jH rfl))) q
def dY {S:aa}{r:Ll}{xs:Lf W}{Q:QW}(h:S[r]?=ba (.lst xs))(q:Q (.int ↥xs,S)):wO (Bi.len.fn [.ref r] S) Q:=ab (Ez h) q
def bc {S:aa}{xs:Lf W}{Q:QW}(q:Q (.int ↥xs,S)):wO (Bi.len.fn [.tup xs] S) Q:=q
def fT {S:aa}{r:Ll}{xs:Lf W}{Q:QW}(h:S[r]?=ba (.lst xs))(q:Q (.tup xs,S)):wO (Bi.tuple.fn [.ref r] S) Q:=ab (IT h) q
section
variable{M:LW->FF}{fuel:Ll}{Z:Fm}{S S1:aa}{K:Fm->aa->Prop}
def b8 {t:E}{a:Ss}{Q:QO}(c:∀Q:QB,Q (false,S1)->wT M t Z S Q)(h:K Z S1):wS M fuel (.ite t a .nil) Z S K Q:=by
 delta wS;show c _ λd b e=>#[λz=>(by cases z),λ_=>(bX (b _ _ h)).out]
def mf {t:E}{a b:Ss}{Q:QO}(g:∀Q:QB,Q (true,S1)->wT M t Z S Q)(h:∀c:QO,(∀d S',K d S'->c (.nx d,S'))->(∀w S',Q (.rt w,S')->c (.rt w,S'))->wZ M fuel a Z S1 c):wS M fuel (.ite t a b) Z S K Q:=by
 delta wS;show g _ λc e f=>#[λ_=>(h c e λw S' q=>f (.rt w) S' (λ_ z=>nomatch z) q).out,λz=>(by cases z)]
end
def AO:∀k:Fin 26,("abcdefghijklmnopqrstuvwxyz": LW).cps.toList[k.val]?=ba (97+k.val):=by decide
def vT:("abcdefghijklmnopqrstuvwxyz": LW).length<=sizeLine:=by decide
def mh:∀a:Lf Ll,jZ (a.map λc=>W.str #[[c].toArray])=ba (a.map λc=>(#[[c].toArray]:LW))
 |[]=>rfl
 |c::a=>by simp[jZ,mh a]
def og:∀a:Lf Ll,((a.map λc=>(#[[c].toArray]:LW)).map (·.length)).sum=↥a
 |[]=>rfl
 |c::a=>by
  have:=og a;simp only[Mj,N1,L3];rw[this];change 1+↥a=_;omega
def gw (a b:LW):(a++b).cps.toList=a.cps.toList++b.cps.toList:=QR
def mj:∀a:Lf Ll,(WP "" (a.map λc=>(#[[c].toArray]:LW))).cps.toList=a
 |[]=>rfl
 |[c]=>rfl
 |c::d::a=>by
  have ih:=mj (d::a);show(((#[[c].toArray]:LW)++("": LW)++WP "" ((d::a).map λc=>(#[[c].toArray]:LW))).cps).toList=_
  rw[gw,gw,ih];rfl
def rR (a:Lf Ll):(VZ "" (a.map λc=>(#[[c].toArray]:LW))).cps.toList=a:=by
 show(Wx "" _).cps.toList=_;rw[StrLaws.glued_eq_join];show mj a
abbrev vU (y:LW):Prop:=∀c∈y.cps.toList,97<=c/\c<=122
abbrev Name (y:LW):Prop:=1<=↥y.cps.toList/\↥y.cps.toList<=8/\vU y
def vV (y:LW):↥y=↥y.cps.toList:=by simp[Wl]
abbrev AQ:Lf LW:=["markss","mark","way","wayss","bars","ba","somex","eachx","note","no","ands","ors","o","iss"]
def xR:∀y∈AQ,Name y:=by
 have h:AQ.all (λy=>decide (1<=↥y.cps.toList/\↥y.cps.toList<=8)&&y.cps.toList.all λc=>decide (97<=c/\c<=122))=true:=by decide
 intro y e;have:=LN.mp h y e;rw[Lp]at this;obtain⟨a,b⟩:=this;show#[(Mq a).1,(Mq a).2,λc d=>Mq (LN.mp b c d)]
def mo {α:Type}{f:α->W}{xs:Lf α}{i:Ll}(h:i<↥xs):∃x∈xs,(xs.map f)[i]?=ba (f x):=#[xs[i],Mp _,by rw[Lu,Lq h];rfl]
section
variable{defs:Lf (LW×Df)}{fuel d:Ll}{S:aa}{r:Ll}{Q:QW}
def kn (G:Gen defs){m:LC}(hf:Fl S r)(t:0<=m)(u:m<=1000)(k:∀y S',↥y.cps.toList=m.toNat->vU y->Fl S' r->Kp r S S'->Q (.str y,S')) :
  wO (aQ (ak defs fuel (d+2)) "_law_letters" 2 [.ref r,.int m] S) Q:=by
 show az G.letters rfl rfl λj o=>?_
 change wZ _ _ dE [ba (.ref r),ba (.int m)] S j;delta dE;show st ?_;delta wS wE wA;show#[rfl,dD m (λi ys Z S'=>(∃a,Z=[gV,a,ba (.ref r)])/\Fl S' r/\Kp r S S'/\∃b:Lf Ll,ys=b.map (λc=>W.str #[[c].toArray])/\↥b=i/\∀c∈b,97<=c/\c<=122) rfl rfl rfl #[∅,∅] #[rfl,#[gV,rfl],hf,.refl,[],rfl,rfl,λ_ h=>nomatch h] ?_ ?_]
 ·rintro i ys Z S1 hi ⟨⟨a,rfl⟩,e,g,b,rfl,hl,f⟩;delta gX wC wE wA wV wG LH;show#[λ_=>aZ (d:=d) G.pick e #v[] #v[] λv S2 n w l s=>?_,λz=>by cases z]
  have p:=AO #[v.toNat,∅]
  show ab (Ex vT n p) #[#[_,rfl],l,g.trans s,b++[97+v.toNat],by simp,by simp[hl],λc q=>?_]
  rcases Ma.mp q with h|h
  ·show f c h
  ·rw[LA.mp h];omega
 ·rintro ys Z S1 ⟨_,e,g,b,rfl,hl,f⟩;show#[by rw[Lh,hl,MF];omega,?_]
  have hz:((b.map λc=>(#[[c].toArray]:LW)).map (·.length)).sum+(b.map λc=>(#[[c].toArray]:LW)).length*("": LW).length<=16777216:=by
   rw[og,show("": LW).length=0 from rfl,QX]
   omega
  show ab (a:=(.str (VZ "" (b.map λc=>(#[[c].toArray]:LW))),S1++[.lst (b.map λc=>W.str #[[c].toArray])])) ?_ (o _ _ (k _ _ (by rw[rR,hl]) (λc h=>f c (by rw[rR]at h;show h)) (e.ka .push) (g.trans .push)))
  simp only[Me.fn,uZ,fO,ay af,mh];rw[LU hz]
def Gs (G:Gen defs){y:LW}(hf:Fl S r)(E:↥y.cps.toList<=6)(B:vU y)(k:∀z S',Name z->Fl S' r->Kp r S S'->Q (.str z,S')) :
  wO (aQ (ak defs fuel (d+3)) "_law_name" 2 [.ref r,.str y] S) Q:=by
 show az G.name rfl rfl λn u=>?_
 replace k:∀z S',Name z->Fl S' r->Kp r S S'->n (.rt (.str z),S'):=λz S' a b c=>u _ _ (k z S' a b c)
 clear u;change wZ _ _ gr [ba (.ref r),ba (.str y),gV] S n;delta gr;nofun
 delta wS wT wE wV wG IR wO wB;show aE (Q0:=n) (λ_ q _ s=>?_) (λ_ q m _=>?_)
 ·show st ?_;left;show aZ (d:=d+1) G.pick hf #v[] #v[] λv S1 p t h o=>?_
  delta bW wO;show kn (d:=d) G h ∅ ∅ λz S2 hz hs l g=>?_
  have hl:(y++z).cps.toList.length=↥y.cps.toList+↥z.cps.toList:=by rw[gw,Lx]
  show ab (Gq (by rw[vV,vV,MF];omega)) (s _ _ (k _ _ #[∅,∅,λc w=>?_] l (o.trans g)))
  rw[gw]at w;show(Ma.mp w).elim (B c) (hs c)
 ·show bX (m _ _ (hK _ _ ?_));clear m hK;nofun
  delta wS wT wE wA wV wG;show aZ (d:=d+1) G.pick hf #v[] #v[] λv S1 p t h o=>?_
  delta i9 wO wB;show aE (Q0:=n) (λ_ q _ s=>?_) (λ_ q m _=>?_)
  ·show st ?_;left;show st ?_;left;show ab (AJ (i:=↥S1) (j:=(S1++[_]).length) (aj af) af (jH rfl)) ?_;dsimp only;show st ?_;left;show aZ (d:=d+1) G.pick (((h.ka .push).ka .push).ka .push) #v[] #v[] λv S2 p t l g=>?_
   have e:=g.get _ _ (by have:=h.lt;simp only[Lx];omega) af
   obtain⟨z,hz,x⟩:=mo (f:=W.str) (xs:=AQ) (i:=v.toNat) (by change v.toNat<14;omega)
   show dX e p x (s _ _ (k _ _ (xR z hz) l (o.trans (Kp.push.trans (Kp.push.trans (Kp.push.trans g))))))
  ·show bX (m _ _ (hK _ _ ?_));clear m hK;show st ?_;left;show aZ (d:=d+1) G.pick h #v[] #v[] λv S2 p t l g=>?_
   delta bW wO;show kn (d:=d) G l ∅ ∅ λz D hz hs A C=>k _ _ #[∅,∅,hs] A (o.trans (g.trans C))
end
def gx {α:Type}[Od α]:∀(l m:Lf α),l.Nodup->(∀x∈l,x∈m)->↥l<=↥m
 |[],_,_,_=>MS _
 |x::l,m,a,hs=>by
  rw[MV]at a;have b:x∈m:=hs x (.head _);have d:=gx l (m.erase x) a.2 λy c=>(PF (λ(e:y=x)=>a.1 (by rw[<- e];show c))).mpr (hs y (.tail _ c))
  rw[OY b]at d;have:=Nk b;rw[L3];omega
abbrev mX (k:Ll):LW:=#[[97+k].toArray]
def AR {a b:Ll}(h:mX a=mX b):a=b:=by
 unfold mX at h;injection h with h
 injection h with h
 injection h with h
 omega
def rS (s:Ll):((LR s).map mX).Nodup:=by
 unfold Tp;rw[NI];show List.nodup_range.imp λh e=>h (AR e)
def xS {k:Ll}(h:k<26):Name (mX k):=#[Ls 1,(by decide:1<=8),λc a=>by
 cases LA.mp (show c∈[97+k]from a)
 omega]
abbrev jb:Lf LW:=["marks","ways","bar","some","each","not","and","or","is"]
def AS (b:Lf LW):(b.map W.str).all cv=true:=by
 rw[LN];intro x a;obtain⟨z,_,rfl⟩:=Lr.mp a;rfl
def DS (a:Lf LW)(y:LW):((a.map W.str).any λz=>BY z (.str y))=decide (y∈a):=by
 induction a with
 |nil=>rfl
 |cons z a ih=>
  rw[Mj,Ov,ih];show((z==y)||_)=_
  by_cases h:z=y
  ·subst h;simp
  ·have:(z==y)=false:=by simpa using h
   rw[this,RB];have b:(y∈z::a)=(y∈a):=by simp[Ne.symm h]
   simp only[b]
def xT {S:aa}{t:Ll}{a:Lf LW}{y:LW}(h:S[t]?=ba (.lst (a.map W.str))):cx .isin (.str y) (.ref t) S=ba (.bl (decide (y∈a)),S):=by
 (delta cx jk G3 yo fO;simp only[pQ h,ay h])
 rw[LU (by rw[AS];rfl),DS]
 rfl
def Gu {S:aa}{k:Ll}:fm .mul (.str #[[k].toArray]) (.int 1) S=ba (.str #[[k].toArray],S):=by
 delta fm yT;rw[LU #[#v[],#v[],by change 1*1<=sizeLine;rw[MF];decide]]
 rfl
def jI {xs:Lf W}{k:Ll}:jX xs gV (ba (k:LC))=xs.take k:=by
 unfold jX;rw[HT.lx,HT.uO,Rg,T4]
 by_cases h:k<=↥xs
 ·rw[UQ h]
 ·rw[Uu ∅,Pl (Ls _),Pl ∅]
def AT {xs:Lf W}{k:Ll}:jX xs (ba (k:LC)) gV=xs.drop k:=by
 unfold jX;rw[HT.lx,HT.uO]
 by_cases h:k<=↥xs
 ·rw[UQ h,Pl (by rw[Ow];show Ls _)]
 ·rw[Uu ∅,Ql (Ls _),Ql ∅];show List.take_nil
section
variable{defs:Lf (LW×Df)}{fuel d:Ll}{S:aa}{r:Ll}{Q:QW}
def DT {M:LW->FF}{m z w:W}{t:Ll}{y:LW}{a:Lf LW}{K:Fm->aa->Prop}{Q:QO}(u:20<fuel)(C:Name y)(e:S[t]?=ba (.lst (a.map W.str)))(hl:↥a<=15)
  (k:∀y s,Name y->y∉a->K [ba (.ref r),ba m,ba z,ba (.ref t),ba w,ba (.str y),ba s] S) :
  wS M fuel (.whl (.cmp .isin (.v 5) (.v 3)) #v[.set 5 (.op .mul (.ix (.c (.str "abcdefghijklmnopqrstuvwxyz")) (.op .mod (.v 6) (.c (.int 26)))) (.op .add (.c (.int 1)) (.op .fdiv (.v 6) (.c (.int 26))))),.set 6 (.op .add (.v 6) (.c (.int 1)))])
   [ba (.ref r),ba m,ba z,ba (.ref t),ba w,ba (.str y),ba (.int 0)] S K Q:=by
 delta wS;show AN (λj Z S'=>∃(s:Ll) (y:LW),Z=[ba (.ref r),ba m,ba z,ba (.ref t),ba w,ba (.str y),ba (.int s)]/\S'=S/\j+s=18/\s<=16/\Name y/\(0<s->y=mX (s-1))/\∀k,k+1<s->mX k∈a) 18 rfl rfl ∅ #[0,y,rfl,rfl,rfl,by show LL rfl,C,λh=>absurd h ∅,λk h=>absurd h ∅] ?_
 rintro j Z S' ⟨s,G,rfl,rfl,E,hs,g,c,d⟩;delta wT wE wV wG;show ab (xT e) #[λf=>?_,λb=>k _ _ g (OD b)]
 have all:∀k,k<s->mX k∈a:=λk hk=>by
  by_cases h:k+1<s
  ·show d k h
  ·have e:k=s-1:=∅
   rw[e,<- c (Nat.zero_lt_of_lt ‹_›)];show Mq f
 have l:s<=15:=by
  have q:=gx ((LR s).map mX) a (rS s) λx B=>by
   obtain⟨k,hk,rfl⟩:=Lr.mp B;show all k (LG.mp hk)
  rw[Lh,L0]at q;show Lw ‹_› ‹_›
 show#[j-1,∅,λD A _=>?_]
 have p:((s:LC) % 26)=s:=Int.emod_eq_of_lt ∅ ∅
 have o:((s:LC)/26)=0:=Int.ediv_eq_zero_of_lt ∅ ∅
 show st ?_;delta wS wE wV wG LH;show ab (jE #v[]) ?_
 rw[p];show ab (Ex (i:=(s:LC)) vT (LV s) (AO #[s,by show MH ‹_› (LL rfl)])) ?_
 have n:fm .fdiv (.int s) (.int 26) S'=ba (.int 0,S'):=by rw[gq ∅ ∅,o]
 dsimp only;rw[n];delta bW aM;rw[show(1:LC)+0=1 from rfl]
 show ab Gu ?_;show st ?_;delta wS wE wV wG LH bW aM;show bX (A _ _ #[s+1,mX s,rfl,rfl,∅,∅,xS (by show MH ‹_› (LL rfl)),λ_=>rfl,λk hk=>all k ∅])
def DU (J:20<fuel)(G:Gen defs){m:Ll}(hf:Fl S r)(h1:m<=6)(k:∀(ys:Lf LW) S',↥ys=m->(∀y∈ys,Name y)->(jb++ys).Nodup->Fl S' r->Kp r S S'->Q (.tup (ys.map W.str),S')) :
  wO (aQ (ak defs fuel (d+4)) "_law_names" 2 [.ref r,.int m] S) Q:=by
 show az G.names rfl rfl λu T=>?_
 replace k:∀(ys:Lf LW) S',↥ys=m->(∀y∈ys,Name y)->(jb++ys).Nodup->Fl S' r->Kp r S S'->u (.rt (.tup (ys.map W.str)),S'):=λz S' a b c e f=>T _ _ (k z S' a b c e f)
 clear T;change wZ _ _ da [ba (.ref r),ba (.int m),gV,gV,gV,gV,gV] S u;have aU:∀(z:LW) (S2:aa),↥z.cps.toList<=6->vU z->Fl S2 r->Kp r S S2->wZ (ak defs fuel (d+3)) fuel (dr 2 da) [ba (.ref r),ba (.int m),ba (.str z),gV,gV,gV,gV] S2 u:=by
  intro z S2 N O A B;delta dr da;have L:=A.lt;have I:=B.len;show st ?_;left;nofun
  show cO (m:LC) (λi Z S'=>∃C D E ys,Z=[ba (.ref r),ba (.int m),ba (.str z),ba (.ref ↥S2),C,D,E]/\S'[↥S2]?=ba (.lst ((jb++ys).map W.str))/\↥ys=i/\(∀y∈ys,Name y)/\(jb++ys).Nodup/\Fl S' r/\Kp r S S') rfl rfl ∅ ?_ ?_ ?_
  ·delta wE wV wG;show#[rfl,gV,gV,gV,[],rfl,af,rfl,λ_ h=>(nomatch h),#v[],A.ka .push,B.trans .push]
  ·rintro i Z n hi ⟨C,D,E,ys,rfl,H,g,j,l,o,t⟩ P p _;clear hK;show st ?_;left;show Gs (d:=d) G o N O λy S4 hy X V=>?_
   have w:=V.get _ _ (Mk ‹_›) H;show st ?_;left;show st (DT J hy w (by rw[Lx,g];show 9+i<=15;omega) λy' s M q=>?_)
   show st ?_;left;show#[dS w,vS w (by rw[Lh,Lx,g];show 9+i<1000;omega) ?_]
   show bX (p _ _ #[_,_,_,ys++[y'],rfl,?_,by rw[Lx,g];rfl,λx hx=>?_,?_,X.own L,(t.trans V).late I])
   ·rw[bB w,<- N2,Mb (l₁:=jb++ys)];rfl
   ·rcases Ma.mp hx with h|h
    ·show j x h
    ·rw[LA.mp h];show M
   ·rw[<- N2,NJ];show#[l,by simp,λa Y b hb e=>?_]
    rw[LA.mp hb]at e;show q (e▸Y)
  ·rintro Z n ⟨C,D,E,ys,rfl,H,g,j,l,o,t⟩;show hK _ _ (st ?_);delta wS wE wA wV wG wP wN;have hs:tf (.ref ↥S2) (ba 9) gV n=ba (.ref ↥n,n++[.lst (ys.map W.str)]):=by
    have:jX ((jb++ys).map W.str) (ba ((9:Ll):LC)) gV=ys.map W.str:=by
     rw[AT,Mb];show UR rfl
    simp only[tf,ay H];rw[show(ba 9:Ln LC)=ba ((9:Ll):LC)from rfl,this]
   show ab hs (fT af (k _ _ ?_ j l (o.ka .push) (t.trans .push)));rw[g];show LP m
 delta da;show st ?_;delta wS wE LH;nofun
 delta wS wT wE wA wV wG;show aZ (d:=d+2) G.pick hf #v[] #v[] λv S1 v0 v1 R U=>?_
 delta i9 wO wB;show aE (Q0:=u) (λ_ P p _=>?_) (λ_ P p _=>?_)
 ·show st ?_;left;show aZ (d:=d+2) G.pick R #v[] #v[] λv S2 v0 v1 A B=>?_
  delta bW wO;show kn (d:=d+1) G A ∅ ∅ λz n hz hs o t=>bX (p _ _ (hK _ _ (aU z n ∅ hs o (U.trans (B.trans t)))))
 ·show bX (p _ _ (hK _ _ (aU "" S1 #v[] (λc hc=>nomatch hc) R U)))
end
noncomputable abbrev Pt:=LC×Lf LC
noncomputable abbrev Wd:=Lf Pt
abbrev bo (p:Pt):W:=.tup [.int p.1,.tup (p.2.map W.int)]
abbrev am (u:Wd):W:=.tup (u.map bo)
abbrev iJ (p:Pt):T:=.tup [.int p.1,.tup (p.2.map T.int)]
abbrev bA (u:Wd):T:=.tup (u.map iJ)
def vW:∀xs:Lf LC,T.ws (xs.map T.int)=xs.map W.int
 |[]=>rfl
 |x::xs=>by simp[T.ws,T.w,vW xs]
def Ja (p:Pt):(iJ p).w=bo p:=by simp[iJ,bo,T.w,T.ws,vW]
def ur:∀u:Wd,T.ws (u.map iJ)=u.map bo
 |[]=>rfl
 |p::u=>by simp[T.ws,Ja,ur u]
def AU (u:Wd):(bA u).w=am u:=by simp[bA,am,T.w,ur]
def Jb (u:Wd):W.t (am u)=ba (bA u):=by rw[<- AU];show T.w_t _
def ut:∀us:Lf Wd,T.ws (us.map bA)=us.map am
 |[]=>rfl
 |u::us=>by simp[T.ws,AU,ut us]
def AV (us:Lf Wd):W.ts (us.map am)=ba (us.map bA):=by rw[<- ut];show T.ws_ts _
def mq:∀xs:Lf LC,T.depths (xs.map T.int)=0
 |[]=>rfl
 |x::xs=>by simp[T.depths,T.depth,mq xs]
def AW (p:Pt):(iJ p).depth=2:=by simp[iJ,T.depth,T.depths,mq]
def ko:∀u:Wd,T.depths (u.map iJ)<=2
 |[]=>by simp[T.depths]
 |p::u=>by
  have:=ko u;simp only[Mj,T.depths,AW];omega
def mr (u:Wd):(bA u).depth<=3:=by
 have:=ko u;simp only[bA,T.depth];omega
def iu:∀us:Lf Wd,T.depths (us.map bA)<=3
 |[]=>by simp[T.depths]
 |u::us=>by
  have:=iu us;have:=mr u;simp only[Mj,T.depths];omega
def uu (u:Wd):iF (am u)=ba (bA u):=by
 unfold iF;rw[Jb];show(if (bA u).isTup=true/\(bA u).depth<=aA then _ else _)=_
 rw[LU #[rfl,by have:=mr u;unfold aA;omega]]
mutual
def rT:T->T->L7
 |.int _,.int _=>true
 |.str _,.str _=>true
 |.tup xs,.tup ys=>jJ xs ys
 |_,_=>false
def jJ:Lf T->Lf T->L7
 |[],_=>true
 |_,[]=>true
 |x::xs,y::ys=>rT x y&&jJ xs ys
end
mutual
theorem uw:∀x y:T,rT x y=true->(ik x y).isSome=true
 |.int _,.int _,_=>rfl
 |.str _,.str _,_=>rfl
 |.tup xs,.tup ys,h=>by
  dsimp only[rT]at h;delta ik;show vX xs ys h
 |.int _,.str _,h|.int _,.tup _,h|.str _,.int _,h|.str _,.tup _,h|.tup _,.int _,h|.tup _,.str _,h=>by cases h
theorem vX:∀xs ys:Lf T,jJ xs ys=true->(dv xs ys).isSome=true
 |[],[],_=>rfl
 |[],_::_,_=>rfl
 |_::_,[],_=>rfl
 |x::xs,y::ys,h=>by
  dsimp only[jJ]at h;simp only[Lp]at h
  delta dv;split
  ·show vX xs ys h.2
  ·show uw x y h.1
end
def rV:∀xs ys:Lf LC,jJ (xs.map T.int) (ys.map T.int)=true
 |[],_=>rfl
 |_::_,[]=>rfl
 |x::xs,y::ys=>by delta V3 jJ rT;simp[rV xs ys]
def AX (p q:Pt):rT (iJ p) (iJ q)=true:=by delta iJ rT jJ;simp[rV]
def vY:∀u v:Wd,jJ (u.map iJ) (v.map iJ)=true
 |[],_=>rfl
 |_::_,[]=>rfl
 |p::u,q::v=>by delta V3 jJ;simp[AX,vY u v]
def Gv (u v:Wd):rT (bA u) (bA v)=true:=by delta bA rT;show vY _ _
def fU (us:Lf Wd):ft (us.map bA)=true:=by
 unfold ft;rw[LN];intro x a;obtain⟨u,_,rfl⟩:=Lr.mp a;rw[LN];intro y b;obtain⟨v,_,rfl⟩:=Lr.mp b;show uw _ _ (Gv u v)
def AY (us:Lf Wd)(h:∀u∈us,u≠[]):(tK (us.map bA)).isSome=true:=by
 unfold tK;split
 ·rfl
 ·split
  ·rfl
  ·split
   ·rfl
   ·split
    ·rfl
    ·split
     ·rfl
     ·rename_i a;exfalso;apply a;rw[LN];intro x c;obtain⟨u,b,rfl⟩:=Lr.mp c;cases u with
      |nil=>show absurd rfl (h [] b)
      |cons p u=>rfl
abbrev b6 (bs:Lf LC)(u:Wd)(i j:Ll):LC:=if j<i then((u.getD i (0,[])).2).getD j 0 else bs.getD (((u.getD j (0,[])).2).getD i 0).toNat 0
abbrev ag (bs:Lf LC)(u:Wd)(ps:Lf Ll):Wd:=(LR ↥ps).map λk=>((u.getD (ps.getD k 0) (0,[])).1,(ps.take k).map λj=>b6 bs u (ps.getD k 0) j)
abbrev aw:Lf (Lf Ll):=[[0,1,2],[0,2,1],[1,0,2],[1,2,0],[2,0,1],[2,1,0]]
abbrev gI (bs:Lf LC)(u:Wd):Wd:=(aw.map (ag bs u)).getD (i4 ((aw.map (ag bs u)).map bA)) []
abbrev aK (n:LW)(b:LC):W:=.tup [.str n,.int b]
structure GoodW (a n:Ll)(u:Wd):Prop where
 mark:∀(k:Ll) (p:Pt),u[k]?=ba p->0<=p.1/\p.1<a
 len:∀(k:Ll) (p:Pt),u[k]?=ba p->↥p.2=k
 way:∀(k:Ll) (p:Pt),u[k]?=ba p->∀w∈p.2,0<=w/\w<n
abbrev GoodB (bs:Lf LC):Prop:=bs=[0]\/bs=[0,1]\/bs=[1,0]\/bs=[0,1,2]\/bs=[1,0,2]\/bs=[0,2,1]
def GoodB.rng {bs:Lf LC}(h:GoodB bs):∀k:Ll,k<↥bs->∃b:LC,bs[k]?=ba b/\0<=b/\b<↥bs:=by
 rcases h with rfl|rfl|rfl|rfl|rfl|rfl<;>intro k hk
 ·match k,hk with
  |0,_=>show#[0,rfl,#v[],#v[]]
 ·match k,hk with
  |0,_=>show#[0,rfl,#v[],#v[]]
  |1,_=>show#[1,rfl,#v[],#v[]]
 ·match k,hk with
  |0,_=>show#[1,rfl,#v[],#v[]]
  |1,_=>show#[0,rfl,#v[],#v[]]
 ·match k,hk with
  |0,_=>show#[0,rfl,#v[],#v[]]
  |1,_=>show#[1,rfl,#v[],#v[]]
  |2,_=>show#[2,rfl,#v[],#v[]]
 ·match k,hk with
  |0,_=>show#[1,rfl,#v[],#v[]]
  |1,_=>show#[0,rfl,#v[],#v[]]
  |2,_=>show#[2,rfl,#v[],#v[]]
 ·match k,hk with
  |0,_=>show#[0,rfl,#v[],#v[]]
  |1,_=>show#[2,rfl,#v[],#v[]]
  |2,_=>show#[1,rfl,#v[],#v[]]
def getD_some {α:Type}{xs:Lf α}{i:Ll}{x d:α}(h:xs[i]?=ba x):xs.getD i d=x:=by simp[h]
def ap {α:Type}{xs:Lf α}{i:Ll}{d:α}(h:i<↥xs):xs[i]?=ba (xs.getD i d):=by simp[h]
def pU {ns:Lf LW}{bs:Lf LC}{k:Ll}{n:LW}{b:LC}(a:ns[k]?=ba n)(c:bs[k]?=ba b):(LK aK ns bs)[k]?=ba (aK n b):=by
 rw[Sn,a,c]
abbrev au (ps:Lf Ll):Lf W:=ps.map λ(p:Ll)=>W.int (p:LC)
def pV {ps:Lf Ll}{k p:Ll}(h:ps[k]?=ba p):(au ps)[k]?=ba (.int p):=by simp[au,h]
def aI (bs:Lf LC)(u:Wd)(ps:Lf Ll):(ag bs u ps).length=↥ps:=by unfold ag;rw[Lh,L0]
def gF {u:Wd}{i:Ll}(hi:i<↥u):(u.map bo)[((i:Ll):LC).toNat]?=ba (bo (u.getD i (0,[]))):=by
 rw[LP,Lu,ap hi];rfl
section
variable{defs:Lf (LW×Df)}{fuel d:Ll}{S:aa}{r:Ll}{Q:QW}
def AZ {M:LW->FF}{m0 b0:W}{ns:Lf LW}{bs:Lf LC}{a:Ll}{u:Wd}{i j:Ll}{Q:QO}(s:GoodB bs)(hl:↥ns=↥bs)(m:GoodW a ↥bs u)(hi:i<↥u)(p:j<↥u)(x:i≠j)(k:Q (.rt (.int (b6 bs u i j)),S)) :
  wZ M fuel dF [ba (.tup [m0,.tup (LK aK ns bs),b0]),ba (am u),ba (.int i),ba (.int j)] S Q:=by
 have l:=ap (d:=(0,[])) hi;have f:=ap (d:=(0,[])) p;unfold b6 at k;delta dF;nofun
 delta wS wT wE wV wG xQ wO wB am;show aE (Q0:=Q) (λh q _ y=>?_) (λh q g _=>?_)
 ·have c:j<i:=by have:=Mq h;omega
  rw[LU c]at k;have n:j<(u.getD i (0,[])).2.length:=by rw[m.len i _ l];show c
  show st ?_;delta wS wE wV wG;show al (LV i) (gF hi) (al #v[] rfl (al (LV j) ?_ (y _ _ k)))
  rw[LP,Lu,ap (d:=0) n];rfl
 ·have c:¬ j<i:=by have:=OD h;omega
  rw[L1 c]at k;show bX (g _ _ (hK _ _ ?_));clear g hK;have n:i<(u.getD j (0,[])).2.length:=by rw[m.len j _ f];omega
  have o:=ap (d:=0) n;obtain⟨r,z⟩:=m.way j _ f _ (LD o);obtain⟨b,e,t,w⟩:=s.rng ((u.getD j (0,[])).2.getD i 0).toNat ∅
  have g:((u.getD j (0,[])).2.getD i 0).toNat<↥ns:=∅
  rw[getD_some e]at k;show st ?_;delta wS wE wV wG;show al #v[] rfl (al (LV j) (gF p) (al #v[] rfl (al (LV i) ?_ (al r (pU (Lq g) e) (al #v[] rfl k)))))
  rw[LP,Lu,o];rfl
def xU (G:Gen defs){m0 b0:W}{ns:Lf LW}{bs:Lf LC}{a:Ll}{u:Wd}{i j:Ll}(e:GoodB bs)(hl:↥ns=↥bs)(g:GoodW a ↥bs u)(hi:i<↥u)(f:j<↥u)(b:i≠j)(k:Q (.int (b6 bs u i j),S)) :
  wO (aQ (ak defs fuel (d+1)) "_law_between" 4 [.tup [m0,.tup (LK aK ns bs),b0],am u,.int i,.int j] S) Q:=
 az G.between rfl rfl λh c=>AZ e hl g hi f b (c _ _ k)
def Gw (G:Gen defs){m0 b0:W}{ns:Lf LW}{bs:Lf LC}{a:Ll}{u:Wd}{ps:Lf Ll}(I:GoodB bs)(hl:↥ns=↥bs)(L:GoodW a ↥bs u)(f:∀p∈ps,p<↥u)(t:ps.Nodup)(hsz:↥ps<1000)(k:∀S',Ka S S'->Q (am (ag bs u ps),S')) :
  wO (aQ (ak defs fuel (d+2)) "_law_part" 3 [.tup [m0,.tup (LK aK ns bs),b0],am u,.tup (au ps)] S) Q:=by
 show az G.part rfl rfl λA C=>?_
 replace k:∀S',Ka S S'->A (.rt (am (ag bs u ps)),S'):=λS' a=>C _ _ (k S' a)
 clear C;change wZ _ _ gv [ba (.tup [m0,.tup (LK aK ns bs),b0]),ba (am u),ba (.tup (au ps)),gV,gV,gV] S A;generalize s:W.tup [m0,.tup (LK aK ns bs),b0]=R;delta gv;show st ?_;delta wS wE wA LH;nofun
 have M:(au ps).length=↥ps:=Lh ..;show cO (↥ps:LC) (λk Z S'=>∃o r,Z=[ba R,ba (am u),ba (.tup (au ps)),ba (.ref ↥S),o,r]/\S'[↥S]?=ba (.lst (((ag bs u ps).take k).map bo))/\Ka S S') rfl rfl ∅ ?_ ?_ ?_
 ·delta wE wA wV wG;show bc ?_;rw[M];show#[rfl,gV,gV,rfl,af,.push]
 ·rintro i Z S1 hi ⟨o,r,rfl,c,y⟩ N J _;clear hK;have b:i<↥ps:=∅
  have D:ps[i]?=ba ps[i]:=Lq b;have g:ps[i]<↥u:=f _ (Mp b);show st ?_;delta wS wE wV wG LH;show al (LV i) (by rw[LP];show pV D) ?_
  show st ?_;left;show#[dS c,al (LV _) (gF g) (al #v[] rfl ?_)]
  show vR (au (ps.take i)) (λj ys m S2=>(∃n,m=[gV,n,ba (.int ps[i]),ba R,ba (am u)])/\ys=((ps.take i).take j).map (λq=>W.int (b6 bs u ps[i] q))/\Ka S1 S2) rfl rfl rfl ?_ ?_ ?_
  ·delta wE wP wV wG wN;show ab (a:=(.tup (au (ps.take i)),S1)) ?_ #[rfl,#[gV,rfl],rfl,.refl];simp only[tf,jI];unfold au;rw[Qz]
  ·rintro j w ys m S2 E ⟨⟨n,rfl⟩,rfl,l⟩;have e:j<(ps.take i).length:=by
    have:=(LB.mp E).1;unfold au at this
    rwa [Lh]at this
   have x:(ps.take i)[j]?=ba (ps.take i)[j]:=Lq e;cases(pV x).symm.trans E;have P:j<i:=by rw[Mv]at e;omega
   have eq:(ps.take i)[j]=ps[j]'∅:=OS
   generalize(ps.take i)[j]=q at x eq ⊢;show ab (show gE (.nm 1) (.int (q:LC)) [gV,n,ba (.int ps[i]),ba R,ba (am u)] S2=ba ([gV,ba (.int (q:LC)),ba (.int ps[i]),ba R,ba (am u)],S2)from rfl) ?_
   delta gX wC wE wA wV wG;subst s;show#[λ_=>xU (d:=d) G I hl L g (by rw[eq];show f _ (Mp _)) ?_ #[#[_,rfl],?_,l],λz=>by cases z]
   ·rw[eq];intro h;have:=(NB t).mp h;omega
   ·rw[L8,x];simp
  ·rintro ys m S2 ⟨_,rfl,l⟩;rw[show(au (ps.take i)).length=(ps.take i).length from Lh ..,Mg]
   show#[few (by rw[Lh,Mv];omega),fT af ?_]
   have B:=aj (u:=O.lst ((ps.take i).map λq=>W.int (b6 bs u ps[i] q))) (l.get _ _ c)
   show vS B (by rw[Lh,Mv];omega) (bX (J _ _ #[_,_,rfl,?_,((y.trans l).trans .push).late (Ls _)]))
   rw[bB B];have H:(ag bs u ps)[i]?=ba ((u.getD ps[i] (0,[])).1,(ps.take i).map λq=>b6 bs u ps[i] q):=by
    unfold ag;rw[Lu,N5 b,MA,getD_some D]
   rw[L8,H];simp[bo,T5]
 ·rintro Z S1 ⟨o,r,rfl,c,y⟩;rw[LP,<- aI bs u ps,Mg]at c;show hK _ _ (st ?_);left;show fT c (k _ y)
def pW (G:Gen defs)(k:Q (.ref ↥S,S++[.lst (aw.map λt=>W.tup (au t))])):wO (aQ (ak defs fuel (d+1)) "_law_turns" 0 [] S) Q:=by
 show az G.turns rfl rfl λb a=>?_
 delta gY;show st ?_;delta wS wE wA;show a _ _ k
def dA (bt:Ll->Ll->L7):∀n:Ll,argBest bt n<=n
 |0=>Ls _
 |n+1=>by have:=dA bt n;simp only[argBest];split<;>omega
def jK (G:Gen defs){m0 b0:W}{ns:Lf LW}{bs:Lf LC}{a:Ll}{u:Wd}(r:GoodB bs)(hl:↥ns=↥bs)(v:GoodW a ↥bs u)(q:↥u=3)(k:∀S',Ka S S'->Q (am (gI bs u),S')) :
  wO (aQ (ak defs fuel (d+3)) "_law_figure" 2 [.tup [m0,.tup (LK aK ns bs),b0],am u] S) Q:=by
 show az G.figure rfl rfl λl m=>?_
 replace k:∀S',Ka S S'->l (.rt (am (gI bs u)),S'):=λS' a=>m _ _ (k S' a)
 clear m;change wZ _ _ d8 [ba (.tup [m0,.tup (LK aK ns bs),b0]),ba (am u)] S l;generalize h:W.tup [m0,.tup (LK aK ns bs),b0]=R;delta d8;show st ?_;delta wS wE wA;show pT ↥S (aw.map λt=>W.tup (au t)) (λi ys f S2=>(∃g,f=[gV,g,ba R,ba (am u)])/\ys=((aw.take i).map λt=>am (ag bs u t))/\Ka (S++[.lst (aw.map λt=>W.tup (au t))]) S2) rfl rfl rfl ?_ ?_ ?_ ?_
 ·delta wE wA;show pW (d:=d+1) G #[rfl,#[gV,rfl],rfl,.refl]
 ·rintro i ys f S2 ⟨_,_,c⟩;show c.get _ _ af
 ·rintro i w ys f S2 o ⟨⟨g,rfl⟩,rfl,c⟩;rw[Lu,Lk]at o;obtain⟨t,n,rfl⟩:=o;have b:(∀p∈t,p<3)/\t.Nodup/\↥t<1000:=by
   have:∀t∈aw,(∀p∈t,p<3)/\t.Nodup/\↥t<1000:=by decide
   show this t (LD n)
  show ab (show gE (.nm 1) (.tup (au t)) [gV,g,ba R,ba (am u)] S2=ba ([gV,ba (.tup (au t)),ba R,ba (am u)],S2)from rfl) ?_
  delta gX wC wE wA wV wG;subst h;show#[λ_=>Gw (d:=d) G r hl v (λp s=>by rw[q];show b.1 p s) b.2.1 b.2.2 λy x=>#[#[_,rfl],?_,c.trans x],λz=>by cases z]
  rw[L8,n];simp
 ·rintro ys f S2 ⟨_,rfl,c⟩;have e:((aw.take (aw.map λt=>W.tup (au t)).length).map λt=>am (ag bs u t))=(aw.map (ag bs u)).map am:=by
   rw[Lh,Mg,Nl];rfl
  rw[e];show#[jH rfl,ab (a:=(am (gI bs u),S2++[.lst ((aw.map (ag bs u)).map am)])) ?_ (k _ ((Ka.push.trans c).trans .push))]
  (delta Bi.fn At zw;simp only[ay af,AV])
  rw[LU #[by have:=iu (aw.map (ag bs u));unfold cp;omega,fU _]]
  unfold gI;have j:i4 ((aw.map (ag bs u)).map bA)<(aw.map (ag bs u)).length:=MH (dA _ _) (by decide:5<6)
  rw[Lu,ap (d:=[]) j];rfl
end
abbrev ah (xs:Lf LC):Lf W:=xs.map W.int
abbrev bI (us:Lf Wd):Lf Wd:=dI (mQ (us.map bA)) [] us
def rW {α β:Type}{lt:Ll->Ll->L7}{d:α}{d':β}{f:α->β}{us:Lf α}:dI lt d' (us.map f)=(dI lt d us).map f:=by
 unfold dI;rw[Lh];split
 ·rfl
 ·rw[Nl];show Mm λi hi=>?_
  have hl:i<↥us:=lh ∅ i hi
  simp[hl]
def uy {S:aa}{x:W}{us:Lf Wd}(h:dQ S x=ba (us.map am))(a:↥us<64)(b:∀u∈us,u≠[]):gl [x] S=ba (.ref ↥S,S++[.lst ((bI us).map am)]):=by
 have ok:iZ (us.map bA)=true:=by
  unfold iZ;simp only[Lp,NP,LJ,Lh];show#[#[a,by have:=iu us;unfold cp;show Lw ‹_› (LL rfl)],.inr #[AY us b,fU us]]
 simp only[gl,h,AV];rw[LU ok,rW (d:=[])];rfl
abbrev dZ (a ns:Lf LW)(bs:Lf LC)(us:Lf Wd):W:=.tup [.tup (a.map W.str),.tup (LK aK ns bs),.tup (us.map am)]
structure GoodN (ms ns:Lf LW):Prop where
 name:∀y∈ms++ns,Name y
 nd:(jb++(ms++ns)).Nodup
def GoodW.nil {a n:Ll}:GoodW a n []:=#[λk p h=>(by simp at h),λk p h=>(by simp at h),λk p h=>(by simp at h)]
def GoodW.snoc {a n:Ll}{u:Wd}{m:LC}{ws:Lf LC}(h:GoodW a n u)(c:0<=m/\m<a)(d:↥ws=↥u)(f:∀w∈ws,0<=w/\w<(n:LC)):GoodW a n (u++[(m,ws)]):=by
 have b:∀(k:Ll) (p:Pt),(u++[(m,ws)])[k]?=ba p->u[k]?=ba p\/(k=↥u/\p=(m,ws)):=λk p e=>by
  rcases T3 k ↥u with hk|hk
  ·rw[Mw hk]at e;show .inl e
  ·rw[Nt hk]at e;have:k-↥u=0:=by
    have:=(LB.mp e).1;simp at this;assumption
   rw[this]at e;cases e;show .inr #[∅,rfl]
 show#[λk p e=>?_,λk p e=>?_,λk p e=>?_]<;>rcases b k p e with e|⟨rfl,rfl⟩
 ·show h.mark k p e
 ·show c
 ·show h.len k p e
 ·show d
 ·show h.way k p e
 ·show f
def GoodB.inv {bs:Lf LC}(h:GoodB bs):∀k:Ll,k<↥bs->bs.getD (bs.getD k 0).toNat 0=k:=by
 rcases h with rfl|rfl|rfl|rfl|rfl|rfl<;>decide
def GoodB.at {bs:Lf LC}(h:GoodB bs){x:LC}(d:0<=x)(e:x<↥bs):bs[x.toNat]?=ba (bs.getD x.toNat 0)/\0<=bs.getD x.toNat 0/\bs.getD x.toNat 0<↥bs:=by
 obtain⟨b,a,c⟩:=h.rng x.toNat ∅
 rw[getD_some a];show#[a,c]
def DV {S:aa}{x:W}{xs:Lf W}(h:dQ S x=ba xs):di [x] S=gV:=by
 cases x with
 |ref i=>
  have a:G5 S i=gV:=by
   unfold G5;cases e:S[i]? with
   |none=>rfl
   |some o=>
    cases o with
    |stt ss=>simp[dQ,gJ,kI,e]at h
    |_=>rfl
  (delta di;simp only[a])
 |_=>rfl
def uz {S:aa}{x:W}{us:Lf Wd}{Q:QW}(h:dQ S x=ba (us.map am))(a:↥us<64)(b:∀u∈us,u≠[])(q:Q (.ref ↥S,S++[.lst ((bI us).map am)])):wO (Bi.sorted.fn [x] S) Q:=by
 show ab ?_ q;show(match di [x] S with
  |some r=>ba r
  |none=>gl [x] S)=_
 rw[DV h];show uy h a b
abbrev A6:Lf (Ll×Ll):=[(1,1),(2,1),(3,1),(1,2),(1,2),(2,2),(2,2),(3,2),(1,3),(1,3),(2,3)]
def A7:∀p∈A6,1<=p.1/\p.1<=3/\1<=p.2/\p.2<=3/\p.1*p.2<=6:=by decide
abbrev mw:Ll->Lf (Lf LC)
 |1=>[[0]]
 |2=>[[0,1],[1,0]]
 |_=>[[0,1,2],[1,0,2],[0,2,1]]
def Ba:∀n:Ll,1<=n->n<=3->(∀b∈mw n,GoodB b/\↥b=n)/\0<(mw n).length/\(mw n).length<=3
 |1,_,_=>#[λb h=>by cases LA.mp h;show#[.inl rfl,rfl],#v[],#v[]]
 |2,_,_=>#[λb h=>by
   rcases LQ.mp h with rfl|h
   ·show#[.inr (.inl rfl),rfl]
   ·cases LA.mp h;show#[.inr (.inr (.inl rfl)),rfl],#v[],#v[]]
 |3,_,_=>#[λb h=>by
   rcases LQ.mp h with rfl|h
   ·show#[.inr (.inr (.inr (.inl rfl))),rfl]
   ·rcases LQ.mp h with rfl|h
    ·show#[.inr (.inr (.inr (.inr (.inl rfl)))),rfl]
    ·cases LA.mp h;show#[.inr (.inr (.inr (.inr (.inr rfl)))),rfl],#v[],#v[]]
 |0,h,_=>absurd h #v[]
 |n+4,_,h=>absurd h ∅
section
variable{defs:Lf (LW×Df)}{fuel d:Ll}{S:aa}{r:Ll}{Q:QW}
def pX (G:Gen defs)(hf:Fl S r)(k:∀(a n:Ll) S',1<=a->a<=3->1<=n->n<=3->a*n<=6->Fl S' r->Kp r S S'->Q (.tup [.int a,.int n],S')) :
  wO (aQ (ak defs fuel (d+2)) "_law_sizes" 1 [.ref r] S) Q:=by
 show az G.sizes rfl rfl λc m=>?_
 change wZ _ _ fA [ba (.ref r),gV] S c;delta fA;show st ?_;delta wS wE wA LH;show st ?_;left;show aZ (d:=d) G.pick (hf.ka .push) #v[] #v[] λv S1 s t l b=>?_
 have e:=b.get _ _ (Mk hf.lt) af;obtain⟨p,o,j⟩:=mo (f:=λp:Ll×Ll=>W.tup [.int p.1,.int p.2]) (xs:=A6) (i:=v.toNat) (by change v.toNat<11;omega)
 obtain⟨g,h,q,n3,an⟩:=A7 p o;show dX e s j (m _ _ (k _ _ _ g h q n3 an l (Kp.push.trans b)))
def pY (G:Gen defs){n:Ll}(hf:Fl S r)(y:1<=n)(A:n<=3)(k:∀(bs:Lf LC) S',GoodB bs->↥bs=n->Fl S' r->Kp r S S'->Q (.tup (ah bs),S')) :
  wO (aQ (ak defs fuel (d+2)) "_law_backs" 2 [.ref r,.int n] S) Q:=by
 show az G.backs rfl rfl λj m=>?_
 replace k:∀(bs:Lf LC) S',GoodB bs->↥bs=n->Fl S' r->Kp r S S'->j (.rt (.tup (ah bs)),S'):=λz S' a b c e=>m _ _ (k z S' a b c e)
 clear m;change wZ _ _ fw [ba (.ref r),ba (.int n),gV] S j;delta fw;nofun
 left;delta md aM;obtain⟨h,w,x⟩:=Ba n y A;have g:∀(t:Ll) (S1:aa),↥S<=t->S1[t]?=ba (.lst ((mw n).map λb=>.tup (ah b)))->Ka S S1->K [ba (.ref r),ba (.int n),ba (.ref t)] S1:=by
  intro t S1 C l ka;show hK _ _ (st ?_);left;show dY l ?_;rw[Lh];show aZ (d:=d) G.pick (hf.ka ka) ∅ ∅ λv S2 B D u p=>?_
  have q:=p.get _ _ (by have:=hf.lt;omega) l
  obtain⟨b,o,s⟩:=mo (f:=λb:Lf LC=>W.tup (ah b)) (xs:=mw n) (i:=v.toNat) ∅
  show dX q B s (k b S2 (h b o).1 (h b o).2 u ((ka.kp r).trans p))
 clear hK w x h;rcases(show n=1\/n=2\/n=3 by omega)with rfl|rfl|rfl
 ·show eu (i:=0) af rfl (g _ _ (Ls _) (aj (aj (aj af))) (Ka.push.trans (Ka.push.trans (Ka.push.trans .push))))
 ·show eu (i:=1) af rfl (g _ _ (by simp) (aj (aj af)) (Ka.push.trans (Ka.push.trans (Ka.push.trans .push))))
 ·show eu (i:=2) af rfl (g _ _ (by simp only[Lx];omega) (aj af) (Ka.push.trans (Ka.push.trans (Ka.push.trans .push))))
def oh (o:20<fuel)(G:Gen defs){a:Ll}{bs:Lf LC}{x:W}{us:Lf Wd}(hf:Fl S r)(L:a<=3)(M:↥bs<=3)(H:∀S',Kp r S S'->dQ S' x=ba (us.map am))(n:↥us<64)(p:∀u∈us,u≠[])
  (k:∀(g ns:Lf LW) S',↥g=a->↥ns=↥bs->GoodN g ns->Fl S' r->Kp r S S'->Q (dZ g ns bs (bI us),S')) :
  wO (aQ (ak defs fuel (d+5)) "_law_rule_of" 4 [.ref r,.int a,.tup (ah bs),x] S) Q:=by
 show az G.rule_of rfl rfl λt B=>?_
 replace k:∀(g ns:Lf LW) S',↥g=a->↥ns=↥bs->GoodN g ns->Fl S' r->Kp r S S'->t (.rt (dZ g ns bs (bI us)),S'):=λz y S' a b c e f=>B _ _ (k z y S' a b c e f)
 clear B;change wZ _ _ dG [ba (.ref r),ba (.int a),ba (.tup (ah bs)),ba x,gV,gV] S t;have h:(ah bs).length=↥bs:=Lh ..;delta dG;nofun
 left;show bc ?_;rw[h];delta bW aM;show DU (d:=d) (m:=a+↥bs) o G hf ∅ λys S1 N I J E C=>hK _ _ ?_
 clear hK K;have q:(LK aK (ys.drop a) bs).length=↥bs:=by
  rw[N6,Ow];omega
 nofun
 delta wS wE wA LH;show dD (↥bs:LC) (λk s l S2=>(∃v,l=[gV,v,ba (.tup (ah bs)),ba (.int a),ba (.tup (ys.map W.str))])/\s=((LK aK (ys.drop a) bs).take k)/\S2=S1) rfl rfl rfl ∅ ?_ ?_ ?_
 ·delta wE wA wV wG;show bc ?_;rw[h];show#[rfl,#[gV,rfl],rfl,rfl]
 ·rintro i s l S2 hi ⟨⟨v,rfl⟩,rfl,rfl⟩;clear hK;have j:i<↥bs:=by show N4.mp ‹_›
  have A:a+i<↥ys:=∅
  delta gX wC wE wA wV wG LH bW aM;show#[λ_=>al ∅ (w:=.str ys[a+i]) ?_ (al ∅ (w:=.int bs[i]) ?_ #[#[_,rfl],?_,rfl]),λz=>by cases z]
  ·rw[show((a:LC)+(i:LC)).toNat=a+i by omega,Lu,Lq A];rfl
  ·unfold ah;rw[LP,Lu,Lq j];rfl
  ·have D:(LK aK (ys.drop a) bs)[i]?=ba (aK ys[a+i] bs[i]):=pU (by rw[List.getElem?_drop];show Lq A) (Lq j)
   rw[L8,D];rfl
 ·rintro s l S2 ⟨_,rfl,rfl⟩;rw[LP,<- q,Mg];show#[few ∅,fT af (hK _ _ ?_)]
  clear hK K;show st ?_;delta wS wE wA wP wV wG wN;have hs:tf (.tup (ys.map W.str)) gV (ba (a:LC)) (S2++[O.lst (LK aK (ys.drop a) bs)])=ba (.tup ((ys.take a).map W.str),S2++[O.lst (LK aK (ys.drop a) bs)]):=by
   simp only[tf,jI];rw[Qz]
  show ab hs (uz (H _ (C.trans .push)) n p (fT af ?_));show k (ys.take a) (ys.drop a) _ ?_ ?_ #[?_,?_] ((E.ka .push).ka .push) (C.trans (Kp.push.trans .push))
  ·rw[Mv];omega
  ·rw[Ow];omega
  ·rw[OG];show I
  ·rw[OG];show J
def gy (b:20<fuel)(G:Gen defs){a:Ll}{bs:Lf LC}(hf:Fl S r)(e:a<=3)(f:↥bs<=3)
  (k:∀(c ns:Lf LW) S',↥c=a->↥ns=↥bs->GoodN c ns->Fl S' r->Kp r S S'->Q (dZ c ns bs [],S')) :
  wO (aQ (ak defs fuel (d+5)) "_law_rule_of" 4 [.ref r,.int a,.tup (ah bs),.tup []] S) Q:=
 oh b G hf e f (us:=[]) (λ_ _=>rfl) #v[] (λ_ h=>nomatch h) k
def draws {M:LW->FF}{Z:Fm}{c e:E}{f:Lf (Ln Ll)}{n i:Ll}{R:Fm}(A:d7 c=true)(B:d7 e=true)(H:i<=1000)(s:fH f Z=gV::gV::R)(hf:Fl S r)(t:∀Q:QW,Q (.int i,S)->wE M e Z S Q)
  (u:∀(a:Ln W) (S1:aa) (Q:QW),Fl S1 r->(∀v S',0<=v->v<(n:LC)->Fl S' r->Kp r S1 S'->Q (.int v,S'))->wE M c (gV::a::R) S1 Q)
  (k:∀(vs:Lf LC) S',↥vs=i->(∀w∈vs,0<=w/\w<(n:LC))->Fl S' r->Kp r S S'->Q (.ref ↥S',S'++[.lst (ah vs)])) :
  Wp (aD M (.comp c (.nm 1) (.rng #v[e]) .nil f) Z S) Q:=by
 show dD (i:LC) (λj ys g d=>(∃p,g=gV::p::R)/\(∃vs:Lf LC,ys=ah vs/\↥vs=j/\∀w∈vs,0<=w/\w<(n:LC))/\Fl d r/\Kp r S d) B A rfl ∅ (t _ #[rfl,#[gV,s],#[[],rfl,rfl,λ_ h=>nomatch h],hf,.refl]) ?_ ?_
 ·rintro j ys g d I ⟨⟨p,rfl⟩,⟨vs,rfl,b,m⟩,l,o⟩;show#[λ_=>u _ _ _ l λv G C D q y=>#[#[_,rfl],#[vs++[v],(Mb (l₁:=vs) (l₂:=[v])).symm,by rw[Lx,b];rfl,λw x=>?_],q,o.trans y],λz=>by cases z]
  rcases Ma.mp x with h|h
  ·show m w h
  ·rw[LA.mp h];show#[C,D]
 ·rintro ys g d ⟨_,⟨vs,rfl,b,m⟩,l,o⟩;rw[LP]at b;show#[few (by rw[show(ah vs).length=↥vs from Lh ..];omega),k vs d b m l o]
def jL (G:Gen defs){a n:Ll}(hf:Fl S r)(T:0<a)(H:a<=3)(U:0<n)(I:n<=3)(k:∀(u:Wd) S',↥u=3->GoodW a n u->Fl S' r->Kp r S S'->Q (am u,S')) :
  wO (aQ (ak defs fuel (d+2)) "_law_free_three" 3 [.ref r,.int a,.int n] S) Q:=by
 show az G.free_three rfl rfl λw y=>?_
 replace k:∀(u:Wd) S',↥u=3->GoodW a n u->Fl S' r->Kp r S S'->w (.rt (am u),S'):=λz S' a b c e=>y _ _ (k z S' a b c e)
 clear y;change wZ _ _ cr [ba (.ref r),ba (.int a),ba (.int n),gV,gV] S w;delta cr;have o:=hf.lt;show st ?_;delta wS wE wA LH;nofun
 show cO 3 (λk Z S'=>∃j u,Z=[ba (.ref r),ba (.int a),ba (.int n),ba (.ref ↥S),j]/\S'[↥S]?=ba (.lst (u.map bo))/\↥u=k/\GoodW a n u/\Fl S' r/\Kp r S S') rfl rfl #v[] #[rfl,gV,[],rfl,af,rfl,.nil,hf.ka .push,.push] ?_ ?_
 ·rintro i Z S1 hi ⟨j,u,rfl,h,g,p,l,t⟩ N m _;clear hK;show st ?_;left;show#[dS h,aZ (d:=d) G.pick l ∅ ∅ λv S2 L M D A=>?_]
  have C:=A.get _ _ (Mk ‹_›) h;show draws (n:=n) (i:=i) (R:=[ba (.ref r),ba (.int n)]) rfl rfl ∅ rfl D (λQ q=>q) (λa S1 Q f q=>aZ (d:=d) G.pick f ∅ ∅ q) λvs P s J E B=>?_
  have x:=aj (u:=O.lst (ah vs)) (B.get _ _ (Mk ‹_›) C);show fT af (vS x (by rw[Lh];omega) (bX (m _ _ #[_,u++[(v,vs)],rfl,?_,by rw[Lx,g];rfl,p.snoc #[L,M] (s.trans g.symm) J,(E.ka .push).own o,(t.trans (A.trans (B.trans .push))).late (Ls _)])))
  rw[bB x,Mb];rfl
 ·rintro Z S1 ⟨j,u,rfl,h,g,p,l,t⟩;show hK _ _ (st ?_);left;show fT h (k u _ g p l t)
end
abbrev mx (n:Ll):Lf LC:=(LR n).map λ(k:Ll)=>(k:LC)
abbrev rX (a n:Ll):Lf Wd:=(mx a).flatMap λm0=>(mx a).flatMap λb=>(mx a).flatMap λc=>(mx n).flatMap λd=>(mx n).flatMap λw2=>(mx n).map λe=>[(m0,[]),(b,[d]),(c,[w2,e])]
abbrev aS (a:Ll)(bs:Lf LC):Lf Wd:=((rX a ↥bs).map (gI bs)).eraseDups
def dq {n:Ll}{x:LC}(a:0<=x)(b:x<n):x∈mx n:=Lr.mpr #[x.toNat,LG.mpr ∅,∅]
def xV {a n:Ll}{u:Wd}(h:GoodW a n u)(k:↥u=3):u∈rX a n:=by
 match u,k with
 |[(m0,o),(l,p),(m,w2)],_=>
  have g:=h.len 0 _ rfl;have i:=h.len 1 _ rfl;have j:=h.len 2 _ rfl;simp only at g i j
  match o,g with
  |[],_=>
   match p,i with
   |[x],_=>
    match w2,j with
    |[y,z],_=>
     have b:=h.mark 0 _ rfl;have c:=h.mark 1 _ rfl;have d:=h.mark 2 _ rfl;have e:=h.way 1 _ rfl x (by simp)
     have b2:=h.way 2 _ rfl y (by simp)
     have f:=h.way 2 _ rfl z (by simp)
     unfold rX;simp only[ML,Lr];show#[m0,dq b.1 b.2,l,dq c.1 c.2,m,dq d.1 d.2,x,dq e.1 e.2,y,dq b2.1 b2.2,z,dq f.1 f.2,rfl]
def pZ {a:Ll}{bs:Lf LC}{u:Wd}(h:GoodW a ↥bs u)(b:↥u=3):gI bs u∈aS a bs:=by
 unfold aS;rw[Rn];show Lr.mpr #[u,xV h b,rfl]
structure SizeOk (a:Ll)(bs:Lf LC):Prop where
 pos:0<a
 good:GoodB bs
 most:a*↥bs<=6
 a3:a<=3
def SizeOk.n3 {a:Ll}{bs:Lf LC}(h:SizeOk a bs):0<↥bs/\↥bs<=3:=by
 rcases h.good with rfl|rfl|rfl|rfl|rfl|rfl<;>decide
def Kz:(aS 1 [0]).length<64/\(aS 2 [0]).length<64/\(aS 3 [0]).length<64:=by decide +kernel
def JE:(aS 1 [0,1]).length<64/\(aS 2 [0,1]).length<64/\(aS 1 [1,0]).length<64/\(aS 2 [1,0]).length<64:=by decide +kernel
def KA:(aS 1 [0,1,2]).length<64/\(aS 1 [1,0,2]).length<64/\(aS 1 [0,2,1]).length<64:=by decide +kernel
def KC:(aS 3 [0,1]).length<64:=by decide +kernel
def KD:(aS 3 [1,0]).length<64:=by decide +kernel
def KF:(aS 2 [0,1,2]).length<64:=by decide +kernel
def KG:(aS 2 [1,0,2]).length<64:=by decide +kernel
def KH:(aS 2 [0,2,1]).length<64:=by decide +kernel
def jM {a:Ll}{bs:Lf LC}(h:SizeOk a bs):(aS a bs).length<64:=by
 obtain⟨e,d,b,f⟩:=h;have c:a=1\/a=2\/a=3:=∅
 rcases d with rfl|rfl|rfl|rfl|rfl|rfl<;>rcases c with rfl|rfl|rfl
 ·show Kz.1
 ·show Kz.2.1
 ·show Kz.2.2
 ·show JE.1
 ·show JE.2.1
 ·show KC
 ·show JE.2.2.1
 ·show JE.2.2.2
 ·show KD
 ·show KA.1
 ·show KF
 ·simp at b
 ·show KA.2.1
 ·show KG
 ·simp at b
 ·show KA.2.2
 ·show KH
 ·simp at b
def Bb (bs:Lf LC)(u:Wd):∃t∈aw,gI bs u=ag bs u t:=by
 have b:(aw.map (ag bs u)).length=6:=by rw[Lh];rfl
 have f:((aw.map (ag bs u)).map bA).length=6:=by rw[Lh,b]
 have a:i4 ((aw.map (ag bs u)).map bA)<(aw.map (ag bs u)).length:=by
  unfold i4;have d:=dA (mQ ((aw.map (ag bs u)).map bA)) (((aw.map (ag bs u)).map bA).length-1);rw[b];show MH ‹_› (LL rfl)
 unfold gI;rw[getD_some (Lq a)];obtain⟨t,c,e⟩:=Lr.mp (Mp a);show#[t,c,e.symm]
def DW (bs:Lf LC)(u:Wd):gI bs u≠[]:=by
 obtain⟨t,a,e⟩:=Bb bs u;rw[e];have:∀t∈aw,t≠[]:=by decide
 have h:=this t a;intro z;have hl:(ag bs u t).length=↥t:=by simp[ag]
 rw[z]at hl;show h (MQ.mp hl.symm)
def rY:∀{xs ys:Lf LC},xs.map T.int=ys.map T.int->xs=ys
 |[],[],_=>rfl
 |[],_::_,h=>by cases h
 |_::_,[],h=>by cases h
 |x::xs,y::ys,h=>by
  rw[Mj,Mj]at h;injection h with h1 h2
  injection h1 with h1
  rw[h1,rY h2]
def DX {p q:Pt}(h:iJ p=iJ q):p=q:=by
 unfold iJ at h;injection h with h
 injection h with h1 h2
 injection h1 with h1
 injection h2 with h2 _
 injection h2 with h2
 show VT h1 (rY h2)
def cR {u v:Wd}(h:bA u=bA v):u=v:=by
 unfold bA at h;injection h with h
 have inj:∀{u v:Wd},u.map iJ=v.map iJ->u=v:=by
  intro u
  induction u with
  |nil=>intro v h;cases v with
   |nil=>rfl
   |cons _ _=>cases h
  |cons p u ih=>intro v h;cases v with
   |nil=>cases h
   |cons q v=>
    rw[Mj,Mj]at h;injection h with h1 h2
    rw[DX h1,ih h2]
 show inj h
def fW {U:Lf (T×W)}{k:T}{v:W}:(eN U k v).map (·.1)=if k∈U.map (·.1)then U.map (·.1)else U.map (·.1)++[k]:=by
 have a:(U.any λp=>decide (p.1=k))=decide (k∈U.map (·.1)):=by
  induction U with
  |nil=>rfl
  |cons p U ih=>
   rw[Ov,ih,Mj]
   by_cases e:p.1=k
   ·subst e;simp
   ·rw[Mt e,RB];have:(k∈p.1::U.map (·.1))=(k∈U.map (·.1)):=by simp[Ne.symm e]
    simp only[this]
 unfold eN;rw[a]
 by_cases h:k∈U.map (·.1)
 ·rw[LU h,LU (Nc h),Nl];show Mm λp _=>?_
  show(if p.1=k then(p.1,v)else p).1=p.1
  split<;>rfl
 ·rw[L1 h,L1 (by simpa using h),Mb]
  rfl
structure FigD (L:Lf Wd)(U:Lf (T×W))(fs:Lf Wd):Prop where
 keys:U.map (·.1)=fs.map bA
 nd:fs.Nodup
 mem:∀f∈fs,f∈L
def FigD.nil {L:Lf Wd}:FigD L [] []:=#[rfl,Rm,λ_ h=>nomatch h]
def FigD.len {L:Lf Wd}{U:Lf (T×W)}{a:Lf Wd}(h:FigD L U a):↥U=↥a/\↥a<=↥L:=by
 have:=congrArg Ux h.keys;rw[Lh,Lh]at this;show#[this,gx a L h.nd h.mem]
def FigD.put {L:Lf Wd}{U:Lf (T×W)}{c:Lf Wd}{f:Wd}{v:W}(h:FigD L U c)(hf:f∈L):∃d,FigD L (eN U (bA f) v) d:=by
 by_cases j:f∈c
 ·show#[c,?_,h.nd,h.mem];rw[fW,LU (by rw[h.keys];show Lr.mpr #[f,j,rfl]),h.keys]
 ·show#[c++[f],?_,?_,λg i=>?_]
  ·rw[fW,L1,h.keys,Mb]
   ·rfl
   ·rw[h.keys];intro z;obtain⟨g,i,e⟩:=Lr.mp z;show j (cR e▸i)
  ·rw[NJ];show#[h.nd,by simp,λa k b l e=>?_]
   rw[LA.mp l]at e;show j (e▸k)
  ·rcases Ma.mp i with h'|h'
   ·show h.mem g h'
   ·rw[LA.mp h'];show hf
def FigD.items {S:aa}{t:Ll}{L:Lf Wd}{U:Lf (T×W)}{a:Lf Wd}(h:FigD L U a)(e:S[t]?=ba (.dic U)):dQ S (.ref t)=ba (a.map am):=by
 simp only[dQ,pR e,cN e,MA];congr 1;have:(U.map (·.1)).map T.w=(a.map bA).map T.w:=by rw[h.keys]
 rw[Nl,Nl]at this
 calc U.map (λp=>p.1.w)=U.map (T.w∘λx=>x.1):=rfl
  _=a.map (T.w∘bA):=this
  _=a.map am:=by
   show Mm λf _=>?_
   show AU f
def rZ {a:Ll}{bs:Lf LC}{f:Wd}(h:f∈aS a bs):f≠[]:=by
 unfold aS at h;rw[Rn]at h;obtain⟨u,_,rfl⟩:=Lr.mp h;show DW bs u
def Bc {S:aa}{t:Ll}{U:Lf (T×W)}{u:Wd}{v:W}(h:S[t]?=ba (.dic U))(hl:↥U<sizeLine):jv (.ref t) (am u) v S=ba (S.set t (.dic (eN U (bA u) v))):=by
 have hk:=uu u;unfold am at hk ⊢
 (delta jv o8;simp only[h,hk])
 rw[LU hl]
structure RuleAt (a:Ll)(bs:Lf LC)(ms ns:Lf LW)(gs:Lf Wd):Prop where
 size:SizeOk a bs
 ml:↥ms=a
 nl:↥ns=↥bs
 nm:GoodN ms ns
 nd:gs.Nodup
 mem:∀g∈gs,g∈aS a bs
abbrev eT (w:W):Prop:=∃a bs c ns b,w=dZ c ns bs (bI b)/\RuleAt a bs c ns b
section
variable{M:LW->FF}{fuel:Ll}{Z:Fm}{S:aa}{K:Fm->aa->Prop}{Q:QO}
def jN {f:Ll}{e:E}{b:Ss}(m:d7 e=true)(ok:iI b=true)(k:wE M e Z S λp=>∃(j:LC) (I:Ll->Fm->aa->Prop),p.1=.int j/\(-(2^62)<=j/\j<2^62)/\I 0 Z p.2/\
  (∀(i:Ll) (Z:Fm) (S:aa),(i:LC)<j->I i Z S->yq M fuel b (Z.set f (ba (.int i))) S (I (i+1)) Q)/\∀Z S,I j.toNat Z S->K Z S):Wp (gS M fuel (.loop (.nm f) (.rng #v[e]) b) Z S) (sN K Q):=by
 obtain⟨w,S1,g,j,I,rfl,l,h,hs,a⟩:=bK m k;have hl:(dw 0 j.toNat).length=j.toNat:=by simp[dw]
 show ja (mi:=.its (dw 0 j.toNat)) (S1:=S1) (xs:=dw 0 j.toNat) I ok ?_ (λ_ _ _ _=>rfl) rfl h (λi w Z S c d=>?_) λZ S d=>a Z S (hl▸d)
 ·(delta j8 du dW jC ue;simp only[g])
  rw[LU l]
 ·rw[eQ]at c;split at c
  ·rename_i hk;cases c;rw[RZ];show hs i Z S ∅ d
  ·cases c
def jO {tg:Tg}{e:E}{b:Ss}(j:d7 e=true)(ok:iI b=true)(g:wE M e Z S λp=>∃(t:Ll) (xs:Lf W) (I:Ll->Fm->aa->Prop),p.1=.ref t/\I 0 Z p.2/\(∀i Z S,I i Z S->S[t]?=ba (.lst xs))/\
  (∀(i:Ll) (w:W) (Z:Fm) (S:aa),xs[i]?=ba w->I i Z S->wO (gE tg w Z S) λq=>yq M fuel b q.1 q.2 (I (i+1)) Q)/\∀Z S,I ↥xs Z S->K Z S):Wp (gS M fuel (.loop tg (.seq e) b) Z S) (sN K Q):=by
 obtain⟨w,S1,f,t,xs,I,rfl,d,a,hs,c⟩:=bK j g;show ja (mi:=.live t) (S1:=S1) I ok (by simp only[j8,fQ,f,ay (a _ _ _ d)]) (λi Z S h=>by simp only[MI.at,ay (a _ _ _ h)]) (by simp only[MI.len,ay (a _ _ _ d),MA]) d hs c
end
section
variable{defs:Lf (LW×Df)}{fuel d:Ll}{S:aa}{r:Ll}{Q:QW}
def Bd {q:Ll}{a:Ll}{bs:Lf LC}{d ns:Lf LW}{b:Lf Wd}{U:Lf (T×W)}{i:Lf Wd}(l:S[q]?=ba (.dic U))(c:FigD (aS a bs) U i)(hs:SizeOk a bs)(e:↥d=a)(g:↥ns=↥bs)(h:GoodN d ns)(k:∀w S',eT w->Ka S S'->Q (w,S')) :
  wO (qr (dZ d ns bs b) (.int 0) S) λp=>wO (qr (dZ d ns bs b) (.int 1) p.2) λj=>wO (Bi.sorted.fn [.ref q] j.2) λs=>wO (Bi.tuple.fn [s.1] s.2) λz=>Q (.tup [p.1,j.1,z.1],z.2):=by
 show al #v[] rfl (al #v[] rfl ?_)
 have hl:=c.len;show uz (c.items l) (by have:=jM hs;omega) (λf hf=>rZ (c.mem f hf)) (fT af (k _ _ #[a,bs,d,ns,i,rfl,hs,e,g,h,c.nd,c.mem] .push))
def Be {q:Ll}{a:Ll}{bs:Lf LC}{u:Wd}{U:Lf (T×W)}{b:Lf Wd}{Q:aa->Prop}(e:S[q]?=ba (.dic U))(f:FigD (aS a bs) U b)(hs:SizeOk a bs)(h:GoodW a ↥bs u)(d:↥u=3)
  (k:∀o,(∃U b,(S.set q o)[q]?=ba (.dic U)/\FigD (aS a bs) U b)->Q (S.set q o)):wO (jv (.ref q) (am (gI bs u)) (.bl true) S) Q:=by
 have hl:=f.len;have:=jM hs;obtain⟨c,g⟩:=f.put (v:=.bl true) (pZ h d);show ab (Bc e (by rw[MF];omega)) (k _ #[_,c,bB e,g])
def uA (B:20<fuel)(G:Gen defs)(hf:Fl S r)(k:∀w S',eT w->Fl S' r->Kp r S S'->Q (w,S')):wO (aQ (ak defs fuel (d+6)) "_law_any_rule" 1 [.ref r] S) Q:=by
 show az G.any_rule rfl rfl λm O=>?_
 replace k:∀w S',eT w->Fl S' r->Kp r S S'->m (.rt w,S'):=λz S' a b c=>O _ _ (k z S' a b c)
 clear O;change wZ _ _ dk [ba (.ref r),gV,gV,gV,gV,gV] S m;delta dk;nofun
 left;show pX (d:=d+3) G hf λa n S1 a1 s n1 n3 an L R=>?_
 delta wU;show ab (show eP [1,2] [.int a,.int n] [ba (.ref r),gV,gV,gV,gV,gV]=ba [ba (.ref r),ba (.int a),ba (.int n),gV,gV,gV]from rfl) (hK _ _ ?_)
 clear hK K;nofun
 left;show pY (d:=d+3) G L n1 n3 λbs S2 P e M T=>?_
 have hsz:SizeOk a bs:=#[∅,P,by rw[e];show an,s]
 show gy (d:=d) B G M s ∅ λms ns q C f D N l=>hK _ _ ?_
 clear hK K;have E:=N.lt;replace l:Kp r S q:=R.trans (T.trans l);clear R T L M;show st ?_;delta wS wE LH;nofun
 show jN rfl rfl ?_;delta wE wA wV wG;show aZ (d:=d+4) G.pick (N.ka .push) #v[] #v[] λv S4 v0 v9 Y V=>?_
 show#[v,λk Z S'=>(∃t,Z=[ba (.ref r),ba (.int a),ba (.int n),ba (dZ ms ns bs []),ba (.ref ↥q),t])/\(∃U A,S'[↥q]?=ba (.dic U)/\FigD (aS a bs) U A)/\Fl S' r/\Kp r S S',rfl,∅,#[#[gV,rfl],#[[],[],V.get _ _ (Mk ‹_›) af,.nil],Y,(l.trans .push).trans V],?_,?_]
 ·rintro i Z W hi ⟨⟨t,rfl⟩,⟨U,A,x,hd⟩,y,H⟩ Q2 hn _;clear hK;show st ?_;left;show jL (d:=d+3) G y ∅ s ∅ n3 λu J g j f6 h=>?_
  have j:GoodW a ↥bs u:=e.symm▸j;show jK (d:=d+2) G P f j g λS7 I=>?_
  have X:=I.get _ _ (h.get _ _ (Mk ‹_›) x);show Be X hd hsz j g λo ho=>bX (hn _ _ #[#[_,rfl],ho,(f6.ka I).own E,((H.trans h).trans (I.kp r)).late l.len])
 ·rintro Z W ⟨⟨t,rfl⟩,⟨U,A,x,hd⟩,y,H⟩;show hK _ _ (st ?_);left;show Bd (Q:=λp=>m (.rt p.1,p.2)) x hd hsz C f D λw J hw h=>k w J hw (y.ka h) (H.trans (h.kp r))
end
abbrev p4 (t:LC×LC×LC):W:=.tup [.int t.1,.int t.2.1,.int t.2.2]
abbrev r6 (a:Ll)(t:LC×LC×LC):Prop:=(0<=t.1/\t.1<a)/\(0<=t.2.1/\t.2.1<a)/\(0<=t.2.2/\t.2.2<a)
abbrev Bf (k:LC):Wd:=[(k,[]),(k,[0]),(k,[0,0])]
def KI:∀k∈mx 1,Bf k∈aS 1 [0]:=by decide +kernel
def KJ:∀k∈mx 2,Bf k∈aS 2 [0]:=by decide +kernel
def KL:∀k∈mx 3,Bf k∈aS 3 [0]:=by decide +kernel
def DY {a:Ll}{k:LC}(d:1<=a)(e:a<=3)(hk:0<=k)(b:k<a):Bf k∈aS a [0]:=by
 have c:a=1\/a=2\/a=3:=∅
 rcases c with rfl|rfl|rfl
 ·show KI k (dq hk b)
 ·show KJ k (dq hk b)
 ·show KL k (dq hk b)
def DZ {a b:LC}(h:Bf a=Bf b):a=b:=by
 unfold Bf at h;injection h with h1 h2
 injection h1
def p7:GoodB [0]:=.inl rfl
def Jc {S:aa}{i j:Ll}{xs:Lf W}(a:S[i]?=ba (.lst xs))(b:S[j]?=ba (.lst [])):cx .eq (.ref i) (.ref j) S=ba (.bl xs.isEmpty,S):=by
 show(jW S (19+1) (.ref i) (.ref j)).map _=_
 (delta jW;simp only[dj a,dj b])
 cases xs with
 |nil=>rfl
 |cons x xs=>rfl
def D0 {S:aa}{f:LC}{ws:Lf LC}:∃b,cx .notin (.int f) (.tup (ah ws)) S=ba (.bl b,S):=by
 have hf:(cv (.int f)&&(ah ws).all cv)=true:=by
  (delta cv;simp only[Qy,LN])
  intro x a;obtain⟨z,_,rfl⟩:=Lr.mp a;rfl
 show#[!(ah ws).any λz=>BY z (.int f),?_]
 change jk .notin (.int f) (.tup (ah ws)) S=_
 (delta jk G3 yo fO;simp only[hf,NC,MA])
section
variable{M:LW->FF}{fuel:Ll}{Z:Fm}{S:aa}{K:Fm->aa->Prop}{Q:QO}
def fX {h:Ll}{a b:E}{f:Ss}(i j:LC)(I:Ll->Fm->aa->Prop)(t:d7 a=true)(ob:d7 b=true)(ok:iI f=true)(s : -(2^62)<=i/\i<2^62/\-(2^62)<=j/\j<2^62)(r:wE M a Z S λp=>p.1=.int i/\wE M b Z p.2 λq=>q.1=.int j/\I 0 Z q.2)
  (c:∀(k:Ll) (Z:Fm) (S:aa),(k:LC)<j-i->I k Z S->yq M fuel f (Z.set h (ba (.int (i+k)))) S (I (k+1)) Q) (d:∀Z S,I (j-i).toNat Z S->K Z S):Wp (gS M fuel (.loop (.nm h) (.rng2 #v[a,b]) f) Z S) (sN K Q):=by
 obtain⟨w,S1,l,rfl,o⟩:=bK t r;obtain⟨w,S2,m,rfl,n⟩:=bK ob o;have hl:(dw i (j-i).toNat).length=(j-i).toNat:=by simp[dw]
 show ja (mi:=.its (dw i (j-i).toNat)) (S1:=S2) (xs:=dw i (j-i).toNat) I ok ?_ (λ_ _ _ _=>rfl) rfl n (λk w Z S e g=>?_) λZ S g=>d Z S (hl▸g)
 ·simp only[j8,du,dW,jC,iRng2,l,m];rw[LU s]
 ·rw[eQ]at e;split at e
  ·rename_i hk;cases e;show c k Z S ∅ g
  ·cases e
def Bg {c a b:E}{m:Ll}{h:Es}{e:Lf (Ln Ll)}{Q:QW}(i j:LC)(I:Ll->Lf W->Fm->aa->Prop)(x:d7 a=true)(ob:d7 b=true)(z:d7 c=true)(oc:n0 h=true)(u : -(2^62)<=i/\i<2^62/\-(2^62)<=j/\j<2^62)(t:wE M a Z S λp=>p.1=.int i/\wE M b Z p.2 λq=>q.1=.int j/\I 0 [] (fH e Z) q.2)
  (d:∀(k:Ll) (ys:Lf W) (Z:Fm) (S:aa),(k:LC)<j-i->I k ys Z S->gX M c h (Z.set m (ba (.int (i+k)))) S (λy=>I (k+1) (ys++[y])) (I (k+1) ys))
  (f:∀ys Z S,I (j-i).toNat ys Z S->↥ys<=sizeLine/\Q (.ref ↥S,S++[.lst ys])):Wp (aD M (.comp c (.nm m) (.rng2 #v[a,b]) h e) Z S) Q:=by
 obtain⟨w,S1,n,rfl,s⟩:=bK x t;obtain⟨w,S2,o,rfl,r⟩:=bK ob s;have hl:(dw i (j-i).toNat).length=(j-i).toNat:=by simp[dw]
 show km (mi:=.its (dw i (j-i).toNat)) (S1:=S2) (xs:=dw i (j-i).toNat) I z oc ?_ (λ_ _ _ _ _=>rfl) rfl r (λk w ys Z S g l=>?_) λys Z S l=>f ys Z S (hl▸l)
 ·simp only[j8,du,dW,jC,iRng2,n,o];rw[LU u]
 ·rw[eQ]at g;split at g
  ·rename_i hk;cases g;show d k ys Z S ∅ l
  ·cases g
end
section
variable{defs:Lf (LW×Df)}{fuel d:Ll}{S:aa}{r:Ll}{Q:QW}
def Bh (G:Gen defs){a:Ll}(I:a<=3)(k:∀(q:Ll) (ts:Lf (LC×LC×LC)) (S':aa),S'[q]?=ba (.lst (ts.map p4))->(∀t∈ts,r6 a t)->↥S<=q->Ka S S'->Q (.ref q,S')) :
  wO (aQ (ak defs fuel (d+1)) "_law_rising" 1 [.int a] S) Q:=by
 show az G.rising rfl rfl λA C=>?_
 replace k:∀(q:Ll) (ts:Lf (LC×LC×LC)) (S':aa),S'[q]?=ba (.lst (ts.map p4))->(∀t∈ts,r6 a t)->↥S<=q->Ka S S'->A (.rt (.ref q),S'):=λq ts S' a b c e=>C _ _ (k q ts S' a b c e)
 clear C;change wZ _ _ en [ba (.int a),gV,gV,gV] S A;delta en;show st ?_;delta wS wE wA LH;nofun
 show cO (a:LC) (λi Z S'=>∃(q:Ll) (ts:Lf (LC×LC×LC)) (s f:Ln W),Z=[ba (.int a),ba (.ref q),s,f]/\S'[q]?=ba (.lst (ts.map p4))/\(∀t∈ts,r6 a t)/\↥S<=q/\↥ts<=9*i/\Ka S S') rfl rfl ∅ #[rfl,_,[],_,_,rfl,af,λ_ h=>(nomatch h),Ls _,MS _,.push] ?_ ?_
 ·rintro i Z S1 hi ⟨q,ts,s,f,rfl,u,g,l,hl,y⟩ E D _;clear hK k;nofun
  show fX (i:LC) (a:LC) (λj Z S'=>∃(q:Ll) (ts:Lf (LC×LC×LC)) (f:Ln W),Z=[ba (.int a),ba (.ref q),ba (.int i),f]/\S'[q]?=ba (.lst (ts.map p4))/\(∀t∈ts,r6 a t)/\↥S<=q/\↥ts<=9*i+3*j/\Ka S S') rfl rfl rfl ∅ #[rfl,rfl,q,ts,f,rfl,u,g,l,∅,y] ?_ ?_
  ·rintro j Z S2 J ⟨q,ts,f,rfl,v,g,l,hl,o⟩ H w _;clear hK D;show st ?_;delta wS wE wV wG LH;show Bg ((i:LC)+j) (a:LC) (λm ys r p=>(∃B,r=[gV,B,ba (.int i),ba (.int ((i:LC)+j))])/\(∃us:Lf (LC×LC×LC),ys=us.map p4/\↥us=m/\∀t∈us,r6 a t)/\p=S2) rfl rfl rfl rfl ∅ #[rfl,rfl,#[gV,rfl],#[[],rfl,rfl,λ_ h=>nomatch h],rfl] ?_ ?_
   ·rintro m ys r p L ⟨⟨B,rfl⟩,⟨us,rfl,n,x⟩,rfl⟩;show#[λ_=>#[#[_,rfl],#[us++[((i:LC),(i:LC)+j,(i:LC)+j+m)],by rw[Mb];rfl,by rw[Lx,n];rfl,λt h=>?_],rfl],λz=>by cases z]
    rcases Ma.mp h with h|h
    ·show x t h
    ·rw[LA.mp h];show#[#[∅,by assumption],#[by dsimp only;omega,by dsimp only;omega],#[by dsimp only;omega,by dsimp only;omega]]
   ·rintro ys r p ⟨_,⟨us,rfl,n,x⟩,rfl⟩;show#[few (by rw[Lh];omega),ab (AJ (aj v) af ?_) (bX (w _ _ #[_,ts++us,_,rfl,?_,λt h=>(Ma.mp h).elim (g t) (x t),?_,?_,o.trans (Ka.push.trans .push)]))]
    ·show few ?_;rw[Lx,Lh,Lh];omega
    ·rw[Mb];show af
    ·have:=o.len;simp only[Lx];omega
    ·rw[Lx];omega
  ·rintro Z S2 ⟨q,ts,f,rfl,v,g,l,hl,o⟩;show hK _ _ (bX (D _ _ #[q,ts,_,_,rfl,v,g,l,∅,o]))
 ·rintro Z S1 ⟨q,ts,s,f,rfl,u,g,l,hl,y⟩;show hK _ _ (st ?_);show k q ts S1 u g l y
def xW (t:20<fuel)(G:Gen defs)(hf:Fl S r)(k:∀w S',eT w->Fl S' r->Kp r S S'->Q (w,S')):wO (aQ (ak defs fuel (d+6)) "_law_one_way_rule" 1 [.ref r] S) Q:=by
 show az G.one_way_rule rfl rfl λE I=>?_
 replace k:∀w S',eT w->Fl S' r->Kp r S S'->E (.rt w,S'):=λz S' a b c=>I _ _ (k z S' a b c)
 clear I;change wZ _ _ bL [ba (.ref r),gV,gV] S E;delta bL;nofun
 left;show aZ (d:=d+4) G.pick hf #v[] #v[] λv S1 W X M T=>?_
 delta bW aM;obtain⟨a,L⟩:∃a:Ll,1+v=a:=#[(1+v).toNat,∅]
 rw[L];show hK _ _ ?_;clear hK K;nofun
 delta wS wE LH;show dD (a:LC) (λk D s S2=>(∃H,s=[gV,H,ba (.ref r)])/\(∃ks:Lf LC,D=(ks.map Bf).map am/\ks.Pairwise (·≠·)/\↥ks<=k/\∀x∈ks,0<=x/\x<k)/\Fl S2 r/\Kp r S1 S2) rfl rfl rfl ∅ #[rfl,#[gV,rfl],#[[],rfl,.nil,Ls _,λ_ h=>(nomatch h)],M,.refl] ?_ ?_
 ·rintro i D s S2 hi ⟨⟨H,rfl⟩,⟨ks,rfl,j,m,f⟩,n,p⟩;clear hK k;delta gX wC wT wE wA wV wG LH;show aZ (d:=d+4) G.pick n #v[] #v[] λv J _ _ o q=>?_
  delta i9 aM wB;show#[λ_=>#[#[_,rfl],#[ks++[(i:LC)],by simp[Bf,am,bo],?_,by rw[Lx];show Qt m,λx l=>?_],o,p.trans q],λ_=>#[#[_,rfl],#[ks,rfl,j,by show Py ‹_›,λx l=>#[(f x l).1,by have:=(f x l).2;omega]],o,p.trans q]]
  ·rw[Sy];show#[j,by simp,λx l y R e=>?_]
   have:=(f x l).2;rw[LA.mp R]at e;omega
  ·rcases Ma.mp l with h|h
   ·show#[(f x h).1,by have:=(f x h).2;omega]
   ·rw[LA.mp h];omega
 ·rintro D s S2 ⟨_,⟨ks,rfl,j,m,f⟩,n,p⟩;rw[LP]at m f;show#[few (by rw[Lh,Lh];omega),hK _ _ (st ?_)]
  clear hK K;left;have O:=n.lt;show oh (d:=d) (a:=a) (bs:=[0]) (us:=ks.map Bf) t G (n.ka .push) ∅ #v[] (λS' U=>?_) (by rw[Lh];omega) (λu P=>by obtain⟨x,_,rfl⟩:=Lr.mp P;show Uv _ _) λV ns J A B C o q=>?_
  ·simp only[dQ,ay (U.get _ _ (Mk ‹_›) af)]
  show k _ _ #[a,[0],V,ns,ks.map Bf,rfl,#[#[∅,p7,by simp;omega,∅],A,B,C,?_,λg N=>?_]] o (T.trans (p.trans (Kp.push.trans q)))
  ·unfold Tp;rw[NI];show j.imp λh e=>h (DZ e)
  ·obtain⟨x,l,rfl⟩:=Lr.mp N;show DY ∅ ∅ (f x l).1 (f x l).2
def r8 (hfu:20<fuel)(G:Gen defs)(hf:Fl S r)(k:∀w S',eT w->Fl S' r->Kp r S S'->Q (w,S')):wO (aQ (ak defs fuel (d+6)) "_law_free_rule" 1 [.ref r] S) Q:=by
 show az G.free_rule rfl rfl λq hR=>?_
 replace k:∀w S',eT w->Fl S' r->Kp r S S'->q (.rt w,S'):=λz S' a b c=>hR _ _ (k z S' a b c)
 clear hR;change wZ _ _ cQ [ba (.ref r),gV,gV,gV,gV,gV,gV,gV,gV] S q;delta cQ;nofun
 left;show pX (d:=d+3) G hf λa n S1 X Y n1 n3 an f1 k1=>?_
 delta wU;show ab (show eP [1,2] [.int a,.int n] [ba (.ref r),gV,gV,gV,gV,gV,gV,gV,gV]=ba [ba (.ref r),ba (.int a),ba (.int n),gV,gV,gV,gV,gV,gV]from rfl) (hK _ _ ?_)
 clear hK K;nofun
 left;show pY (d:=d+3) G f1 n1 n3 λbs S2 hb t f2 k2=>?_
 have hsz:SizeOk a bs:=#[∅,hb,by rw[t];show an,Y]
 show gy (d:=d) hfu G f2 Y ∅ λJ ns S3 y l B f3 k3=>hK _ _ ?_
 clear hK K;have hrt:=f3.lt;replace k3:Kp r S S3:=k1.trans (k2.trans k3);clear k1 k2 f1 f2;nofun
 delta wS wE LH;show dD (n:LC) (λi zs V S2=>(∃X,V=[gV,X,ba (dZ J ns bs [])])/\(∃ks:Lf LC,zs=ah ks/\↥ks<=i)/\S2=S3) rfl rfl rfl ∅ #[rfl,#[gV,rfl],#[[],rfl,Ls _],rfl] ?_ ?_
 ·rintro i zs V S2 hi ⟨⟨X,rfl⟩,⟨ks,rfl,j⟩,rfl⟩;clear hK k;have hi':i<↥bs:=∅
  delta gX wC wT wE wA wV wG LH;show al #v[] rfl (al (LV i) (by rw[LP];show pU (Lq ∅) (Lq hi')) (al #v[] rfl ?_))
  delta i9 aM wB;show#[λ_=>#[#[_,rfl],#[ks++[(i:LC)],by unfold ah;rw[Mb];rfl,by rw[Lx];show Qt j],rfl],λ_=>#[#[_,rfl],#[ks,rfl,by show Py ‹_›],rfl]]
 ·rintro zs V S2 ⟨_,⟨ks,rfl,j⟩,rfl⟩;rw[LP]at j;have il:(ah ks).length=↥ks:=Lh ..;show#[few ∅,hK _ _ ?_]
  clear hK K;nofun
  delta wS wT wE wA wV wG LH;show ab (Jc (aj af) af) ?_;delta wB;have f4:=(f3.ka (Ka.push (o:=O.lst (ah ks)))).ka (Ka.push (o:=O.lst []));have k4:=k3.trans ((Kp.push (o:=O.lst (ah ks))).trans (Kp.push (o:=O.lst [])));have e4:=aj (u:=O.lst []) (af (S:=S2) (o:=O.lst (ah ks)));have hl4:↥S2<(S2++[O.lst (ah ks)]++[O.lst []]).length:=by simp
  generalize hS4:S2++[O.lst (ah ks)]++[O.lst []]=S4 at f4 k4 e4 hl4;clear hS4;have ret:∀e:QO,(∀w S',q (.rt w,S')->e (.rt w,S'))->wZ (ak defs fuel (d+5)) fuel #v[.ret (.v 3)] [ba (.ref r),ba (.int a),ba (.int n),ba (dZ J ns bs []),gV,ba (.ref ↥S2),gV,gV,gV] S4 e:=λe C=>st (C _ _ (k _ _ #[a,bs,J,ns,[],rfl,hsz,y,l,B,.nil,λ_ h=>(nomatch h)] f4 k4))
  show#[λ_=>aE (Q0:=q) (λ_ e _ C=>ret e C) (λz=>by cases z),λhne=>?_]
  delta i9 aM wB;show aE (Q0:=q) (λ_ e _ C=>ret e C) (λ_ e A _=>bX (A _ _ (hK _ _ ?_)))
  clear hK ret A;have hk0:0<↥ks:=by
   cases ks with
   |nil=>cases hne
   |cons x ks=>show RX _
  nofun
  left;show dY e4 ?_;rw[il];show aZ (d:=d+4) G.pick f4 ∅ ∅ λv P v0 v1 f5 H=>?_
  have e5:=H.get _ _ (Mk ‹_›) e4;obtain⟨x,_,ex⟩:=mo (f:=W.int) (xs:=ks) (i:=v.toNat) ∅
  show dX e5 v0 ex (hK _ _ ?_);clear hK K;replace H:Kp r S P:=k4.trans H;have D:=f5.lt;show st ?_;delta wS wE LH;nofun
  show jN rfl rfl ?_;delta wE wA wV wG;show aZ (d:=d+4) G.pick (f5.ka .push) #v[] #v[] λv S6 v0 v9 f6 k6=>?_
  show#[v,λ_ Z S'=>(∃a4 a8,Z=[ba (.ref r),ba (.int a),ba (.int n),ba (dZ J ns bs []),a4,ba (.ref ↥S2),ba (.int x),ba (.ref ↥P),a8])/\(∃U T,S'[↥P]?=ba (.dic U)/\FigD (aS a bs) U T)/\Fl S' r/\Kp r S S',rfl,∅,#[#[gV,gV,rfl],#[[],[],k6.get _ _ (Mk ‹_›) af,.nil],f6,(H.trans .push).trans k6],?_,?_]
  ·rintro i Z S7 hi ⟨⟨a4,a8,rfl⟩,⟨U,T,e7,hd⟩,f7,k7⟩ e A _;clear hK k;show st ?_;left;show jL (d:=d+3) G f7 ∅ Y (LZ ‹_› ‹_›) n3 λu R m E f8 I=>?_
   have E:GoodW a ↥bs u:=t.symm▸E;have e8:=I.get _ _ (Mk ‹_›) e7;obtain⟨L,s,p2,rfl⟩:∃L s p2,u=[L,s,p2]:=by
    match u,m with
    |[L,s,p2],_=>show#[L,s,p2,rfl]
   have l1:=E.len 1 s rfl;obtain⟨m1,N⟩:=s;obtain⟨M,rfl⟩:∃M,N=[M]:=by
    match N,l1 with
    |[M],_=>show#[M,rfl]
   obtain⟨b,hb2⟩:=D0 (S:=R) (f:=x) (ws:=p2.2);have kk:=k7.trans I;nofun
   delta wS wT wE wA wV wG;show al #v[] rfl (al #v[] rfl (al #v[] rfl ?_))
   delta Kw aM wB;have skip:K [ba (.ref r),ba (.int a),ba (.int n),ba (dZ J ns bs []),ba (.int i),ba (.ref ↥S2),ba (.int x),ba (.ref ↥P),ba (am [L,(m1,[M]),p2])] R:=hK _ _ (bX (A _ _ #[#[_,_,rfl],#[U,T,e8,hd],f8,kk]));show#[λ_=>?_,λ_=>aE (Q0:=e) (λz=>by cases z) λ_ Q3 g _=>bX (g _ _ skip)]
   show al #v[] rfl (al #v[] rfl (ab hb2 ?_))
   delta wB;show aE (Q0:=e) (λ_ Q3 g _=>?_) λ_ Q3 g _=>bX (g _ _ skip)
   clear skip;show st ?_;left;show jK (d:=d+2) G hb l E m λS9 k9=>?_
   show Be (k9.get _ _ e8) hd hsz E m λo ho=>bX (g _ _ (hK _ _ (bX (A _ _ #[#[_,_,rfl],ho,(f8.ka k9).own D,(kk.trans (k9.kp r)).late H.len]))))
  ·rintro Z S7 ⟨⟨a4,a8,rfl⟩,⟨U,T,e7,hd⟩,f7,k7⟩;show hK _ _ (st ?_);left;show Bd (Q:=λp=>q (.rt p.1,p.2)) e7 hd hsz y l B λw R hw I=>k w R hw (f7.ka I) (k7.trans (I.kp r))
end
abbrev bJ (u v:LC):T:=.tup [.int u,.int v]
abbrev dN (u v:LC):W:=.tup [.int u,.int v]
def jP {u v:LC}:iF (dN u v)=ba (bJ u v):=rfl
def Bj {U:Lf (T×W)}{k:T}{v:W}{p:T×W}(h:p∈eN U k v):p∈U\/p=(k,v):=by
 unfold eN at h;split at h
 ·obtain⟨q,a,rfl⟩:=Lr.mp h;split
  ·rename_i e;show .inr (by rw[e])
  ·show .inl a
 ·rcases Ma.mp h with h|h
  ·show .inl h
  ·show .inr (LA.mp h)
def my {U:Lf (T×W)}{k:T}{v:W}(h:bP U k=ba v):(k,v)∈U:=by
 unfold bP at h;rw[Lk]at h;obtain⟨p,a,rfl⟩:=h;have:=Sc a;rw[<- Mq this];show List.mem_of_find?_eq_some a
def vZ {U:Lf (T×W)}{p:T×W}(h:p∈U):∃v,bP U p.1=ba v:=by
 unfold bP;cases e:U.find? λq=>decide (q.1=p.1)with
 |some q=>show#[q.2,rfl]
 |none=>show absurd (To.mp e p h) (by simp)
abbrev MustE (S:aa)(n b:Ll)(U:Lf (T×W)):Prop:=∀p∈U,∃(u v:LC) (l:Ll) (ws:Lf LC),p=(bJ u v,W.ref l)/\(0<=u/\u<n)/\(0<=v/\v<n)/\b<=l/\S[l]?=ba (.lst (ah ws))/\↥ws<=3/\∀w∈ws,0<=w/\w<(n:LC)
def MustE.mono {S S':aa}{n b:Ll}{U:Lf (T×W)}(h:MustE S n b U)(k:∀(l:Ll) (ws:Lf LC),b<=l->S[l]?=ba (.lst (ah ws))->S'[l]?=ba (.lst (ah ws))):MustE S' n b U:=λp a=>
 let ⟨u,v,l,ws,h1,h2,h3,h4,h5,h6⟩:=h p a
 #[u,v,l,ws,h1,h2,h3,h4,k l ws h4 h5,h6]
def MustE.ka {S S':aa}{n b:Ll}{U:Lf (T×W)}(h:MustE S n b U)(k:Ka S S'):MustE S' n b U:=h.mono λl ws _ e=>k.get _ _ e
def MustE.kp {S S':aa}{n b r:Ll}{U:Lf (T×W)}(h:MustE S n b U)(a:r<b)(k:Kp r S S'):MustE S' n b U:=h.mono λl ws hl e=>k.get _ _ ∅ e
def MustE.set {S:aa}{n b t:Ll}{U k:Lf (T×W)}{o:O}(h:MustE S n b U)(a:S[t]?=ba (.dic k)):MustE (S.set t o) n b U:=h.mono λl ws hl e=>by
 rw[bz (by rintro rfl;rw[a]at e;cases e)];show e
def MustE.put {S:aa}{n b:Ll}{U:Lf (T×W)}{u v:LC}{l:Ll}{ws:Lf LC}(h:MustE S n b U)(c:0<=u/\u<n)(d:0<=v/\v<n)(e:b<=l)(f:S[l]?=ba (.lst (ah ws)))(g:↥ws<=3)(i:∀w∈ws,0<=w/\w<(n:LC)):MustE S n b (eN U (bJ u v) (.ref l)):=λp a=>by
 rcases Bj a with a|rfl
 ·show h p a
 ·show#[u,v,l,ws,rfl,c,d,e,f,g,i]
noncomputable abbrev D1:=LC×LC×Lf LC
abbrev r9 (ws:Lf LC):Es:=ws.foldr (λw es=>.cons (.c (.int w)) es) .nil
abbrev v4:Lf D1->Es
 |[]=>.nil
 |e::L=>.cons (.tup #v[.c (.int e.1),.c (.int e.2.1)]) (.cons (.lst (r9 e.2.2)) (v4 L))
abbrev xX:Lf D1->Ll->Lf W
 |[],_=>[]
 |e::L,s=>dN e.1 e.2.1::.ref s::xX L (s+1)
abbrev xY (L:Lf D1):aa:=L.map λe=>O.lst (ah e.2.2)
abbrev v6 (n:Ll)(e:D1):L7:=decide ((0<=e.1/\e.1<n)/\(0<=e.2.1/\e.2.1<n)/\↥e.2.2<=3)&&e.2.2.all λw=>decide (0<=w/\w<(n:LC))
section
variable{M:LW->FF}{Z:Fm}
def uB {S:aa}:∀{ws:Lf LC}{Q:Lf W×aa->Prop},Q (ah ws,S)->wA M (r9 ws) Z S Q
 |[],Q,q=>by change wA M .nil Z S Q;show q
 |w::ws,Q,q=>by change wA M (.cons (.c (.int w)) (r9 ws)) Z S Q;delta wA wE;show uB q
def Bk:∀{L:Lf D1}{S:aa}{Q:Lf W×aa->Prop},Q (xX L ↥S,S++xY L)->wA M (v4 L) Z S Q
 |[],S,Q,q=>by
  change wA M .nil Z S Q;delta wA
  rwa [show S++xY []=S from NA S]at q
 |e::L,S,Q,q=>by
  change wA M (.cons (.tup #v[.c (.int e.1),.c (.int e.2.1)]) (.cons (.lst (r9 e.2.2)) (v4 L))) Z S Q;delta wA wE;show uB (Bk ?_);rw[Lx,N2];show q
end
def om {S:aa}{n b:Ll}:∀(L:Lf D1) (s:Ll) (U:Lf (T×W)),MustE S n b U->b<=s->(∀e∈L,v6 n e=true)->(∀i e,L[i]?=ba e->S[s+i]?=ba (.lst (ah e.2.2)))->∃a,dR U (xX L s)=ba a/\MustE S n b a/\↥a<=↥U+↥L
 |[],s,U,g,j,d,f=>#[U,by simp[xX,dR],g,by simp]
 |e::L,s,U,g,j,d,f=>by
  have c:=d e (by simp)
  unfold v6 at c;rw[Lp,LN]at c;obtain⟨k,l,m⟩:=Mq c.1;obtain⟨a,p,q,r⟩:=om L (s+1) (eN U (bJ e.1 e.2.1) (.ref s)) (g.put k l j (by have:=f 0 e rfl;simpa using this) m (λw o=>Mq (c.2 w o))) (Py ‹_›) (λx h=>d x (by simp[h])) (λi x h=>by have:=f (i+1) x (by simpa using h);rw[show s+1+i=s+(i+1) by omega];show this)
  show#[a,?_,q,?_]
  ·simp only[xX,dR,jP];show p
  ·have:=c8 U (bJ e.1 e.2.1) (.ref s);rw[L3];omega
abbrev KB:Lf (Lf LC):=[[1,0],[0,2,1],[0,1],[0,1,2]]
abbrev KindOk (S:aa)(b:Ll)(w:W):Prop:=∃(bs:Lf LC) (q:Ll) (U:Lf (T×W)) (most:LC),w=.tup [.tup (ah bs),.ref q,.int most]/\bs∈KB/\1<=most/\most<=3/\most*↥bs<=6/\S[q]?=ba (.dic U)/\b<=q/\↥U<=4/\MustE S ↥bs b U
def KindOk.mono {S S':aa}{b:Ll}{w:W}(h:KindOk S b w)(a:∀(l:Ll) (ws:Lf LC),b<=l->S[l]?=ba (.lst (ah ws))->S'[l]?=ba (.lst (ah ws)))(c:∀(l:Ll) (U:Lf (T×W)),b<=l->S[l]?=ba (.dic U)->S'[l]?=ba (.dic U)):KindOk S' b w:=
 let ⟨bs,q,U,most,h1,h2,h3,h4,h5,h6,h7,h8,h9⟩:=h
 #[bs,q,U,most,h1,h2,h3,h4,h5,c _ _ h7 h6,h7,h8,h9.mono a]
def KindOk.ka {S S':aa}{b:Ll}{w:W}(h:KindOk S b w)(k:Ka S S'):KindOk S' b w:=h.mono (λl ws _ e=>k.get _ _ e) (λl ws _ e=>k.get _ _ e)
abbrev Bl (bs:Lf LC)(L:Lf D1)(a:LC):E:=.tup #v[.tup (r9 bs),.disp (v4 L),.c (.int a)]
section
variable{M:LW->FF}{Z:Fm}{S:aa}
def p8 (bs:Lf LC)(L:Lf D1)(a:LC){b:Ll}{Q:QW}(l:b<=↥S)(f:bs∈KB)(d:1<=a/\a<=3/\a*↥bs<=6)(g:∀e∈L,v6 ↥bs e=true)(s:↥L<=4)(k:∀w S',KindOk S' b w->Ka S S'->Q (w,S')) :
  wE M (Bl bs L a) Z S Q:=by
 unfold Bl;delta wE wA;show uB (Bk ?_);obtain⟨U,p,q,r⟩:=om (S:=S++[O.dic []]++xY L) (n:=↥bs) (b:=b) L (↥S+1) [] (λ_ h=>nomatch h) (Py ‹_›) g (λi e m=>by
  rw[Nt (by simp),show ↥S+1+i-(S++[O.dic []]).length=i by simp]
  simp[xY,m])
 have c:(S++[O.dic []]++xY L)[↥S]?=ba (.dic []):=by
  rw[Mw (by simp)];show af
 show#[c,ab (show dR [] (xX L (S++[O.dic []]).length)=ba U by rw[Lx];show p) (k _ _ #[bs,↥S,U,a,rfl,f,d.1,d.2.1,d.2.2,bB c,l,?_,q.set c] #[λj o h=>?_,by simp])]
 ·simp only[N8]at r;omega
 ·have:j<↥S:=b7 h;show((S++[O.dic []]++xY L).set ↥S (O.dic U))[j]?=ba o;rw[bz (Mk ‹_›),Mw (by simp;omega)]
  show aj h
structure Menu (S0 S:aa)(r t m:Ll):Prop where
 at_t:∃xs:Lf W,S[t]?=ba (.lst xs)/\↥xs=m/\∀x∈xs,KindOk S ↥S0 x
 pos:0<m
 few:m<=9
 fl:Fl S r
 kp:Kp r S0 S
 lt:↥S0<=t
 rlt:r<↥S0
def sd {S0 S S':aa}{r t m:Ll}{w:W}(h:Menu S0 S r t m)(o:KindOk S' ↥S0 w)(k:Ka S S')(p:m<9):∃xs,S'[t]?=ba (.lst xs)/\↥xs<sizeLine/\Menu S0 (S'.set t (.lst (xs++[w]))) r t (m+1):=by
 obtain⟨⟨xs,n,f,d⟩,s,hf,j,kp,lt,g⟩:=h;have e:S'[t]?=ba (.lst xs):=k.get _ _ n;have stay:∀x,KindOk S' ↥S0 x->KindOk (S'.set t (.lst (xs++[w]))) ↥S0 x:=λx b=>b.mono (λl ws hl a=>by
  by_cases c:t=l
  ·exfalso;subst c;rw[e]at a;injection a with a
   injection a with a
   match xs,f,d with
   |[],f,_=>simp at f;omega
   |x::xs,_,d=>
    obtain⟨bs,q,U,i,b,_⟩:=d x (by simp)
    subst b
    match ws with
    |[]=>simp[ah]at a
    |w::ws=>simp[ah]at a
  ·rw[bz c];show a) (λl U hl a=>by
  rw[bz (by rintro rfl;rw[e]at a;cases a)];show a)
 show#[xs,e,(by rw[MF];omega),#[xs++[w],bB e,by simp;assumption,λx b=>?_],∅,by show T7 ‹_›,(j.ka k).own (LZ ‹_› ‹_›),(kp.trans (k.kp r)).late lt,lt,g]
 rcases Ma.mp b with b|b
 ·show stay x ((d x b).ka k)
 ·rw[LA.mp b];show stay w o
def sf (bs:Lf LC)(L:Lf D1)(a:LC){fuel:Ll}{S0:aa}{r t m:Ll}{c:Ln W}{K:Fm->aa->Prop}{Q:QO}(h:Menu S0 S r t m)(o:m<9)(i:bs∈KB)(j:1<=a/\a<=3/\a*↥bs<=6)(n:∀e∈L,v6 ↥bs e=true)(l:↥L<=4)(k:∀S',Menu S0 S' r t (m+1)->K [c,ba (.ref t)] S') :
  wS M fuel (.ex (.me .append (.v 1) #v[Bl bs L a])) [c,ba (.ref t)] S K Q:=by
 left;obtain⟨xs,b,u,x⟩:=h.at_t;show#[dS b,p8 bs L a (Lw h.lt (Ni (b7 b))) i j n l λw S' p q=>?_]
 obtain⟨s,d,f,g⟩:=sd h p q o;show ab (vP d f) (k _ g)
def mY {defs:Lf (LW×Df)}{fuel d:Ll}{r:Ll}{Q:QW}(G:Gen defs)(hf:Fl S r)(k:∀w S',KindOk S' ↥S w->Fl S' r->Kp r S S'->Q (w,S')):wO (aQ (ak defs fuel (d+2)) "_law_laying_kind" 1 [.ref r] S) Q:=by
 show az G.laying_kind rfl rfl λE H=>?_
 replace k:∀w S',KindOk S' ↥S w->Fl S' r->Kp r S S'->E (.rt w,S'):=λz S' a b c=>H _ _ (k z S' a b c)
 clear H;change wZ _ _ bY [ba (.ref r),gV] S E;have y:=hf.lt;unfold bY;nofun
 show IZ ?_;change wA _ _ _ _ _;change wE _ _ _ _ _
 show p8 [1,0] [(0,0,[0])] 3 (b:=↥S) (Ls _) #v[] #v[] #v[] #v[] λC S1 J q=>?_
 change wE _ _ _ _ _;show p8 [0,2,1] [(1,1,[1])] 2 (b:=↥S) q.len #v[] #v[] #v[] #v[] λw2 S2 L s=>?_
 have i:=q.trans s;change wE _ _ _ _ _;show p8 [0,1] [(1,1,[1])] 3 (b:=↥S) i.len #v[] #v[] #v[] #v[] λD m M n=>?_
 have f:=i.trans n;delta wA;show hK _ _ ?_;clear hK K;have A:Menu S (m++[O.lst [C,w2,D]]) r ↥m 3:=by
  show#[#[[C,w2,D],af,rfl,λx j=>?_],#v[],#v[],(hf.ka f).ka .push,(f.trans .push).kp r,f.len,y]
  rcases LQ.mp j with rfl|j
  ·show(J.ka (s.trans n)).ka .push
  ·rcases LQ.mp j with rfl|j
   ·show(L.ka n).ka .push
   ·rw[LA.mp j];show M.ka .push
 delta LH;clear J L M q s n i f;generalize ↥m=t at A;generalize m++[O.lst [C,w2,D]]=S3' at A;show aN λK hK=>sf [0,1] [(1,1,[1]),(0,0,[1])] 3 A #v[] #v[] #v[] #v[] #v[] λS4 X=>hK _ _ ?_
 show aN λK hK=>sf [0,1] [(1,1,[])] 1 X #v[] #v[] #v[] #v[] #v[] λS5 Y=>hK _ _ ?_
 show aN λK hK=>sf [0,2,1] [(0,0,[0]),(0,1,[1]),(1,0,[1]),(1,1,[1])] 2 Y #v[] #v[] #v[] #v[] #v[] λp B=>hK _ _ ?_
 nofun
 left;obtain⟨xs,P,e2,e3⟩:=B.at_t;obtain⟨xs',R,T,Z⟩:=sd (S':=p++[O.dic []]) (w:=.tup [.tup (ah [1,0]),.ref ↥p,.int 3]) B #[[1,0],↥p,[],3,rfl,#v[],#v[],#v[],#v[],af,B.kp.len,#v[],λ_ h=>(nomatch h)] .push #v[]
 show#[dS P,ab (vP R T) (hK _ _ ?_)];show aN λK hK=>sf [0,1,2] [(2,2,[2]),(1,2,[1]),(2,1,[1]),(1,1,[1,2])] 2 Z #v[] #v[] #v[] #v[] #v[] λS8 m8=>hK _ _ ?_
 show aN λK hK=>sf [0,1,2] [(0,0,[0,1])] 2 m8 #v[] #v[] #v[] #v[] #v[] λS9 o=>hK _ _ ?_
 show st ?_;left;show aZ (d:=d) G.pick o.fl #v[] #v[] λv N v0 v9 u g=>?_
 obtain⟨xs,U,g2,V⟩:=o.at_t;have W:=o.lt;have I:v.toNat<↥xs:=∅
 show dX (g.get _ _ ∅ U) v0 (Lq I) (k _ _ ((V _ (Mp I)).mono (λl ws hl e=>g.get _ _ ∅ e) (λl ws hl e=>g.get _ _ ∅ e)) u (o.kp.trans g))
end
abbrev sg (bs:Lf LC):Lf (Lf LC):=if bs=[0,1,2]then[[0,1,2],[0,2,1],[1,0,2],[1,2,0],[2,0,1],[2,1,0]]else if ↥bs=2 then[[0,1],[1,0]]else[[0,1,2],[0,2,1],[2,0,1],[2,1,0]]
abbrev iP (bs a:Lf LC):Ll->Lf LC
 |0=>Mu ↥bs 0
 |k+1=>(iP bs a k).set (a.getD k 0).toNat (a.getD (bs.getD k 0).toNat 0)
def kq (bs a:Lf LC):∀k,(iP bs a k).length=↥bs
 |0=>by simp[iP]
 |k+1=>by simp[iP,kq bs a k]
def D2:∀bs∈KB,∀a∈sg bs,↥a=↥bs/\(∀x∈a,0<=x/\x<(↥bs:LC))/\(∀x∈bs,0<=x/\x<(↥bs:LC))/\GoodB (iP bs a ↥bs):=by
 unfold GoodB;decide +kernel
def Bm:∀bs∈KB,(↥bs=2\/↥bs=3)/\0<(sg bs).length/\(sg bs).length<10:=by decide
section
variable{M:LW->FF}{fuel:Ll}{Z:Fm}{S:aa}{K:Fm->aa->Prop}{Q:QO}
def D3 {tg:Tg}{e:E}{b:Ss}(r:Ll)(U:Lf (T×W))(I:Ll->Fm->aa->Prop)(m:d7 e=true)(ok:iI b=true)(k:wE M e Z S λp=>p.1=.ref r/\p.2[r]?=ba (.dic U)/\I 0 Z (p.2.set r (.frd U)))
  (a:∀(i:Ll) (p:T×W) (Z:Fm) (S:aa),U[i]?=ba p->I i Z S->wO (gE tg p.1.w Z S) λq=>yq M fuel b q.1 q.2 (I (i+1)) Q) (c:∀Z S,I ↥U Z S->K Z S):Wp (gS M fuel (.loop tg (.seq e) b) Z S) (sN K Q):=by
 obtain⟨w,S1,h,rfl,f,j⟩:=bK m k;show ja (mi:=.its (U.map λp=>p.1.w)) (S1:=S1.set r (.frd U)) (xs:=U.map λp=>p.1.w) I ok (by simp only[j8,fQ,h,pR f,cN f]) (λ_ _ _ _=>rfl) rfl j (λi w Z S g d=>?_) λZ S d=>c Z S (by rwa [Lh]at d)
 rw[Lu,Lk]at g;obtain⟨p,l,rfl⟩:=g;show a i p Z S l d
end
section
variable{defs:Lf (LW×Df)}{fuel d:Ll}{S:aa}{r:Ll}{Q:QW}
def Jd {i n:Ll}{x:W}(h:S[i]?=ba (.lst [x]))(a:n<=1000)(q:Q (.ref ↥S,S++[.lst (Mu n x)])):wO (fm .mul (.ref i) (.int (n:LC)) S) Q:=by
 show ab ?_ q;have:n<=sizeLine:=few a;simp only[fm,yT,dj h];rw[LU #[∅,∅,by simpa using this]]
 unfold mT;simp[this]
def on {q:Ll}{U:Lf (T×W)}{u v:LC}{w:W}(h:kI S q=ba U)(a:bP U (bJ u v)=ba w):qr (.ref q) (.tup [.int u,.int v]) S=ba (w,S):=by
 have hk:iF (.tup [.int u,.int v])=ba (bJ u v):=jP;simp only[qr,h,hk,a,MA]
def Bn {q:Ll}{U:Lf (T×W)}{u v:LC}{w:W}(h:S[q]?=ba (.dic U))(hl:↥U<sizeLine):jv (.ref q) (.tup [.int u,.int v]) w S=ba (S.set q (.dic (eN U (bJ u v) w))):=by
 have hk:iF (.tup [.int u,.int v])=ba (bJ u v):=jP;simp only[jv,o8,h,hk];rw[LU hl]
def kw {xs:Lf LC}{x:LC}(b:0<=x)(a:x.toNat<↥xs):(ah xs)[x.toNat]?=ba (.int (xs.getD x.toNat 0)):=by
 unfold ah;rw[Lu,ap (d:=0) a];rfl
def gZ {xs:Lf LC}{i:Ll}(h:i<↥xs):xs.getD i 0∈xs:=LD (ap (d:=0) h)
def mZ (G:Gen defs){Q:QO}{bs:Lf LC}{p r:Ln W}(u:bs∈KB)
  (hk:∀(m s:Ll) (S':aa),Ka S S'->S'[s]?=ba (.lst ((sg bs).map λz=>W.tup (ah z)))->↥S<=s->wZ (ak defs fuel (d+1)) fuel (dr 5 bq) [p,ba (.tup (ah bs)),r,ba (.int ↥bs),ba (.ref m),ba (.ref s),gV,gV,gV,gV,gV,gV] S' Q) :
  wZ (ak defs fuel (d+1)) fuel bq [p,ba (.tup (ah bs)),r,gV,gV,gV,gV,gV,gV,gV,gV,gV] S Q:=by
 generalize e:dr 5 bq=aU at hk;unfold bq at e ⊢;dsimp only[dr]at e;rw[e];clear e;nofun
 left;show bc ?_;rw[show(ah bs).length=↥bs from Lh ..]
 show hK _ _ ?_;clear hK K;nofun
 left;have g:(((S++[O.lst [.tup [.int 0]]])++[O.lst [.tup [.int 0,.int 1],.tup [.int 1,.int 0]]])++[O.lst [.ref ↥S,.ref (S++[O.lst [.tup [.int 0]]]).length]])[((S++[O.lst [.tup [.int 0]]])++[O.lst [.tup [.int 0,.int 1],.tup [.int 1,.int 0]]]).length]?=ba (.lst [.ref ↥S,.ref (S++[O.lst [.tup [.int 0]]]).length]):=af;show hK _ _ ?_;clear hK K;generalize f:S++[O.lst [.tup [.int 0]]]=S1 at g ⊢;generalize b:S1++[O.lst [.tup [.int 0,.int 1],.tup [.int 1,.int 0]]]=S2 at g ⊢;generalize c:S2++[O.lst [.ref ↥S,.ref ↥S1]]=S3 at g ⊢;have w:↥S1=↥S+1:=by rw[<- f];simp
 have x:↥S2=↥S1+1:=by rw[<- b];simp
 have y:↥S3=↥S2+1:=by rw[<- c];simp
 have j:Ka S S2:=by rw[<- b,<- f];show Ka.push.trans .push
 nofun
 left;show#[dS g,vS (aj g) (by decide:2<1000) (hK _ _ ?_)]
 clear hK K;generalize a:(S3++[O.lst [.tup [.int 0,.int 1,.int 2],.tup [.int 0,.int 2,.int 1],.tup [.int 2,.int 0,.int 1],.tup [.int 2,.int 1,.int 0]]]).set ↥S2 (.lst ([.ref ↥S,.ref ↥S1]++[.ref ↥S3]))=S5;have h:Ka S S5:=by
  rw[<- a,<- c];show Ka.late (j.trans (Ka.push.trans .push)) ∅
 have k:S5[↥S2]?=ba (.lst [.ref ↥S,.ref ↥S1,.ref ↥S3]):=by
  rw[<- a];show bB (aj g)
 have o:S5[↥S1]?=ba (.lst [.tup [.int 0,.int 1],.tup [.int 1,.int 0]]):=by
  rw[<- a,bz ∅,<- c,<- b]
  show aj (aj af)
 have A:S5[↥S3]?=ba (.lst [.tup [.int 0,.int 1,.int 2],.tup [.int 0,.int 2,.int 1],.tup [.int 2,.int 0,.int 1],.tup [.int 2,.int 1,.int 0]]):=by
  rw[<- a,bz ∅]
  show af
 have n:↥S<=↥S1:=∅
 have t:↥S<=↥S3:=∅
 clear f b c a g w x y j;nofun
 delta wS wE wA wV wG LH md aM;have l:bs=[1,0]\/bs=[0,2,1]\/bs=[0,1]\/bs=[0,1,2]:=by simpa [KB]using u
 rcases l with rfl|rfl|rfl|rfl
 ·show eu (i:=1) k rfl (hK _ _ (aN λK hK=>b8 (λQ q=>q) (hK _ _ (hk _ _ _ h o n))))
 ·show eu (i:=2) k rfl (hK _ _ (aN λK hK=>b8 (λQ q=>q) (hK _ _ (hk _ _ _ h A t))))
 ·show eu (i:=1) k rfl (hK _ _ (aN λK hK=>b8 (λQ q=>q) (hK _ _ (hk _ _ _ h o n))))
 ·show eu (i:=2) k rfl (hK _ _ (aN λK hK=>mf (λQ q=>q) λB v _=>?_))
  show st ?_;left;show pW (d:=d) G (bX (v _ _ (hK _ _ (hk _ _ _ (h.trans .push) af h.len))))
def uC (G:Gen defs){S0:aa}{bs:Lf LC}{q:Ll}{U:Lf (T×W)}(hb:bs∈KB)(hf:Fl S r)(hr:r<↥S0)(kp:Kp r S0 S)(hq:S[q]?=ba (.dic U))(hq0:↥S0<=q)(h4:↥U<=4)(hm:MustE S ↥bs ↥S0 U)
  (k:∀(o:Lf LC) (q':Ll) (t:Lf (T×W)) S',GoodB o->↥o=↥bs->S'[q']?=ba (.dic t)->↥S0<=q'->MustE S' ↥bs ↥S0 t->Fl S' r->Kp r S0 S'->Q (.tup [.tup (ah o),.ref q'],S')) :
  wO (aQ (ak defs fuel (d+2)) "_law_numbered" 3 [.ref r,.tup (ah bs),.ref q] S) Q:=by
 show az G.numbered rfl rfl λQ' hR=>?_
 replace k:∀(o:Lf LC) (q':Ll) (t:Lf (T×W)) S',GoodB o->↥o=↥bs->S'[q']?=ba (.dic t)->↥S0<=q'->MustE S' ↥bs ↥S0 t->Fl S' r->Kp r S0 S'->Q' (.rt (.tup [.tup (ah o),.ref q']),S'):=λa b c e f g h i j l m=>hR _ _ (k a b c e f g h i j l m)
 clear hR;show mZ (d:=d) G hb ?_;intro m s S1 k1 e1 hs;delta dr bq;have hrt:=hf.lt;obtain⟨hb1,hb2,hb3⟩:=Bm bs hb;nofun
 left;show dY e1 ?_;rw[Lh];show aZ (d:=d) G.pick (hf.ka k1) ∅ ∅ λv S2 v0 v1 f2 k2=>?_
 obtain⟨n,hnmm,Y⟩:=mo (f:=λn=>W.tup (ah n)) (xs:=sg bs) (i:=v.toNat) ∅
 obtain⟨n1,n2,n3,n4⟩:=D2 bs hb n hnmm;show dX (k2.get _ _ ∅ e1) v0 Y (hK _ _ ?_)
 clear hK K;nofun
 left;show Jd af ∅ (hK _ _ ?_)
 clear hK K;generalize hS4:S2++[O.lst [.int 0]]=S4;have y:Ka S2 S4:=hS4▸.push;have f4:Fl S4 r:=f2.ka y;have kp4:Kp r S0 S4:=(kp.trans (k1.kp r)).trans (k2.trans (y.kp r));have q4:S4[q]?=ba (.dic U):=y.get _ _ (k2.get _ _ ∅ (k1.get _ _ hq))
 have m4:MustE S4 ↥bs ↥S0 U:=((hm.ka k1).kp hr k2).ka y;clear hS4 y hm hq f2 k2 k1 e1 Y hf;nofun
 show cO (↥bs:LC) (λk Z S'=>(∃X,Z=[ba (.ref r),ba (.tup (ah bs)),ba (.ref q),ba (.int ↥bs),ba (.ref m),ba (.ref s),ba (.tup (ah n)),ba (.ref ↥S4),X,gV,gV,gV])/\S'[↥S4]?=ba (.lst (ah (iP bs n k)))/\Ka S4 S') rfl rfl ∅ #[rfl,#[_,rfl],?_,.push] ?_ ?_
 ·rw[af];simp[iP,ah]
 ·rintro i Z A hi ⟨⟨X,rfl⟩,I,L⟩ Q2 hn _;clear hK k;have hi':i<↥bs:=by show N4.mp ‹_›
  have hi1:i<↥n:=∅
  have c:=n3 _ (gZ hi');have c2:=n2 _ (gZ hi1);show st ?_;left;show al (LV i) (kw (LV i) hi') (al c.1 (kw c.1 (by rw[LP];omega)) (al (LV i) (kw (LV i) hi1) ?_))
  rw[LP];show ab (Ey I c2.1 (by rw[show(ah (iP bs n i)).length=_ from Lh ..,kq];omega)) (bX (hn _ _ #[#[_,rfl],?_,L.late (Ls _)]))
  rw[bB I];unfold ah;rw[iP,List.map_set]
 ·rintro Z A ⟨⟨X,rfl⟩,I,L⟩;rw[LP]at I;show hK _ _ (st ?_);clear hK K;delta wS wE LH;have f5:Fl A r:=f4.ka L;have V:A[q]?=ba (.dic U):=L.get _ _ q4;have m5:MustE A ↥bs ↥S0 U:=m4.ka L;have M:Kp r S0 A:=kp4.trans (L.kp r);have hq5:=b7 V;have ht5:=b7 I;have hqt:q≠↥S4:=by rintro rfl;rw[I]at V;cases V
  have hn9:(↥bs:LC)<=3:=∅
  have hr5:=f5.lt;clear L m4 q4 f4;nofun
  show D3 q U (λk Z S'=>(∃D E,Z=[ba (.ref r),ba (.tup (ah bs)),ba (.ref q),ba (.int ↥bs),ba (.ref m),ba (.ref s),ba (.tup (ah n)),ba (.ref ↥S4),X,ba (.ref ↥A),D,E])/\S'[q]?=ba (.frd U)/\MustE S' ↥bs ↥S0 U/\S'[↥S4]?=ba (.lst (ah (iP bs n ↥bs)))/\(∃t,S'[↥A]?=ba (.dic t)/\↥t<=k/\MustE S' ↥bs ↥S0 t)/\Fl S' r/\Kp r S0 S') rfl rfl #[rfl,aj V,#[gV,gV,rfl],bB (aj V),(m5.ka .push).set (aj V),?_,#[[],?_,Ls _,λ_ h=>(nomatch h)],(f5.ka .push).own ∅,(M.trans .push).late hq0] ?_ ?_
  ·rw[bz hqt];show aj I
  ·rw[bz (LX ‹_›)];show af
  ·rintro i p Z S6 hp ⟨⟨D,E,rfl⟩,q6,m6,t6,⟨t,R,l6,N⟩,f6,B⟩;clear hK k;have hpm:=LD hp;have hil:=(LB.mp hp).1;obtain⟨u,v',l,ws,rfl,hu,hv',hl,hws,hl3,hw3⟩:=m6 p hpm;obtain⟨g,hg⟩:=vZ hpm;obtain⟨u2,v2,l2,C,J,_,_,hl2,hws2,hl32,H⟩:=m6 _ (my hg);injection J with _ J
   subst J;have hul:u.toNat<↥n:=∅
   have hvl:v'.toNat<↥n:=∅
   show ab (show gE (.tp [10,11]) (bJ u v',W.ref l).1.w [ba (.ref r),ba (.tup (ah bs)),ba (.ref q),ba (.int ↥bs),ba (.ref m),ba (.ref s),ba (.tup (ah n)),ba (.ref ↥S4),X,ba (.ref ↥A),D,E] S6=ba ([ba (.ref r),ba (.tup (ah bs)),ba (.ref q),ba (.int ↥bs),ba (.ref m),ba (.ref s),ba (.tup (ah n)),ba (.ref ↥S4),X,ba (.ref ↥A),ba (.int u),ba (.int v')],S6)from rfl) λQ2 hn _=>?_
   show st ?_;left;show pT l2 (ah C) (λi zs Z2 P=>(∃a1,Z2=[gV,a1,ba (.tup (ah n))])/\zs=ah ((C.take i).map λw=>n.getD w.toNat 0)/\P=S6) rfl rfl rfl ?_ ?_ ?_ ?_
   ·delta wE wA wV wG;show ab (on (DP q6) hg) #[rfl,#[_,rfl],rfl,rfl]
   ·rintro i zs Z2 P ⟨_,_,rfl⟩;show hws2
   ·rintro i w zs Z2 P hw ⟨⟨a1,rfl⟩,rfl,rfl⟩;unfold ah at hw;rw[Lu,Lk]at hw;obtain⟨x,hx,rfl⟩:=hw;obtain⟨x0,x1⟩:=H x (LD hx);have hxl:x.toNat<↥n:=∅
    show ab (show gE (.nm 1) (.int x) [gV,a1,ba (.tup (ah n))] P=ba ([gV,ba (.int x),ba (.tup (ah n))],P)from rfl) ?_
    delta gX wC wE wA wV wG;show#[λ_=>al x0 (kw x0 hxl) #[#[_,rfl],?_,rfl],λz=>by cases z]
    rw[L8,hx];simp[ah]
   ·rintro zs Z2 P ⟨_,rfl,rfl⟩;rw[show(ah C).length=↥C from Lh ..,Mg]
    show#[few (by simp[ah];show Lw ‹_› (LL rfl)),al hu.1 (kw hu.1 hul) (al hv'.1 (kw hv'.1 hvl) ?_)]
    show ab (Bn (aj R) (by rw[MF];omega)) (bX (hn _ _ #[#[_,_,rfl],?_,(m6.ka .push).set (aj R),?_,#[_,bB (aj R),?_,?_],(f6.ka .push).own ‹_›,(B.trans .push).late M.len]))
    ·rw[bz (Mk ‹_›)];show aj q6
    ·rw[bz (Mk ‹_›)];show aj t6
    ·show Lw (c8 ..) (Qt l6)
    ·show((N.ka .push).put (n2 _ (gZ hul)) (n2 _ (gZ hvl)) B.len af (by simp;assumption) ?_).set (aj R)
     intro w hw;obtain⟨x,hx,rfl⟩:=Lr.mp hw;obtain⟨x0,x1⟩:=H x hx;show n2 _ (gZ ∅)
  ·rintro Z S6 ⟨⟨D,E,rfl⟩,q6,m6,t6,⟨t,R,l6,N⟩,f6,B⟩;show hK _ _ (st ?_);left;show fT t6 (k _ _ t _ n4 (kq _ _ _) R M.len N f6 B)
end
abbrev xZ (x y z:LC):Lf (T×W):=[(bJ 1 0,.int x),(bJ 2 0,.int y),(bJ 2 1,.int z)]
abbrev D4 (x y z a b c:LC):Ll->Lf (T×W)
 |0=>xZ x y z
 |1=>xZ x y z++[(bJ 0 1,.int a)]
 |2=>xZ x y z++[(bJ 0 1,.int a),(bJ 0 2,.int b)]
 |_=>xZ x y z++[(bJ 0 1,.int a),(bJ 0 2,.int b),(bJ 1 2,.int c)]
def Gx {n x y z a b c:LC}(l:0<=x/\x<n)(m:0<=y/\y<n)(hz:0<=z/\z<n)(e:0<=a/\a<n)(f:0<=b/\b<n)(g:0<=c/\c<n):∀i j:Ll,i<3->j<3->i≠j->∃p:LC,bP (D4 x y z a b c 3) (bJ i j)=ba (.int p)/\0<=p/\p<n:=by
 intro i j hi k d
 match i,j,hi,k,d with
 |0,0,_,_,h=>show absurd rfl h
 |0,1,_,_,_=>show#[a,by rfl,e]
 |0,2,_,_,_=>show#[b,by rfl,f]
 |1,0,_,_,_=>show#[x,by rfl,l]
 |1,1,_,_,h=>show absurd rfl h
 |1,2,_,_,_=>show#[c,by rfl,g]
 |2,0,_,_,_=>show#[y,by rfl,m]
 |2,1,_,_,_=>show#[z,by rfl,hz]
 |2,2,_,_,h=>show absurd rfl h
def sh:∀t∈aw,↥t=3/\t.getD 0 0<3/\t.getD 1 0<3/\t.getD 2 0<3/\t.getD 0 0≠t.getD 1 0/\t.getD 1 0≠t.getD 2 0/\t.getD 0 0≠t.getD 2 0:=by decide
def Bo {t:Lf Ll}(h:t∈aw):∃i j k:Ll,t=[i,j,k]/\i<3/\j<3/\k<3/\i≠j/\j≠k/\i≠k:=by
 obtain⟨b,a⟩:=sh t h
 match t,b,a with
 |[i,j,k],_,a=>show#[i,j,k,rfl,a]
section
variable{defs:Lf (LW×Df)}{fuel d:Ll}{S:aa}{r:Ll}{Q:QW}
def Bp {l:Ll}{f:LC}{ws:Lf LC}(h:S[l]?=ba (.lst (ah ws))):∃b,cx .notin (.int f) (.ref l) S=ba (.bl b,S):=by
 have hf:(cv (.int f)&&(ah ws).all cv)=true:=by
  (delta cv;simp only[Qy,LN])
  intro x a;obtain⟨z,_,rfl⟩:=Lr.mp a;rfl
 show#[!(ah ws).any λz=>BY z (.int f),?_]
 (delta cx jk G3 yo fO;simp only[pQ h,ay h,hf,NC,MA])
def Gy {q:Ll}{U:Lf (T×W)}(h:S[q]?=ba (.dic U)):tyOk "dict" S (.ref q)=true:=by simp[tyOk,cN h]
def D5 {q:Ll}{U:Lf (T×W)}(h:S[q]?=ba (.dic U))(k:Q (.ref ↥S,S++[.lst (U.map λp=>p.1.w)])):wO (Bi.list.fn [.ref q] S) Q:=by
 show ab ?_ k;have a:CP S q=gV:=by simp[CP,h]
 have b:nE [.ref q] S=gV:=by(delta nE jl fO;simp[a,pR h])
 simp only[Bi.fn,At,b,nK,cN h]
def Bq (G:Gen defs){bs:Lf LC}{q b0:Ll}{U:Lf (T×W)}{x y z:LC}(hb:GoodB bs)(hx:0<=x/\x<↥bs)(hy:0<=y/\y<↥bs)(hz:0<=z/\z<↥bs)(hq:S[q]?=ba (.dic U))(hm:MustE S ↥bs b0 U)
  (k:∀b S',Ka S S'->Q (.bl b,S')):wO (aQ (ak defs fuel (d+2)) "_law_breaks" 5 [.tup (ah bs),.ref q,.int x,.int y,.int z] S) Q:=by
 show az G.breaks rfl rfl λQ' hR=>?_
 replace k:∀b S',Ka S S'->Q' (.rt (.bl b),S'):=λa b c=>hR _ _ (k a b c)
 clear hR;change wZ _ _ eg [ba (.tup (ah bs)),ba (.ref q),ba (.int x),ba (.int y),ba (.int z),gV,gV,gV,gV,gV] S Q';obtain⟨a,ha1,ha⟩:=hb.rng x.toNat ∅
 obtain⟨b,hb1,hb2⟩:=hb.rng y.toNat ∅
 obtain⟨c,hc1,hc⟩:=hb.rng z.toNat ∅
 have hqt:=b7 hq;unfold eg;nofun
 left;show#[af,ab (show dR [] [.tup [.int 1,.int 0],.int x,.tup [.int 2,.int 0],.int y,.tup [.int 2,.int 1],.int z]=ba (xZ x y z)from rfl) (hK _ _ ?_)]
 clear hK K;have e1:((S++[O.dic []]).set ↥S (.dic (xZ x y z)))[↥S]?=ba (.dic (xZ x y z)):=bB af;have k1:Ka S ((S++[O.dic []]).set ↥S (.dic (xZ x y z))):=Ka.push.late (Ls _);have l1:((S++[O.dic []]).set ↥S (.dic (xZ x y z))).length=↥S+1:=by simp
 generalize(S++[O.dic []]).set ↥S (.dic (xZ x y z))=S1 at e1 k1 l1 ⊢;nofun
 show jO rfl rfl ?_;delta wE wA wV wG;show D5 e1 #[↥S1,[dN 1 0,dN 2 0,dN 2 1],(λk Z S'=>(∃j,Z=[ba (.tup (ah bs)),ba (.ref q),ba (.int x),ba (.int y),ba (.int z),ba (.ref ↥S),j,gV,gV,gV])/\S'[↥S]?=ba (.dic (D4 x y z a b c k))/\S'[↥S1]?=ba (.lst [dN 1 0,dN 2 0,dN 2 1])/\Ka S S'),rfl,#[#[_,rfl],aj e1,af,k1.trans .push],λi Z S' h=>h.2.2.1,?_,?_]
 ·have step:∀(u v f g:LC) (N s:Lf (T×W)) (S':aa) (i:Ll),bP N (bJ u v)=ba (.int f)->0<=f->bs[f.toNat]?=ba g->↥N<10->eN N (bJ v u) (.int g)=s->D4 x y z a b c (i+1)=s->∀j:Ln W,S'[↥S]?=ba (.dic N)->S'[↥S1]?=ba (.lst [dN 1 0,dN 2 0,dN 2 1])->Ka S S'->
    wO (gE (.nm 6) (dN u v) [ba (.tup (ah bs)),ba (.ref q),ba (.int x),ba (.int y),ba (.int z),ba (.ref ↥S),j,gV,gV,gV] S') λp=>yq (ak defs fuel (d+1)) fuel #v[.put (.v 5) (.tup #v[.ix (.v 6) (.c (.int 1)),.ix (.v 6) (.c (.int 0))]) (.ix (.v 0) (.ix (.v 5) (.v 6)))] p.1 p.2 (λZ S'=>(∃j,Z=[ba (.tup (ah bs)),ba (.ref q),ba (.int x),ba (.int y),ba (.int z),ba (.ref ↥S),j,gV,gV,gV])/\S'[↥S]?=ba (.dic (D4 x y z a b c (i+1)))/\S'[↥S1]?=ba (.lst [dN 1 0,dN 2 0,dN 2 1])/\Ka S S') Q':=by
   clear hK k;intro u v f g N s S' i B h2 h3 h4 h5 h6 j e e' k;show ab (show gE (.nm 6) (dN u v) [ba (.tup (ah bs)),ba (.ref q),ba (.int x),ba (.int y),ba (.int z),ba (.ref ↥S),j,gV,gV,gV] S'=ba ([ba (.tup (ah bs)),ba (.ref q),ba (.int x),ba (.int y),ba (.int z),ba (.ref ↥S),ba (dN u v),gV,gV,gV],S')from rfl) λQ2 hn _=>?_
   show st ?_;left;show ab (on (cN e) B) (al h2 (w:=.int g) (by unfold ah;rw[Lu,h3];rfl) (al #v[] rfl (al #v[] rfl ?_)))
   show ab (Bn e (by rw[MF];omega)) (bX (hn _ _ #[#[_,rfl],?_,?_,k.late (Ls _)]))
   ·rw[bB e,h5,h6]
   ·rw[bz ∅];show e'
  rintro i w Z S2 o ⟨⟨j,rfl⟩,m,V,M⟩
  match i,o,m with
  |0,o,m=>cases o;show step 1 0 x a _ _ S2 0 (by rfl) hx.1 ha1 (by simp[D4,xZ]) (by rfl) (by rfl) j m V M
  |1,o,m=>cases o;show step 2 0 y b _ _ S2 1 (by rfl) hy.1 hb1 (by simp[D4,xZ]) (by rfl) (by rfl) j m V M
  |2,o,m=>cases o;show step 2 1 z c _ _ S2 2 (by rfl) hz.1 hc1 (by simp[D4,xZ]) (by rfl) (by rfl) j m V M
  |n+3,o,_=>simp at o
 ·rintro Z S2 ⟨⟨j,rfl⟩,m,V,M⟩;have hv:=Gx hx hy hz ha hb2 hc;have m:S2[↥S]?=ba (.dic (D4 x y z a b c 3)):=m;show hK _ _ ?_;clear hK K;have hlt2:=b7 m;nofun
  show jO rfl rfl ?_;delta wE wA wV wG;show pW (d:=d) G #[↥S2,aw.map (λt=>W.tup (au t)),(λk Z S'=>(∃X Y x9,Z=[ba (.tup (ah bs)),ba (.ref q),ba (.int x),ba (.int y),ba (.int z),ba (.ref ↥S),j,X,Y,x9])/\S'[↥S]?=ba (.dic (D4 x y z a b c 3))/\S'[↥S2]?=ba (.lst (aw.map (λt=>W.tup (au t))))/\Ka S S'),rfl,#[#[_,_,_,rfl],aj m,af,M.trans .push],λi Z S' h=>h.2.2.1,?_,?_]
  ·rintro i w Z r o ⟨⟨X,Y,x9,rfl⟩,A,l3,C⟩;clear hK;rw[Lu,Lk]at o;obtain⟨t,ht,rfl⟩:=o;obtain⟨i1,R,B,rfl,I,J,H,n1,n2,n3⟩:=Bo (LD ht);obtain⟨D,g1,r1⟩:=hv i1 R I J n1;obtain⟨p2,g2,r2⟩:=hv R B J H n2;obtain⟨P,g3,r3⟩:=hv i1 B I H n3;have q3:=C.get _ _ hq;show ab (show gE (.tp [7,8,9]) (W.tup (au [i1,R,B])) [ba (.tup (ah bs)),ba (.ref q),ba (.int x),ba (.int y),ba (.int z),ba (.ref ↥S),j,X,Y,x9] r=ba ([ba (.tup (ah bs)),ba (.ref q),ba (.int x),ba (.int y),ba (.int z),ba (.ref ↥S),j,ba (.int i1),ba (.int R),ba (.int B)],r)from rfl) λQ2 hn hr=>?_
   nofun
   delta wS wT wE wA wV wG;show ab (on (cN A) g3) #[Gy q3,ab (on (cN A) g1) (ab (on (cN A) g2) (ab (on (cN A) g3) ?_))];have E:Me.get.fn (.ref q) [.tup [.int D,.int p2],.ref ↥r] (r++[O.lst [.int P]])=ba ((bP U (bJ D p2)).getD (.ref ↥r),r++[O.lst [.int P]]):=by
    have hk:iF (.tup [.int D,.int p2])=ba (bJ D p2):=jP
    (delta Me.fn u7;simp only[cN (aj q3),hk])
   show ab E ?_;have L:∃(l:Ll) (ws:Lf LC),(bP U (bJ D p2)).getD (.ref ↥r)=.ref l/\(r++[O.lst [.int P]])[l]?=ba (.lst (ah ws)):=by
    cases hg:bP U (bJ D p2)with
    |none=>show#[↥r,[P],rfl,af]
    |some g=>
     obtain⟨u,v,l,ws,he,_,_,_,hl,_⟩:=(hm.ka C) _ (my hg);injection he with _ he
     subst he;show#[l,ws,rfl,aj hl]
   obtain⟨l,ws,hl1,hl2⟩:=L;dsimp only;rw[hl1];obtain⟨kb,hkb⟩:=Bp (f:=P) hl2;show ab hkb ?_;delta wB;show aE (Q0:=Q2) (λ_ Q3 _ hr3=>st (hr3 _ _ (hr _ _ (k _ _ (C.trans .push))))) λ_ Q3 hn3 _=>bX (hn3 _ _ (hK _ _ (bX (hn _ _ #[#[_,_,_,rfl],aj A,aj l3,C.trans .push]))))
  ·rintro Z r ⟨⟨X,Y,x9,rfl⟩,A,l3,C⟩;show hK _ _ (st (k _ _ C))
end
def Je {a n:Ll}{m0 c d x y z:LC}(f:0<=m0/\m0<a)(g:0<=c/\c<a)(i:0<=d/\d<a)(j:0<=x/\x<n)(l:0<=y/\y<n)(hz:0<=z/\z<n):GoodW a n [(m0,[]),(c,[x]),(d,[y,z])]:=by
 show#[λk p h=>?_,λk p h=>?_,λk p h=>?_]<;>match k,h with
 |0,h=>cases h;first|show f|rfl|(intro w b;cases b)
 |1,h=>cases h;first|show g|rfl|(intro w b;rw[LA.mp b];show j)
 |2,h=>cases h;first|show i|rfl|(intro w b;rcases LQ.mp b with e|b<;>first|show e▸l|(rw[LA.mp b];show hz))
 |n+3,h=>simp at h
def Gz {M:LW->FF}{Z:Fm}{S:aa}{i n:Ll}{Q:QW}(b:∀Q:W->Prop,Q (.int n)->wV Z i Q)(e:n<=3)(k:∀j:LC,0<=j->j<=27->j=(n:LC)*n*n->Q (.int j,S)):wE M (.op .mul (.op .mul (.v i) (.v i)) (.v i)) Z S Q:=by
 have d : -(2^64)<(n:LC):=∅
 have b2:(n:LC)<2^64:=∅
 have c:(n:LC)*n*n<=27/\0<=(n:LC)*n*n:=by rcases(show n=0\/n=1\/n=2\/n=3 by omega)with h|h|h|h<;>rw[h]<;>decide
 delta wE;have a:∀m:LC,fm .mul (.int m) (.int n) S=ba (.int (m*n),S):=λm=>kP d b2
 generalize fm .mul=B at a ⊢;show b _ ?_;show b _ ?_;show ab (a _) ?_;show b _ ?_;show ab (a _) ?_;have:=k _ c.2 c.1 rfl;show this
def Br {M:LW->FF}{fuel:Ll}{Z:Fm}{S:aa}{K:Fm->aa->Prop}{Q:QO}{a i n:Ll}{b:Ss}(f:∀Q:W->Prop,Q (.int n)->wV Z i Q)(d:n<=3)(ok:iI b=true)
  (h:∀j:LC,0<=j->j<=27->j=(n:LC)*n*n->∃I:Ll->Fm->aa->Prop,I 0 Z S/\(∀(i:Ll) (Z:Fm) (S:aa),(i:LC)<j->I i Z S->yq M fuel b (Z.set a (ba (.int i))) S (I (i+1)) Q)/\∀Z S,I j.toNat Z S->K Z S) :
  Wp (gS M fuel (.loop (.nm a) (.rng #v[.op .mul (.op .mul (.v i) (.v i)) (.v i)]) b) Z S) (sN K Q):=
 have g:=Gz (M:=M) (S:=S) (Q:=λp=>∃(j:LC) (I:Ll->Fm->aa->Prop),p.1=.int j/\(-(2^62)<=j/\j<2^62)/\I 0 Z p.2/\(∀(i:Ll) (Z:Fm) (S:aa),(i:LC)<j->I i Z S->yq M fuel b (Z.set a (ba (.int i))) S (I (i+1)) Q)/\∀Z S,I j.toNat Z S->K Z S) f d λj k c e=>let ⟨I,h0,h1,h2⟩:=h j k c e;#[j,I,rfl,∅,h0,h1,h2]
 jN rfl ok g
section
variable{defs:Lf (LW×Df)}{fuel d:Ll}{S:aa}{r:Ll}{Q:QW}
def Bs (R:20<fuel)(G:Gen defs)(hf:Fl S r)(k:∀w S',eT w->Fl S' r->Kp r S S'->Q (w,S')):wO (aQ (ak defs fuel (d+7)) "_law_laying_rule" 1 [.ref r] S) Q:=by
 show az G.laying_rule rfl rfl λQ' hR=>?_
 replace k:∀w S',eT w->Fl S' r->Kp r S S'->Q' (.rt w,S'):=λz S' a b c=>hR _ _ (k z S' a b c)
 clear hR;change wZ _ _ bZ [ba (.ref r),gV,gV,gV,gV,gV,gV,gV,gV,gV,gV,gV,gV,gV,gV] S Q';unfold bZ;nofun
 left;show aZ (d:=d+5) G.pick hf #v[] #v[] λv S1 v0 v7 f1 k1=>hK _ _ ?_
 clear hK K;nofun
 delta wS wT wE wV wG i9 aM wB;show aE (Q0:=Q') (λ_ Q2 _ hr=>?_) (λ_ Q2 V _=>bX (V _ _ (hK _ _ ?_)))
 ·show st ?_;left;show r8 (d:=d) R G f1 λw S2 a b c=>hr _ _ (k w S2 a b (k1.trans c))
 clear hK K V;nofun
 delta wS wT wE wV wG i9 aM wB;show aE (Q0:=Q') (λ_ Q2 _ hr=>?_) (λ_ Q2 V _=>bX (V _ _ (hK _ _ ?_)))
 ·show st ?_;left;show xW (d:=d) R G f1 λw S2 a b c=>hr _ _ (k w S2 a b (k1.trans c))
 clear hK K V;have hr1:=f1.lt;nofun
 left;show mY (d:=d+4) G f1 λw2 S2 hw2 f2 k2=>?_
 obtain⟨A,q0,U0,e,rfl,x,m1,m3,m6,hq0,N,h40,hm0⟩:=hw2;delta wU;show ab (show eP [2,3,4] [.tup (ah A),.ref q0,.int e] [ba (.ref r),ba (.int v),gV,gV,gV,gV,gV,gV,gV,gV,gV,gV,gV,gV,gV]=ba [ba (.ref r),ba (.int v),ba (.tup (ah A)),ba (.ref q0),ba (.int e),gV,gV,gV,gV,gV,gV,gV,gV,gV,gV]from rfl) (hK _ _ ?_)
 clear hK K;nofun
 left;show aZ (d:=d+5) G.pick f2 ∅ ∅ λv3 S3 v30 v3m f3 k3=>?_
 delta bW aM;obtain⟨a,ea⟩:∃a:Ll,1+v3=a:=#[(1+v3).toNat,∅]
 rw[ea];show hK _ _ ?_;clear hK K;nofun
 left;show uC (d:=d+4) G (S0:=S1) x f3 hr1 (k2.trans k3) (k3.get _ _ ∅ hq0) N h40 (hm0.kp hr1 k3) λbs q U S4 hb P hq hql hm f4 k4=>?_
 delta wU;show ab (show eP [2,3] [.tup (ah bs),.ref q] [ba (.ref r),ba (.int v),ba (.tup (ah A)),ba (.ref q0),ba (.int e),ba (.int a),gV,gV,gV,gV,gV,gV,gV,gV,gV]=ba [ba (.ref r),ba (.int v),ba (.tup (ah bs)),ba (.ref q),ba (.int e),ba (.int a),gV,gV,gV,gV,gV,gV,gV,gV,gV]from rfl) (hK _ _ ?_)
 clear hK K;rw[<- P]at hm m6;have V:↥bs=2\/↥bs=3:=by rw[P];show(Bm A x).1
 have hsz:SizeOk a bs:=#[∅,hb,by
  have h1:(a:LC)*↥bs<=e*↥bs:=Int.mul_le_mul_of_nonneg_right ∅ ∅
  exact_mod_cast Int.le_trans h1 m6,∅]
 clear m6 hm0 hq0 N h40 P x k2 k3 f2 f3;nofun
 left;show gy (d:=d+1) R G f4 ∅ ∅ λms ns s hml hnl hnm f5 k5=>hK _ _ ?_
 clear hK K;have kk:Kp r S s:=k1.trans (k4.trans k5);have hrt:=f5.lt;have hq5:s[q]?=ba (.dic U):=k5.get _ _ ∅ hq
 have hm5:MustE s ↥bs ↥S1 U:=hm.kp hr1 k5;have hqn:q<↥s:=b7 hq5;clear k1 k4 k5 f4 hm hq hql f1;show st ?_;delta wS wE LH;nofun
 left;show bc ?_;rw[show(ah bs).length=↥bs from Lh ..]
 show hK _ _ ?_;clear hK K;nofun
 show Br (n:=↥bs) (λQ q=>q) ∅ rfl λj j0 j27 hj=>?_
 show#[(λ_ Z S'=>(∃L x10 x11 x12 g f,Z=[ba (.ref r),ba (.int v),ba (.tup (ah bs)),ba (.ref q),ba (.int e),ba (.int a),ba (dZ ms ns bs []),ba (.ref ↥s),ba (.int ↥bs),L,x10,x11,x12,g,f])/\(∃U M,S'[↥s]?=ba (.dic U)/\FigD (aS a bs) U M)/\S'[q]?=ba (.dic U)/\MustE S' ↥bs ↥S1 U/\Fl S' r/\Kp r S S'),#[#[_,_,_,_,_,_,rfl],#[[],[],af,.nil],aj hq5,hm5.ka .push,f5.ka .push,kk.trans .push],?_,?_]
 ·rintro i Z S6 hi ⟨⟨L,x10,x11,x12,g,f,rfl⟩,⟨E,M,e6,hd⟩,D,B,f6,k6⟩ Q2 X _;clear hK k;have l:(0:LC)<↥bs:=∅
  have Y:(↥bs:LC)<1073741824:=∅
  have y1:0<=(i:LC) % ↥bs/\(i:LC) % ↥bs<↥bs:=#[Op _ ∅,Ob _ l]
  have y2:0<=(i:LC) / ↥bs % ↥bs/\(i:LC) / ↥bs % ↥bs<↥bs:=#[Op _ ∅,Ob _ l]
  have y3:0<=(i:LC) / ↥bs / ↥bs/\(i:LC) / ↥bs / ↥bs<↥bs:=by
   rcases V with h|h<;>rw[h]at hj ⊢<;>omega
  nofun
  left;show ab (jE l) (ab (gq l Y) (ab (jE l) ?_));delta w2;show hK _ _ ?_;clear hK K;nofun
  left;show ab (gq l Y) (ab (gq l Y) (hK _ _ ?_));clear hK K;dsimp only;generalize(i:LC) % ↥bs=z1 at y1 ⊢;generalize(i:LC) / ↥bs % ↥bs=z2 at y2 ⊢;generalize(i:LC) / ↥bs / ↥bs=z3 at y3 ⊢;nofun
  delta wS wT wA wE wV wG;show Bq (d:=d+4) G hb y1 y2 y3 D B λb S7 y=>?_
  delta iY aM;show aE (Q0:=Q2) (λ_ Q3 C _=>?_) (λ_ Q3 C _=>bX (C _ _ (hK _ _ (bX (X _ _ #[#[_,_,_,_,_,_,rfl],#[E,M,y.get _ _ e6,hd],y.get _ _ D,B.ka y,f6.ka y,k6.trans (y.kp r)])))))
  show aN λK3 hK3=>?_
  show jO rfl rfl ?_;delta wE wA wV wG;have h56:↥s<↥S6:=b7 e6;have h67:=y.len;show Bh (d:=d+5) G (a:=a) ∅ λt ts S8 e8 ht ht7 O=>?_
  show#[t,ts.map p4,(λ_ Z S'=>(∃L g f,Z=[ba (.ref r),ba (.int v),ba (.tup (ah bs)),ba (.ref q),ba (.int e),ba (.int a),ba (dZ ms ns bs []),ba (.ref ↥s),ba (.int ↥bs),L,ba (.int z1),ba (.int z2),ba (.int z3),g,f])/\(∃U M,S'[↥s]?=ba (.dic U)/\FigD (aS a bs) U M)/\S'[q]?=ba (.dic U)/\MustE S' ↥bs ↥S1 U/\S'[t]?=ba (.lst (ts.map p4))/\Fl S' r/\Kp r S S'),rfl,#[#[_,_,_,rfl],#[E,M,O.get _ _ (y.get _ _ e6),hd],O.get _ _ (y.get _ _ D),(B.ka y).ka O,e8,(f6.ka y).ka O,k6.trans ((y.trans O).kp r)],λi Z S' h=>h.2.2.2.2.1,?_,?_]
  ·rintro j w Z S9 hw ⟨⟨L,g,f,rfl⟩,⟨E,M,e9,hd⟩,hq9,T,ht9,f9,k9⟩;clear hK3 C hK X;rw[Lu,Lk]at hw;obtain⟨⟨H,I,J⟩,htr,rfl⟩:=hw;obtain⟨t1,t2,t3⟩:=ht _ (LD htr);show ab (show gE (.nm 13) (p4 (H,I,J)) [ba (.ref r),ba (.int v),ba (.tup (ah bs)),ba (.ref q),ba (.int e),ba (.int a),ba (dZ ms ns bs []),ba (.ref ↥s),ba (.int ↥bs),L,ba (.int z1),ba (.int z2),ba (.int z3),g,f] S9=ba ([ba (.ref r),ba (.int v),ba (.tup (ah bs)),ba (.ref q),ba (.int e),ba (.int a),ba (dZ ms ns bs []),ba (.ref ↥s),ba (.int ↥bs),L,ba (.int z1),ba (.int z2),ba (.int z3),ba (p4 (H,I,J)),f],S9)from rfl) λQ4 hn4 _=>?_
   have hu:GoodW a ↥bs [(H,[]),(I,[z1]),(J,[z2,z3])]:=Je t1 t2 t3 y1 y2 y3;nofun
   left;show al #v[] rfl (al #v[] rfl (hK _ _ ?_))
   clear hK K;show st ?_;left;show al #v[] rfl (ab (gW (jH rfl)) ?_)
   show jK (d:=d+3) (m0:=.tup (ms.map W.str)) (b0:=.tup []) (u:=[(H,[]),(I,[z1]),(J,[z2,z3])]) G hb hnl hu rfl λS10 m=>?_
   have e10:=m.get _ _ e9;show Be e10 hd hsz hu rfl λo ho=>bX (hn4 _ _ #[#[_,_,_,rfl],ho,by rw[bz (Mk ‹_›)];show m.get _ _ hq9,(T.ka m).set e10,by rw[bz ∅];show m.get _ _ ht9,(f9.ka m).own hrt,(k9.trans (m.kp r)).late kk.len])
  ·rintro Z S9 ⟨⟨L,g,f,rfl⟩,hdd,hq9,T,ht9,f9,k9⟩;show hK3 _ _ (bX (C _ _ (hK _ _ (bX (X _ _ #[#[_,_,_,_,_,_,rfl],hdd,hq9,T,f9,k9])))))
 ·rintro Z S6 ⟨⟨L,x10,x11,x12,g,f,rfl⟩,⟨E,M,e6,hd⟩,D,B,f6,k6⟩;show hK _ _ (st ?_);left;show Bd (Q:=λp=>Q' (.rt p.1,p.2)) e6 hd hsz hml hnl hnm λw S8 hw O=>k w S8 hw (f6.ka O) (k6.trans (O.kp r))
end
abbrev Tr:Ll->W->Prop
 |_,.int _=>UE
 |_,.str _=>UE
 |_,.non=>UE
 |n+1,.tup xs=>↥xs<=1000/\∀x∈xs,Tr n x
 |_,_=>Nb
def kz:∀n:Ll,i5 (Mu n (.bl true))=ba (Mu n true)
 |0=>rfl
 |n+1=>by rw[NG,i5,kz n];rfl
def v8 (n:Ll):(Mu n true).all id=true:=by
 rw[LN];intro x a;rw[(List.mem_replicate.mp a).2];rfl
section
variable{defs:Lf (LW×Df)}{fuel:Ll}
def wa (o:Is defs ("_law_alike": LW) 2 2 bn):∀(n d:Ll) (w:W) (S:aa) (Q:QW),Tr n w->(∀S',Ka S S'->Q (.bl true,S'))->wO (aQ (ak defs fuel (d+n+1)) "_law_alike" 2 [w,w] S) Q:=by
 intro n
 induction n with
 |zero=>
  intro d w S Q h k;show az o rfl rfl λg f=>?_
  replace k:=f _ _ (k S .refl);clear f;change wZ _ _ bn [ba w,ba w] S g;delta bn;cases w with
  |int x=>
   show aN λK hK=>b8 (λQ q=>q) (hK _ _ ?_)
   show aN λK hK=>b8 (λQ q=>#[λz=>(by cases z),λ_=>q]) (hK _ _ ?_)
   show aN λK hK=>mf (λQ q=>q) λe _ b=>st ?_
   delta wS wE wV wG;show ab (show xG S (.int x) "int" = ba true from rfl) #[λ_=>?_,λz=>by cases z]
   delta i9 aM;rw[MK];show b _ _ k
  |str x=>
   show aN λK hK=>b8 (λQ q=>q) (hK _ _ ?_)
   show aN λK hK=>b8 (λQ q=>#[λz=>(by cases z),λ_=>q]) (hK _ _ ?_)
   show aN λK hK=>b8 (λQ q=>q) (hK _ _ ?_)
   show aN λK hK=>mf (λQ q=>q) λe _ b=>st ?_
   delta wS wE wV wG;show ab (show xG S (.str x) "str" = ba true from rfl) #[λ_=>?_,λz=>by cases z]
   delta Ew aM;rw[MK];show b _ _ k
  |non=>
   show aN λK hK=>mf (λQ q=>q) λe _ b=>st ?_
   delta wS wE wV wG;show ab (show cx .is .non .non S=ba (.bl true,S)from rfl) (b _ _ k)
  |_=>show h.elim
 |succ n ih=>
  intro d w S Q h k;show az o rfl rfl λg f=>?_
  replace k:∀S',Ka S S'->g (.rt (.bl true),S'):=λS' a=>f _ _ (k S' a)
  clear f;change wZ _ _ bn [ba w,ba w] S g;delta bn;cases w with
  |int x=>
   show aN λK hK=>b8 (λQ q=>q) (hK _ _ ?_)
   show aN λK hK=>b8 (λQ q=>#[λz=>(by cases z),λ_=>q]) (hK _ _ ?_)
   show aN λK hK=>mf (λQ q=>q) λe _ b=>st ?_
   delta wS wE wV wG;show ab (show xG S (.int x) "int" = ba true from rfl) #[λ_=>?_,λz=>by cases z]
   delta i9 aM;rw[MK];show b _ _ (k _ .refl)
  |str x=>
   show aN λK hK=>b8 (λQ q=>q) (hK _ _ ?_)
   show aN λK hK=>b8 (λQ q=>#[λz=>(by cases z),λ_=>q]) (hK _ _ ?_)
   show aN λK hK=>b8 (λQ q=>q) (hK _ _ ?_)
   show aN λK hK=>mf (λQ q=>q) λe _ b=>st ?_
   delta wS wE wV wG;show ab (show xG S (.str x) "str" = ba true from rfl) #[λ_=>?_,λz=>by cases z]
   delta Ew aM;rw[MK];show b _ _ (k _ .refl)
  |tup xs=>
   obtain⟨hl,p⟩:=h;show aN λK hK=>b8 (λQ q=>q) (hK _ _ ?_)
   show aN λK hK=>b8 (λQ q=>#[λz=>(by cases z),λ_=>q]) (hK _ _ ?_)
   show aN λK hK=>b8 (λQ q=>q) (hK _ _ ?_)
   show aN λK hK=>b8 (λQ q=>q) (hK _ _ ?_)
   show aN λK hK=>b8 (λQ q=>#[λz=>(by cases z),λ_=>q]) (hK _ _ ?_)
   show st ?_;left;show bc (bc ?_);delta i9 aM wB;rw[MK];show#[λ_=>?_,λz=>by cases z]
   show dD (↥xs:LC) (λi ys j S2=>(∃m,j=[gV,m,ba (.tup xs),ba (.tup xs)])/\ys=Mu i (.bl true)/\Ka S S2) rfl rfl rfl ∅ ?_ ?_ ?_
   ·delta wE wA wV wG;show bc #[rfl,#[gV,rfl],rfl,.refl]
   ·rintro i ys j S2 hi ⟨⟨m,rfl⟩,rfl,l⟩;have c:i<↥xs:=by show N4.mp ‹_›
    delta gX wC wE wA wV wG LH;show#[λ_=>al (LV i) (by rw[LP];show Lq c) (al (LV i) (by rw[LP];show Lq c) (ih d _ _ _ (p _ (Mp c)) λs r=>#[#[_,rfl],?_,l.trans r])),λz=>by cases z]
    rw[SC]
   ·rintro ys j S2 ⟨_,rfl,l⟩;rw[LP];show#[few (by rw[Qp];show hl),ab (a:=(.bl true,S2++[.lst (Mu ↥xs (.bl true))])) ?_ (k _ (l.trans .push))]
    (delta Bi.fn CS;simp only[ay af,kz,MA,v8])
  |non=>
   show aN λK hK=>mf (λQ q=>q) λe _ b=>st ?_
   delta wS wE wV wG;show ab (show cx .is .non .non S=ba (.bl true,S)from rfl) (b _ _ (k _ .refl))
  |_=>show h.elim
end
abbrev wb:Ss:=
 #v[.ite (.cmp .gt (.v 2) (.v 3)) #v[.ret (.ix (.ix (.ix (.v 1) (.v 2)) (.c (.int 1))) (.v 3))] .nil,.ret (.ix (.ix (.ix (.v 0) (.c (.int 1))) (.ix (.ix (.ix (.v 1) (.v 3)) (.c (.int 1))) (.v 2))) (.c (.int 1)))]
abbrev g9:Ss:=
 #v[.ret (.bi .tuple #v[.comp (.own "point_over" 4 #v[.v 4,.v 5,.sl (.v 3) .no (.yes (.v 1)),.v 2]) (.tp [1,2]) (.enu #v[.v 2]) .nil [gV,gV,gV,ba 2,ba 0,ba 1]])]
abbrev eA:Ss:=
 #v[.ret (.tup #v[.ix (.ix (.v 1) (.v 3)) (.c (.int 0)),.bi .tuple #v[.comp (.own "way" 4 #v[.v 3,.v 4,.v 2,.v 1]) (.nm 1) (.seq (.v 2)) .nil [gV,gV,ba 3,ba 0,ba 1]]])]
abbrev bM:Ss:=
 #v[.set 2 (.lst #v[.tup .nil]),.loop (.nm 3) (.rng #v[.v 1]) #v[.set 2 (.comp (.op .add (.ix (.v 3) (.op .fdiv (.v 1) (.v 2))) (.tup #v[.op .mod (.v 1) (.v 2)])) (.nm 1) (.rng #v[.op .mul (.bi .len #v[.v 2]) (.v 0)]) .nil [gV,gV,ba 0,ba 2])],.ret (.v 2)]
abbrev cu:Ss:=
 #v[.set 2 (.lst #v[.tup .nil]),.loop (.nm 3) (.rng #v[.v 1]) #v[.set 4 (.lst .nil),.loop (.nm 5) (.rng #v[.bi .len #v[.ix (.v 0) (.c (.int 0))]]) #v[.ex (.me .extend (.v 4) #v[.comp (.tup #v[.v 2,.v 1]) (.nm 1) (.seq (.own "_law_digits" 2 #v[.bi .len #v[.ix (.v 0) (.c (.int 1))],.v 3])) .nil [gV,gV,ba 5]])],.set 2 (.comp (.op .add (.ix (.v 3) (.op .fdiv (.v 1) (.bi .len #v[.v 2]))) (.tup #v[.ix (.v 2) (.op .mod (.v 1) (.bi .len #v[.v 2]))])) (.nm 1) (.rng #v[.op .mul (.bi .len #v[.v 2]) (.bi .len #v[.v 4])]) .nil [gV,gV,ba 4,ba 2])],.ret (.v 2)]
section
variable{defs:Lf (LW×Df)}{fuel d:Ll}{S:aa}{r:Ll}{Q:QW}
def Bt {M:LW->FF}{m0 b0:W}{ns:Lf LW}{bs:Lf LC}{a:Ll}{u:Wd}{i j:Ll}{Q:QO}(s:GoodB bs)(hl:↥ns=↥bs)(m:GoodW a ↥bs u)(hi:i<↥u)(p:j<↥u)(x:i≠j)(k:Q (.rt (.int (b6 bs u i j)),S)) :
  wZ M fuel wb [ba (.tup [m0,.tup (LK aK ns bs),b0]),ba (am u),ba (.int i),ba (.int j)] S Q:=by
 have l:=ap (d:=(0,[])) hi;have f:=ap (d:=(0,[])) p;unfold b6 at k;delta wb;nofun
 delta wS wT wE wV wG IQ wO wB am;show aE (Q0:=Q) (λh q _ y=>?_) (λh q g _=>?_)
 ·have c:j<i:=by have:=Mq h;show N4.mp ‹_›
  rw[LU c]at k;have n:j<(u.getD i (0,[])).2.length:=by rw[m.len i _ l];show c
  show st ?_;delta wS wE wV wG;show al (LV i) (gF hi) (al #v[] rfl (al (LV j) ?_ (y _ _ k)))
  rw[LP,Lu,ap (d:=0) n];rfl
 ·have c:¬ j<i:=by have:=OD h;omega
  rw[L1 c]at k;show bX (g _ _ (hK _ _ ?_));clear g hK;have n:i<(u.getD j (0,[])).2.length:=by rw[m.len j _ f];omega
  have o:=ap (d:=0) n;obtain⟨r,z⟩:=m.way j _ f _ (LD o);obtain⟨b,e,t,w⟩:=s.rng ((u.getD j (0,[])).2.getD i 0).toNat ∅
  have g:((u.getD j (0,[])).2.getD i 0).toNat<↥ns:=∅
  rw[getD_some e]at k;show st ?_;delta wS wE wV wG;show al #v[] rfl (al (LV j) (gF p) (al #v[] rfl (al (LV i) ?_ (al r (pU (Lq g) e) (al #v[] rfl k)))))
  rw[LP,Lu,o];rfl
structure Parts (defs:Lf (LW×Df)):Prop where
 way:Is defs ("way": LW) 4 4 wb
 over:Is defs ("point_over": LW) 4 4 eA
def Jf (P:Parts defs){m0 b0:W}{ns:Lf LW}{bs:Lf LC}{a:Ll}{u:Wd}{i j:Ll}(e:GoodB bs)(hl:↥ns=↥bs)(g:GoodW a ↥bs u)(hi:i<↥u)(f:j<↥u)(b:i≠j)(k:Q (.int (b6 bs u i j),S)) :
  wO (aQ (ak defs fuel (d+1)) "way" 4 [.tup [m0,.tup (LK aK ns bs),b0],am u,.int i,.int j] S) Q:=
 az P.way rfl rfl λh c=>Bt e hl g hi f b (c _ _ k)
def uD (P:Parts defs){m0 b0:W}{ns:Lf LW}{bs:Lf LC}{a:Ll}{u:Wd}{ps:Lf Ll}{i:Ll}(t:GoodB bs)(hl:↥ns=↥bs)(x:GoodW a ↥bs u)(f:∀p∈ps,p<↥u/\i≠p)(hi:i<↥u)(hsz:↥ps<=1000)(k:∀S',Ka S S'->Q (bo ((u.getD i (0,[])).1,ps.map λq=>b6 bs u i q),S')) :
  wO (aQ (ak defs fuel (d+2)) "point_over" 4 [.tup [m0,.tup (LK aK ns bs),b0],am u,.tup (au ps),.int i] S) Q:=by
 show az P.over rfl rfl λn r=>?_
 replace k:∀S',Ka S S'->n (.rt (bo ((u.getD i (0,[])).1,ps.map λq=>b6 bs u i q)),S'):=λS' a=>r _ _ (k S' a)
 clear r;change wZ _ _ eA [ba (.tup [m0,.tup (LK aK ns bs),b0]),ba (am u),ba (.tup (au ps)),ba (.int i)] S n;generalize e:W.tup [m0,.tup (LK aK ns bs),b0]=R;delta eA;show st ?_;left;show al (LV i) (gF hi) (al #v[] rfl ?_)
 show vR (au ps) (λj ys b S2=>(∃c,b=[gV,c,ba (.int i),ba R,ba (am u)])/\ys=(ps.take j).map (λq=>W.int (b6 bs u i q))/\Ka S S2) rfl rfl rfl #[rfl,#[gV,rfl],rfl,.refl] ?_ ?_
 ·rintro j w ys b S2 l ⟨⟨c,rfl⟩,rfl,m⟩;unfold au at l;rw[Lu,Lk]at l;obtain⟨q,s,rfl⟩:=l;obtain⟨h,g⟩:=f q (LD s);show ab (show gE (.nm 1) (.int (q:LC)) [gV,c,ba (.int i),ba R,ba (am u)] S2=ba ([gV,ba (.int (q:LC)),ba (.int i),ba R,ba (am u)],S2)from rfl) ?_
  delta gX wC wE wA wV wG;subst e;show#[λ_=>Jf (d:=d) P t hl x hi h g #[#[_,rfl],?_,m],λz=>by cases z]
  rw[L8,s];simp
 ·rintro ys b S2 ⟨_,rfl,m⟩;rw[show(au ps).length=↥ps from Lh ..,Mg]
  show#[few (by rw[Lh];show hsz),fT af ?_]
  have:=k _ (m.trans (Ka.push (o:=O.lst (ps.map λq=>W.int (b6 bs u i q)))))
  unfold bo at this;rw[Nl]at this;show this
def Jg (P:Parts defs)(c:Is defs ("part": LW) 3 3 g9){m0 b0:W}{ns:Lf LW}{bs:Lf LC}{a:Ll}{u:Wd}{ps:Lf Ll}(x:GoodB bs)(hl:↥ns=↥bs)(B:GoodW a ↥bs u)(b:∀p∈ps,p<↥u)(n:ps.Nodup)(hsz:↥ps<=1000)(k:∀S',Ka S S'->Q (am (ag bs u ps),S')) :
  wO (aQ (ak defs fuel (d+3)) "part" 3 [.tup [m0,.tup (LK aK ns bs),b0],am u,.tup (au ps)] S) Q:=by
 show az c rfl rfl λs t=>?_
 replace k:∀S',Ka S S'->s (.rt (am (ag bs u ps)),S'):=λS' a=>t _ _ (k S' a)
 clear t;change wZ _ _ g9 [ba (.tup [m0,.tup (LK aK ns bs),b0]),ba (am u),ba (.tup (au ps))] S s;generalize l:W.tup [m0,.tup (LK aK ns bs),b0]=R;delta g9;show st ?_;delta wS wE wA;show DR (au ps) (λj ys g S2=>(∃h i,g=[gV,h,i,ba (.tup (au ps)),ba R,ba (am u)])/\ys=((ag bs u ps).take j).map bo/\Ka S S2) rfl rfl rfl #[rfl,#[gV,gV,rfl],rfl,.refl] ?_ ?_
 ·rintro j w ys g S2 o ⟨⟨h,i,rfl⟩,rfl,r⟩;unfold au at o;rw[Lu,Lk]at o;obtain⟨q,f,rfl⟩:=o;have y:j<↥ps:=(LB.mp f).1;have eq:q=ps[j]:=(LB.mp f).2.symm;show ab (show gE (.tp [1,2]) (.tup [.int (j:LC),.int (q:LC)]) [gV,h,i,ba (.tup (au ps)),ba R,ba (am u)] S2=ba ([gV,ba (.int (j:LC)),ba (.int (q:LC)),ba (.tup (au ps)),ba R,ba (am u)],S2)from rfl) ?_
  delta gX wC wE wA wP wV wG wN;show#[λ_=>ab (a:=(.tup (au (ps.take j)),S2)) ?_ ?_,λz=>by cases z]
  ·simp only[tf,jI];unfold au;rw[Qz]
  ·subst l;show uD (d:=d) P x hl B (λp c=>#[b p (Nw c),?_]) (b q (LD f)) (by rw[Mv];omega) λE C=>#[#[_,_,rfl],?_,r.trans C]
   ·obtain⟨m,A,e⟩:=Nf.mp c;rw[Mv]at A;rw[OS]at e;rw[eq,<- e];intro z;have:=(NB n).mp z;omega
   ·have v:(ag bs u ps)[j]?=ba ((u.getD q (0,[])).1,(ps.take j).map λD=>b6 bs u q D):=by
     unfold ag;rw[Lu,N5 y,MA,getD_some f]
    rw[L8,v];simp
 ·rintro ys g S2 ⟨_,rfl,r⟩;rw[show(au ps).length=↥ps from Lh ..,<- aI bs u ps,Mg]
  show#[few (by rw[Lh,aI];show hsz),fT af (k _ (r.trans .push))]
end
abbrev br (n:Ll):Ll->Lf (Lf LC)
 |0=>[[]]
 |k+1=>(LR ((br n k).length*n)).map λi=>(br n k).getD (i/n) []++[((i % n:Ll):LC)]
abbrev bj (a n k:Ll):Lf Pt:=(LR a).flatMap λ(m:Ll)=>(br n k).map λb=>(((m:Ll):LC),b)
abbrev aG (a n:Ll):Ll->Lf Wd
 |0=>[[]]
 |k+1=>(LR ((aG a n k).length*(bj a n k).length)).map λi=>(aG a n k).getD (i/(bj a n k).length) []++[(bj a n k).getD (i % (bj a n k).length) (0,[])]
def D6 {n k:Ll}{a:Lf LC}:a∈br n k->↥a<=k:=by
 induction k generalizing a with
 |zero=>intro h;cases LA.mp h;show Ls _
 |succ k ih=>
  intro h;obtain⟨i,hi,rfl⟩:=Lr.mp h;have hi:=LG.mp hi;have c:0<n:=by
   rcases Pn n with h|h
   ·rw[h,QX]at hi;omega
   ·show h
  have b:i/n<(br n k).length:=Of (by rw[PJ];show hi)
  have:=ih (LD (ap (d:=[]) b));rw[Lx,Na];omega
def ED {M:LW->FF}{Z:Fm}{S:aa}{a b:E}{x y:LC}{Q:QW}(f:∀Q:QW,Q (.int x,S)->wE M a Z S Q)(g:∀Q:QW,Q (.int y,S)->wE M b Z S Q)(d : -(2^64)<y)(e:y<2^64)(q:Q (.int (x*y),S)):wE M (.op .mul a b) Z S Q:=by
 have c:fm .mul (.int x) (.int y) S=ba (.int (x*y),S):=kP d e;delta wE;show f _ ?_;show g _ ?_;dsimp only;rw[c];show q
def jc {n:Ll}:∀k:Ll,(br n k).length=n^k
 |0=>rfl
 |k+1=>by rw[br,Lh,L0,jc k,Qn]
def Bu {n k:Ll}(a:n<=3)(hk:k<=5):(br n k).length<=243/\(k<=4->(br n k).length<=81):=by
 rw[jc];show#[Lw (N7 a k) (Nx (n:=3) #v[] hk),λh=>Lw (N7 a k) (Nx (n:=3) #v[] h)]
section
variable{defs:Lf (LW×Df)}{fuel d:Ll}{S:aa}{r:Ll}{Q:QW}
def Bv (o:Is defs ("_law_digits": LW) 2 4 bM){n k:Ll}(L:1<=n)(m:n<=3)(I:k<=5)(r:∀(q:Ll) (S':aa),S'[q]?=ba (.lst ((br n k).map λg=>.tup (ah g)))->↥S<=q->Ka S S'->Q (.ref q,S')) :
  wO (aQ (ak defs fuel (d+1)) "_law_digits" 2 [.int n,.int k] S) Q:=by
 show az o rfl rfl λB D=>?_
 replace r:∀(q:Ll) (S':aa),S'[q]?=ba (.lst ((br n k).map λg=>.tup (ah g)))->↥S<=q->Ka S S'->B (.rt (.ref q),S'):=λa b c e f=>D _ _ (r a b c e f)
 clear D;change wZ _ _ bM [ba (.int n),ba (.int k),gV,gV] S B;delta bM;show st ?_;delta wS wE wA LH;nofun
 show cO (k:LC) (λi Z S'=>∃(q:Ll) (t:Ln W),Z=[ba (.int n),ba (.int k),ba (.ref q),t]/\S'[q]?=ba (.lst ((br n i).map λg=>.tup (ah g)))/\↥S<=q/\Ka S S') rfl rfl ∅ #[rfl,_,_,rfl,af,Ls _,.push] ?_ ?_
 ·rintro i Z S1 hi ⟨q,t,rfl,h,E,p⟩ M J _;clear hK r;obtain⟨N,u⟩:=Bu (n:=n) (k:=i) m ∅
  have u:=u ∅
  have O:(br n i).length*n<=243:=PH u m;have v:(((br n i).length:LC)*(n:LC))=(((br n i).length*n:Ll):LC):=(Po ..).symm;show st ?_;delta wS wE LH;show dD ((((br n i).length*n:Ll)):LC) (λj ys s S2=>(∃C,s=[gV,C,ba (.int n),ba (.ref q)])/\ys=((br n (i+1)).take j).map (λg=>.tup (ah g))/\S2=S1) rfl rfl rfl ∅ ?_ ?_ ?_
  ·show ED (x:=(br n i).length) (y:=n) (λQ q=>?_) (λQ q=>q) ∅ ∅ #[by rw[v],#[gV,rfl],rfl,rfl]
   delta wE wA wV wG;show dY h ?_;rw[Lh];show q
  ·rintro j ys s S2 P ⟨⟨C,rfl⟩,rfl,rfl⟩;have l:j<(br n i).length*n:=by show N4.mp ‹_›
   have A:j/n<(br n i).length:=Of (by rw[PJ];show l)
   have o:=ap (d:=[]) A;have H:=D6 (LD o);delta gX wC wE wA wV wG LH;show#[λ_=>ab (gq ∅ ∅) ?_,λz=>by cases z]
   show dX h (w:=.tup (ah ((br n i).getD (j/n) []))) (QM ∅ ∅) (by rw[show((j:LC)/(n:LC)).toNat=j/n from rfl,Lu,o];rfl) ?_
   show ab (jE ∅) (ab (gW (few (by rw[Lx,show(ah ((br n i).getD (j/n) [])).length=((br n i).getD (j/n) []).length from Lh ..];show _+1<=1000;omega))) #[#[_,rfl],?_,rfl])
   have G:(br n (i+1))[j]?=ba ((br n i).getD (j/n) []++[((j % n:Ll):LC)]):=by
    rw[br,Lu,N5 l];rfl
   rw[L8,G];simp[ah]
  ·rintro ys s S2 ⟨_,rfl,rfl⟩;have hl:(br n (i+1)).length=(br n i).length*n:=by rw[br,Lh,L0]
   rw[LP,<- hl,Mg];show#[few (by rw[Lh,hl];show Lw ‹_› (LL rfl)),bX (J _ _ #[_,_,rfl,af,p.len,p.trans .push])]
 ·rintro Z S1 ⟨q,t,rfl,h,E,p⟩;show hK _ _ (st (r q S1 (by rw[LP]at h;show h) E p))
end
def D7 {a n k:Ll}{u:Wd}:u∈aG a n k->↥u<=k:=by
 induction k generalizing u with
 |zero=>intro h;cases LA.mp h;show Ls _
 |succ k ih=>
  intro h;obtain⟨i,hi,rfl⟩:=Lr.mp h;have hi:=LG.mp hi;have b:i/(bj a n k).length<(aG a n k).length:=Of (by rw[PJ];show hi)
  have:=ih (LD (ap (d:=[]) b));rw[Lx,Na];omega
def dB {a n k:Ll}:(bj a n k).length=a*n^k:=by
 unfold bj
 induction a with
 |zero=>simp
 |succ a ih=>rw[Oq,O5,Lx,ih];simp[jc,Pi]
def ce {a n:Ll}(k:Ll):(aG a n (k+1)).length=(aG a n k).length*(bj a n k).length:=by rw[aG,Lh,L0]
def mz {a n k:Ll}(b:1<=a)(f:a<=3)(d:1<=n)(g:n<=3)(c:a*n<=6)(hk:k<=2):1<=(bj a n k).length/\(bj a n k).length<=27/\(aG a n k).length*(bj a n k).length<=216:=by
 have h:(aG a n 0).length=1:=rfl;have e:=ce (a:=a) (n:=n) 0;have w2:=ce (a:=a) (n:=n) 1;simp only[dB]at e w2 ⊢;rcases(show k=0\/k=1\/k=2 by omega)with rfl|rfl|rfl<;>rcases(show a=1\/a=2\/a=3 by omega)with rfl|rfl|rfl<;>rcases(show n=1\/n=2\/n=3 by omega)with rfl|rfl|rfl<;>simp_all
def mB {M:LW->FF}{Z:Fm}{S:aa}{a e:E}{tg:Tg}{g:Es}{d:Lf (Ln Ll)}{Q:QW}(n:d7 e=true)(m:d7 a=true)(oc:n0 g=true)(l:wE M e Z S λp=>∃(t:Ll) (xs:Lf W) (I:Ll->Lf W->Fm->aa->Prop),p.1=.ref t/\I 0 [] (fH d Z) p.2/\(∀i ys Z S,I i ys Z S->S[t]?=ba (.lst xs))/\
  (∀(i:Ll) (w:W) (ys:Lf W) (Z:Fm) (S:aa),xs[i]?=ba w->I i ys Z S->wO (gE tg w Z S) λq=>gX M a g q.1 q.2 (λy=>I (i+1) (ys++[y])) (I (i+1) ys))/\
  ∀ys Z S,I ↥xs ys Z S->↥ys<=sizeLine/\Q (.ref ↥S,S++[.lst ys])):Wp (aD M (.comp a tg (.seq e) g d) Z S) Q:=by
 obtain⟨w,S1,k,t,xs,I,rfl,j,b,c,f⟩:=bK n l;show km (mi:=.live t) (S1:=S1) I m oc (by simp only[j8,fQ,k,ay (b _ _ _ _ j)]) (λi ys Z S h=>by simp only[MI.at,ay (b _ _ _ _ h)]) (by simp only[MI.len,ay (b _ _ _ _ j),MA]) j c f
section
variable{defs:Lf (LW×Df)}{fuel d:Ll}{S:aa}{r:Ll}{Q:QW}
def Jh {t l:Ll}{xs ys:Lf W}(h:S[t]?=ba (.lst xs))(a:S[l]?=ba (.lst ys))(hl:↥xs+↥ys<=1000)(q:Q (.non,S.set t (.lst (xs++ys)))):wO (Me.extend.fn (.ref t) [.ref l] S) Q:=by
 show ab ?_ q
 (delta Me.fn jn;simp only[dj h,dj a])
 rw[LU (few hl)]
def x4 (hd:Is defs ("_law_digits": LW) 2 4 bM)(M:Is defs ("_law_worlds": LW) 2 6 cu){a n K:Ll}{Mqa N:Lf W}{b0:W}(hM:↥Mqa=a)(hN:↥N=n)(ha1:1<=a)(ha3:a<=3)(hn1:1<=n)(H:n<=3)(hK5:K<=5)(J:∀i<K,1<=(bj a n i).length/\(bj a n i).length<=27/\(aG a n i).length*(bj a n i).length<=216)
  (U:∀(q:Ll) (S':aa),S'[q]?=ba (.lst ((aG a n K).map am))->↥S<=q->Ka S S'->Q (.ref q,S')) :
  wO (aQ (ak defs fuel (d+2)) "_law_worlds" 2 [.tup [.tup Mqa,.tup N,b0],.int (K:LC)] S) Q:=by
 show az M rfl rfl λQ' hR=>?_
 replace U:∀(q:Ll) (S':aa),S'[q]?=ba (.lst ((aG a n K).map am))->↥S<=q->Ka S S'->Q' (.rt (.ref q),S'):=λa b c e f=>hR _ _ (U a b c e f)
 clear hR;change wZ _ _ cu [ba (.tup [.tup Mqa,.tup N,b0]),ba (.int (K:LC)),gV,gV,gV,gV] S Q';generalize hR0:W.tup [.tup Mqa,.tup N,b0]=R;delta cu;show st ?_;delta wS wE wA LH;show aN λK' hK=>?_
 show cO (K:LC) (λi Z S'=>∃(q:Ll) (V X s:Ln W),Z=[ba R,ba (.int (K:LC)),ba (.ref q),V,X,s]/\S'[q]?=ba (.lst ((aG a n i).map am))/\↥S<=q/\Ka S S') rfl rfl ∅ #[rfl,_,_,_,_,rfl,af,Ls _,.push] ?_ ?_
 ·rintro i Z S1 hi ⟨q,V,X,s,rfl,C,hq,P⟩ Q2 hn _;clear hK U;obtain⟨p1,L,hP⟩:=J i (N4.mp ‹_›);have hq1:=b7 C;show st ?_;delta wS wE wA LH;show aN λK' hK=>?_
  show jN rfl rfl ?_;delta wE wA wV wG;subst hR0;show al #v[] rfl (bc ?_)
  rw[hM];show#[(a:LC),λm Z S'=>∃s,Z=[ba (.tup [.tup Mqa,.tup N,b0]),ba (.int (K:LC)),ba (.ref q),ba (.int i),ba (.ref ↥S1),s]/\S'[↥S1]?=ba (.lst ((bj m n i).map bo))/\S'[q]?=ba (.lst ((aG a n i).map am))/\Ka S S',rfl,∅,#[s,rfl,af,aj C,P.trans .push],?_,?_]
  ·rintro m Z S2 hm ⟨s,rfl,o,p,T⟩ Q3 I _;clear hK hn;have hS12:=b7 o;show st ?_;left;show#[dS o,?_];show mB rfl rfl rfl ?_;delta wE wA wV wG;show al #v[] rfl (bc ?_)
   rw[hN];show Bv (d:=d) hd hn1 H ∅ λl B e3 hl k3=>?_
   show#[l,(br n i).map λg=>.tup (ah g),λj ys r t=>(∃A,r=[gV,A,ba (.int m)])/\ys=((br n i).take j).map (λg=>bo ((m:LC),g))/\t=B,rfl,#[#[gV,rfl],rfl,rfl],λj ys r t h=>by rw[h.2.2];show e3,?_,?_]
   ·rintro j w ys r t hw ⟨⟨A,rfl⟩,rfl,rfl⟩;rw[Lu,Lk]at hw;obtain⟨g,hds,rfl⟩:=hw;show ab (show gE (.nm 1) (.tup (ah g)) [gV,A,ba (.int m)] t=ba ([gV,ba (.tup (ah g)),ba (.int m)],t)from rfl) ?_
    show#[λ_=>#[#[_,rfl],?_,rfl],λz=>by cases z]
    rw[L8,hds];simp[bo,ah]
   ·rintro ys r t ⟨_,rfl,rfl⟩;rw[show((br n i).map λg=>W.tup (ah g)).length=(br n i).length from Lh ..,Mg]
    have hdl:=(Bu (n:=n) (k:=i) H ∅).1
    have D:=aj (u:=O.lst ((br n i).map λg=>bo ((m:LC),g))) (k3.get _ _ o)
    have hpm:(bj m n i).length<=27:=by
     rw[dB]at L ⊢;show Lw (OT _ ∅) L
    show#[few (by rw[Lh];show Lw ‹_› (LL rfl)),Jh D af (by rw[Lh,Lh];omega) (bX (I _ _ #[_,rfl,?_,?_,((T.trans k3).trans .push).late P.len]))]
    ·rw[bB D];unfold bj;rw[Oq,O5,Mb];simp
    ·rw[bz (Mk ‹_›)];show aj (k3.get _ _ p)
  ·rintro Z S2 ⟨s,rfl,o,p,T⟩;rw[LP]at o;show hK _ _ ?_;clear hK K';have Y:(((aG a n i).length:LC)*((bj a n i).length:LC))=(((aG a n i).length*(bj a n i).length:Ll):LC):=(Po ..).symm;show st ?_;delta wS wE LH;show dD (((aG a n i).length*(bj a n i).length:Ll):LC) (λj ys r B=>(∃A,r=[gV,A,ba (.ref ↥S1),ba (.ref q)])/\ys=((aG a n (i+1)).take j).map am/\B=S2) rfl rfl rfl ∅ ?_ ?_ ?_
   ·show ED (x:=(aG a n i).length) (y:=(bj a n i).length) (λQ q'=>?_) (λQ q'=>?_) ∅ ∅ #[by rw[Y],#[gV,rfl],rfl,rfl]
    ·delta wE wA wV wG;show dY p ?_;rw[Lh];show q'
    ·delta wE wA wV wG;show dY o ?_;rw[Lh];show q'
   ·rintro j ys r B hj ⟨⟨A,rfl⟩,rfl,rfl⟩;have E:j<(aG a n i).length*(bj a n i).length:=by show N4.mp ‹_›
    have hlt:j/(bj a n i).length<(aG a n i).length:=Of (by rw[PJ];show E)
    have M:=ap (d:=[]) hlt;have hwl:=D7 (LD M);have G:j % (bj a n i).length<(bj a n i).length:=P6 _ p1;have hp:=ap (d:=(0,[])) G;delta gX wC wE wA wV wG LH;show#[λ_=>dY o ?_,λz=>by cases z]
    rw[Lh];show ab (gq ∅ ∅) ?_
    show dX p (w:=am ((aG a n i).getD (j/(bj a n i).length) [])) (QM ∅ ∅) (by rw[show((j:LC)/((bj a n i).length:LC)).toNat=j/(bj a n i).length from rfl,Lu,M];rfl) (dY o ?_)
    rw[Lh];show ab (jE ∅) (dX o (w:=bo ((bj a n i).getD (j % (bj a n i).length) (0,[]))) (Op _ ∅) (by rw[show((j:LC) % ((bj a n i).length:LC)).toNat=j % (bj a n i).length from rfl,Lu,hp];rfl) ?_)
    show ab (gW (few (by rw[Lx,Lh];show _+1<=1000;omega))) #[#[_,rfl],?_,rfl]
    have ed:(aG a n (i+1))[j]?=ba ((aG a n i).getD (j/(bj a n i).length) []++[(bj a n i).getD (j % (bj a n i).length) (0,[])]):=by
     rw[aG,Lu,N5 E];rfl
    rw[L8,ed];simp[am]
   ·rintro ys r B ⟨_,rfl,rfl⟩;rw[LP,<- ce,Mg];show#[few (by rw[Lh,ce];show Lw ‹_› (LL rfl)),bX (hn _ _ #[_,_,_,_,rfl,af,T.len,T.trans .push])]
 ·rintro Z S1 ⟨q,V,X,s,rfl,C,hq,P⟩;rw[LP]at C;show hK _ _ (st (U q S1 C hq P))
def Bw (hd:Is defs ("_law_digits": LW) 2 4 bM)(k:Is defs ("_law_worlds": LW) 2 6 cu){a n:Ll}{Mqa N:Lf W}{b0:W}(h:↥Mqa=a)(j:↥N=n)(b:1<=a)(c:a<=3)(e:1<=n)(f:n<=3)(g:a*n<=6)
  (l:∀(q:Ll) (S':aa),S'[q]?=ba (.lst ((aG a n 3).map am))->↥S<=q->Ka S S'->Q (.ref q,S')) :
  wO (aQ (ak defs fuel (d+2)) "_law_worlds" 2 [.tup [.tup Mqa,.tup N,b0],.int 3] S) Q:=
 x4 (K:=3) hd k h j b c e f #v[] (λi hi=>mz b c e f g ∅) l
end
abbrev cf (bs:Lf LC)(v:Wd)(ps:Lf Ll)(i:Ll):Pt:=((v.getD i (0,[])).1,ps.map λq=>b6 bs v i q)
abbrev aB (n:Ll)(os:Lf (Lf Ll)):Lf (Lf Ll):=os.flatMap λo=>((LR n).filter λp=>decide (p∉o)).map λp=>o++[p]
abbrev aC (bs:Lf LC)(u v:Wd):Ll->Lf (Lf Ll)
 |0=>[[]]
 |k+1=>(aB ↥v (aC bs u v k)).filter λo=>decide (cf bs v o.dropLast (o.getLastD 0)=u.getD k (0,[]))
abbrev iQ (bs:Lf LC)(u v:Wd):Ll->Lf (Lf Ll)
 |0=>[[]]
 |k+1=>(iQ bs u v k).flatMap λo=>((LR ↥v).filter λp=>decide (p∉o)&&decide (ag bs u (LR (k+1))=ag bs v (o++[p]))).map λp=>o++[p]
def bH (bs:Lf LC)(v:Wd)(o:Lf Ll)(p:Ll):ag bs v (o++[p])=ag bs v o++[cf bs v o p]:=by
 unfold ag cf;rw[Lx,Na,Oq,Mb];congr 1
 ·show Mm λk hk=>?_
  have hk:=LG.mp hk;rw[show(o++[p]).getD k 0=o.getD k 0 by simp[Mw hk],Og (Ni ‹_›)]
 ·simp
def uE {xs:Lf LC}{k:Ll}(h:↥xs=k):(LR k).map (λq=>xs.getD q 0)=xs:=by
 apply NV
 ·simp[h]
 ·intro i b a;simp[a]
def oo {bs:Lf LC}{a n:Ll}{u:Wd}{k:Ll}(c:GoodW a n u)(hk:k<↥u):cf bs u (LR k) k=u.getD k (0,[]):=by
 unfold cf;have hl:=c.len k _ (ap (d:=(0,[])) hk);have e:((LR k).map λq=>b6 bs u k q)=(u.getD k (0,[])).2:=by
  show Eq.trans (Mm λq b=>?_) (uE hl)
  have b:=LG.mp b;unfold b6;rw[LU b]
 rw[e]
def Bx {α:Type}{a b:Lf α}{x y:α}(h:a=b):(a++[x]=b++[y])=(y=x):=by
 subst h;simp[eq_comm]
structure LkOk (bs:Lf LC)(u v:Wd)(k:Ll)(o:Lf Ll):Prop where
 len:↥o=k
 nd:o.Nodup
 lt:∀p∈o,p<↥v
 prt:ag bs u (LR k)=ag bs v o
def ll {bs:Lf LC}{u v:Wd}:∀{k:Ll},∀o∈iQ bs u v k,LkOk bs u v k o
 |0,o,h=>by
  cases LA.mp h;show#[rfl,.nil,λp d=>by simp at d,rfl]
 |k+1,o,h=>by
  obtain⟨o',g,i⟩:=ML.mp h;obtain⟨p,d,rfl⟩:=Lr.mp i;obtain⟨f,c⟩:=Mo.mp d;simp only[Lp,LJ]at c;have ih:=ll o' g;show#[by rw[Lx,ih.len];rfl,?_,λq m=>?_,c.2]
  ·rw[NJ];show#[ih.nd,by simp,λa j b l=>by rw[LA.mp l];show λe=>c.1 (e▸j)]
  ·rcases Ma.mp m with h|h
   ·show ih.lt q h
   ·rw[LA.mp h];show LG.mp f
def kR {α β:Type}{f:α->Lf β}{q:β->L7}:∀xs:Lf α,(xs.flatMap f).filter q=xs.flatMap λx=>(f x).filter q
 |[]=>rfl
 |x::xs=>by rw[M1,M1,NS,kR xs]
def jd {α β:Type}{f g:α->Lf β}:∀{xs:Lf α},(∀x∈xs,f x=g x)->xs.flatMap f=xs.flatMap g
 |[],_=>rfl
 |x::xs,h=>by rw[M1,M1,h x (.head _),jd λy a=>h y (.tail _ a)]
def iw {bs:Lf LC}{a n:Ll}{u v:Wd}(b:GoodW a n u):∀{k:Ll},k<=↥u->aC bs u v k=iQ bs u v k
 |0,_=>rfl
 |k+1,hk=>by
  rw[aC,iQ,iw b ∅,aB,kR]
  show jd λo d=>?_
  have ok:=ll o d;rw[List.filter_map,Qb];congr 1;show OU λp e=>?_
  rw[bH,Oq,bH];have c:=oo (bs:=bs) b (show k<↥u by omega)
  simp only[SZ,QE,Bx ok.prt,c];rw[show(o++[p]).getLastD 0=p by simp]
  rw[Bool.and_comm]
def fY {n:Ll}:∀os:Lf (Lf Ll),(aB n os).length<=↥os*n
 |[]=>by simp[aB]
 |o::os=>by
  have ih:=fY (n:=n) os;unfold aB at ih ⊢;rw[M1,Lx,Lh,L3,Pi];have:=NK (λp=>decide (p∉o)) (LR n)
  rw[L0]at this;omega
def x5 {n:Ll}{os:Lf (Lf Ll)}{i:Ll}:(aB n (os.take i)).length<=↥os*n:=by
 show Lw (fY _) (OT _ ?_);rw[Mv];omega
def jQ {bs:Lf LC}{u v:Wd}:∀k:Ll,(aC bs u v k).length<=↥v^k
 |0=>Ls _
 |k+1=>by
  rw[aC,Qn];show Lw (NK _ _) (Lw (fY _) (OT _ (jQ k)))
def oq {bs:Lf LC}{u v:Wd}{k:Ll}{o:Lf Ll}(h:o∈aB ↥v (aC bs u v k)):(∀o'∈aC bs u v k,↥o'=k/\o'.Nodup/\∀p∈o',p<↥v)->↥o=k+1/\o.Nodup/\∀p∈o,p<↥v:=λih=>by
 obtain⟨o',f,g⟩:=ML.mp h;obtain⟨p,l,rfl⟩:=Lr.mp g;obtain⟨d,c⟩:=Mo.mp l;have c:p∉o':=Mq c;obtain⟨i1,n,r⟩:=ih o' f;show#[by rw[Lx,i1];rfl,?_,λq m=>?_]
 ·rw[NJ];show#[n,by simp,λa i b j=>by rw[LA.mp j];show λe=>c (e▸i)]
 ·rcases Ma.mp m with h|h
  ·show r q h
  ·rw[LA.mp h];show LG.mp d
def mC {bs:Lf LC}{u v:Wd}:∀{k:Ll},∀o∈aC bs u v k,↥o=k/\o.Nodup/\∀p∈o,p<↥v
 |0,o,h=>by cases LA.mp h;show#[rfl,.nil,λp a=>by simp at a]
 |k+1,o,h=>by
  rw[aC]at h;show oq (Mo.mp h).1 mC
def ou {S:aa}{d:Ll}:∀xs ys:Lf LC,iV (jW S d) (xs.map W.int) (ys.map W.int)=ba (decide (xs=ys))
 |[],[]=>rfl
 |[],_::_=>rfl
 |_::_,[]=>rfl
 |x::xs,y::ys=>by
  have e:jW S d (.int x) (.int y)=ba (x==y):=by cases d<;>rfl
  simp only[Mj,iV,e,ou xs ys]
  by_cases h:x=y
  ·subst h;by_cases a:xs=ys<;>simp[a]
  ·have h':(x==y)=false:=by simpa using h
   simp[h,h']
def By {S:aa}{d:Ll}(p q:Pt):jW S (d+2) (bo p) (bo q)=ba (decide (p=q)):=by
 obtain⟨m,ws⟩:=p;obtain⟨b,a⟩:=q;change iV (jW S (d+1)) [.int m,.tup (ws.map W.int)] [.int b,.tup (a.map W.int)]=_;have e:jW S (d+1) (.int m) (.int b)=ba (m==b):=rfl;have c:jW S (d+1) (.tup (ws.map W.int)) (.tup (a.map W.int))=ba (decide (ws=a)):=ou ws a;simp only[iV,e,c]
 by_cases h:m=b
 ·subst h;by_cases f:ws=a<;>simp[f]
 ·have h':(m==b)=false:=by simpa using h
  simp[h,h']
def si {S:aa}{d:Ll}:∀u v:Wd,iV (jW S (d+2)) (u.map bo) (v.map bo)=ba (decide (u=v))
 |[],[]=>rfl
 |[],_::_=>rfl
 |_::_,[]=>rfl
 |x::xs,y::ys=>by
  simp only[Mj,iV,By,si xs ys]
  by_cases h:x=y
  ·subst h;by_cases a:xs=ys<;>simp[a]
  ·simp[h]
def EE {S:aa}{p q:Pt}:cx .eq (bo p) (bo q) S=ba (.bl (decide (p=q)),S):=by
 show(jW S (18+2) (bo p) (bo q)).map _=_;rw[By];rfl
def sj {p:Ll}:∀ps:Lf Ll,((au ps).any λz=>BY z (.int p))=decide (p∈ps)
 |[]=>rfl
 |q::ps=>by
  show((q:LC)==(p:LC)||(au ps).any _)=_
  rw[sj ps]
  by_cases h:q=p
  ·subst h;simp
  ·have a:((q:LC)==(p:LC))=false:=by simp;omega
   have b:¬ p=q:=λe=>h e.symm
   rw[a];simp[b]
def ya (ps:Lf Ll):(au ps).all cv=true:=by
 rw[LN];intro x a;obtain⟨p,_,rfl⟩:=Lr.mp a;rfl
def Bz {S:aa}{p:Ll}{ps:Lf Ll}:cx .notin (.int p) (.tup (au ps)) S=ba (.bl (decide (p∉ps)),S):=by
 change jk .notin (.int p) (.tup (au ps)) S=_;have hf:(cv (.int p)&&(au ps).all cv)=true:=by rw[ya];rfl
 simp only[jk,G3,yo,fO,hf,NC,MA,sj];congr 3
 by_cases h:p∈ps<;>simp[h]
def sn {xs:Lf W}:jX xs gV (ba (-1))=xs.dropLast:=by
 unfold jX;rw[HT.lx,Rg,T4,List.dropLast_eq_take];congr 1;show(if (-1:LC)<0 then((-1:LC)+(↥xs:LC)).toNat else min (-1:LC).toNat ↥xs)=_
 rw[LU #v[]];omega
def ow (ps:Lf Ll):(au ps).dropLast=au ps.dropLast:=by unfold au;rw[List.map_dropLast]
def wc {S:aa}{ps:Lf Ll}(h:ps≠[]):qr (.tup (au ps)) (.int (-1)) S=ba (.int (ps.getLastD 0:Ll),S):=by
 have hl:(au ps).length=↥ps:=Lh ..;have b:0<↥ps:=SO.mpr h;have hs:uQ (au ps).length (-1)=ba (↥ps-1):=by
  rw[hl];unfold uQ;rw[L1 #v[]]
  show(LU ∅).trans (by congr 1;omega)
 have a:(au ps)[↥ps-1]?=ba (.int (ps.getLastD 0:Ll)):=by
  show pV ?_;rw[PR,List.getLast?_eq_getElem?];have:↥ps-1<↥ps:=∅
  simp[this]
 (delta qr w8 qx;simp only[hs,a,Option.bind_some,MA])
abbrev aJ:Ss:=
 #v[.set 2 (.lst .nil),.loop (.nm 3) (.seq (.v 0)) #v[.ex (.me .extend (.v 2) #v[.comp (.op .add (.v 2) (.tup #v[.v 1])) (.nm 1) (.rng #v[.v 1]) #v[.cmp .notin (.v 1) (.v 2)] [gV,gV,ba 3]])],.ret (.v 2)]
abbrev bN:Ss:=
 #v[.set 3 (.lst #v[.tup .nil]),.loop (.nm 4) (.seq (.v 1)) #v[.set 5 (.own "longer_orders" 2 #v[.v 3,.bi .len #v[.v 2]]),.set 3 (.comp (.v 1) (.nm 1) (.seq (.v 5)) #v[.cmp .eq (.own "point_over" 4 #v[.v 4,.v 2,.sl (.v 1) .no (.yes (.neg (.c (.int 1)))),.ix (.v 1) (.neg (.c (.int 1)))]) (.v 3)] [gV,gV,ba 2,ba 4,ba 0])],.ret (.v 3)]
abbrev aT (os:Lf (Lf Ll)):Lf W:=os.map λo=>.tup (au o)
section
variable{defs:Lf (LW×Df)}{fuel d:Ll}{S:aa}{Q:QW}
def p9 {t l:Ll}{xs ys:Lf W}(h:S[t]?=ba (.lst xs))(a:S[l]?=ba (.lst ys))(hl:↥xs+↥ys<=1000000)(q:Q (.non,S.set t (.lst (xs++ys)))):wO (Me.extend.fn (.ref t) [.ref l] S) Q:=by
 show ab ?_ q;simp only[Me.fn,jn,dj h,dj a];rw[LU (by rw[MF];show Lw ‹_› (LL rfl))]
def qa {n:Ll}(h:n<=1000000):n<=sizeLine:=by rw[MF];show Lw ‹_› (LL rfl)
def mD (H:Is defs ("longer_orders": LW) 2 4 aJ){n l:Ll}{os:Lf (Lf Ll)}(e:S[l]?=ba (.lst (aT os)))(E:n<=100)(r:∀o∈os,↥o<=100)(M:↥os*n<=100000)
  (k:∀(q:Ll) (S':aa),S'[q]?=ba (.lst (aT (aB n os)))->↥S<=q->Ka S S'->Q (.ref q,S')) :
  wO (aQ (ak defs fuel (d+1)) "longer_orders" 2 [.ref l,.int n] S) Q:=by
 show az H rfl rfl λy C=>?_
 replace k:∀(q:Ll) (S':aa),S'[q]?=ba (.lst (aT (aB n os)))->↥S<=q->Ka S S'->y (.rt (.ref q),S'):=λa b c e f=>C _ _ (k a b c e f)
 clear C;change wZ _ _ aJ [ba (.ref l),ba (.int n),gV,gV] S y;have I:=b7 e;delta aJ;show st ?_;delta wS wE wA LH;nofun
 show jG l (aT os) (λi Z S'=>(∃s,Z=[ba (.ref l),ba (.int n),ba (.ref ↥S),s])/\S'[l]?=ba (.lst (aT os))/\S'[↥S]?=ba (.lst (aT (aB n (os.take i))))/\Ka S S') rfl rfl #[rfl,#[gV,rfl],aj e,af,.push] (λi Z S' h=>h.2.1) ?_ ?_
 ·rintro i w Z S1 v ⟨⟨s,rfl⟩,A,g,x⟩;clear hK k;unfold aT at v;rw[Lu,Lk]at v;obtain⟨o,G,rfl⟩:=v;have r:=r o (LD G);show ab (show gE (.nm 3) (.tup (au o)) [ba (.ref l),ba (.int n),ba (.ref ↥S),s] S1=ba ([ba (.ref l),ba (.int n),ba (.ref ↥S),ba (.tup (au o))],S1)from rfl) ?_
  intro N E _;show st ?_;left;show#[dS g,?_];show dD (n:LC) (λj ys t S2=>(∃z,t=[gV,z,ba (.tup (au o))])/\ys=aT (((LR j).filter λp=>decide (p∉o)).map λp=>o++[p])/\S2=S1) rfl rfl rfl ∅ #[rfl,#[gV,rfl],rfl,rfl] ?_ ?_
  ·rintro j ys t S2 P ⟨⟨z,rfl⟩,rfl,rfl⟩;delta gX wC wE wA wV wG LH;show ab Bz ?_;delta wB;have B:(LR (j+1)).filter (λp=>decide (p∉o))=(LR j).filter (λp=>decide (p∉o))++(if j∉o then[j]else[]):=by
    rw[Oq,NS];congr 1
    by_cases h:j∈o<;>simp[h]
   show#[λh=>?_,λh=>#[#[_,rfl],?_,rfl]]
   ·have h:j∉o:=Mq h;show ab (gW (qa (by rw[Lx,show(au o).length=↥o from Lh ..];show _+1<=_;omega))) #[#[_,rfl],?_,rfl]
    rw[B,LU h,Mb];unfold aT;rw[Mb];simp[au]
   ·have h:¬ j∉o:=OD h;rw[B,L1 h,NA]
  ·rintro ys t S2 ⟨_,rfl,rfl⟩;rw[LP];have D:(aT (((LR n).filter λp=>decide (p∉o)).map λp=>o++[p])).length<=n:=by
    unfold aT;rw[Lh,Lh];show Lw (NK _ _) (by rw[L0];show Ls _)
   have m:=aj (u:=O.lst (aT (((LR n).filter λp=>decide (p∉o)).map λp=>o++[p]))) g
   have J:=x5 (n:=n) (os:=os) (i:=i);have L:(aT (aB n (os.take i))).length=(aB n (os.take i)).length:=Lh ..;show#[qa ∅,p9 m af ∅ (bX (E _ _ #[#[_,rfl],?_,?_,(x.trans .push).late (Ls _)]))]
   ·rw[bz (Mk ‹_›)];show aj A
   ·rw[bB m];unfold aB aT;rw[L8,G];simp
 ·rintro Z S1 ⟨⟨s,rfl⟩,A,g,x⟩;rw[show(aT os).length=↥os from Lh ..,Mg]at g
  show hK _ _ (st (k _ _ g (Ls _) x))
def gA (P:Parts defs)(hg:Is defs ("longer_orders": LW) 2 4 aJ)(hl:Is defs ("likenesses": LW) 3 6 bN){m0 b0:W}{ns:Lf LW}{bs:Lf LC}{a:Ll}{u v:Wd}(hb:GoodB bs)(N:↥ns=↥bs)(hv:GoodW a ↥bs v)(hu5:↥u<=5)(A:↥v<=5)
  (k:∀(q:Ll) (S':aa),S'[q]?=ba (.lst (aT (aC bs u v ↥u)))->↥S<=q->Ka S S'->Q (.ref q,S')) :
  wO (aQ (ak defs fuel (d+3)) "likenesses" 3 [.tup [m0,.tup (LK aK ns bs),b0],am u,am v] S) Q:=by
 show az hl rfl rfl λT hR=>?_
 replace k:∀(q:Ll) (S':aa),S'[q]?=ba (.lst (aT (aC bs u v ↥u)))->↥S<=q->Ka S S'->T (.rt (.ref q),S'):=λa b c e f=>hR _ _ (k a b c e f)
 clear hR;change wZ _ _ bN [ba (.tup [m0,.tup (LK aK ns bs),b0]),ba (am u),ba (am v),gV,gV,gV] S T;generalize L:W.tup [m0,.tup (LK aK ns bs),b0]=R;delta bN;show st ?_;delta wS wE wA LH;nofun
 show for_tup (u.map bo) (λi Z S'=>∃(q:Ll) (D s:Ln W),Z=[ba R,ba (am u),ba (am v),ba (.ref q),D,s]/\S'[q]?=ba (.lst (aT (aC bs u v i)))/\↥S<=q/\Ka S S') rfl rfl #[rfl,_,_,_,rfl,af,Ls _,.push] ?_ ?_
 ·rintro i w Z S1 r ⟨q,D,s,rfl,E,y,G⟩;clear hK k;rw[Lu,Lk]at r;obtain⟨p,hp,rfl⟩:=r;have hi:i<↥u:=(LB.mp hp).1;have t:(aC bs u v i).length<=3125:=Lw (jQ i) (Lw (N7 A i) (Lw (Nx #v[] (show i<=5 by omega)) #v[]))
  have hmul:(aC bs u v i).length*↥v<=15625:=PH t A;show ab (show gE (.nm 4) (bo p) [ba R,ba (am u),ba (am v),ba (.ref q),D,s] S1=ba ([ba R,ba (am u),ba (am v),ba (.ref q),ba (bo p),s],S1)from rfl) ?_
  intro Q2 hn _;show st ?_;left;show bc ?_;rw[show(v.map bo).length=↥v from Lh ..]
  show mD (d:=d+1) hg E (by show Lw ‹_› (LL rfl)) (λo x=>by have:=(mC o x).1;omega) (by show Lw ‹_› (LL rfl)) λl S2 e2 hl2 k2=>?_
  show st ?_;left;show pT l (aT (aB ↥v (aC bs u v i))) (λj ys C m=>(∃I,C=[gV,I,ba (am v),ba (bo p),ba R])/\ys=aT (((aB ↥v (aC bs u v i)).take j).filter λo=>decide (cf bs v o.dropLast (o.getLastD 0)=p))/\m[l]?=ba (.lst (aT (aB ↥v (aC bs u v i))))/\Ka S2 m) rfl rfl rfl #[rfl,#[gV,rfl],rfl,e2,.refl] (λj ys C m h=>h.2.2.1) ?_ ?_
  ·rintro j w ys C m r ⟨⟨I,rfl⟩,rfl,J,B⟩;unfold aT at r;rw[Lu,Lk]at r;obtain⟨o,x,rfl⟩:=r;obtain⟨V,X,Y⟩:=oq (LD x) mC;have g:o≠[]:=λz=>by rw[z]at V;cases V
   have O:o=o.dropLast++[o.getLastD 0]:=by
    conv=>lhs;rw[<- M5 g]
    rw[PR,QF g];rfl
   have M:o.getLastD 0<↥v:=Y _ (by rw[PR,QF g];show RL g)
   show ab (show gE (.nm 1) (.tup (au o)) [gV,I,ba (am v),ba (bo p),ba R] m=ba ([gV,ba (.tup (au o)),ba (am v),ba (bo p),ba R],m)from rfl) ?_
   delta gX wC wE wA wP wV wG wN;show ab (wc g) ?_;dsimp only;rw[sn,ow];subst L;show uD (d:=d) P hb N hv (λq y=>#[Y q ((So o).subset y),?_]) M (by rw[Nz];omega) λS4 H=>?_
   ·rw[O,NJ]at X;show λe=>X.2.2 q y _ (LA.mpr rfl) e.symm
   ·show ab (EE (p:=cf bs v o.dropLast (o.getLastD 0)) (q:=p)) ?_;delta wB;show#[λh=>#[#[_,rfl],?_,H.get _ _ J,B.trans H],λh=>#[#[_,rfl],?_,H.get _ _ J,B.trans H]]
    ·have e:(RF (ba o)).filter (λo=>decide (cf bs v o.dropLast (o.getLastD 0)=p))=[o]:=On h
     rw[L8,x,NS,e];unfold aT;rw[Mb];rfl
    ·have e:(RF (ba o)).filter (λo=>decide (cf bs v o.dropLast (o.getLastD 0)=p))=[]:=Oo (by rw[h];show L5)
     rw[L8,x,NS,e,NA]
  ·rintro ys C m ⟨_,rfl,J,B⟩;have hll:=fY (n:=↥v) (aC bs u v i);have U:aC bs u v (i+1)=(aB ↥v (aC bs u v i)).filter λo=>decide (cf bs v o.dropLast (o.getLastD 0)=p):=by
    rw[aC,getD_some hp]
   rw[show(aT (aB ↥v (aC bs u v i))).length=(aB ↥v (aC bs u v i)).length from Lh ..,Mg,<- U]
   show#[qa ?_,bX (hn _ _ #[_,_,_,rfl,af,?_,((G.trans k2).trans B).trans .push])]
   ·rw[U];unfold aT;rw[Lh];show Lw (NK _ _) ∅
   ·show((G.trans k2).trans B).len
 ·rintro Z S1 ⟨q,D,s,rfl,E,y,G⟩;rw[show(u.map bo).length=↥u from Lh ..]at E
  show hK _ _ (st (k q S1 E y G))
def GB {t:Ll}{xs:Lf W}{y:W}(h:S[t]?=ba (.lst xs))(hl:↥xs<1000000)(q:Q (.non,S.set t (.lst (xs++[y])))):wO (Me.append.fn (.ref t) [y] S) Q:=ab (vP h (by rw[MF];omega)) q
def fB {i:Ll}{xs:Lf W}{c:Ng}(h:S[i]?=ba (.lst xs))(a:rE.contains c=true):xG S (.ref i) c=ba ("list" == c||("list" == "bool" && c == "int")):=by
 have:JB S (.ref i)=ba "list":=by simp[JB,ay h]
 unfold xG;rw[this];show LU a
def yb (o:Is defs ("_law_alike": LW) 2 2 bn){n i j:Ll}{xs:Lf W}(hi:S[i]?=ba (.lst xs))(b:S[j]?=ba (.lst xs))(hl:↥xs<=100000)(p:∀x∈xs,Tr n x)(k:∀S',Ka S S'->Q (.bl true,S')) :
  wO (aQ (ak defs fuel (d+n+2)) "_law_alike" 2 [.ref i,.ref j] S) Q:=by
 show az o rfl rfl λg l=>?_
 replace k:∀S',Ka S S'->g (.rt (.bl true),S'):=λS' a=>l _ _ (k S' a)
 clear l;change wZ _ _ bn [ba (.ref i),ba (.ref j)] S g;delta bn;show aN λK hK=>b8 (S1:=S) (λQ q=>q) (hK _ _ ?_)
 clear hK K;show aN λK hK=>b8 (S1:=S) (λQ q=>?_) (hK _ _ ?_)
 ·delta wT wE wV wG;show ab (fB b #v[]) #[λz=>?_,λ_=>ab (fB hi #v[]) q]
  show absurd z #v[]
 clear hK K;show aN λK hK=>b8 (S1:=S) (λQ q=>?_) (hK _ _ ?_)
 ·delta wT wE wV wG;show ab (fB b #v[]) q
 clear hK K;show aN λK hK=>b8 (S1:=S) (λQ q=>?_) (hK _ _ ?_)
 ·delta wT wE wV wG;show ab (fB b #v[]) q
 clear hK K;show aN λK hK=>b8 (S1:=S) (λQ q=>?_) (hK _ _ ?_)
 ·delta wT wE wV wG;show ab (fB b #v[]) (ab (fB hi #v[]) ?_)
  show ab (show cx .ne (.bl false) (.bl false) S=ba (.bl false,S)from rfl) #[λz=>(by cases z),λ_=>?_]
  dsimp only;show ab (fB b #v[]) (ab (fB hi #v[]) ?_)
  show ab (show cx .ne (.bl true) (.bl true) S=ba (.bl false,S)from rfl) q
 clear hK K;show st ?_;left;show dY hi (dY b ?_);delta i9 aM wB;rw[MK];show#[λ_=>?_,λz=>by cases z]
 show dD (↥xs:LC) (λm ys f S2=>(∃h,f=[gV,h,ba (.ref j),ba (.ref i)])/\ys=Mu m (.bl true)/\Ka S S2) rfl rfl rfl ∅ ?_ ?_ ?_
 ·delta wE wA wV wG;show dY b #[rfl,#[gV,rfl],rfl,.refl]
 ·rintro m ys f S2 t ⟨⟨h,rfl⟩,rfl,e⟩;have c:m<↥xs:=by show N4.mp ‹_›
  delta gX wC wE wA wV wG LH;show#[λ_=>dX (e.get _ _ hi) (LV m) (by rw[LP];show Lq c) (dX (e.get _ _ b) (LV m) (by rw[LP];show Lq c) (wa o n d _ _ _ (p _ (Mp c)) λs r=>#[#[_,rfl],?_,e.trans r])),λz=>by cases z]
  rw[SC]
 ·rintro ys f S2 ⟨_,rfl,e⟩;rw[LP];show#[qa (by rw[Qp];show Lw ‹_› (LL rfl)),ab (a:=(.bl true,S2++[.lst (Mu ↥xs (.bl true))])) ?_ (k _ (e.trans .push))]
  simp only[Bi.fn,CS,ay af,kz,MA,v8]
end
abbrev eW (a:Ll)(bs:Lf LC):Lf Wd:=(aG a ↥bs 3).map (gI bs)
def mE:∀{us vs:Lf Wd},us.map bA=vs.map bA->us=vs
 |[],[],_=>rfl
 |[],_::_,h=>by cases h
 |_::_,[],h=>by cases h
 |x::xs,y::ys,h=>by
  simp only[Mj,WI]at h;rw[cR h.1,mE h.2]
def sr:∀xs:Lf LC,de (xs.map T.int)=true
 |[]=>rfl
 |_::xs=>sr xs
def ln:∀u:Wd,de (u.map iJ)=true
 |[]=>rfl
 |p::u=>by
  simp only[Mj,de,Lp];show#[?_,ln u];simp[iJ,eM,de,sr]
def je (u:Wd):eM (bA u)=true:=ln u
def EF:∀{ks:Lf T}{L:Lf Wd},(∀k∈ks,k∈L.map bA)->∃us:Lf Wd,ks=us.map bA/\∀u∈us,u∈L
 |[],_,_=>#[[],rfl,λ_ h=>nomatch h]
 |k::ks,L,h=>by
  obtain⟨u,b,rfl⟩:=Lr.mp (h k (.head _));obtain⟨us,rfl,a⟩:=EF λk hk=>h k (.tail _ hk)
  show#[u::us,rfl,λv c=>(LQ.mp c).elim (λe=>e▸b) (a v)]
def kS:∀{us:Lf Wd},(us.map bA).Nodup->us.Nodup
 |[],_=>.nil
 |u::us,h=>by
  rw[Mj,MV]at h;show MV.mpr #[λz=>h.1 (Lr.mpr #[u,z,rfl]),kS h.2]
def su {us L:Lf Wd}(i:↥L<64)(h:∀u∈us,u∈L):∃ks:Lf Wd,kK (us.map bA)=ba (ks.map bA)/\ks.Nodup/\(∀u,u∈ks↔u∈us)/\↥ks<64:=by
 obtain⟨ks,e,nd,g⟩:=zM (ks:=us.map bA) (Uqa:=L.map bA) (by rw[Lh];omega) λx j=>by
  obtain⟨u,a,rfl⟩:=Lr.mp j;show Lr.mpr #[u,h u a,rfl]
 obtain⟨vs,rfl,_⟩:=EF (L:=us) λk hk=>(g k).mp hk
 have c:=kS nd;have b:∀u,u∈vs↔u∈us:=λu=>by
  have:=g (bA u);constructor
  ·intro a;obtain⟨v,f,d⟩:=Lr.mp (this.mp (Lr.mpr #[u,a,rfl]));show cR d▸f
  ·intro a;obtain⟨v,f,d⟩:=Lr.mp (this.mpr (Lr.mpr #[u,a,rfl]));show cR d▸f
 show#[vs,e,c,b,MH (gx vs L c λu a=>h u ((b u).mp a)) i]
def BA {n k:Ll}{a:Lf LC}:a∈br n k->↥a=k/\∀w∈a,0<=w/\w<(n:LC):=by
 induction k generalizing a with
 |zero=>intro h;cases LA.mp h;show#[rfl,λw c=>nomatch c]
 |succ k ih=>
  intro h;obtain⟨i,hi,rfl⟩:=Lr.mp h;have hi:=LG.mp hi;have g:0<n:=by
   rcases Pn n with h|h
   ·rw[h,QX]at hi;omega
   ·show h
  have b:i/n<(br n k).length:=Of (by rw[PJ];show hi)
  obtain⟨e,f⟩:=ih (LD (ap (d:=[]) b));show#[by rw[Lx,e];rfl,λw c=>?_]
  rcases Ma.mp c with h|h
  ·show f w h
  ·rw[LA.mp h];have:=P6 i g;omega
def mF {a n k:Ll}{u:Wd}:u∈aG a n k->GoodW a n u/\↥u=k:=by
 induction k generalizing u with
 |zero=>intro h;cases LA.mp h;show#[.nil,rfl]
 |succ k ih=>
  intro h;obtain⟨i,hi,rfl⟩:=Lr.mp h;have hi:=LG.mp hi;have b:0<(bj a n k).length:=by
   rcases Pn (bj a n k).length with h|h
   ·rw[h,QX]at hi;omega
   ·show h
  have f:i/(bj a n k).length<(aG a n k).length:=Of (by rw[PJ];show hi)
  obtain⟨q,j⟩:=ih (LD (ap (d:=[]) f));have g:=LD (ap (d:=(0,[])) (P6 i b));obtain⟨m,l,g⟩:=ML.mp g;obtain⟨r,c,e⟩:=Lr.mp g;obtain⟨o,p⟩:=BA c;have l:=LG.mp l;rw[<- e];show#[q.snoc #[∅,by show N4.mpr ‹_›] (by rw[o,j]) p,by rw[Lx,j];rfl]
def D8 {a:Ll}{bs:Lf LC}(h:SizeOk a bs):∃us:Lf Wd,kK ((eW a bs).map bA)=ba (us.map bA)/\us.Nodup/\↥us<64/\(∀u∈us,u∈aS a bs):=by
 have b:∀f∈eW a bs,f∈aS a bs:=λf hf=>by
  obtain⟨u,c,rfl⟩:=Lr.mp hf;obtain⟨d,g⟩:=mF c;show pZ d g
 obtain⟨us,e,nd,i,l⟩:=su (L:=aS a bs) (jM h) b;show#[us,e,nd,l,λu c=>b u ((i u).mp c)]
def jR {us:Lf Wd}(h:us.Nodup):Nice (us.map bA):=by
 show#[λx b=>?_,fU us,?_]
 ·obtain⟨u,_,rfl⟩:=Lr.mp b;show je u
 ·rw[OE,NI];show h.imp λa e=>a (cR e)
def fZ {us:Lf Wd}:(bI us).map bA=fu (us.map bA):=by
 unfold bI fu;rw[rW (d:=[])]
def yc {us vs:Lf Wd}(h:us.Nodup)(hs:vs.Sublist (bI us)):bI vs=vs:=by
 apply mE;rw[fZ];show zA (jR h) ?_;rw[<- fZ];show hs.map _
abbrev dH:Ss:=
 #v[.ret (.bi .sorted #v[.bi .set #v[.comp (.own "_law_figure" 2 #v[.v 2,.v 1]) (.nm 1) (.seq (.own "_law_worlds" 2 #v[.v 0,.c (.int 3)])) .nil [gV,gV,ba 0]]])]
abbrev cU:Ss:=
 #v[.set 1 (.own "_law_pick" 2 #v[.v 0,.c (.int 4)]),.ite (.cmp .eq (.v 1) (.c (.int 0))) #v[.ret (.own "_law_laying_rule" 1 #v[.v 0])] .nil,.ite (.cmp .lt (.v 1) (.c (.int 3))) #v[.ret (.own "_law_any_rule" 1 #v[.v 0])] .nil,.asg [2,3] (.own "_law_sizes" 1 #v[.v 0]),.set 4 (.own "_law_rule_of" 4 #v[.v 0,.v 2,.own "_law_backs" 2 #v[.v 0,.v 3],.tup .nil]),.ret (.tup #v[.ix (.v 4) (.c (.int 0)),.ix (.v 4) (.c (.int 1)),.bi .tuple #v[.comp (.v 1) (.nm 1) (.seq (.own "_law_figures" 1 #v[.v 4])) #v[.cmp .eq (.own "_law_pick" 2 #v[.v 2,.c (.int 3)]) (.c (.int 0))] [gV,gV,ba 0]]])]
section
variable{defs:Lf (LW×Df)}{fuel d:Ll}{S:aa}{r:Ll}{Q:QW}
def BB {l:Ll}{us ks:Lf Wd}(h:S[l]?=ba (.lst (us.map am)))(hk:kK (us.map bA)=ba (ks.map bA))(q:Q (.ref ↥S,S++[.stt (ks.map bA)])):wO (Bi.set.fn [.ref l] S) Q:=by
 show ab ?_ q;have a:lR [.ref l] S=ba (.ref ↥S,S++[.stt (ks.map bA)]):=by
  simp only[lR,ay h,AV];rw[LU,hk]
  ·rfl
  ·rw[LN];intro x b;obtain⟨u,_,rfl⟩:=Lr.mp b;have:=mr u;have c:aA=6:=rfl;simp only[zN,je,Qy,Lp,LJ];show#[rfl,by show Lw ‹_› (LL rfl)]
 show a
def we {l:Ll}{us:Lf Wd}(h:S[l]?=ba (.stt (us.map bA)))(b:↥us<64)(c:us.Nodup)(a:↥us<2\/∀u∈us,u≠[])(q:Q (.ref ↥S,S++[.lst ((bI us).map am)])):wO (Bi.sorted.fn [.ref l] S) Q:=by
 show ab ?_ q;have e:G5 S l=ba (us.map bA):=by simp[G5,h]
 have N:=jR c;have ok:lS (us.map bA)=true:=by
  simp only[lS,iZ,Lp,LJ,NP,Lh];show#[#[#[LN.mpr N.num,N.lt],N.nd],#[#[b,by have:=iu us;unfold cp;show Lw ‹_› (LL rfl)],a.imp id λa=>#[AY us a,N.lt]]]
 have d:di [.ref l] S=ba (.ref ↥S,S++[.lst ((bI us).map am)]):=by
  simp only[di,e];rw[LU ok,<- fZ,ut]
 change At di gl [.ref l] S=_;unfold At;simp only[d]
structure Full (defs:Lf (LW×Df)):Prop where
 digits:Is defs ("_law_digits": LW) 2 4 bM
 worlds:Is defs ("_law_worlds": LW) 2 6 cu
 figures:Is defs ("_law_figures": LW) 1 1 dH
 full:Is defs ("_law_full_rule": LW) 1 5 cU
def yd (G:Gen defs)(F:Full defs){A ns:Lf LW}{a:Ll}{bs:Lf LC}{b0:W}(hs:SizeOk a bs)(L:↥A=a)(y:↥ns=↥bs)
  (k:∀(us:Lf Wd) (q:Ll) (S':aa),us.Nodup->↥us<64->(∀u∈us,u∈aS a bs)->S'[q]?=ba (.lst ((bI us).map am))->↥S<=q->Ka S S'->Q (.ref q,S')) :
  wO (aQ (ak defs fuel (d+4)) "_law_figures" 1 [.tup [.tup (A.map W.str),.tup (LK aK ns bs),b0]] S) Q:=by
 show az F.figures rfl rfl λN U=>?_
 replace k:∀(us:Lf Wd) (q:Ll) (S':aa),us.Nodup->↥us<64->(∀u∈us,u∈aS a bs)->S'[q]?=ba (.lst ((bI us).map am))->↥S<=q->Ka S S'->N (.rt (.ref q),S'):=λa b c e f g h i j=>U _ _ (k a b c e f g h i j)
 clear U;obtain⟨us,hk,x,t,r⟩:=D8 hs;have p:=hs.n3;have s:=hs.pos;have T:=hs.a3;have m:=hs.most;change wZ _ _ dH [ba (.tup [.tup (A.map W.str),.tup (LK aK ns bs),b0])] S N;generalize H:W.tup [.tup (A.map W.str),.tup (LK aK ns bs),b0]=R;delta dH;show st ?_;left;show mB rfl rfl rfl ?_;delta wE wA wV wG;subst H;show Bw (d:=d+1) F.digits F.worlds (a:=a) (n:=↥bs) (by rw[Lh,L]) (by rw[N6,y];omega) s T p.1 p.2 m λl S1 Y hl k1=>?_
 generalize H:W.tup [.tup (A.map W.str),.tup (LK aK ns bs),b0]=R;show#[l,(aG a ↥bs 3).map am,λj ys B S2=>(∃E,B=[gV,E,ba R])/\ys=((eW a bs).take j).map am/\S2[l]?=ba (.lst ((aG a ↥bs 3).map am))/\Ka S S2,rfl,#[#[gV,rfl],rfl,Y,k1],λj ys B S2 h=>h.2.2.1,?_,?_]
 ·rintro j w ys B S2 V ⟨⟨E,rfl⟩,rfl,P,D⟩;rw[Lu,Lk]at V;obtain⟨u,C,rfl⟩:=V;obtain⟨Z,M⟩:=mF (LD C);show ab (show gE (.nm 1) (am u) [gV,E,ba R] S2=ba ([gV,ba (am u),ba R],S2)from rfl) ?_
  delta gX wC wE wA wV wG;subst H;show#[λ_=>jK (d:=d) G hs.good y Z M λS3 X=>#[#[_,rfl],?_,X.get _ _ P,D.trans X],λz=>by cases z]
  have:(eW a bs)[j]?=ba (gI bs u):=by unfold eW;rw[Lu,C];rfl
  rw[L8,this];simp
 ·rintro ys B S2 ⟨_,rfl,P,D⟩;have I:(eW a bs).length=((aG a ↥bs 3).map am).length:=by unfold eW;rw[Lh,Lh]
  rw[<- I,Mg];have J:(eW a bs).length<=216:=by
   unfold eW;rw[Lh,ce];show(mz (k:=2) s T p.1 p.2 m #v[]).2.2
  show#[qa (by rw[Lh];show Lw ‹_› (LL rfl)),BB af hk (we af t x (.inr λu C=>rZ (r u C)) ?_)]
  have kk:=((D.trans (Ka.push (o:=O.lst ((eW a bs).map am)))).trans (Ka.push (o:=O.stt (us.map bA)))).trans (Ka.push (o:=O.lst ((bI us).map am)));show k us _ _ x t r af (((D.trans (Ka.push (o:=O.lst ((eW a bs).map am)))).trans (Ka.push (o:=O.stt (us.map bA)))).len) kk
def GC (i:20<fuel)(G:Gen defs)(F:Full defs)(hf:Fl S r)(k:∀w S',eT w->Fl S' r->Kp r S S'->Q (w,S')):wO (aQ (ak defs fuel (d+8)) "_law_full_rule" 1 [.ref r] S) Q:=by
 show az F.full rfl rfl λA Z=>?_
 replace k:∀w S',eT w->Fl S' r->Kp r S S'->A (.rt w,S'):=λz S' a b c=>Z _ _ (k z S' a b c)
 clear Z;change wZ _ _ cU [ba (.ref r),gV,gV,gV,gV] S A;delta cU;nofun
 left;show aZ (d:=d+6) G.pick hf #v[] #v[] λv S1 v0 v7 I D=>hK _ _ ?_
 clear hK K;nofun
 delta wS wT wE wV wG i9 aM wB;show aE (Q0:=A) (λ_ H _ N=>?_) (λ_ H t _=>bX (t _ _ (hK _ _ ?_)))
 ·show st ?_;left;show Bs (d:=d) i G I λw S2 l o m=>N _ _ (k w S2 l o (D.trans m))
 clear hK K t;nofun
 delta wS wT wE wV wG xQ aM wB;show aE (Q0:=A) (λ_ H _ N=>?_) (λ_ H t _=>bX (t _ _ (hK _ _ ?_)))
 ·show st ?_;left;show uA (d:=d+1) i G I λw S2 l o m=>N _ _ (k w S2 l o (D.trans m))
 clear hK K t;nofun
 left;show pX (d:=d+5) G I λa n S2 C U n1 n3 an o m=>?_
 delta wU;show ab (show eP [2,3] [.int a,.int n] [ba (.ref r),ba (.int v),gV,gV,gV]=ba [ba (.ref r),ba (.int v),ba (.int a),ba (.int n),gV]from rfl) (hK _ _ ?_)
 clear hK K;nofun
 left;show pY (d:=d+5) G o n1 n3 λbs S3 hb L f3 k3=>?_
 have hsz:SizeOk a bs:=#[∅,hb,by rw[L];show an,U]
 show gy (d:=d+2) i G f3 U ∅ λms ns S4 s y M X k4=>hK _ _ ?_
 clear hK K;have P:Kp r S S4:=D.trans (m.trans (k3.trans k4));clear D m k3 k4;show st ?_;left;show al #v[] rfl (al #v[] rfl ?_)
 show mB rfl rfl rfl ?_;delta wE wA wV wG;show yd (d:=d+3) G F hsz s y λus q S5 x h64 p e5 hq k5=>?_
 have f5:=X.ka k5;have hrq:r<q:=LZ X.lt hq;show#[q,(bI us).map am,λj ys B f=>(∃C,B=[gV,C,ba (.ref r)])/\(∃vs:Lf Wd,ys=vs.map am/\vs.Sublist ((bI us).take j))/\f[q]?=ba (.lst ((bI us).map am))/\Fl f r/\Kp r S f,rfl,#[#[gV,rfl],#[[],rfl,by simp],e5,f5,P.trans (k5.kp r)],λj ys B f h=>h.2.2.1,?_,?_]
 ·rintro j w ys B f l ⟨⟨C,rfl⟩,⟨vs,rfl,e⟩,V,J,E⟩;rw[Lu,Lk]at l;obtain⟨u,hu,rfl⟩:=l;show ab (show gE (.nm 1) (am u) [gV,C,ba (.ref r)] f=ba ([gV,ba (am u),ba (.ref r)],f)from rfl) ?_
  delta gX wC wE wA wV wG;show aZ (d:=d+6) G.pick J #v[] #v[] λv S7 _ _ Y R=>?_
  delta i9 aM wB;have W:=R.get _ _ (Mk ‹_›) V;show#[λ_=>#[#[_,rfl],#[vs++[u],by rw[Mb];rfl,?_],W,Y,E.trans R],λ_=>#[#[_,rfl],#[vs,rfl,?_],W,Y,E.trans R]]
  ·rw[L8,hu];show e.append (Wy _)
  ·rw[L8];show e.trans (List.sublist_append_left _ _)
 ·rintro ys B f ⟨_,⟨vs,rfl,e⟩,V,J,E⟩;rw[Lh,Mg]at e;have T:(bI us).Perm us:=dJ;have hvl:↥vs<=↥us:=by rw[<- T.length_eq];show e.length_le
  have O:=yc x e;show#[qa (by rw[Lh];omega),fT af (k _ _ #[a,bs,ms,ns,vs,by rw[O];rfl,hsz,s,y,M,e.nodup (T.nodup_iff.mpr x),λg hg=>p g (T.mem_iff.mp (e.subset hg))] (J.ka .push) (E.trans .push))]
end
abbrev bC:Ss:=
 #v[.set 4 (.tup #v[.ix (.ix (.v 0) (.v 1)) (.c (.int 0)),.tup .nil]),.set 5 (.tup #v[.ix (.ix (.v 0) (.v 2)) (.c (.int 0)),.tup #v[.ix (.ix (.ix (.v 0) (.v 2)) (.c (.int 1))) (.v 1)]]),.ret (.tup #v[.v 4,.v 5,.tup #v[.ix (.ix (.v 0) (.v 3)) (.c (.int 0)),.tup #v[.ix (.ix (.ix (.v 0) (.v 3)) (.c (.int 1))) (.v 1),.ix (.ix (.ix (.v 0) (.v 3)) (.c (.int 1))) (.v 2)]]])]
abbrev cy (u:Wd)(i j k:Ll):Wd:=[((u.getD i (0,[])).1,[]),((u.getD j (0,[])).1,[(u.getD j (0,[])).2.getD i 0]),((u.getD k (0,[])).1,[(u.getD k (0,[])).2.getD i 0,(u.getD k (0,[])).2.getD j 0])]
def jf {bs:Lf LC}{u:Wd}{i j k:Ll}(a:i<j)(b:j<k):ag bs u [i,j,k]=cy u i j k:=by
 show[((u.getD i (0,[])).1,[]),((u.getD j (0,[])).1,[b6 bs u j i]),((u.getD k (0,[])).1,[b6 bs u k i,b6 bs u k j])]=_;unfold b6 cy;rw[LU a,LU b,LU (Np a b)]
section
variable{defs:Lf (LW×Df)}{fuel d:Ll}{S:aa}{Q:QW}
def wf (s:Is defs ("three_at": LW) 4 6 bC){a n:Ll}{u:Wd}{i j k:Ll}(g:GoodW a n u)(o:i<j)(r:j<k)(b:k<↥u)(q:Q (am (cy u i j k),S)) :
  wO (aQ (ak defs fuel (d+1)) "three_at" 4 [am u,.int i,.int j,.int k] S) Q:=by
 show az s rfl rfl λl f=>?_
 replace q:=f _ _ q;clear f;change wZ _ _ bC [ba (am u),ba (.int i),ba (.int j),ba (.int k),gV,gV] S l;have hi:i<↥u:=∅
 have c:j<↥u:=by show Np ‹_› ‹_›
 have t:i<(u.getD j (0,[])).2.length:=by rw[g.len j _ (ap (d:=(0,[])) c)];show o
 have x:j<(u.getD k (0,[])).2.length:=by rw[g.len k _ (ap (d:=(0,[])) b)];show r
 have e:i<(u.getD k (0,[])).2.length:=∅
 have w:∀{p m:Ll},m<(u.getD p (0,[])).2.length->((u.getD p (0,[])).2.map W.int)[((m:Ll):LC).toNat]?=ba (.int ((u.getD p (0,[])).2.getD m 0)):=λ{p m} h=>by
  rw[LP,Lu,ap (d:=0) h];rfl
 delta bC;show st ?_;left;show al (LV i) (gF hi) (al #v[] rfl ?_)
 show st ?_;left;show al (LV j) (gF c) (al #v[] rfl (al (LV j) (gF c) (al #v[] rfl (al (LV i) (w t) ?_))))
 show st ?_;left;show al (LV k) (gF b) (al #v[] rfl (al (LV k) (gF b) (al #v[] rfl (al (LV i) (w e) (al (LV k) (gF b) (al #v[] rfl (al (LV j) (w x) q)))))))
end
abbrev bf (i j k a b c:Ll):Prop:=a<i\/(a=i/\(b<j\/(b=j/\c<k)))
abbrev GD (P:Ll->Ll->Ll->L7)(n i j k:Ll):Prop:=i<j/\j<k/\k<n/\P i j k=true/\∀c a b,c<a->a<b->b<n->bf i j k c a b->P c a b=false
abbrev Ans (P:Ll->Ll->Ll->L7)(n:Ll)(w:W):Prop:=(w=.non/\∀i j k,i<j->j<k->k<n->P i j k=false)\/∃i j k:Ll,w=.tup [.int i,.int j,.int k]/\GD P n i j k
def Ans.congr {P c:Ll->Ll->Ll->L7}{n:Ll}{w:W}(e:∀i j k,i<j->j<k->k<n->P i j k=c i j k)(h:Ans P n w):Ans c n w:=by
 rcases h with⟨rfl,h⟩|⟨i,j,k,rfl,d,f,g,p,q⟩
 ·show .inl #[rfl,λi j k a b2 b=>by rw[<- e i j k a b2 b];show h i j k a b2 b]
 ·show .inr #[i,j,k,rfl,d,f,g,by rw[<- e i j k d f g];show p,λl m o a b2 b r=>by rw[<- e l m o a b2 b];show q l m o a b2 b r]
abbrev bS:Ss:=
 #v[.loop (.nm 2) (.rng #v[.bi .len #v[.v 1]]) #v[.loop (.nm 3) (.rng2 #v[.op .add (.v 2) (.c (.int 1)),.bi .len #v[.v 1]]) #v[.loop (.nm 4) (.rng2 #v[.op .add (.v 3) (.c (.int 1)),.bi .len #v[.v 1]]) #v[.ite (.cmp .isin (.own "three_at" 4 #v[.v 1,.v 2,.v 3,.v 4]) (.v 0)) #v[.ret (.tup #v[.v 2,.v 3,.v 4])] .nil]]],.ret (.c .non)]
abbrev kA (U:Lf (T×W))(u:Wd)(i j k:Ll):L7:=(bP U (bA (cy u i j k))).isSome
section
variable{defs:Lf (LW×Df)}{fuel d:Ll}{S:aa}{Q:QW}
def nh (h3:Is defs ("three_at": LW) 4 6 bC)(hg:Is defs ("first_three": LW) 2 5 bS){a n q:Ll}{u:Wd}{U:Lf (T×W)}(hu:GoodW a n u)(hl:↥u<=1000)(e:S[q]?=ba (.dic U))(H:∀w,Ans (kA U u) ↥u w->Q (w,S)) :
  wO (aQ (ak defs fuel (d+2)) "first_three" 2 [.ref q,am u] S) Q:=by
 show az hg rfl rfl λQ' hR=>?_
 replace H:∀w,Ans (kA U u) ↥u w->Q' (.rt w,S):=λw h=>hR _ _ (H w h)
 clear hR;change wZ _ _ bS [ba (.ref q),ba (am u),gV,gV,gV] S Q';have Y:(u.map bo).length=↥u:=Lh ..;delta bS;nofun
 show cO (↥u:LC) (λi Z S'=>(∃M s g,Z=[ba (.ref q),ba (am u),M,s,g])/\S'=S/\∀r f c,r<i->r<f->f<c->c<↥u->kA U u r f c=false) rfl rfl ∅ ?_ ?_ ?_
 ·delta wE wA wV wG;show bc ?_;rw[Y];show#[rfl,#[_,_,_,rfl],rfl,λr _ _ z=>∅]
 ·rintro i Z S1 hi ⟨⟨M,s,g,rfl⟩,rfl,I⟩ Q2 hn hr;clear hK;delta LH;nofun
  show fX ((i:LC)+1) (↥u:LC) (λm Z S'=>(∃s g,Z=[ba (.ref q),ba (am u),ba (.int i),s,g])/\S'=S1/\∀f c,f<i+1+m->i<f->f<c->c<↥u->kA U u i f c=false) rfl rfl rfl ∅ ?_ ?_ ?_
  ·delta wE wA wV wG;show ab bW #[rfl,bc ?_];rw[Y];show#[rfl,#[_,_,rfl],rfl,λf c J t=>∅]
  ·rintro m Z S2 hm ⟨⟨s,g,rfl⟩,rfl,o⟩ Q3 C R;clear hK;have ej:(i:LC)+1+m=((i+1+m:Ll):LC):=∅
   rw[ej];generalize hj:i+1+m=j at o C ej;have y:i<j:=∅
   have hju:j<↥u:=∅
   delta LH;nofun
   show fX ((j:LC)+1) (↥u:LC) (λl Z S'=>(∃g,Z=[ba (.ref q),ba (am u),ba (.int i),ba (.int j),g])/\S'=S2/\∀c,c<j+1+l->j<c->c<↥u->kA U u i j c=false) rfl rfl rfl ∅ ?_ ?_ ?_
   ·delta wE wA wV wG;show ab bW #[rfl,bc ?_];rw[Y];show#[rfl,#[_,rfl],rfl,λc J t=>∅]
   ·rintro l Z L hl3 ⟨⟨g,rfl⟩,rfl,p⟩ Q4 D V;clear hK;have ek:(j:LC)+1+l=((j+1+l:Ll):LC):=∅
    rw[ek];generalize hk:j+1+l=k at p D ek;have A:j<k:=∅
    have B:k<↥u:=∅
    delta LH;nofun
    delta wS wT wE wA wV wG;show wf (d:=d) h3 hu y A B ?_;show ab (show cx .isin (am (cy u i j k)) (.ref q) L=ba (.bl (kA U u i j k),L) by simp only[cx,cN e,uu];rfl) ?_
    delta wB;show aE (Q0:=Q4) (λh Q5 _ X=>?_) (λh Q5 P _=>bX (P _ _ (hK _ _ (bX (D _ _ #[#[_,rfl],rfl,λc J t v=>?_])))))
    ·show st ?_;left;show X _ _ (V _ _ (R _ _ (hr _ _ (H _ (.inr #[i,j,k,rfl,y,A,B,h,λr f c G b2 x b4=>?_])))))
     rcases b4 with b|⟨rfl,b|⟨rfl,b⟩⟩
     ·show I r f c b G b2 x
     ·show o f c b G b2 x
     ·show p c b b2 x
    ·by_cases O:c=k
     ·rw[O];show h
     ·show p c ∅ t v
   ·rintro Z L ⟨⟨g,rfl⟩,rfl,p⟩;show hK _ _ (bX (C _ _ #[#[_,_,rfl],rfl,λf c J t v E=>?_]))
    by_cases N:f=j
    ·rw[N];show p c ∅ ∅ E
    ·show o f c ∅ t v E
  ·rintro Z S2 ⟨⟨s,g,rfl⟩,rfl,o⟩;show hK _ _ (bX (hn _ _ #[#[_,_,_,rfl],rfl,λr f c J t v E=>?_]))
   by_cases ei:r=i
   ·rw[ei];show o f c ∅ ∅ v E
   ·show I r f c ∅ t v E
 ·rintro Z S1 ⟨⟨M,s,g,rfl⟩,rfl,I⟩;show hK _ _ (st ?_);delta wS wE;show H _ (.inl #[rfl,λi j k G b2 x=>I i j k ∅ G b2 x])
end
structure HasD (U:Lf (T×W))(L:Lf Wd):Prop where
 iff:∀t,t∈U.map (·.1)↔t∈L.map bA
 len:↥U<=↥L
def BC {U:Lf (T×W)}{t:T}:(bP U t).isSome=true↔t∈U.map (·.1):=by
 constructor
 ·intro h;obtain⟨v,a⟩:=MM.mp h;show Lr.mpr #[_,my a,rfl]
 ·intro h;obtain⟨p,b,rfl⟩:=Lr.mp h;obtain⟨v,a⟩:=vZ b;rw[a];rfl
def HasD.get {U:Lf (T×W)}{L:Lf Wd}(h:HasD U L)(t:T):(bP U t).isSome=decide (t∈L.map bA):=by
 rw[QL,BC,h.iff,LJ]
def HasD.nil:HasD [] []:=#[λt=>by simp,Ls _]
def HasD.put {U:Lf (T×W)}{L:Lf Wd}{f:Wd}{v:W}(h:HasD U L):HasD (eN U (bA f) v) (L++[f]):=by
 show#[λt=>?_,?_]
 ·rw[fW,Mb,Ma,<- h.iff t]
  by_cases hk:bA f∈U.map (·.1)
  ·rw[LU hk];constructor
   ·show .inl
   ·rintro(z|z)
    ·show z
    ·rw[LA.mp z];show hk
  ·rw[L1 hk,Ma];rfl
 ·have:=c8 U (bA f) v;have:=h.len;rw[Lx,Na];omega
abbrev cD (bs:Lf LC)(a:Lf Wd):Lf Wd:=a.flatMap λg=>aw.map (ag bs g)
def sv (bs:Lf LC):∀a:Lf Wd,(cD bs a).length=6*↥a
 |[]=>rfl
 |g::a=>by
  have:=sv bs a;unfold cD at this ⊢;rw[M1,Lx,this,L3,Lh,show aw.length=6 from rfl];omega
abbrev be:Ss:=
 #v[.set 1 (.lst #v[.tup .nil]),.whl (.cmp .lt (.bi .len #v[.ix (.v 1) (.c (.int 0))]) (.c (.int 3))) #v[.set 1 (.own "longer_orders" 2 #v[.v 1,.c (.int 3)])],.set 2 .dnew,.loop (.nm 3) (.seq (.ix (.v 0) (.c (.int 2)))) #v[.loop (.nm 4) (.seq (.v 1)) #v[.put (.v 2) (.own "part" 3 #v[.v 0,.v 3,.v 4]) (.c (.bl true))]],.ret (.v 2)]
abbrev ye:Ll->Lf (Lf Ll)
 |0=>[[]]
 |i+1=>aB 3 (ye i)
def yf:ye 3=aw:=by decide
def GF:∀i,i<=3->(∃o,(ye i)[0]?=ba o/\↥o=i)/\(ye i).length<=6/\∀o∈ye i,↥o<=3:=λi hi=>by
 rcases(show i=0\/i=1\/i=2\/i=3 by omega)with rfl|rfl|rfl|rfl
 ·show#[#[[],rfl,rfl],#v[],#v[]]
 ·show#[#[[0],rfl,rfl],#v[],#v[]]
 ·show#[#[[0,1],rfl,rfl],#v[],#v[]]
 ·show#[#[[0,1,2],rfl,rfl],#v[],#v[]]
section
variable{defs:Lf (LW×Df)}{fuel d:Ll}{S:aa}{Q:QW}
def mG (hfu:20<fuel)(P:Parts defs)(hp:Is defs ("part": LW) 3 3 g9)(hl:Is defs ("longer_orders": LW) 2 4 aJ)(hg:Is defs ("barred_threes": LW) 1 5 be){m0:W}{ns:Lf LW}{bs:Lf LC}{a:Ll}{l:Lf Wd}(hb:GoodB bs)(hnl:↥ns=↥bs)(V:∀g∈l,GoodW a ↥bs g/\↥g=3)(h64:↥l<=100)
  (k:∀(q:Ll) (U:Lf (T×W)) (S':aa),S'[q]?=ba (.dic U)->HasD U (cD bs l)->↥S<=q->Ka S S'->Q (.ref q,S')) :
  wO (aQ (ak defs fuel (d+4)) "barred_threes" 1 [.tup [m0,.tup (LK aK ns bs),.tup (l.map am)]] S) Q:=by
 show az hg rfl rfl λQ' hR=>?_
 replace k:∀(q:Ll) (U:Lf (T×W)) (S':aa),S'[q]?=ba (.dic U)->HasD U (cD bs l)->↥S<=q->Ka S S'->Q' (.rt (.ref q),S'):=λa b c e f g h=>hR _ _ (k a b c e f g h)
 clear hR;change wZ _ _ be [ba (.tup [m0,.tup (LK aK ns bs),.tup (l.map am)]),gV,gV,gV,gV] S Q';generalize C:W.tup [m0,.tup (LK aK ns bs),.tup (l.map am)]=R;delta be;show st ?_;delta wS wE wA LH;nofun
 show AN (λm Z S'=>∃(i q:Ll),i+m=3/\Z=[ba R,ba (.ref q),gV,gV,gV]/\S'[q]?=ba (.lst (aT (ye i)))/\↥S<=q/\Ka S S') 3 rfl rfl ∅ #[0,↥S,rfl,rfl,af,Ls _,.push] ?_
 rintro m Z S1 ⟨i,q,X,rfl,z,hq,E⟩;obtain⟨⟨o,L,D⟩,l6,l3⟩:=GF i ∅
 delta wT wE wA wV wG;show dX (w:=.tup (au o)) z #v[] (by unfold aT;rw[Lu,show((0:LC).toNat)=0 from rfl,L];rfl) (bc ?_)
 rw[show(au o).length=↥o from Lh ..,D]
 delta xQ aM wB;show#[λh=>?_,λh=>?_]
 ·have h:(i:LC)<3:=Mq h;show#[m-1,∅,λQ2 J _=>?_]
  clear hK k;show st ?_;left;show mD (n:=3) (d:=d+2) hl z #v[] (λo L=>by have:=l3 o L;show Lw ‹_› (LL rfl)) ∅ λq2 S2 A hq2 G=>bX (J _ _ #[i+1,q2,∅,rfl,A,?_,E.trans G])
  show Lw E.len hq2
 ·have h:¬ (i:LC)<3:=OD h;obtain rfl:i=3:=∅
  rw[yf]at z;show hK _ _ ?_;clear hK K l6 l3 L D h X;show st ?_;delta wS wE LH;nofun
  have hq1:=b7 z;show for_tup (l.map am) (λi Z S'=>(∃H r,Z=[ba R,ba (.ref q),ba (.ref ↥S1),H,r])/\(∃U,S'[↥S1]?=ba (.dic U)/\HasD U (cD bs (l.take i)))/\S'[q]?=ba (.lst (aT aw))/\Ka S S') rfl rfl ?_ ?_ ?_
  ·delta wE wV wG;subst C;show al #v[] rfl #[rfl,#[_,_,rfl],#[[],af,.nil],aj z,E.trans .push]
  ·rintro i w Z S2 y ⟨⟨H,r,rfl⟩,⟨U,A,I⟩,B,G⟩;clear hK k;rw[Lu,Lk]at y;obtain⟨g,u,rfl⟩:=y;obtain⟨gg,g3⟩:=V g (LD u);have hi:i<↥l:=(LB.mp u).1;show ab (show gE (.nm 3) (am g) [ba R,ba (.ref q),ba (.ref ↥S1),H,r] S2=ba ([ba R,ba (.ref q),ba (.ref ↥S1),ba (am g),r],S2)from rfl) ?_
   intro Q2 J _;nofun
   show jG q (aT aw) (λj Z S'=>(∃r,Z=[ba R,ba (.ref q),ba (.ref ↥S1),ba (am g),r])/\(∃U,S'[↥S1]?=ba (.dic U)/\HasD U (cD bs (l.take i)++(aw.take j).map (ag bs g)))/\S'[q]?=ba (.lst (aT aw))/\Ka S S') rfl rfl #[rfl,#[_,rfl],#[U,A,by rw[Vc,VG,NA];show I],B,G] (λj Z S' h=>h.2.2.1) ?_ ?_
   ·rintro j w Z M y ⟨⟨r,rfl⟩,⟨N,O,x⟩,s,k3⟩;clear hK J;unfold aT at y;rw[Lu,Lk]at y;obtain⟨t,ht,rfl⟩:=y;have tk:↥t<=3/\t.Nodup/\∀p∈t,p<3:=by
     have:∀t∈aw,↥t<=3/\t.Nodup/\∀p∈t,p<3:=by decide
     show this t (LD ht)
    show ab (show gE (.nm 4) (.tup (au t)) [ba R,ba (.ref q),ba (.ref ↥S1),ba (am g),r] M=ba ([ba R,ba (.ref q),ba (.ref ↥S1),ba (am g),ba (.tup (au t))],M)from rfl) ?_
    intro Q3 hn3 _;show st ?_;left;subst C;show Jg (d:=d) P hp hb hnl gg (λp hp=>by have:=tk.2.2 p hp;omega) tk.2.1 ∅ λS4 k4=>?_
    have e4:=k4.get _ _ O;have Y:↥N<sizeLine:=by
     have b1:=x.len;have b2:=sv bs (l.take i);rw[Lx,b2,Lh,Mv,Mv,show aw.length=6 from rfl]at b1
     rw[MF];omega
    show ab (Bc e4 Y) (bX (hn3 _ _ #[#[_,rfl],#[_,bB e4,?_],?_,(k3.trans k4).late E.len]))
    ·rw[L8,ht,Mb,<- N2];show x.put
    ·rw[bz (Mk ‹_›)];show k4.get _ _ s
   ·rintro Z M ⟨⟨r,rfl⟩,⟨N,O,x⟩,s,k3⟩;rw[show(aT aw).length=aw.length from Lh ..,Mg]at x
    show hK _ _ (bX (J _ _ #[#[_,_,rfl],#[N,O,?_],s,k3]));unfold cD at x ⊢;rw[L8,u,O5]
    simpa using x
  ·rintro Z S2 ⟨⟨H,r,rfl⟩,⟨U,A,I⟩,B,G⟩;rw[Lh,Mg]at I;show hK _ _ (st (k _ U S2 A I E.len G))
end
abbrev cg:Ss:=
 #v[.ret (.own "first_three" 2 #v[.own "barred_threes" 1 #v[.v 0],.v 1])]
section
variable{defs:Lf (LW×Df)}{fuel d:Ll}{S:aa}{r:Ll}{Q:QW}
def mH (h:20<fuel)(P:Parts defs)(y:Is defs ("part": LW) 3 3 g9)(hl:Is defs ("longer_orders": LW) 2 4 aJ)(e:Is defs ("barred_threes": LW) 1 5 be)(s:Is defs ("three_at": LW) 4 6 bC)(f:Is defs ("first_three": LW) 2 5 bS)(x:Is defs ("first_barred": LW) 2 2 cg)
  {m0:W}{ns:Lf LW}{bs:Lf LC}{a:Ll}{b:Lf Wd}{u:Wd} (v:GoodB bs) (m:↥ns=↥bs) (l:∀g∈b,GoodW a ↥bs g/\↥g=3) (c:↥b<=100) (z:GoodW a ↥bs u) (n:↥u<=1000)
  (k:∀w S',Ans (λi j k=>decide (bA (cy u i j k)∈(cD bs b).map bA)) ↥u w->Ka S S'->Q (w,S')) :
  wO (aQ (ak defs fuel (d+5)) "first_barred" 2 [.tup [m0,.tup (LK aK ns bs),.tup (b.map am)],am u] S) Q:=by
 show az x rfl rfl λo t=>?_
 change wZ _ _ cg [ba (.tup [m0,.tup (LK aK ns bs),.tup (b.map am)]),ba (am u)] S o;delta cg;show st ?_;left;show mG (d:=d) h P y hl e v m l c λq U S1 p r _ B=>?_
 show nh (d:=d+2) s f z n p λw A=>t _ _ (k w S1 ?_ B)
 show A.congr λi j k _ _ _=>r.get _
end
section
variable{M:LW->FF}{Z:Fm}{S:aa}
def BE {α:Type}{a:E}{tg:Tg}{it:Ie}{n:Es}{e:Lf (Ln Ll)}{mi:MI}{S1:aa}{Q:QW}(L:Lf α)(f:α->W)(p:α->L7)(g:α->W)(m:Fm->Prop)(o:α->Fm)(C:∀x Z S,m Z->gE tg (f x) Z S=ba (o x,S)/\m (o x))(I:d7 a=true)(oc:n0 n=true)(j:m (fH e Z))(hl:↥L<=1000000)(hi:j8 M it Z S=ba (mi,S1))(A:Ka S S1)(r:∀i S',Ka S1 S'->mi.at S' i=ba (L.map f)[i]?)(G:mi.len S1=ba (L.map f).length)
  (b:∀x∈L,∀S',Ka S S'->gX M a n (o x) S' (λy _ S2=>p x=true/\y=g x/\Ka S' S2) (λ_ S2=>p x=false/\Ka S' S2))
  (k:∀S',Ka S S'->Q (.ref ↥S',S'++[.lst ((L.filter p).map g)])):Wp (aD M (.comp a tg it n e) Z S) Q:=by
 rw[AI];show#[_,hi,_,G,?_];show(d6 (xs:=L.map f) (Q:=λq=>↥q.1<=sizeLine/\Q (.ref ↥q.2,q.2++[.lst q.1])) (λi ys d S'=>m d/\ys=((L.take i).filter p).map g/\Ka S1 S') (λi ys d S' h=>r i S' h.2.2) (λi w ys d S' v h=>?_) (λys d S' h=>?_) (L.map f).length 0 [] _ S1 ∅ #[j,rfl,.refl]).mono λq H=>by simpa using H
 ·obtain⟨D,rfl,l⟩:=h;rw[Lu,Lk]at v;obtain⟨x,s,rfl⟩:=v;obtain⟨B,u⟩:=C x d S' D;show#[_,B,?_];show(EC oc (b x (LD s) S' (A.trans l))).mono λc j=>#[λz=>(bu a I (j.1 z)).mono λy t=>#[u,?_,l.trans t.2.2],λz=>#[u,?_,l.trans (j.2 z).2]]
  ·rw[L8,s,NS,show(RF (ba x)).filter p=[x]from On t.1,Mb,t.2.1];rfl
  ·rw[L8,s,NS,show(RF (ba x)).filter p=[]from Oo (by rw[(j.2 z).1];show L5),NA]
 ·obtain⟨_,rfl,l⟩:=h;dsimp only;rw[show(L.map f).length=↥L from Lh ..,Mg]
  show#[qa ?_,k S' (A.trans l)];rw[Lh];show Lw (NK _ _) hl
def BF {α:Type}{b:E}{it:Ie}{j:Es}{d:Lf (Ln Ll)}{mi:MI}{S1:aa}{Q:QW}(L:Lf α)(f:α->W)(p:α->L7)(g:α->W)(R:Fm)(q:d7 b=true)(oc:n0 j=true)(m:fH d Z=gV::gV::R)(hl:↥L<=1000000)(hi:j8 M it Z S=ba (mi,S1))(o:Ka S S1)(l:∀i S',Ka S1 S'->mi.at S' i=ba (L.map f)[i]?)(n:mi.len S1=ba (L.map f).length)
  (c:∀x∈L,∀S',Ka S S'->gX M b j (gV::ba (f x)::R) S' (λy _ S2=>p x=true/\y=g x/\Ka S' S2) (λ_ S2=>p x=false/\Ka S' S2))
  (k:∀S',Ka S S'->Q (.ref ↥S',S'++[.lst ((L.filter p).map g)])):Wp (aD M (.comp b (.nm 1) it j d) Z S) Q:=
 BE L f p g (λZ=>∃a,Z=gV::a::R) (λx=>gV::ba (f x)::R) (λ_ _ _ h=>let ⟨_,e⟩:=h;e ▸ #[rfl,_,rfl]) q oc #[_,m] hl hi o l n c k
def qc {α:Type}{a e:E}{d:Es}{c:Lf (Ln Ll)}{Q:QW}(L:Lf α)(f:α->W)(p:α->L7)(g:α->W)(R:Fm)(s:d7 e=true)(r:d7 a=true)(oc:n0 d=true)(m:fH c Z=gV::gV::R)(hl:↥L<=1000000)
  (n:wE M e Z S λq=>∃t,q.1=.ref t/\q.2[t]?=ba (.lst (L.map f))/\Ka S q.2)
  (b:∀x∈L,∀S',Ka S S'->gX M a d (gV::ba (f x)::R) S' (λy _ S2=>p x=true/\y=g x/\Ka S' S2) (λ_ S2=>p x=false/\Ka S' S2))
  (k:∀S',Ka S S'->Q (.ref ↥S',S'++[.lst ((L.filter p).map g)])):Wp (aD M (.comp a (.nm 1) (.seq e) d c) Z S) Q:=by
 obtain⟨w,S1,l,t,rfl,j,o⟩:=bK s n;show BF (mi:=.live t) L f p g R r oc m hl (by simp only[j8,fQ,l,ay j]) o (λi S' h=>by simp only[MI.at,ay (h.get _ _ j)]) (by simp only[MI.len,ay j,MA]) b k
def sw (n:Ll):dw 0 n=(LR n).map λi=>W.int (i:Ll):=by
 unfold dw;show Mm λi _=>?_
 rw[RZ]
def GH {a e:E}{d:Es}{c:Lf (Ln Ll)}{Q:QW}(n:Ll)(p:Ll->L7)(g:Ll->W)(R:Fm)(r:d7 e=true)(o:d7 a=true)(oc:n0 d=true)(h:fH c Z=gV::gV::R)(hl:n<=1000000)
  (j:wE M e Z S λq=>q.1=.int n/\Ka S q.2)
  (b:∀x<n,∀S',Ka S S'->gX M a d (gV::ba (.int (x:Ll))::R) S' (λy _ S2=>p x=true/\y=g x/\Ka S' S2) (λ_ S2=>p x=false/\Ka S' S2))
  (k:∀S',Ka S S'->Q (.ref ↥S',S'++[.lst (((LR n).filter p).map g)])):Wp (aD M (.comp a (.nm 1) (.rng #v[e]) d c) Z S) Q:=by
 obtain⟨w,S1,f,rfl,m⟩:=bK r j;show BF (mi:=.its (dw 0 n)) (LR n) (λi=>W.int (i:Ll)) p g R o oc h (by rw[L0];show hl) ?_ m (λi S' _=>by rw[<- sw];rfl) (by rw[<- sw];rfl) (λx l=>b x (LG.mp l)) k
 simp only[j8,du,dW,jC,ue,f];rw[LU #[∅,∅]];rfl
def jS {α:Type}(L:Lf α):L.filter (λ_=>true)=L:=List.filter_eq_self.mpr λ_ _=>rfl
end
abbrev eX (U:Lf (T×W))(u:Wd)(h:Pt)(p q:Ll):L7:=(bP U (bA [((u.getD p (0,[])).1,[]),((u.getD q (0,[])).1,[(u.getD q (0,[])).2.getD p 0]),(h.1,[h.2.getD p 0,h.2.getD q 0])])).isSome
def ci {u:Wd}{h:Pt}{p:Ll}(a:p<↥u):(u++[h]).getD p (0,[])=u.getD p (0,[]):=by
 rw[LS,LS,Mw a]
def uF {u:Wd}{h:Pt}:(u++[h]).getD ↥u (0,[])=h:=by
 rw[LS,Nt (Ls _),VQ];rfl
def sx {U:Lf (T×W)}{u:Wd}{h:Pt}{p q:Ll}(b:p<q)(a:q<↥u):kA U (u++[h]) p q ↥u=eX U u h p q:=by
 unfold kA eX cy;rw[ci (Np b a),ci a,uF]
def mI {u:Wd}{p s:Ll}(h:p<s):(u.take s).getD p (0,[])=u.getD p (0,[]):=by
 rw[LS,LS,PX h]
abbrev kZ (U:Lf (T×W))(v:Wd):L7:=(LR (↥v-2)).all λp=>!kA U v p (↥v-2) (↥v-1)
def ox {U:Lf (T×W)}{u:Wd}{h:Pt}{s:Ll}(hs:s<↥u):kZ U (u.take (s+1)++[h])=(LR s).all λp=>!eX U u h p s:=by
 have hl:(u.take (s+1)).length=s+1:=by rw[Mv];omega
 unfold kZ;rw[Lx,hl,Na,show s+1+1-2=s by omega,show s+1+1-1=s+1 by omega,QL,LN,LN]
 show Ta λp=>Ta λa=>?_
 have a:=LG.mp a;have e:=sx (U:=U) (u:=u.take (s+1)) (h:=h) (p:=p) (q:=s) a ∅
 rw[hl]at e;rw[e];unfold eX;rw[mI ∅,mI ∅]
abbrev cZ (n:Ll)(hs:Lf Pt):Lf Pt:=hs.flatMap λh=>(LR n).map λ(w:Ll)=>(h.1,h.2++[(w:LC)])
abbrev bO (U:Lf (T×W))(u:Wd)(n:Ll)(m:LC):Ll->Lf Pt
 |0=>[(m,[])]
 |s+1=>(cZ n (bO U u n m s)).filter λh=>kZ U (u.take (s+1)++[h])
abbrev aL (U:Lf (T×W))(u:Wd)(a n:Ll):Lf Pt:=(LR a).flatMap λ(m:Ll)=>bO U u n (m:LC) ↥u
def mJ {ws:Lf LC}{x:LC}{p:Ll}(a:p<↥ws):(ws++[x]).getD p 0=ws.getD p 0:=by
 rw[LS,LS,Mw a]
def gB {U:Lf (T×W)}{u:Wd}{m x:LC}{ws:Lf LC}{p q:Ll}(b:p<q)(a:q<↥ws):eX U u (m,ws++[x]) p q=eX U u (m,ws) p q:=by
 unfold eX;dsimp only;rw[mJ (Np b a),mJ a]
def eE {U:Lf (T×W)}{u:Wd}{n:Ll}{m:LC}:∀{s:Ll}{h:Pt},s<=↥u->(h∈bO U u n m s↔h.1=m/\↥h.2=s/\(∀w∈h.2,0<=w/\w<(n:LC))/\∀p q,p<q->q<s->eX U u h p q=false)
 |0,h,_=>by
  rw[bO,LA];constructor
  ·rintro rfl;show#[rfl,rfl,(λw j=>nomatch j),λp q _ h=>absurd h (OM _)]
  ·rintro⟨d,b,_⟩;rw[<- d,<- Oh b]
 |s+1,h,hs=>by
  rw[bO,Mo,ox ∅,LN]
  unfold cZ;rw[ML];constructor
  ·rintro⟨⟨A,r,j⟩,o⟩;obtain⟨w,k,rfl⟩:=Lr.mp j;obtain⟨d,b,f,g⟩:=(eE ∅).mp r
   have k:=LG.mp k;show#[d,by rw[Lx,b];rfl,λx l=>?_,λp q a v=>?_]
   ·rcases Ma.mp l with z|z
    ·show f x z
    ·rw[LA.mp z];omega
   ·by_cases e:q=s
    ·subst e;have:=o p (LG.mpr a)
     simpa using this
    ·rw[gB a ∅];show g p q a ∅
  ·rintro⟨d,b,f,g⟩;obtain⟨y,ws⟩:=h;dsimp only at d b f g;have c:ws≠[]:=λz=>by rw[z]at b;cases b
   have hd:=M5 c;have l:=f _ (RL c);generalize ws.getLast c=x at hd l;have i:↥ws.dropLast=s:=by rw[Nz];omega
   generalize ws.dropLast=vs at hd i;subst hd;show#[#[(y,vs),(eE ∅).mpr #[d,i,λw j=>f w (MZ _ j),λp q a v=>?_],?_],λp t=>?_]
   ·rw[<- gB (x:=x) a ∅];show g p q a ∅
   ·show Lr.mpr #[x.toNat,LG.mpr ∅,by dsimp only;rw[show((x.toNat:Ll):LC)=x by omega]]
   ·rw[g p s (LG.mp t) ∅];rfl
def iy {U:Lf (T×W)}{u:Wd}{n:Ll}{m:LC}:∀s:Ll,(bO U u n m s).length<=n^s
 |0=>Ls _
 |s+1=>by
  rw[bO];show Lw (NK _ _) ?_;have:=iy (U:=U) (u:=u) (n:=n) (m:=m) s;have e:∀hs:Lf Pt,(cZ n hs).length=↥hs*n:=λhs=>by
   unfold cZ
   induction hs with
   |nil=>simp
   |cons h hs ih=>rw[M1,Lx,ih,Lh,L0,L3,Pi];omega
  rw[e,Qn];show OT _ this
def oy {n:Ll}(hs:Lf Pt):(cZ n hs).length=↥hs*n:=by
 unfold cZ
 induction hs with
 |nil=>simp
 |cons h hs ih=>rw[M1,Lx,ih,Lh,L0,L3,Pi];omega
def BG {U:Lf (T×W)}{u:Wd}{a n:Ll}{h:Pt}:h∈aL U u a n↔(0<=h.1/\h.1<a)/\↥h.2=↥u/\(∀w∈h.2,0<=w/\w<(n:LC))/\∀p q,p<q->q<↥u->eX U u h p q=false:=by
 unfold aL;rw[ML];constructor
 ·rintro⟨m,e,d⟩;obtain⟨c,b⟩:=(eE (Ls _)).mp d;have:=LG.mp e;show#[∅,b]
 ·rintro⟨c,b⟩;show#[h.1.toNat,LG.mpr ∅,(eE (Ls _)).mpr #[∅,b]]
abbrev cj:Ss:=
 #v[.set 2 (.op .sub (.bi .len #v[.v 1]) (.c (.int 1))),.loop (.nm 3) (.rng #v[.op .sub (.v 2) (.c (.int 1))]) #v[.ite (.cmp .isin (.own "three_at" 4 #v[.v 1,.v 3,.op .sub (.v 2) (.c (.int 1)),.v 2]) (.v 0)) #v[.ret (.v 3)] .nil],.ret (.c .non)]
abbrev hW:Ss:=
 #v[.ret (.own "wishes_over" 3 #v[.v 0,.own "barred_threes" 1 #v[.v 0],.v 1])]
abbrev bT:Ss:=
 #v[.set 3 (.lst .nil),.loop (.nm 4) (.rng #v[.bi .len #v[.ix (.v 0) (.c (.int 0))]]) #v[.set 5 (.lst #v[.tup #v[.v 4,.tup .nil]]),.loop (.nm 6) (.rng2 #v[.c (.int 1),.op .add (.bi .len #v[.v 2]) (.c (.int 1))]) #v[.set 5 (.comp (.v 1) (.nm 1) (.seq (.own "longer_wishes" 2 #v[.v 0,.v 5])) #v[.cmp .is (.own "first_bar" 2 #v[.v 2,.op .add (.sl (.v 4) .no (.yes (.v 3))) (.tup #v[.v 1])]) (.c .non)] [gV,gV,ba 1,ba 6,ba 2])],.ex (.me .extend (.v 3) #v[.v 5])],.ret (.v 3)]
abbrev bg:Ss:=
 #v[.set 2 (.lst .nil),.loop (.tp [3,4]) (.seq (.v 1)) #v[.ex (.me .extend (.v 2) #v[.comp (.tup #v[.v 2,.op .add (.v 3) (.tup #v[.v 1])]) (.nm 1) (.rng #v[.bi .len #v[.ix (.v 0) (.c (.int 1))]]) .nil [gV,gV,ba 3,ba 4]])],.ret (.v 2)]
def sy {U:Lf (T×W)}{v:Wd}{s:Ll}(hs:↥v=s+2):kZ U v=true↔∀i<s,kA U v i s (s+1)=false:=by
 unfold kZ;rw[hs,show s+2-2=s from rfl,show s+2-1=s+1 from rfl,LN]
 show Ta λi=>?_
 rw[LG,Pw]
def iA {a n s:Ll}{u:Wd}(c:GoodW a n u):GoodW a n (u.take s):=by
 have b:∀(k:Ll) (x:Pt),(u.take s)[k]?=ba x->u[k]?=ba x:=λk x e=>by
  rw[List.getElem?_take]at e;split at e
  ·show e
  ·cases e
 show#[λk x e=>c.mark k x (b k x e),λk x e=>c.len k x (b k x e),λk x e=>c.way k x (b k x e)]
section
variable{defs:Lf (LW×Df)}{fuel d:Ll}{S:aa}{Q:QW}
def sA (t:Is defs ("three_at": LW) 4 6 bC)(u:Is defs ("first_bar": LW) 2 4 cj){a n q:Ll}{v:Wd}{U:Lf (T×W)}(A:GoodW a n v)(C:2<=↥v)(hl:↥v<=1000)(e:S[q]?=ba (.dic U))(k:∀w,((w=.non/\kZ U v=true)\/∃i:LC,w=.int i/\kZ U v=false)->Q (w,S)) :
  wO (aQ (ak defs fuel (d+2)) "first_bar" 2 [.ref q,am v] S) Q:=by
 show az u rfl rfl λl m=>?_
 replace k:∀w,((w=.non/\kZ U v=true)\/∃i:LC,w=.int i/\kZ U v=false)->l (.rt w,S):=λw h=>m _ _ (k w h)
 clear m;change wZ _ _ cj [ba (.ref q),ba (am v),gV,gV] S l;have B:(v.map bo).length=↥v:=Lh ..;obtain⟨s,hs⟩:∃s,↥v=s+2:=#[↥v-2,∅]
 delta cj;show st ?_;left;show bc (ab md ?_);rw[B,show((↥v:Ll):LC)-1=((s+1:Ll):LC) by omega]
 nofun
 show cO (s:LC) (λi Z S'=>(∃c,Z=[ba (.ref q),ba (am v),ba (.int ((s+1:Ll):LC)),c])/\S'=S/\∀b<i,kA U v b s (s+1)=false) rfl rfl ∅ ?_ ?_ ?_
 ·delta wE wV wG;show ab md #[?_,#[_,rfl],rfl,λb z=>∅]
  dsimp only;rw[show((s+1:Ll):LC)-1=(s:LC) by omega]
 ·rintro i Z S1 hi ⟨⟨c,rfl⟩,rfl,j⟩ o x y;clear hK;delta LH;nofun
  delta wS wT wE wA wV wG;show ab md ?_;dsimp only;rw[show((s+1:Ll):LC)-1=(s:LC) by omega]
  show wf (d:=d) t A (N4.mp ‹_›) (M7 s) ∅ ?_
  show ab (show cx .isin (am (cy v i s (s+1))) (.ref q) S1=ba (.bl (kA U v i s (s+1)),S1) by simp only[cx,cN e,uu];rfl) ?_
  delta wB;show aE (Q0:=o) (λh p _ g=>?_) (λh p f _=>bX (f _ _ (hK _ _ (bX (x _ _ #[#[_,rfl],rfl,λb z=>?_])))))
  ·show st ?_;delta wS wE wV wG;show g _ _ (y _ _ (k _ (.inr #[i,rfl,?_])));rw[T8];intro z;rw[(sy hs).mp z i (N4.mp ‹_›)]at h;cases h
  ·by_cases r:b=i
   ·rw[r];show h
   ·show j b ∅
 ·rintro Z S1 ⟨⟨c,rfl⟩,rfl,j⟩;show hK _ _ (st ?_);delta wS wE;show k _ (.inl #[rfl,(sy hs).mpr j])
def la (H:Is defs ("longer_wishes": LW) 2 5 bg){m0 b0:W}{N:Lf W}{n l:Ll}{hs:Lf Pt}(G:↥N=n)(L:n<=3)(e:S[l]?=ba (.lst (hs.map bo)))(m:∀h∈hs,↥h.2<=100)(M:↥hs<=10000)
  (k:∀(q:Ll) (S':aa),S'[q]?=ba (.lst ((cZ n hs).map bo))->↥S<=q->Ka S S'->Q (.ref q,S')) :
  wO (aQ (ak defs fuel (d+1)) "longer_wishes" 2 [.tup [m0,.tup N,b0],.ref l] S) Q:=by
 show az H rfl rfl λA C=>?_
 replace k:∀(q:Ll) (S':aa),S'[q]?=ba (.lst ((cZ n hs).map bo))->↥S<=q->Ka S S'->A (.rt (.ref q),S'):=λa b c e f=>C _ _ (k a b c e f)
 clear C;change wZ _ _ bg [ba (.tup [m0,.tup N,b0]),ba (.ref l),gV,gV,gV] S A;generalize s:W.tup [m0,.tup N,b0]=R;have I:=b7 e;delta bg;show st ?_;delta wS wE wA LH;nofun
 show jG l (hs.map bo) (λi Z S'=>(∃o p,Z=[ba R,ba (.ref l),ba (.ref ↥S),o,p])/\S'[l]?=ba (.lst (hs.map bo))/\S'[↥S]?=ba (.lst ((cZ n (hs.take i)).map bo))/\Ka S S') rfl rfl #[rfl,#[gV,gV,rfl],aj e,af,.push] (λi Z S' h=>h.2.1) ?_ ?_
 ·rintro i w Z S1 E ⟨⟨o,p,rfl⟩,B,g,y⟩;clear hK k;rw[Lu,Lk]at E;obtain⟨h,D,rfl⟩:=E;have m:=m h (LD D);show ab (show gE (.tp [3,4]) (bo h) [ba R,ba (.ref l),ba (.ref ↥S),o,p] S1=ba ([ba R,ba (.ref l),ba (.ref ↥S),ba (.int h.1),ba (.tup (ah h.2))],S1)from rfl) ?_
  intro P t _;show st ?_;left;show#[dS g,?_];show GH n (λ_=>true) (λ(w:Ll)=>bo (h.1,h.2++[(w:LC)])) [ba (.int h.1),ba (.tup (ah h.2))] rfl rfl rfl rfl (by show Lw ‹_› (LL rfl)) ?_ (λx T S2 r=>?_) λS2 r=>?_
  ·delta wE wA wV wG;subst s;show al #v[] rfl (bc ?_)
   rw[G];show#[rfl,.refl]
  ·delta gX wC wE wA wV wG;show#[λ_=>ab (gW (qa ?_)) #[rfl,?_,.refl],λz=>by cases z]
   ·rw[Lx,show(ah h.2).length=↥h.2 from Lh ..];show _+1<=_;omega
   ·simp[bo,ah]
  ·rw[jS];have j:=aj (u:=O.lst ((LR n).map λ(w:Ll)=>bo (h.1,h.2++[(w:LC)]))) (r.get _ _ g)
   have J:(cZ n (hs.take i)).length<=30000:=by
    rw[oy,Mv];show Lw (PH (show min i ↥hs<=10000 by omega) L) #v[]
   show p9 j af (by rw[Lh,Lh,L0];omega) (bX (t _ _ #[#[_,_,rfl],?_,?_,((y.trans r).trans .push).late (Ls _)]))
   ·rw[bz (Mk ‹_›)];show aj (r.get _ _ B)
   ·rw[bB j];unfold cZ;rw[L8,D];simp
 ·rintro Z S1 ⟨⟨o,p,rfl⟩,B,g,y⟩;rw[Lh,Mg]at g;show hK _ _ (st (k _ _ g (Ls _) y))
def qd {n s:Ll}(a:n<=3)(hs:s<=5):n^s<=243:=Lw (N7 a s) (Nx (n:=3) #v[] hs)
def uG {U:Lf (T×W)}{u:Wd}{n i:Ll}(a:n<=3)(b:↥u<=5):((LR i).flatMap λ(m:Ll)=>bO U u n (m:LC) ↥u).length<=i*243:=by
 induction i with
 |zero=>simp
 |succ i ih=>
  rw[Oq,O5,Lx,M1,List.flatMap_nil,NA];have:=Lw (iy (U:=U) (u:=u) (n:=n) (m:=(i:Ll)) ↥u) (qd a b);omega
def iR (h3:Is defs ("three_at": LW) 4 6 bC)(L:Is defs ("first_bar": LW) 2 4 cj)(O:Is defs ("longer_wishes": LW) 2 5 bg)(hg:Is defs ("wishes_over": LW) 3 7 bT){Mqa N:Lf W}{b0:W}{a n q:Ll}{u:Wd}{U:Lf (T×W)}(hM:↥Mqa=a)(hN:↥N=n)(ha3:a<=3)(g:n<=3)(hu:GoodW a n u)(B:↥u<=5)(e:S[q]?=ba (.dic U))
  (k:∀(l:Ll) (S':aa),S'[l]?=ba (.lst ((aL U u a n).map bo))->↥S<=l->Ka S S'->Q (.ref l,S')) :
  wO (aQ (ak defs fuel (d+3)) "wishes_over" 3 [.tup [.tup Mqa,.tup N,b0],.ref q,am u] S) Q:=by
 show az hg rfl rfl λY hR=>?_
 replace k:∀(l:Ll) (S':aa),S'[l]?=ba (.lst ((aL U u a n).map bo))->↥S<=l->Ka S S'->Y (.rt (.ref l),S'):=λa b c e f=>hR _ _ (k a b c e f)
 clear hR;change wZ _ _ bT [ba (.tup [.tup Mqa,.tup N,b0]),ba (.ref q),ba (am u),gV,gV,gV,gV] S Y;generalize s:W.tup [.tup Mqa,.tup N,b0]=R;have hqS:=b7 e;have ul:(u.map bo).length=↥u:=Lh ..;delta bT;show st ?_;delta wS wE wA LH;nofun
 show cO (a:LC) (λi Z S'=>(∃I J j,Z=[ba R,ba (.ref q),ba (am u),ba (.ref ↥S),I,J,j])/\S'[↥S]?=ba (.lst (((LR i).flatMap λ(m:Ll)=>bO U u n (m:LC) ↥u).map bo))/\Ka S S') rfl rfl ∅ ?_ ?_ ?_
 ·delta wE wA wV wG;subst s;show al #v[] rfl (bc ?_)
  rw[hM];show#[rfl,#[_,_,_,rfl],af,.push]
 ·rintro i Z S1 hi ⟨⟨I,J,j,rfl⟩,r,H⟩ Q2 A _;clear hK k;have hl1:=b7 r;delta LH;show st ?_;left;nofun
  show fX 1 ((↥u:LC)+1) (λm Z S'=>∃(t:Ll) (j:Ln W),Z=[ba R,ba (.ref q),ba (am u),ba (.ref ↥S),ba (.int i),ba (.ref t),j]/\S'[t]?=ba (.lst ((bO U u n i m).map bo))/\Ka S1 S') rfl rfl rfl ∅ ?_ ?_ ?_
  ·delta wE wA wV wG;show#[rfl,bc (ab bW ?_)];rw[ul];show#[rfl,↥S1,j,rfl,af,.push]
  ·rintro m Z S2 hm ⟨t,j,rfl,E,D⟩ Q3 g _;clear hK A;have hmu:m<↥u:=∅
   rw[show(1:LC)+m=((m+1:Ll):LC) by omega]
   have y:(bO U u n i m).length<=243:=Lw (iy m) (qd ‹n<=3› ∅)
   have hll:(cZ n (bO U u n i m)).length<=729:=by rw[oy];show PH y ‹n<=3›
   delta LH;show st ?_;delta wS wE LH;show qc (cZ n (bO U u n i m)) bo (λh=>kZ U (u.take (m+1)++[h])) bo [ba (.ref q),ba (.int ((m+1:Ll):LC)),ba (am u)] rfl rfl rfl rfl (by show Lw ‹_› (LL rfl)) ?_ (λh G p X=>?_) λp X=>?_
   ·delta wE wA wV wG;subst s;show la (d:=d+1) O hN ‹n<=3› E (λh G=>by have:=((eE (Ni ‹_›)).mp G).2.1;omega) (by show Lw ‹_› (LL rfl)) λl S3 e3 _ k3=>#[l,rfl,e3,k3]
   ·have M:GoodW a n (u.take (m+1)++[h]):=by
     unfold cZ at G;obtain⟨h0,P,V⟩:=ML.mp G;obtain⟨w,C,rfl⟩:=Lr.mp V;obtain⟨g1,g2,g3,_⟩:=(eE (Ni ‹_›)).mp P;have C:=LG.mp C;show(iA hu).snoc (by rw[g1];omega) (by rw[Lx,g2,Mv,Na];omega) λx hx=>?_
     rcases Ma.mp hx with z|z
     ·show g3 x z
     ·rw[LA.mp z];omega
    have hvl:(u.take (m+1)++[h]).length=m+2:=by rw[Lx,Mv,Na];omega
    delta gX wC wT wE wA wP wV wG wN;show ab (show tf (am u) gV (ba ((m+1:Ll):LC)) p=ba (.tup ((u.map bo).take (m+1)),p) by simp only[am,tf,jI]) ?_
    dsimp only;have ev:(u.map bo).take (m+1)++[bo h]=(u.take (m+1)++[h]).map bo:=by rw[Mb,Qz];rfl
    show ab (gW (qa (by rw[ev,Lh];omega))) ?_
    dsimp only;rw[ev];show sA (d:=d) (v:=u.take (m+1)++[h]) h3 L M ∅ ∅ (X.get _ _ (D.get _ _ (H.get _ _ e))) λw V=>?_
    show ab (show cx .is w .non p=ba (.bl (kZ U (u.take (m+1)++[h])),p) by rcases V with⟨rfl,hb⟩|⟨i,rfl,hb⟩<;>rw[hb]<;>rfl) ?_
    delta wB;show#[λz=>#[z,rfl,.refl],λz=>#[z,.refl]]
   ·show bX (g _ _ #[_,_,rfl,af,(D.trans X).trans .push])
  ·rintro Z S2 ⟨t,j,rfl,E,D⟩;rw[show((↥u:LC)+1-1).toNat=↥u by omega]at E
   show hK _ _ ?_;clear hK K;have o:=D.get _ _ r;have y:(bO U u n i ↥u).length<=243:=Lw (iy _) (qd g B);have hfl:=uG (U:=U) (i:=i) g B;show st ?_;left;show#[dS o,p9 o E (by rw[Lh,Lh];omega) (bX (A _ _ #[#[_,_,_,rfl],?_,(H.trans D).late (Ls _)]))]
   rw[bB o,Oq,O5,Mb];simp
 ·rintro Z S1 ⟨⟨I,J,j,rfl⟩,r,H⟩;rw[LP]at r;show hK _ _ (st (k _ _ r (Ls _) H))
def BH (o:20<fuel)(P:Parts defs)(H:Is defs ("part": LW) 3 3 g9)(hl:Is defs ("longer_orders": LW) 2 4 aJ)(j:Is defs ("barred_threes": LW) 1 5 be)(D:Is defs ("three_at": LW) 4 6 bC)(m:Is defs ("first_bar": LW) 2 4 cj)(s:Is defs ("longer_wishes": LW) 2 5 bg)(w:Is defs ("wishes_over": LW) 3 7 bT)(G:Is defs ("wishes": LW) 2 2 hW)
  {e ns:Lf LW}{bs:Lf LC}{a:Ll}{b:Lf Wd}{u:Wd} (t:↥e=a) (h:a<=3) (x:GoodB bs) (c:↥ns=↥bs) (p:∀g∈b,GoodW a ↥bs g/\↥g=3) (f:↥b<=100) (I:GoodW a ↥bs u) (v:↥u<=5)
  (k:∀(l:Ll) (U:Lf (T×W)) (S':aa),HasD U (cD bs b)->S'[l]?=ba (.lst ((aL U u a ↥bs).map bo))->↥S<=l->Ka S S'->Q (.ref l,S')) :
  wO (aQ (ak defs fuel (d+5)) "wishes" 2 [.tup [.tup (e.map W.str),.tup (LK aK ns bs),.tup (b.map am)],am u] S) Q:=by
 show az G rfl rfl λz E=>?_
 change wZ _ _ hW [ba (.tup [.tup (e.map W.str),.tup (LK aK ns bs),.tup (b.map am)]),ba (am u)] S z;have i:↥bs<=3:=by rcases x with rfl|rfl|rfl|rfl|rfl|rfl<;>decide
 delta hW;show st ?_;left;show mG (d:=d) o P H hl j x c p f λq U S1 A C _ y=>?_
 show iR (d:=d+1) (Mqa:=e.map W.str) (N:=LK aK ns bs) (n:=↥bs) D m s w (by rw[Lh,t]) (by rw[N6,c];omega) h i I v A λl S2 B r J=>E _ _ (k l U S2 C B (Lw y.len r) (y.trans J))
end
abbrev qf (U:Lf (T×W))(u:Wd)(s:Ll)(h:Pt):L7:=(LR s).all λq=>(LR q).all λp=>!eX U u h p q
def lp {U:Lf (T×W)}{u:Wd}{s:Ll}{h:Pt}:qf U u s h=true↔∀q<s,∀p<q,eX U u h p q=false:=by
 unfold qf;simp only[LN,LG,Pw]
def jg {α β:Type}{d:α}(n:Ll)(f:α->Ll->β)(h:0<n):∀xs:Lf α,(LR (↥xs*n)).map (λi=>f (xs.getD (i/n) d) (i % n))=xs.flatMap λx=>(LR n).map (f x)
 |[]=>by simp
 |x::xs=>by
  rw[M1,<- jg n f h xs,L3,Pi,QT,List.range_add,Mb,Nl];congr 1
  ·show Mm λi hi=>?_
   have hi:=LG.mp hi;rw[Uo hi,Nat.mod_eq_of_lt hi];rfl
  ·show Mm λi hi=>?_
   delta SZ;rw[Nat.add_div_left _ h,Nat.add_mod_left];rfl
def mK {n k:Ll}(h:0<n):br n (k+1)=(br n k).flatMap λa=>(LR n).map λ(w:Ll)=>a++[(w:LC)]:=by
 rw[br];show jg (d:=[]) n (λa (w:Ll)=>a++[(w:LC)]) h (br n k)
def kB {U:Lf (T×W)}{u:Wd}{n:Ll}{m:LC}(h:0<n):∀s:Ll,s<=↥u->bO U u n m s=((br n s).map λa=>(m,a)).filter (qf U u s)
 |0,_=>rfl
 |s+1,hs=>by
  rw[bO,kB h s ∅,mK h]
  unfold cZ;have len:∀a∈br n s,↥a=s:=λa hd=>(BA hd).1
  generalize br n s=D at len
  induction D with
  |nil=>rfl
  |cons a D ih=>
   have ih:=ih λx c=>len x (MO _ c)
   have hl:=len a (M3 ..);have st:∀w:Ll,qf U u (s+1) (m,a++[(w:LC)])=(qf U u s (m,a)&&kZ U (u.take (s+1)++[(m,a++[(w:LC)])])):=λw=>by
    rw[ox ∅,QL,Lp,lp,lp,LN]
    constructor
    ·intro z;show#[λq f p b=>?_,λp b=>?_]
     ·rw[<- gB (x:=(w:LC)) b ∅];show z q ∅ p b
     ·rw[z s (M7 s) p (LG.mp b)];rfl
    ·rintro⟨g,i⟩ q f p b
     by_cases e:q=s
     ·subst e
      simpa using i p (LG.mpr b)
     ·rw[gB b ∅];show g q ∅ p b
   rw[M1,Mb,NS,<- ih,Mj,Nl]
   by_cases d:qf U u s (m,a)=true
   ·rw[On d,M1,NS];congr 1;rw[show((λa=>(m,a))∘λ(w:Ll)=>a++[(w:LC)])=λ(w:Ll)=>(m,a++[(w:LC)])from rfl]
    show OU λx c=>?_
    obtain⟨w,_,rfl⟩:=Lr.mp c;dsimp only;rw[st w,d];rfl
   ·rw[Oo d];have:((LR n).map ((λa=>(m,a))∘λ(w:Ll)=>a++[(w:LC)])).filter (qf U u (s+1))=[]:=by
     rw[List.filter_eq_nil_iff];intro x c;obtain⟨w,_,rfl⟩:=Lr.mp c;delta SZ;rw[st w,T8.mpr d];show L5
    rw[this,UI]
def uH {U b:Lf (T×W)}{u:Wd}{a n:Ll}(c:0<n)(h:∀t,(bP U t).isSome=(bP b t).isSome):aL U u a n=aL b u a n:=by
 unfold aL;show jd λm _=>?_
 rw[kB c _ (Ls _),kB c _ (Ls _)];show OU λx _=>?_
 have:∀p q,eX U u x p q=eX b u x p q:=λp q=>h _
 unfold qf;simp only[this]
def GJ {bs:Lf LC}{a:Ll}{v:Wd}{i j:Ll}(k:GoodB bs)(c:GoodW a ↥bs v)(hi:i<↥v)(m:j<↥v)(l:i≠j):0<=b6 bs v i j/\b6 bs v i j<(↥bs:LC):=by
 unfold b6
 by_cases h:j<i
 ·rw[LU h];have b:=ap (d:=(0,[])) hi;have e:j<(v.getD i (0,[])).2.length:=by rw[c.len i _ b];show h
  show c.way i _ b _ (LD (ap (d:=0) e))
 ·rw[L1 h];have b:=ap (d:=(0,[])) m;have e:i<(v.getD j (0,[])).2.length:=by rw[c.len j _ b];omega
  obtain⟨f,g⟩:=c.way j _ b _ (LD (ap (d:=0) e));show(k.at f g).2
def db {bs:Lf LC}{a:Ll}{v:Wd}{ps:Lf Ll}(n:GoodB bs)(l:GoodW a ↥bs v)(c:∀p∈ps,p<↥v)(g:ps.Nodup):GoodW a ↥bs (ag bs v ps):=by
 have b:∀(k:Ll) (q:Pt),(ag bs v ps)[k]?=ba q->∃hk:k<↥ps,q=((v.getD ps[k] (0,[])).1,(ps.take k).map λj=>b6 bs v ps[k] j):=λk q e=>by
  have hk:k<↥ps:=by
   have:=(LB.mp e).1;rw[aI]at this;show this
  show#[hk,?_];unfold ag at e;rw[Lu,N5 hk,MA,show ps.getD k 0=ps[k] by simp[hk]]at e
  show(MR e).symm
 show#[λk q e=>?_,λk q e=>?_,λk q e=>?_]
 ·obtain⟨hk,rfl⟩:=b k q e;have:=l.mark _ _ (ap (d:=(0,[])) (c _ (Mp hk)));show this
 ·obtain⟨hk,rfl⟩:=b k q e;dsimp only;rw[Lh,Mv];omega
 ·obtain⟨hk,rfl⟩:=b k q e;intro w r;obtain⟨j,i,rfl⟩:=Lr.mp r;have f:=Nw i;show GJ n l (c _ (Mp hk)) (c _ f) λe=>?_
  obtain⟨m,o,h⟩:=Nf.mp i;rw[Mv]at o;rw[OS]at h;have:=(NB g).mp (e.trans h.symm);omega
section
variable{defs:Lf (LW×Df)}{fuel d:Ll}{S:aa}{Q:QW}
def GK (hd:Is defs ("_law_flow": LW) 1 1 eS){ns:Lf LC}{u:Ll}(a:S[u]?=ba (.fro (ns.map W.int)))(k:∀r S',Ka S S'->Fl S' r->Q (.ref r,S')) :
  wO (aQ (ak defs fuel (d+1)) "_law_flow" 1 [.ref u] S) Q:=by
 show az hd rfl rfl λb f=>?_
 change wZ _ _ eS [ba (.ref u)] S b;delta eS;show st ?_;left;have e:Bi.list.fn [.ref u] S=ba (.ref ↥S,S++[.lst (ns.map W.int)]):=by
  have c:CP S u=gV:=by simp[CP,a]
  simp only[Bi.fn,At,nE,c,jl,fO,DO a]
 show ab e (f _ _ (k _ _ (Ka.push.trans .push) #[↥S,ns,0,0,1,0,?_,?_,?_,#v[],#v[],#v[],#v[]]))
 ·show af
 ·show aj af
 ·simp
end
def kU {bt:Ll->Ll->L7}{N:Ll}(b:∀i<N,bt i i=false)(d:∀i j k,i<N->j<N->k<N->bt i j=true->bt j k=true->bt i k=true):∀n,n<N->∀j≤n,bt j (argBest bt n)=false
 |0,a,j,g=>by
  obtain rfl:j=0:=∅
  show b 0 a
 |n+1,a,j,g=>by
  have ih:=kU b d n ∅
  have h:=dA bt n;simp only[argBest];cases c:bt (n+1) (argBest bt n)with
  |true=>
   rw[LU rfl]
   by_cases e:j=n+1
   ·subst e;show b _ a
   ·cases f:bt j (n+1)with
    |false=>rfl
    |true=>
     have:=d j (n+1) (argBest bt n) (MH ‹_› ‹_›) a ∅ f c
     rw[ih j ∅]at this;cases this
  |false=>
   rw[L1 (by show L5)]
   by_cases e:j=n+1
   ·subst e;show c
   ·show ih j ∅
def sB {ks:Lf T}(f:∀x∈ks,eM x=true)(hl:ft ks=true)(g:ks≠[]):∃x,ks[i4 ks]?=ba x/\x∈ks/\∀y∈ks,ik y x=ba false:=by
 have r:0<↥ks:=SO.mpr g;have d:i4 ks<↥ks:=by
  unfold i4;have:=dA (mQ ks) (↥ks-1);omega
 have a:∀i j (hi:i<↥ks) (b:j<↥ks),ik ks[i] ks[j]=ba (mQ ks i j):=λi j hi b=>dP hl hi b
 have p:∀i<↥ks,mQ ks i i=false:=λi hi=>by
  cases c:mQ ks i i with
  |false=>rfl
  |true=>
   have e:=a i i hi hi;rw[c]at e;have:=lP _ _ (f _ (Mp hi)) e;rw[e]at this;cases this
 have q:=kU (bt:=mQ ks) (N:=↥ks) p (λi j k hi b hk m n=>by
  have h:=a i j hi b;have l:=a j k b hk;rw[m]at h;rw[n]at l;have:=tN _ _ _ (f _ (Mp hi)) (f _ (Mp b)) h l;rw[a i k hi hk]at this;show MR this) (↥ks-1) ∅
 show#[ks[i4 ks],Lq d,Mp d,λy o=>?_]
 obtain⟨j,b,rfl⟩:=Nf.mp o;rw[a j _ b d];congr 1;show q j ∅
def wg {x y:T}(c:eM x=true)(a:ik x y=ba false)(b:ik y x=ba false):x=y:=by
 by_cases e:x=y
 ·show e
 ·rw[ph x y c e b]at a;cases a
def sC:∀{xs ys as bs:Lf T},↥xs=↥ys->dv xs ys=ba true->dv (xs++as) (ys++bs)=ba true
 |[],[],_,_,_,h=>by cases h
 |x::xs,y::ys,as,bs,hl,h=>by
  simp only[Uw,dv]at h ⊢
  by_cases e:x=y
  ·rw[LU e]at h ⊢;show sC (by simpa using hl) h
  ·rw[L1 e]at h ⊢;show h
 |[],_::_,_,_,hl,_=>by simp at hl
 |_::_,[],_,_,hl,_=>by simp at hl
def sD {as bs:Lf T}:∀xs:Lf T,dv (xs++as) (xs++bs)=dv as bs
 |[]=>rfl
 |x::xs=>by
  simp only[Uw,dv,NC];show sD xs
def GL {x y:T}(a:eM x=true)(h:dv [x] [y]=ba true):ik x y=ba true:=by
 simp only[dv]at h;split at h
 ·cases h
 ·show h
structure Ord (n:Ll)(o:Lf Ll):Prop where
 nd:o.Nodup
 lt:∀p∈o,p<n
abbrev c7:Ll->Lf (Lf Ll)
 |0=>[[]]
 |k+1=>(c7 k).flatMap λo=>(LR (k+1)).map λi=>o.take i++[k]++o.drop i
def fD:∀{n:Ll}{o:Lf Ll},o∈c7 n↔Ord n o/\↥o=n
 |0,o=>by
  rw[c7,LA];show#[λh=>by subst h;show#[#[.nil,λp c=>nomatch c],rfl],λh=>Oh h.2]
 |n+1,o=>by
  rw[c7,ML];constructor
  ·rintro⟨o',f,k⟩;obtain⟨i,hi,rfl⟩:=Lr.mp k;obtain⟨⟨nd,lt⟩,hl⟩:=fD.mp f;have hi:=LG.mp hi;have c:(o'.take i++[n]++o'.drop i).Perm (n::o'):=by
    have e:o'.take i++[n]++o'.drop i=o'.take i++n::o'.drop i:=by simp
    rw[e];show RK.trans ?_;rw[OG]
   show#[#[c.nodup_iff.mpr (MV.mpr #[λz=>absurd (lt _ z) (M6 _),nd]),λp d=>?_],by rw[c.length_eq,L3,hl]]
   rcases LQ.mp (c.mem_iff.mp d)with z|z
   ·omega
   ·have:=lt p z;omega
  ·rintro⟨⟨nd,lt⟩,hl⟩;have l:n∈o:=by
    by_cases z:n∈o
    ·show z
    ·have f:=gx o (LR n) nd λp c=>LG.mpr (by
      have:=lt p c;have:p≠n:=λe=>z (e▸c)
      omega)
     rw[L0]at f;omega
   obtain⟨a,b,rfl⟩:=List.append_of_mem l;have c:(a++n::b).Perm (n::(a++b)):=RK;have g:=c.nodup_iff.mp nd;obtain⟨nn,j⟩:=MV.mp g;show#[a++b,fD.mpr #[#[j,λp d=>?_],?_],Lr.mpr #[↥a,LG.mpr ?_,?_]]
   ·have f:=lt p (c.mem_iff.mpr (MO _ d));have:p≠n:=λe=>nn (e▸d)
    omega
   ·have:=c.length_eq;rw[hl,L3]at this;omega
   ·rw[Lx,L3]at hl;omega
   ·rw[List.take_left',UR]<;>simp
abbrev aX (bs:Lf LC)(u:Wd)(o:Lf Ll):Pt:=cf bs u o.dropLast (o.getLastD 0)
abbrev cF (ps:Lf Pt):Pt:=ps.getD (i4 (ps.map iJ)) (0,[])
abbrev fE (bs:Lf LC)(u:Wd):Ll->Lf (Lf Ll)
 |0=>[[]]
 |k+1=>(aB ↥u (fE bs u k)).filter λo=>decide (aX bs u o=cF ((aB ↥u (fE bs u k)).map (aX bs u)))
abbrev qh (bs:Lf LC)(u:Wd):Ll->Wd
 |0=>[]
 |k+1=>qh bs u k++[cF ((aB ↥u (fE bs u k)).map (aX bs u))]
def BI (p:Pt):eM (iJ p)=true:=by
 have:=ln [p]
 simpa [de]using this
def oz (ps:Lf Pt):ft (ps.map iJ)=true:=by
 unfold ft;rw[LN];intro x a;rw[LN];intro y b;obtain⟨p,_,rfl⟩:=Lr.mp a;obtain⟨q,_,rfl⟩:=Lr.mp b;show uw _ _ (AX p q)
def oA {ps:Lf Pt}(h:ps≠[]):ps[i4 (ps.map iJ)]?=ba (cF ps)/\cF ps∈ps/\∀y∈ps,ik (iJ y) (iJ (cF ps))=ba false:=by
 obtain⟨x,b,g,c⟩:=sB (ks:=ps.map iJ) (λx d=>by obtain⟨p,_,rfl⟩:=Lr.mp d;show BI p) (oz ps) (by simpa using h)
 rw[Lu,Lk]at b;obtain⟨p,a,rfl⟩:=b;have e:cF ps=p:=by unfold cF;rw[LS,a];rfl
 rw[e];show#[a,LD a,λy f=>c _ (Lr.mpr #[y,f,rfl])]
def ga {n:Ll}{os:Lf (Lf Ll)}{o':Lf Ll}:o'∈aB n os↔∃o∈os,∃p,p<n/\p∉o/\o'=o++[p]:=by
 unfold aB;rw[ML];constructor
 ·rintro⟨o,c,h⟩;obtain⟨p,d,rfl⟩:=Lr.mp h;obtain⟨a,b⟩:=Mo.mp d;show#[o,c,p,LG.mp a,Mq b,rfl]
 ·rintro⟨o,c,p,a,b,rfl⟩;show#[o,c,Lr.mpr #[p,Mo.mpr #[LG.mpr a,Nc b],rfl]]
def iB {bs:Lf LC}{u:Wd}{o:Lf Ll}{p:Ll}:aX bs u (o++[p])=cf bs u o p:=by
 unfold aX;rw[QE,SD]
def gb {n:Ll}{o:Lf Ll}{p:Ll}:Ord n (o++[p])↔Ord n o/\p<n/\p∉o:=by
 constructor
 ·rintro⟨nd,lt⟩;rw[NJ]at nd;show#[#[nd.1,λq c=>lt q (MZ _ c)],lt p (by simp),λz=>nd.2.2 p z p (by simp) rfl]
 ·rintro⟨⟨nd,lt⟩,d,f⟩;show#[NJ.mpr #[nd,by simp,λa g b h e=>?_],λq c=>?_]
  ·rw[LA.mp h]at e;show f (e▸g)
  ·rcases Ma.mp c with z|z
   ·show lt q z
   ·rw[LA.mp z];show d
def sE {n:Ll}{o:Lf Ll}(h:Ord n o)(hl:↥o<n):∃p,p<n/\p∉o:=by
 by_cases z:∃p,p<n/\p∉o
 ·show z
 ·have b:=gx (LR n) o M0 λp c=>by
   by_cases a:p∈o
   ·show a
   ·show absurd #[p,LG.mp c,a] z
  rw[L0]at b;omega
def Ji (u v:Wd):(ik (bA u) (bA v)).isSome=true:=by
 have:=fU [u,v];unfold ft at this;rw[LN]at this;have:=this (bA u) (by simp)
 rw[LN]at this;show this (bA v) (by simp)
def GM {u v:Wd}(h:ik (bA u) (bA v)≠ba true):ik (bA u) (bA v)=ba false:=by
 obtain⟨b,a⟩:=MM.mp (Ji u v);cases b with
 |false=>show a
 |true=>show absurd a h
structure GrOk (bs:Lf LC)(u:Wd)(k:Ll):Prop where
 mem:∀o,o∈fE bs u k↔Ord ↥u o/\↥o=k/\ag bs u o=qh bs u k
 least:∀o,Ord ↥u o->↥o=k->ik (bA (ag bs u o)) (bA (qh bs u k))=ba false
 ne:fE bs u k≠[]
 len:(qh bs u k).length=k
def qk {k:Ll}{o:Lf Ll}(h:↥o=k+1):∃o' p,o=o'++[p]/\↥o'=k:=by
 have a:o≠[]:=λz=>by rw[z]at h;cases h
 show#[o.dropLast,o.getLast a,(M5 a).symm,by rw[Nz];omega]
def oB {bs:Lf LC}{u:Wd}:∀k,k<=↥u->GrOk bs u k
 |0,_=>by
  show#[λo=>?_,λo _ hl=>?_,Uv _ _,rfl]
  ·rw[fE,LA];show#[λh=>by subst h;show#[#[.nil,λp l=>nomatch l],rfl,rfl],λh=>Oh h.2.1]
  ·rw[Oh hl];rfl
 |k+1,hk=>by
  have ih:=oB (bs:=bs) (u:=u) k ∅
  have r:aB ↥u (fE bs u k)≠[]:=by
   obtain⟨o,f⟩:=OJ _ ih.ne;obtain⟨a,b,_⟩:=(ih.mem o).mp f;obtain⟨p,l,c⟩:=sE a ∅
   show Ro (ga.mpr #[o,f,p,l,c,rfl])
  obtain⟨_,b2,s⟩:=oA (ps:=(aB ↥u (fE bs u k)).map (aX bs u)) (by simpa using r)
  have m:qh bs u (k+1)=qh bs u k++[cF ((aB ↥u (fE bs u k)).map (aX bs u))]:=rfl;have n:fE bs u (k+1)=(aB ↥u (fE bs u k)).filter λo=>decide (aX bs u o=cF ((aB ↥u (fE bs u k)).map (aX bs u))):=rfl
  generalize cF ((aB ↥u (fE bs u k)).map (aX bs u))=best at b2 s m n;show#[λo=>?_,λo w hl=>?_,?_,by rw[m,Lx,ih.len];rfl]
  ·rw[n,Mo,m];constructor
   ·rintro⟨a,b⟩;obtain⟨o,f,p,l,c,rfl⟩:=ga.mp a;obtain⟨d,g,i⟩:=(ih.mem o).mp f;have b:=Mq b;rw[iB]at b;show#[gb.mpr #[d,l,c],by rw[Lx,g];rfl,by rw[bH,i,b]]
   ·rintro⟨a,b,j⟩;obtain⟨o,p,rfl,hl⟩:=qk b;obtain⟨d,g,i⟩:=gb.mp a;rw[bH]at j;obtain⟨t,v⟩:=List.append_inj j (by rw[aI,ih.len,hl])
    show#[ga.mpr #[o,(ih.mem o).mpr #[d,hl,t],p,g,i,rfl],Nc ?_];rw[iB];show List.singleton_inj.mp v
  ·obtain⟨o,p,rfl,q⟩:=qk hl;clear hl;have hl:=q;obtain⟨d,g,i⟩:=gb.mp w;show GM λz=>?_
   rw[bH,m]at z;have z:dv ((ag bs u o++[cf bs u o p]).map iJ) ((qh bs u k++[best]).map iJ)=ba true:=z;rw[Mb,Mb]at z
   by_cases e:ag bs u o=qh bs u k
   ·rw[e,sD]at z;have:=GL (BI _) z;rw[s _ (Lr.mpr #[o++[p],ga.mpr #[o,(ih.mem o).mpr #[d,hl,e],p,g,i,rfl],iB])]at this;cases this
   ·have a:=ph (bA (qh bs u k)) (bA (ag bs u o)) (je _) (λh=>e (cR h).symm) (ih.least o d hl)
    have a:dv ((qh bs u k).map iJ) ((ag bs u o).map iJ)=ba true:=a;have b:=sC (as:=[best].map iJ) (bs:=[cf bs u o p].map iJ) (by rw[Lh,Lh,aI,ih.len,hl]) a
    have j:=pg _ _ (by rw[<- Mb];show ln _) b
    rw[z]at j;cases j
  ·obtain⟨o,f,e⟩:=Lr.mp b2;rw[n];show Ro (Mo.mpr #[f,Nc e])
abbrev aq (bs:Lf LC)(u:Wd):Wd:=qh bs u ↥u
def cG {bs:Lf LC}{u:Wd}:∃o,Ord ↥u o/\↥o=↥u/\ag bs u o=aq bs u:=by
 have h:=oB (bs:=bs) (u:=u) ↥u (Ls _);obtain⟨o,a⟩:=OJ _ h.ne;show#[o,(h.mem o).mp a]
def gf {bs:Lf LC}{u:Wd}{o:Lf Ll}{i:Ll}(hi:i<↥o):(ag bs u o).getD i (0,[])=((u.getD (o.getD i 0) (0,[])).1,(o.take i).map λj=>b6 bs u (o.getD i 0) j):=by
 unfold ag;rw[LS,Lu,N5 hi];rfl
def sF {bs:Lf LC}{u:Wd}{o:Lf Ll}{i j:Ll}(hi:i<↥o)(a:j<i):((ag bs u o).getD i (0,[])).2.getD j 0=b6 bs u (o.getD i 0) (o.getD j 0):=by
 rw[gf hi];dsimp only;rw[LS,Lu,PX a,ap (d:=0) (show j<↥o by show Np ‹_› ‹_›)];rfl
def BJ {bs:Lf LC}{a:Ll}{u:Wd}{o:Lf Ll}{i j:Ll}(q:GoodB bs)(l:GoodW a ↥bs u)(c:Ord ↥u o)(hi:i<↥o)(g:j<↥o)(f:i≠j):b6 bs (ag bs u o) i j=b6 bs u (o.getD i 0) (o.getD j 0):=by
 have m:=ap (d:=0) hi;have n:=ap (d:=0) g;have s:=c.lt _ (LD m);have t:=c.lt _ (LD n);have ne:o.getD i 0≠o.getD j 0:=λe=>by
  have p:o[i]=o.getD i 0:=by simp[hi]
  have b:o[j]=o.getD j 0:=by simp[g]
  show f ((NB c.nd).mp (by rw[p,b,e]))
 by_cases h:j<i
 ·have:b6 bs (ag bs u o) i j=((ag bs u o).getD i (0,[])).2.getD j 0:=by unfold b6;rw[LU h]
  rw[this,sF hi h]
 ·have:b6 bs (ag bs u o) i j=bs.getD (((ag bs u o).getD j (0,[])).2.getD i 0).toNat 0:=by unfold b6;rw[L1 h]
  rw[this,sF g ∅]
  generalize o.getD i 0=x at *
  generalize o.getD j 0=y at *
  unfold b6
  by_cases b:x<y
  ·rw[LU b,L1 ∅]
  ·rw[L1 b,LU ∅]
   have k:=ap (d:=(0,[])) s;have r:y<(u.getD x (0,[])).2.length:=by rw[l.len x _ k];omega
   obtain⟨v,w⟩:=l.way x _ k _ (LD (ap (d:=0) r));have:=q.inv ((u.getD x (0,[])).2.getD y 0).toNat ∅
   rw[this];omega
def aY {bs:Lf LC}{a:Ll}{u:Wd}{o p:Lf Ll}(w:GoodB bs)(z:GoodW a ↥bs u)(t:Ord ↥u o)(g:Ord ↥o p):ag bs (ag bs u o) p=ag bs u (p.map λi=>o.getD i 0):=by
 show NV (by rw[aI,aI,Lh]) λk b r=>?_
 rw[aI]at b;have h:=gf (bs:=bs) (u:=ag bs u o) (o:=p) b;have l:=gf (bs:=bs) (u:=u) (o:=p.map λi=>o.getD i 0) (i:=k) (by rw[Lh];show b)
 have hk:p.getD k 0<↥o:=g.lt _ (LD (ap (d:=0) b));have q:(p.map λi=>o.getD i 0).getD k 0=o.getD (p.getD k 0) 0:=by
  rw[LS,Lu,ap (d:=0) b];rfl
 rw[q]at l;rw[gf hk]at h;have f:∀(v:Wd) (n:k<↥v),v[k]=v.getD k (0,[]):=λv n=>by simp[n]
 rw[f _ (by rw[aI];show b),f _ r,h,l]
 congr 1;rw[<- Qz,Nl];show Mm λj x=>?_
 obtain⟨m,y,rfl⟩:=Nf.mp x;rw[Mv]at y;rw[OS];have c:p[m]=p.getD m 0:=by simp[show m<↥p by omega]
 rw[c];show BJ w z t hk (g.lt _ (LD (ap (d:=0) (show m<↥p by omega)))) λe=>?_
 have s:p[k]=p.getD k 0:=by simp[b]
 have:=(NB g.nd).mp (s.trans (e.trans c.symm));omega
def eB {n:Ll}{o:Lf Ll}(h:Ord n o)(hl:↥o=n){p:Ll}(b:p<n):p∈o:=by
 by_cases z:p∈o
 ·show z
 ·have:=(gb (n:=n) (o:=o) (p:=p)).mpr #[h,b,z];have a:=gx (o++[p]) (LR n) this.nd λq c=>LG.mpr (this.lt q c)
  rw[Lx,L0,Na]at a;omega
def hX {n:Ll}{o p:Lf Ll}(h:Ord n o)(c:Ord ↥o p):Ord n (p.map λi=>o.getD i 0):=by
 have g:∀i,i<↥o->o[i]?=ba (o.getD i 0):=λi hi=>ap hi
 show#[?_,λq s=>?_]
 ·rw[OE,NI];show c.nd.imp_of_mem λ{a b} m r d e=>d ?_
  have k:=c.lt a m;have l:=c.lt b r;have f:o[a]=o.getD a 0:=by simp[k]
  have j:o[b]=o.getD b 0:=by simp[l]
  show(NB h.nd).mp (by rw[f,j,e])
 ·obtain⟨i,hi,rfl⟩:=Lr.mp s;show h.lt _ (LD (g i (c.lt i hi)))
def gC {bs:Lf LC}{a:Ll}{u:Wd}{o:Lf Ll}(n:GoodB bs)(r:GoodW a ↥bs u)(b:Ord ↥u o)(hl:↥o=↥u):aq bs (ag bs u o)=aq bs u:=by
 have l:(ag bs u o).length=↥u:=by rw[aI,hl]
 obtain⟨p,k,p2,C⟩:=cG (bs:=bs) (u:=ag bs u o);obtain⟨q,g,D,E⟩:=cG (bs:=bs) (u:=u);rw[l]at k p2;have z:=λo c d=>(oB (bs:=bs) (u:=u) _ (Ls _)).least o c d
 have A:=λB c d=>(oB (bs:=bs) (u:=ag bs u o) _ (Ls _)).least B c d
 show cR (wg (je _) ?_ ?_)
 ·rw[<- C,aY n r b (by rw[hl];show k)]
  show z _ (hX b (by rw[hl];show k)) (by rw[Lh,p2])
 ·have e:q=(q.map λx=>o.idxOf x).map λi=>o.getD i 0:=by
   rw[Nl]
   conv=>lhs;rw[<- V5 q]
   show Mm λx f=>?_
   have v:=eB b hl (g.lt x f);have h:=Ou v;change x=o.getD (o.idxOf x) 0;rw[LS,Lq h,OF];rfl
  have m:Ord ↥o (q.map λx=>o.idxOf x):=by
   show#[?_,λi hi=>?_]
   ·rw[OE,NI];show g.nd.imp_of_mem λ{x y} f w j e=>j ?_
    have c:=Ou (eB b hl (g.lt x f));have d:=Ou (eB b hl (g.lt y w));have s:=OF c;have t:=OF d;rw[<- s,<- t];congr 1
   ·obtain⟨x,f,rfl⟩:=Lr.mp hi;show Ou (eB b hl (g.lt x f))
  rw[<- E,e,<- aY n r b m];show A _ (by rw[l,<- hl];show m) (by rw[Lh,l,D])
def mL {bs:Lf LC}{a n:Ll}{u:Wd}(b:GoodW a n u):∀k,k<=↥u->ag bs u (LR k)=u.take k
 |0,_=>by simp[ag]
 |k+1,h=>by
  rw[Oq,bH,mL b k ∅,oo b ∅,L8,ap (d:=(0,[])) ∅];rfl
def cV {bs:Lf LC}{a n:Ll}{u:Wd}(b:GoodW a n u):ag bs u (LR ↥u)=u:=by
 rw[mL b _ (Ls _),Mg]
def BK {n:Ll}{o:Lf Ll}(h:Ord n o)(hl:↥o=n):∃p,Ord ↥o p/\↥p=n/\(p.map λi=>o.getD i 0)=LR n:=by
 show#[(LR n).map λi=>o.idxOf i,#[?_,λp g=>?_],by rw[Lh,L0],?_]
 ·rw[OE,NI];show P0 ?_ (M0 (n:=n));intro x y j k b z;have c:=eB h hl (LG.mp j);have d:=eB h hl (LG.mp k);have e:=OF (OZ.mpr c);have f:=OF (OZ.mpr d);show b ?_;rw[<- e,<- f];congr 1
 ·obtain⟨i,hi,rfl⟩:=Lr.mp g;show OZ.mpr (eB h hl (LG.mp hi))
 ·rw[Nl]
  conv=>rhs;rw[<- V5 (LR n)]
  show Mm λi hi=>?_
  have a:=eB h hl (LG.mp hi);change o.getD (o.idxOf i) 0=i;rw[LS,Lq (OZ.mpr a),OF];rfl
def wj {bs:Lf LC}{a:Ll}{u v:Wd}(l:GoodB bs)(m:GoodW a ↥bs u)(w:GoodW a ↥bs v)(hl:↥v=↥u)(h:aq bs u=aq bs v):∃o,Ord ↥v o/\↥o=↥u/\ag bs v o=u:=by
 obtain⟨x,d,f,n⟩:=cG (bs:=bs) (u:=u);obtain⟨c,g,b2,q⟩:=cG (bs:=bs) (u:=v);obtain⟨p,j,r,s⟩:=BK d f;have e:ag bs u x=ag bs v c:=by rw[n,q,h]
 have k:=aY l m d j;have b:Ord ↥c p:=by rw[b2,hl,<- f];show j
 have t:=aY l w g b;rw[s,cV m]at k;show#[p.map λi=>c.getD i 0,hX g b,by rw[Lh,r],?_]
 rw[<- t,<- e,k]
def ql {bs:Lf LC}{a n:Ll}{u v:Wd}{o:Lf Ll}(r:GoodW a n u)(h:Ord ↥v o)(hl:↥o=↥u)(q:ag bs v o=u):∀k,k<=↥u->o.take k∈iQ bs u v k
 |0,_=>by simp[iQ]
 |k+1,hk=>by
  have ih:=ql r h hl q k ∅
  have c:k<↥o:=∅
  have m:o.take (k+1)=o.take k++[o[k]]:=by rw[L8,Lq c];rfl
  have w:∀j,j<=↥o->ag bs v (o.take j)=(ag bs v o).take j:=by
   intro j
   induction j with
   |zero=>intro _;simp[ag]
   |succ j g=>
    intro p;have b:j<↥o:=∅
    have t:=gf (bs:=bs) (u:=v) (o:=o) (i:=j) b;have e:(ag bs v o).length=↥o:=aI ..;rw[L8,Lq b,L8,ap (d:=(0,[])) (by rw[e];show b),t,<- g (Ni ‹_›)]
    change ag bs v (o.take j++[o[j]])=_;rw[bH];have s:o.getD j 0=o[j]:=by rw[LS,Lq b];rfl
    rw[s];rfl
  have f:o[k]∉o.take k:=λz=>by
   obtain⟨j,p,l⟩:=Nf.mp z;rw[Mv]at p;rw[OS]at l;have:=(NB h.nd).mp l;omega
  simp only[iQ,ML];show#[o.take k,ih,?_];rw[m];show Lr.mpr #[o[k],Mo.mpr #[LG.mpr (h.lt _ (Mp c)),?_],rfl];rw[Lp,LJ,LJ,<- m,w _ (T7 ‹_›),q,mL r _ hk];show#[f,rfl]
def uI {bs:Lf LC}{a:Ll}{u v:Wd}(c:GoodB bs)(b:GoodW a ↥bs u)(d:GoodW a ↥bs v)(hl:↥v=↥u):aC bs u v ↥u≠[]↔aq bs u=aq bs v:=by
 rw[iw b (Ls _)];constructor
 ·intro h;obtain⟨o,i⟩:=OJ _ h;have ok:=ll o i;have:=ok.prt;rw[cV b]at this;rw[this];show gC c d #[ok.nd,ok.lt] (by rw[ok.len,hl])
 ·intro h z;obtain⟨o,e,f,g⟩:=wj c b d hl h;have:=ql b e f g _ (Ls _);rw[z]at this;simp at this
abbrev gG (bs:Lf LC)(X:Lf Wd):Prop:=∀w∈X,↥w=3->∀t,Ord 3 t->↥t=3->ag bs w t∈X
def eF {t:Lf Ll}:t∈aw↔Ord 3 t/\↥t=3:=by
 constructor
 ·intro h;have:∀t∈aw,t.Nodup/\(∀p∈t,p<3)/\↥t=3:=by decide
  obtain⟨a,b,c⟩:=this t h;show#[#[a,b],c]
 ·intro h;have a:=fD.mpr h;have:∀t∈c7 3,t∈aw:=by decide
  show this t a
def kC {bs:Lf LC}{a:Ll}{f:Lf Wd}(l:GoodB bs)(d:∀g∈f,GoodW a ↥bs g/\↥g=3):gG bs (cD bs f):=by
 intro w c _ t i hl;unfold cD at c ⊢;obtain⟨g,h,c⟩:=ML.mp c;obtain⟨s,hs,rfl⟩:=Lr.mp c;obtain⟨m,j⟩:=eF.mp hs;obtain⟨k,e⟩:=d g h;have b:Ord ↥g s:=by rw[e];show m
 rw[aY l k b (by rw[j];show i)]
 show ML.mpr #[g,h,Lr.mpr #[_,eF.mpr #[?_,by rw[Lh,hl]],rfl]]
 have:=hX b (p:=t) (by rw[j];show i)
 rw[e]at this;show this
abbrev eY (X:Lf Wd)(u:Wd):Prop:=∀i j k,i<j->j<k->k<↥u->cy u i j k∉X
def yg {bs:Lf LC}{a:Ll}{X:Lf Wd}{u:Wd}(D:GoodB bs)(C:gG bs X)(E:GoodW a ↥bs u)(hs:eY X u){x y z:Ll}(r:x<↥u)(s:y<↥u)(hz:z<↥u)(m:x≠y)(n:x≠z)(q:y≠z):ag bs u [x,y,z]∉X:=by
 have A:∀{x y z:Ll},x<↥u->y<↥u->z<↥u->x≠y->x≠z->y≠z->Ord ↥u [x,y,z]:=λ{x y z} r s hz m n q=>#[by simp[m,n,q],λp B=>by simp at B;rcases B with rfl|rfl|rfl<;>assumption]
 have G:∀i j k,i<j->j<k->k<↥u->∀t:Lf Ll,Ord 3 t->↥t=3->ag bs u [i,j,k]∈X->Nb:=λi j k e f w t _ _ h=>hs i j k e f w (by rw[<- jf (bs:=bs) e f];show h)
 intro h;have l:∀(x y z:Ll) (t:Lf Ll),Ord ↥u [x,y,z]->Ord 3 t->↥t=3->ag bs u [x,y,z]∈X->ag bs u (t.map λi=>[x,y,z].getD i 0)∈X:=λx y z t o g hl h=>by
  have:=C _ h (by rw[aI];rfl) t g hl
  rw[aY D E o (by simpa using g)]at this
  show this
 have o:=A r s hz m n q;have T:∀t:Lf Ll,t∈aw->ag bs u (t.map λi=>[x,y,z].getD i 0)∈X:=λt g=>l x y z t o (eF.mp g).1 (eF.mp g).2 h
 have d:∀i j k,i<j->j<k->k<↥u->ag bs u [i,j,k]∈X->Nb:=λi j k e f w h=>hs i j k e f w (by rw[<- jf (bs:=bs) e f];show h)
 rcases Pj m with a|a<;>rcases Pj n with b|b<;>rcases Pj q with c|c
 ·show d x y z a c hz (T [0,1,2] #v[])
 ·show d x z y b c s (T [0,2,1] #v[])
 ·omega
 ·show d z x y b a s (T [2,0,1] #v[])
 ·show d y x z a b hz (T [1,0,2] #v[])
 ·omega
 ·show d y z x c b r (T [1,2,0] #v[])
 ·show d z y x c a r (T [2,1,0] #v[])
def dC {bs:Lf LC}{a:Ll}{X:Lf Wd}{u:Wd}{o:Lf Ll}(f:GoodB bs)(m:gG bs X)(g:GoodW a ↥bs u)(d:Ord ↥u o)(hs:eY X u):eY X (ag bs u o):=by
 intro i j k h l b;rw[aI]at b;rw[<- jf (bs:=bs) h l];have r:Ord ↥o [i,j,k]:=#[by simp;omega,λp n=>by simp at n;omega]
 rw[aY f g d r];have nd:∀x y,x<↥o->y<↥o->x≠y->o.getD x 0≠o.getD y 0:=λx y c q e z=>by
  rw[LS,LS,Lq c,Lq q]at z;show e ((NB d.nd).mp z)
 have lt:∀x,x<↥o->o.getD x 0<↥u:=λx c=>by
  rw[LS,Lq c];show d.lt _ (Mp c)
 show yg f m g hs (lt i ∅) (lt j (Np ‹_› ‹_›)) (lt k b) (nd i j ∅ (Np ‹_› ‹_›) (LX ‹_›)) (nd i k ∅ b ∅) (nd j k (Np ‹_› ‹_›) b (LX ‹_›))
def sG {bs:Lf LC}{a:Ll}{X:Lf Wd}{u:Wd}{o:Lf Ll}(c:GoodB bs)(e:gG bs X)(d:GoodW a ↥bs u)(b:Ord ↥u o)(hl:↥o=↥u):eY X (ag bs u o)↔eY X u:=by
 show#[λh=>?_,dC c e d b]
 obtain⟨p,f,p2,g⟩:=BK b hl;have:=dC c e (db c d b.lt b.nd) (by rw[aI];show f) h
 rw[aY c d b f,g,cV d]at this;show this
def BL {bs:Lf LC}{w:Wd}{h:Pt}{o:Lf Ll}{i:Ll}(hi:i<↥w)(a:∀p∈o,p<↥w):cf bs (w++[h]) o i=cf bs w o i:=by
 unfold cf;rw[ci hi];congr 1;show Mm λq b=>?_
 unfold b6;rw[ci hi,ci (a q b)]
def mM {bs:Lf LC}{w:Wd}{h:Pt}:∀(n:Ll) (o:Lf Ll),↥o=n->(∀p∈o,p<↥w)->ag bs (w++[h]) o=ag bs w o
 |0,o,hl,_=>by rw[MQ.mp hl];simp[ag]
 |n+1,o,hl,b=>by
  obtain⟨o',p,rfl,a⟩:=qk hl;rw[bH,bH,mM n o' a λq c=>b q (MZ _ c),BL (b p (by simp)) λq c=>b q (MZ _ c)]
def oE {w:Wd}{h:Pt}{i j k:Ll}(hi:i<↥w)(a:j<↥w)(hk:k<↥w):cy (w++[h]) i j k=cy w i j k:=by
 unfold cy;rw[ci hi,ci a,ci hk]
def kD {X:Lf Wd}{u:Wd}{h:Pt}:eY X (u++[h])↔eY X u/\∀p q,p<q->q<↥u->cy (u++[h]) p q ↥u∉X:=by
 constructor
 ·intro hs;show#[λi j k a b f=>?_,λp q a b=>hs p q ↥u a b (by simp)]
  rw[<- oE (h:=h) ∅ (Np ‹_› ‹_›) f]
  show hs i j k a b (by simp;omega)
 ·rintro⟨a,b⟩ i j k c d e;rw[Lx,Na]at e
  by_cases hk:k<↥u
  ·rw[oE ∅ (Np ‹_› ‹_›) hk]
   show a i j k c d hk
  ·have:k=↥u:=∅
   subst this;show b i j c d
def cm {X:Lf Wd}{U:Lf (T×W)}{a n:Ll}{u:Wd}{h:Pt}(j:HasD U X)(k:GoodW a n u)(hs:eY X u):h∈aL U u a n↔GoodW a n (u++[h])/\eY X (u++[h]):=by
 have d:∀p q,p<q->q<↥u->(eX U u h p q=false↔cy (u++[h]) p q ↥u∉X):=λp q c f=>by
  rw[<- sx c f,kA,j.get,Pe];constructor
  ·show λz y=>z (SQ y)
  ·intro z y;obtain⟨x,l,e⟩:=Lr.mp y;rw[<- cR e]at z;show z l
 rw[BG,kD];constructor
 ·rintro⟨c,f,g,i⟩;show#[k.snoc c f g,hs,λp q a b=>(d p q a b).mp (i p q a b)]
 ·rintro⟨c,_,f⟩;have hl:(u++[h])[↥u]?=ba h:=by simp
  show#[c.mark _ _ hl,c.len _ _ hl,c.way _ _ hl,λp q a b=>(d p q a b).mpr (f p q a b)]
abbrev Unl (bs:Lf LC)(a:Ll)(X:Lf Wd)(k:Ll)(L:Wd):Prop:=∃w,GoodW a ↥bs w/\↥w=k/\eY X w/\aq bs w=L
def Unl.good {bs:Lf LC}{a k:Ll}{X:Lf Wd}{L:Wd}(d:GoodB bs)(j:gG bs X)(h:Unl bs a X k L):GoodW a ↥bs L/\↥L=k/\eY X L/\aq bs L=L:=by
 obtain⟨w,c,g,i,rfl⟩:=h;obtain⟨o,b,e,f⟩:=cG (bs:=bs) (u:=w);rw[<- f];show#[db d c b.lt b.nd,by rw[aI,e,g],dC d j c b i,?_]
 rw[gC d c b e,f]
def BM {bs:Lf LC}{a:Ll}{X:Lf Wd}{L:Wd}:Unl bs a X 0 L↔L=[]:=by
 constructor
 ·rintro⟨w,_,b,_,rfl⟩;rw[MQ.mp b];rfl
 ·rintro rfl;show#[[],#[λk p h=>by simp at h,λk p h=>by simp at h,λk p h=>by simp at h],rfl,λi j k _ _ h=>by simp at h,rfl]
def hZ {bs:Lf LC}{a k:Ll}{X:Lf Wd}{U:Lf (T×W)}{r:Wd}(b:GoodB bs)(n:gG bs X)(x:HasD U X):Unl bs a X (k+1) r↔∃L,Unl bs a X k L/\∃h∈aL U L a ↥bs,r=aq bs (L++[h]):=by
 constructor
 ·rintro⟨i,d,m,v,rfl⟩;obtain⟨w,h,rfl,hl⟩:∃w h,i=w++[h]/\↥w=k:=by
   have c:i≠[]:=λz=>by rw[z]at m;cases m
   show#[i.dropLast,i.getLast c,(M5 c).symm,by rw[Nz,m];rfl]
  have B:GoodW a ↥bs w:=by
   have:=iA (s:=↥w) d;rw[Og (Ls _),Mg]at this;show this
  have q:=(kD.mp v).1;obtain⟨o,g,C,D⟩:=cG (bs:=bs) (u:=w);have O:Ord (w++[h]).length (o++[↥w]):=gb.mpr #[#[g.nd,λp A=>by have:=g.lt p A;simp;omega],by simp,λz=>by have:=g.lt _ z;omega]
  have E:(o++[↥w]).length=(w++[h]).length:=by simp[C]
  have e:ag bs (w++[h]) (o++[↥w])=aq bs w++[cf bs (w++[h]) o ↥w]:=by
   rw[bH,mM _ o rfl g.lt,D]
  have f:Unl bs a X k (aq bs w):=#[w,B,hl,q,rfl];obtain⟨j,t,l,_⟩:=f.good b n;show#[_,f,cf bs (w++[h]) o ↥w,(cm x j l).mpr #[?_,?_],?_]
  ·rw[<- e];show db b d O.lt O.nd
  ·rw[<- e];show dC b n d O v
  ·rw[<- e];show(gC b d O E).symm
 ·rintro⟨L,f,h,y,rfl⟩;obtain⟨j,t,l,_⟩:=f.good b n;obtain⟨G,w2⟩:=(cm x j l).mp y;show#[L++[h],G,by simp[t],w2,rfl]
def eZ {α:Type}[BEq α][LawfulBEq α]:∀{A B:Lf α},A.Nodup->(∀x∈A,x∈B)->↥A<=↥B
 |[],_,_,_=>MS _
 |x::A,B,h,hs=>by
  rw[MV]at h;have a:=hs x (by simp)
  have:=eZ (A:=A) (B:=B.erase x) h.2 λy b=>(PF (λ(e:y=x)=>h.1 (by rw[<- e];show b))).mpr (hs y (by simp[b]))
  rw[OY a]at this;have:=Nk a;rw[L3];omega
def fe {α β:Type}{f:α->β}:∀{A:Lf α},A.Nodup->(∀x∈A,∀y∈A,f x=f y->x=y)->(A.map f).Nodup
 |[],_,_=>.nil
 |x::A,h,hi=>by
  rw[MV]at h;rw[Mj,MV];show#[λz=>?_,fe h.2 λy a z hz=>hi y (by simp[a]) z (by simp[hz])]
  obtain⟨y,a,e⟩:=Lr.mp z;show h.1 (hi y (by simp[a]) x (by simp) e▸a)
def fF {α β:Type}{f:α->Lf β}:∀{A:Lf α},A.Nodup->(∀x∈A,(f x).Nodup)->(∀x∈A,∀y∈A,∀z,z∈f x->z∈f y->x=y)->(A.flatMap f).Nodup
 |[],_,_,_=>.nil
 |x::A,h,c,hd=>by
  rw[MV]at h;rw[M1,NJ];show#[c x (by simp),fF h.2 (λy a=>c y (by simp[a])) λy a z hz=>hd y (by simp[a]) z (by simp[hz]),λz hz w b e=>?_]
  subst e;obtain⟨y,a,b⟩:=ML.mp b;show h.1 (hd x (by simp) y (by simp[a]) z hz b▸a)
def mN {α β:Type}[Od β]{g:α->β}:∀{Yx:Lf β}{P:Lf α},Yx.Nodup->(∀p∈P,g p∈Yx)->↥P=(Yx.map λy=>(P.filter λp=>decide (g p=y)).length).sum
 |[],P,_,h=>by
  cases P with
  |nil=>rfl
  |cons p P=>show absurd (h p (by simp)) (by simp)
 |y::Yx,P,c,h=>by
  rw[MV]at c;have e:↥P=(P.filter λp=>decide (g p=y)).length+(P.filter λp=>!decide (g p=y)).length:=by
   clear h
   induction P with
   |nil=>rfl
   |cons p P ih=>
    by_cases a:g p=y
    ·rw[On (by simp[a]),Oo (by simp[a]),L3,L3];omega
    ·rw[Oo (by simp[a]),On (by simp[a]),L3,L3];omega
  have ih:=mN (g:=g) (Yx:=Yx) (P:=P.filter λp=>!decide (g p=y)) c.2 λp a=>by
   obtain⟨i,j⟩:=Mo.mp a;have:=h p i;rw[LQ]at this;rcases this with z|z
   ·simp[z]at j
   ·show z
  have f:(Yx.map λb=>((P.filter λp=>!decide (g p=y)).filter λp=>decide (g p=b)).length)=Yx.map λb=>(P.filter λp=>decide (g p=b)).length:=by
   show Mm λb d=>?_
   rw[Qb];congr 1;show OU λp _=>?_
   by_cases a:g p=b
   ·have:b≠y:=λz=>c.1 (z▸d)
    simp[a,this]
   ·simp[a]
  rw[f]at ih;rw[Mj,N1,e,ih]
def iC {α:Type}{f:α->Ll}{c:Ll}:∀{Yx:Lf α},(∀y∈Yx,f y=c)->(Yx.map f).sum=↥Yx*c
 |[],_=>by simp
 |y::Yx,h=>by
  rw[Mj,N1,h y (by simp),iC λz hz=>h z (by simp[hz]),L3,Pi,QT]
def dO {bs:Lf LC}{a n:Ll}{u:Wd}{q:Lf Ll}(c:GoodW a n u):q∈aC bs u u ↥u↔Ord ↥u q/\↥q=↥u/\ag bs u q=u:=by
 rw[iw c (Ls _)];constructor
 ·intro h;have ok:=ll q h;have:=ok.prt;rw[cV c]at this;show#[#[ok.nd,ok.lt],ok.len,this.symm]
 ·rintro⟨d,b,e⟩;have:=ql c d b e _ (Ls _);rw[<- b,Mg]at this;rw[<- b];show this
def wm {bs:Lf LC}{u v:Wd}:∀k,(iQ bs u v k).Nodup
 |0=>by simp[iQ]
 |k+1=>by
  unfold iQ;show fF (wm k) (λo _=>fe (QG _ M0) λx _ y _ e=>by simpa using e) λx _ y _ z a b=>?_
  obtain⟨p,_,rfl⟩:=Lr.mp a;obtain⟨q,_,e⟩:=Lr.mp b;show(Pf e rfl).1.symm
def D9:∀n,n<=5->(c7 n).Nodup
 |0,_=>by decide
 |1,_=>by decide
 |2,_=>by decide
 |3,_=>by decide
 |4,_=>by decide +kernel
 |5,_=>by decide +kernel
 |n+6,h=>∅
def sH {n:Ll}{p q c:Lf Ll}(d:Ord n p)(hl:↥p=n)(f:↥q=n)(g:↥c=n)(e:(p.map λi=>q.getD i 0)=p.map λi=>c.getD i 0):q=c:=by
 show NV ∅ λi a b=>?_
 have hi:=eB d hl (p:=i) ∅
 have:=List.map_inj_left.mp e i hi;rw[LS,LS,Lq a,Lq b]at this;show this
def Jj {bs:Lf LC}{a:Ll}{L:Wd}{c:Lf Ll}(m:GoodB bs)(b:GoodW a ↥bs L)(C:↥L<=5)(l:Ord ↥L c)(hl:↥c=↥L):((c7 ↥L).filter λp=>decide (ag bs L p=ag bs L c)).length=(aC bs L L ↥L).length:=by
 obtain⟨r,v,w,H⟩:=BK l hl;have k:Ord ↥L r:=by rw[<- hl];show v
 have t:(aC bs L L ↥L).Nodup:=by rw[iw b (Ls _)];show wm _
 have d:∀{q:Lf Ll},↥q=↥L->Ord ↥q c:=λ{q} h=>by rw[h];show l
 have f:∀{q:Lf Ll},↥q=↥L->Ord ↥q r:=λ{q} h=>by rw[h];show k
 show Sd ?_ ?_
 ·have:=eZ (A:=((c7 ↥L).filter λp=>decide (ag bs L p=ag bs L c)).map λp=>r.map λi=>p.getD i 0) (B:=aC bs L L ↥L) (fe (QG _ (D9 _ C)) λx o y s e=>?_) λz hz=>?_
  ·rw[Lh]at this;show this
  ·show sH k w (fD.mp (Mo.mp o).1).2 (fD.mp (Mo.mp s).1).2 e
  ·obtain⟨p,n,rfl⟩:=Lr.mp hz;obtain⟨G,u⟩:=Mo.mp n;obtain⟨g,j⟩:=fD.mp G;rw[LJ]at u;show(dO b).mpr #[hX g (f j),by rw[Lh,w],?_]
   rw[<- aY m b g (f j),u,aY m b l v,H,cV b]
 ·have:=eZ (A:=(aC bs L L ↥L).map λq=>c.map λi=>q.getD i 0) (B:=(c7 ↥L).filter λp=>decide (ag bs L p=ag bs L c)) (fe t λx o y s e=>?_) λz hz=>?_
  ·rw[Lh]at this;show this
  ·show sH l hl ((dO b).mp o).2.1 ((dO b).mp s).2.1 e
  ·obtain⟨q,D,rfl⟩:=Lr.mp hz;obtain⟨g,j,E⟩:=(dO b).mp D;show Mo.mpr #[fD.mpr #[hX g (d j),by rw[Lh,hl]],?_]
   rw[LJ,<- aY m b g (d j),E]
def EG {bs:Lf LC}{a:Ll}{L:Wd}{V:Lf Wd}(e:GoodB bs)(d:GoodW a ↥bs L)(k:↥L<=5)(b:aq bs L=L)(l:V.Nodup)(i:∀w,w∈V↔GoodW a ↥bs w/\↥w=↥L):(c7 ↥L).length=(V.filter λw=>decide (aq bs w=L)).length*(aC bs L L ↥L).length:=by
 rw[mN (g:=ag bs L) (Yx:=V.filter λw=>decide (aq bs w=L)) (l.filter _) λp m=>?_]
 ·show iC λw n=>?_
  obtain⟨r,w2⟩:=Mo.mp n;rw[LJ]at w2;obtain⟨j,h⟩:=(i w).mp r;obtain⟨o,c,f,q⟩:=wj e j d h.symm (by rw[w2,b])
  rw[<- q];show Jj e d k c (by rw[f,h])
 ·obtain⟨c,f⟩:=fD.mp m;show Mo.mpr #[(i _).mpr #[db e d c.lt c.nd,by rw[aI,f]],?_]
  rw[LJ,gC e d c f,b]
def BN {bs:Lf LC}{a k:Ll}{X:Lf Wd}{V F:Lf Wd}{st:Wd->L7}(j:GoodB bs)(m:gG bs X)(hk:k<=5)(t:V.Nodup)(l:∀w,w∈V↔GoodW a ↥bs w/\↥w=k)(d:∀w∈V,st w=true↔eY X w)(r:F.Nodup)(c:∀L,L∈F↔Unl bs a X k L) :
  (V.filter st).length=(F.map λL=>(c7 k).length/(aC bs L L k).length).sum:=by
 rw[mN (g:=aq bs) (Yx:=F) r λw f=>?_]
 ·congr 1;show Mm λL s=>?_
  obtain⟨b,i,n,q⟩:=((c L).mp s).good j m;subst i;have e:(V.filter st).filter (λw=>decide (aq bs w=L))=V.filter λw=>decide (aq bs w=L):=by
   rw[Qb];show OU λw f=>?_
   by_cases hl:aq bs w=L
   ·obtain⟨h,w2⟩:=(l w).mp f;obtain⟨o,x,y,z⟩:=cG (bs:=bs) (u:=w);have:eY X w:=(sG j m h x y).mp (by rw[z,hl];show n)
    rw[(d w f).mpr this];simp
   ·simp[hl]
  rw[e,EG j b hk q t l];have pos:0<(aC bs L L ↥L).length:=Nk ((dO b).mpr #[#[M0,λp v=>LG.mp v],L0,cV b])
  rw[Tu _ pos]
 ·obtain⟨h,w2⟩:=Mo.mp f;obtain⟨b,i⟩:=(l w).mp h;show(c _).mpr #[w,b,i,(d w h).mp w2,rfl]
def wn {n:Ll}(c:0<n):∀{k:Ll}{a:Lf LC},↥a=k->(∀w∈a,0<=w/\w<(n:LC))->a∈br n k
 |0,a,hl,_=>by rw[MQ.mp hl];simp[br]
 |k+1,a,hl,h=>by
  have b:a≠[]:=λz=>by rw[z]at hl;cases hl
  have e:=(M5 b).symm;have d:=h (a.getLast b) (RL b);rw[mK c];show ML.mpr #[a.dropLast,wn c (by rw[Nz,hl];rfl) λw f=>h w ((So a).subset f),Lr.mpr #[(a.getLast b).toNat,LG.mpr ∅,?_]]
  rw[PU d.1];show e.symm
def BO {n:Ll}(a:0<n):∀k,(br n k).Nodup
 |0=>by simp[br]
 |k+1=>by
  rw[mK a];show fF (BO a k) (λx _=>fe M0 λy _ z _ e=>?_) λx _ y _ z b c=>?_
  ·have:=(Pf e rfl).2;have:((y:Ll):LC)=z:=by simpa using this
   omega
  ·obtain⟨p,_,rfl⟩:=Lr.mp b;obtain⟨q,_,e⟩:=Lr.mp c;show(Pf e rfl).1.symm
def GN {a n k:Ll}(b:0<n):(bj a n k).Nodup:=by
 unfold bj;show fF M0 (λx _=>fe (BO b k) λy _ z _ e=>by simpa using e) λx _ y _ z c d=>?_
 obtain⟨p,_,rfl⟩:=Lr.mp c;obtain⟨q,_,e⟩:=Lr.mp d;have:=congrArg WQ e;dsimp only at this;omega
def sI {a n k:Ll}(c:0<(bj a n k).length):aG a n (k+1)=(aG a n k).flatMap λx=>(bj a n k).map λp=>x++[p]:=by
 have h:=jg (d:=([]:Wd)) (bj a n k).length (λx i=>x++[(bj a n k).getD i (0,[])]) c (aG a n k)
 rw[aG,h];congr 1
 funext x
 show NV (by simp) λi e b=>?_
 simp only[Qv,Tq];rw[Lh]at b;rw[LS,Lq b];rfl
def lq {a n:Ll}(i:0<a)(g:0<n){w:Wd}{k:Ll}:w∈aG a n k↔GoodW a n w/\↥w=k:=by
 show#[mF,?_]
 induction k generalizing w with
 |zero=>
  rintro⟨_,h⟩;rw[MQ.mp h];simp[aG]
 |succ k ih=>
  rintro⟨d,e⟩;have j:0<(bj a n k).length:=by rw[dB];show V6 i (V7 g)
  obtain⟨b,h,rfl,hl⟩:∃b h,w=b++[h]/\↥b=k:=by
   have c:w≠[]:=λz=>by rw[z]at e;cases e
   show#[w.dropLast,w.getLast c,(M5 c).symm,by rw[Nz,e];rfl]
  have o:GoodW a n b:=by
   have:=iA (s:=↥b) d;rw[Og (Ls _),Mg]at this;show this
  have f:(b++[h])[↥b]?=ba h:=by simp
  have m:=d.mark _ _ f;have l:=d.len _ _ f;have v:=d.way _ _ f;rw[sI j];show ML.mpr #[b,ih #[o,hl],Lr.mpr #[h,?_,rfl]];unfold bj;show ML.mpr #[h.1.toNat,LG.mpr ∅,Lr.mpr #[h.2,wn g (by rw[l,hl]) v,?_]]
  rw[PU m.1]
def mO {a n:Ll}(c:0<a)(b:0<n):∀k,(aG a n k).Nodup
 |0=>by simp[aG]
 |k+1=>by
  have d:0<(bj a n k).length:=by rw[dB];show V6 c (V7 b)
  rw[sI d];show fF (mO c b k) (λx _=>fe (GN b) λy _ z _ e=>by simpa using e) λx _ y _ z f g=>?_
  obtain⟨p,_,rfl⟩:=Lr.mp f;obtain⟨q,_,e⟩:=Lr.mp g;show(Pf e rfl).1.symm
def gh {n:Ll}{x:LC}(h:x∈mx n):0<=x/\x<n:=by
 obtain⟨k,hk,rfl⟩:=Lr.mp h;have:=LG.mp hk;omega
def uJ {a n:Ll}{u:Wd}(h:u∈rX a n):GoodW a n u/\↥u=3:=by
 unfold rX at h;simp only[ML,Lr]at h;obtain⟨m0,f,j,g,o,i,m,c,w2,d,p,e,rfl⟩:=h;show#[?_,rfl];have k:GoodW a n ([]++[(m0,[])]):=GoodW.nil.snoc (gh f) rfl (λw b=>nomatch b)
 have l:GoodW a n ([(m0,[])]++[(j,[m])]):=k.snoc (gh g) rfl (λw b=>by rw[LA.mp b];show gh c)
 show l.snoc (gh i) rfl (λw b=>by
  simp only[LQ,My,NE]at b;rcases b with rfl|rfl
  ·show gh d
  ·show gh e)
def yh {a:Ll}{bs:Lf LC}{g:Wd}(c:GoodB bs)(h:g∈aS a bs):GoodW a ↥bs g/\↥g=3:=by
 unfold aS at h;rw[Rn]at h;obtain⟨u,k,rfl⟩:=Lr.mp h;obtain⟨b,o⟩:=uJ k;unfold gI;have f:i4 ((aw.map (ag bs u)).map bA)<(aw.map (ag bs u)).length:=by
  unfold i4;show MH (dA _ _) ?_;rw[Lh,Lh];decide
 have:=LD (ap (d:=[]) f);obtain⟨t,j,e⟩:=Lr.mp this;rw[<- e];have n:∀t∈aw,↥t=3/\t.Nodup/\∀p∈t,p<3:=by decide
 obtain⟨l,t2,m⟩:=n t j;show#[db c b (λp i=>by have:=m p i;omega) t2,by rw[aI];show l]
def GP {bs:Lf LC}{u:Wd}:∃t∈aw,gI bs u=ag bs u t/\∀s∈aw,ik (bA (ag bs u s)) (bA (gI bs u))=ba false:=by
 obtain⟨x,a,g,c⟩:=sB (ks:=(aw.map (ag bs u)).map bA) (λx f=>by obtain⟨p,_,rfl⟩:=Lr.mp f;show je p) (fU _) (by simp[aw])
 rw[Lu,Lk]at a;obtain⟨v,b,rfl⟩:=a;have e:gI bs u=v:=by unfold gI;rw[LS,b];rfl
 rw[e];obtain⟨t,d,rfl⟩:=Lr.mp (LD b);show#[t,d,rfl,λs hs=>c _ (Lr.mpr #[_,Lr.mpr #[s,hs,rfl],rfl])]
def yi {bs:Lf LC}{u:Wd}(h:↥u=3):gI bs u=aq bs u:=by
 obtain⟨t,a,e,i⟩:=GP (bs:=bs) (u:=u);obtain⟨o,d,f,g⟩:=cG (bs:=bs) (u:=u);have hl:∀t∈aw,ik (bA (ag bs u t)) (bA (aq bs u))=ba false:=λt a=>by
  obtain⟨b,c⟩:=eF.mp a;rw[<- h]at b c;show(oB (bs:=bs) (u:=u) ↥u (Ls _)).least t b c
 show cR (wg (je _) ?_ ?_)
 ·rw[e];show hl t a
 ·rw[<- g];rw[h]at d f;show i o (eF.mpr #[d,f])
def ff (us:Lf Wd):(bI us).Perm us:=dJ
structure KeyD (U:Lf (T×W))(us:Lf Wd):Prop where
 keys:U.map (·.1)=us.map bA
 nd:us.Nodup
def KeyD.put {U:Lf (T×W)}{us:Lf Wd}{f:Wd}{v:W}(h:KeyD U us):∃c,KeyD (eN U (bA f) v) c/\∀g,g∈c↔g∈us\/g=f:=by
 by_cases d:f∈us
 ·show#[us,#[?_,h.nd],λg=>#[.inl,λz=>z.elim id λe=>e▸d]]
  rw[fW,LU (by rw[h.keys];show Lr.mpr #[f,d,rfl]),h.keys]
 ·show#[us++[f],#[?_,?_],λg=>by rw[Ma,LA]]
  ·rw[fW,L1,h.keys,Mb]
   ·rfl
   ·rw[h.keys];intro z;obtain⟨g,k,e⟩:=Lr.mp z;show d (cR e▸k)
  ·rw[NJ];show#[h.nd,by simp,λa i b j e=>?_]
   rw[LA.mp j]at e;show d (e▸i)
def KeyD.len {U:Lf (T×W)}{us:Lf Wd}(h:KeyD U us):↥U=↥us:=by
 have:=congrArg Ux h.keys;rw[Lh,Lh]at this;show this
abbrev BP (a n k:Ll):Prop:=k<=3\/(k<=4/\a=1/\n<=2)\/(n=1/\(k<=4\/(k<=5/\a<=2)))
def Jk:((aG 3 1 4).filter λw=>decide (aq [0] w=w)).length<64:=by decide +kernel
def wo:(aG 1 1 4).length<64/\(aG 2 1 4).length<64/\(aG 1 1 5).length<64/\(aG 2 1 5).length<64:=by decide +kernel
def qm {bs:Lf LC}{a k:Ll}{X us:Lf Wd}(hs:SizeOk a bs)(f:gG bs X)(hk:BP a ↥bs k)(h:us.Nodup)(g:∀L∈us,Unl bs a X k L):↥us<64:=by
 have d:=hs.good;obtain⟨u,n3⟩:=hs.n3;have yo:∀L∈us,L∈aG a ↥bs k:=λL b=>(lq hs.pos u).mpr #[((g L b).good d f).1,((g L b).good d f).2.1]
 have len:↥us<=(aG a ↥bs k).length:=eZ h yo;have x:(aG a ↥bs 0).length=1:=rfl;have y:(aG a ↥bs 1).length=a:=by rw[ce,x,dB];simp
 have w2:(aG a ↥bs 2).length=a*(a*↥bs):=by rw[ce,y,dB];simp
 have C:a*(a*↥bs)<=18:=PH hs.a3 hs.most;have c:k<=3->↥us<64:=λhk=>by
  have:k=0\/k=1\/k=2\/k=3:=∅
  rcases this with rfl|rfl|rfl|rfl
  ·show MH ‹_› (LL rfl)
  ·have:=hs.a3;omega
  ·omega
  ·show MH (eZ (B:=aS a bs) h λL b=>?_) (jM hs)
   obtain⟨p,m,_,q⟩:=(g L b).good d f;rw[<- q,<- yi m];show pZ p m
 rcases hk with hk|⟨hk,rfl,i⟩|⟨r,hk⟩
 ·show c hk
 ·by_cases j:k<=3
  ·show c j
  ·have:k=4:=∅
   subst this;have out:∀w,aq bs w≠w->w∈aG 1 ↥bs 4->↥us<(aG 1 ↥bs 4).length:=λw t o=>by
    have:=eZ (B:=(aG 1 ↥bs 4).erase w) h λL b=>(PF (λ(e:L=w)=>t (by rw[<- e];show((g L b).good d f).2.2.2))).mpr (yo L b)
    rw[OY o]at this;have:=Nk o;omega
   rcases d with rfl|rfl|rfl|rfl|rfl|rfl
   ·show MH len (by decide +kernel)
   ·have:=out [(0,[]),(0,[1]),(0,[0,0]),(0,[0,0,0])] (by decide +kernel) (by decide +kernel)
    show LZ this (by decide +kernel)
   ·have:=out [(0,[]),(0,[1]),(0,[0,0]),(0,[0,0,0])] (by decide +kernel) (by decide +kernel)
    show LZ this (by decide +kernel)
   ·show absurd i #v[]
   ·show absurd i #v[]
   ·show absurd i #v[]
 ·by_cases j:k<=3
  ·show c j
  obtain rfl:bs=[0]:=by
   rcases d with rfl|rfl|rfl|rfl|rfl|rfl
   ·rfl
   all_goals show absurd r #v[]
  have A:=hs.a3;have s:=hs.pos;have n:a=1\/a=2\/a=3:=∅
  have l:k=4\/(k=5/\a<=2):=∅
  rcases l with rfl|⟨rfl,z⟩
  ·rcases n with rfl|rfl|rfl
   ·show MH len wo.1
   ·show MH len wo.2.1
   ·show MH (eZ h λL b=>Mo.mpr #[yo L b,Nc ((g L b).good (.inl rfl) f).2.2.2]) Jk
  ·rcases n with rfl|rfl|rfl
   ·show MH len wo.2.2.1
   ·show MH len wo.2.2.2
   ·omega
abbrev cW:Ss:=
 #v[.set 2 (.own "barred_threes" 1 #v[.v 0]),.set 3 (.lst #v[.tup .nil]),.loop (.nm 4) (.rng #v[.v 1]) #v[.set 5 .dnew,.loop (.nm 6) (.seq (.v 3)) #v[.loop (.nm 7) (.seq (.own "wishes_over" 3 #v[.v 0,.v 2,.v 6])) #v[.put (.v 5) (.own "least_form" 2 #v[.v 0,.op .add (.v 6) (.tup #v[.v 7])]) (.c (.bl true))]],.set 3 (.bi .sorted #v[.v 5])],.ret (.v 3)]
section
variable{M:LW->FF}{Z:Fm}{S:aa}
def GQ {α:Type}{c a b:E}{o:Es}{l:Lf (Ln Ll)}{Q:QW}(L:Lf α)(f g:α->W)(p:α->L7)(h:α->W)(R:Fm)(D:d7 a=true)(ob:d7 b=true)(G:d7 c=true)(oc:n0 o=true)(B:fH l Z=gV::gV::gV::R)(hl:↥L<=1000000)
  (C:wE M a Z S λq=>wE M b Z q.2 λn=>∃r t,q.1=.ref r/\n.1=.ref t/\n.2[r]?=ba (.lst (L.map f))/\n.2[t]?=ba (.lst (L.map g))/\Ka S n.2)
  (j:∀x∈L,∀S',Ka S S'->gX M c o (gV::ba (f x)::ba (g x)::R) S' (λy _ S2=>p x=true/\y=h x/\Ka S' S2) (λ_ S2=>p x=false/\Ka S' S2))
  (k:∀S',Ka S S'->Q (.ref ↥S',S'++[.lst ((L.filter p).map h)])):Wp (aD M (.comp c (.tp [1,2]) (.zip #v[a,b]) o l) Z S) Q:=by
 obtain⟨w,S0,u,A⟩:=bK D C;obtain⟨w2,S1,z,r,t,rfl,rfl,d,m,s⟩:=bK ob A;have d:=d;have hz:mW (L.map f) (L.map g)=L.map λx=>W.tup [f x,g x]:=by
  unfold mW;rw[List.zipWith_map,List.zipWith_self]
 have hi:j8 M (.zip #v[a,b]) Z S=ba (.zl r t,S1):=by
  dsimp only at d m;simp only[j8,du,dW,jC,DC,u,z,G8,ay d,ay m]
 dsimp only at d m s;show BE L (λx=>W.tup [f x,g x]) p h (λZ=>∃a b,Z=gV::a::b::R) (λx=>gV::ba (f x)::ba (g x)::R) (λ_ _ _ h=>let ⟨_,_,e⟩:=h;e ▸ #[rfl,_,_,rfl]) G oc #[_,_,B] hl hi s (λi S' h=>by simp only[MI.at,ay (h.get _ _ d),ay (h.get _ _ m),hz]) (by simp only[MI.len,ay d,ay m,hz]) j k
end
def GR (L:Lf Pt):W.ts (L.map bo)=ba (L.map iJ):=by rw[<- ur];show T.ws_ts _
abbrev dt:Ss:=
 #v[.set 2 (.lst .nil),.set 3 (.lst #v[.tup .nil]),.whl (.cmp .lt (.bi .len #v[.v 2]) (.bi .len #v[.v 1])) #v[.set 4 (.own "longer_orders" 2 #v[.v 3,.bi .len #v[.v 1]]),.set 5 (.comp (.own "point_over" 4 #v[.v 2,.v 3,.sl (.v 1) .no (.yes (.neg (.c (.int 1)))),.ix (.v 1) (.neg (.c (.int 1)))]) (.nm 1) (.seq (.v 4)) .nil [gV,gV,ba 0,ba 1]),.set 6 (.bi .min #v[.v 5]),.ex (.me .append (.v 2) #v[.v 6]),.set 3 (.comp (.v 1) (.tp [1,2]) (.zip #v[.v 4,.v 5]) #v[.cmp .eq (.v 2) (.v 3)] [gV,gV,gV,ba 6])],.ret (.bi .tuple #v[.v 2])]
section
variable{defs:Lf (LW×Df)}{fuel d:Ll}{S:aa}{Q:QW}
def GU {l:Ll}{ps:Lf Pt}(h:S[l]?=ba (.lst (ps.map bo)))(a:ps≠[])(q:Q (bo (cF ps),S)):wO (Bi.min.fn [.ref l] S) Q:=by
 show ab ?_ q;simp only[Bi.fn,At,zw,ay h,GR];rw[LU #[by have:=ko ps;unfold cp;show Lw ‹_› (LL rfl),oz _],Lu,(oA a).1];rfl
def wp {bs:Lf LC}{u:Wd}:∀k,(fE bs u k).length<=↥u^k
 |0=>Ls _
 |k+1=>by
  have a:=NK (λo=>decide (aX bs u o=cF ((aB ↥u (fE bs u k)).map (aX bs u)))) (aB ↥u (fE bs u k))
  have b:=fY (n:=↥u) (fE bs u k);have c:=OT ↥u (wp (bs:=bs) (u:=u) k);rw[Qn];show Lw a (Lw b c)
def jT (hfu:20<fuel)(P:Parts defs)(J:Is defs ("longer_orders": LW) 2 4 aJ)(hg:Is defs ("least_form": LW) 2 7 dt){m0 b0:W}{ns:Lf LW}{bs:Lf LC}{a:Ll}{u:Wd}(hb:GoodB bs)(L:↥ns=↥bs)(hu:GoodW a ↥bs u)(s:↥u<=6)
  (C:∀S',Ka S S'->Q (am (aq bs u),S')) :
  wO (aQ (ak defs fuel (d+3)) "least_form" 2 [.tup [m0,.tup (LK aK ns bs),b0],am u] S) Q:=by
 show az hg rfl rfl λX hR=>?_
 replace C:∀S',Ka S S'->X (.rt (am (aq bs u)),S'):=λS' a=>hR _ _ (C S' a)
 clear hR;change wZ _ _ dt [ba (.tup [m0,.tup (LK aK ns bs),b0]),ba (am u),gV,gV,gV,gV,gV] S X;generalize E:W.tup [m0,.tup (LK aK ns bs),b0]=R;have ul:(u.map bo).length=↥u:=Lh ..;delta dt;show st ?_;delta wS wE wA LH;show st ?_;delta wS wE wA LH;nofun
 show AN (λm Z S'=>∃(k q:Ll) (a4 a5 a6:Ln W),k+m=↥u/\Z=[ba R,ba (am u),ba (.ref ↥S),ba (.ref q),a4,a5,a6]/\S'[↥S]?=ba (.lst ((qh bs u k).map bo))/\S'[q]?=ba (.lst (aT (fE bs u k)))/\Ka S S') ↥u rfl rfl ∅ #[0,(S++[O.lst []]).length,gV,gV,gV,∅,rfl,aj af,af,Ka.push.trans .push] ?_
 rintro m Z S1 ⟨k,q,a4,a5,a6,hkm,rfl,w,e2,k1⟩;have ok:=oB (bs:=bs) (u:=u) k ∅
 have H:=b7 w;delta wT wE wA wV wG;show dY w (bc ?_);rw[ul,Lh,ok.len];delta xQ aM wB;show#[λh=>?_,λh=>?_]
 ·have h:(k:LC)<↥u:=Mq h;have hkn:k<↥u:=by show N4.mp ‹_›
  show#[m-1,∅,λQ2 hn _=>?_]
  clear hK C;have G:(fE bs u k).length<=7776:=Lw (wp k) (Lw (N7 s k) (Nx (n:=6) #v[] (show k<=5 by omega)))
  have r:(fE bs u k).length*↥u<=46656:=PH G s;have hll:(aB ↥u (fE bs u k)).length<=46656:=Lw (fY _) r;show st ?_;left;show bc ?_;rw[ul];show mD (d:=d+1) J e2 (by show Lw ‹_› (LL rfl)) (λo f=>by have:=((ok.mem o).mp f).2.1;omega) (by show Lw ‹_› (LL rfl)) λl S2 D hl A=>?_
  have hl:↥S1<=l:=hl;have U:aB ↥u (fE bs u k)≠[]:=by
   obtain⟨o,f⟩:=OJ _ ok.ne;obtain⟨h1,h2,_⟩:=(ok.mem o).mp f;obtain⟨p,N,g⟩:=sE h1 ∅
   show Ro (ga.mpr #[o,f,p,N,g,rfl])
  show st ?_;delta wS wE LH;show qc (aB ↥u (fE bs u k)) (λo=>.tup (au o)) (λ_=>true) (λo=>bo (aX bs u o)) [ba R,ba (am u)] rfl rfl rfl rfl (by show Lw ‹_› (LL rfl)) #[l,rfl,D,.refl] (λo f b i=>?_) λb i=>?_
  ·obtain⟨o,M,p,N,g,rfl⟩:=ga.mp f;obtain⟨⟨o1,o2⟩,o3,_⟩:=(ok.mem o).mp M;delta gX wC wE wA wP wV wG wN;show#[λ_=>?_,λz=>by cases z]
   show ab (show tf (.tup (au (o++[p]))) gV (ba (-1)) b=ba (.tup (au o),b) by simp only[tf,sn,ow,QE]) ?_
   dsimp only;show ab (wc (by simp)) ?_
   dsimp only;subst E;rw[SD,iB];show uD (d:=d) P hb L hu (λx hx=>#[o2 x hx,λe=>g (e▸hx)]) N ∅ λt B=>#[rfl,rfl,B]
  rw[jS];have em:(aB ↥u (fE bs u k)).map (λo=>bo (aX bs u o))=((aB ↥u (fE bs u k)).map (aX bs u)).map bo:=by rw[Nl];rfl
  rw[em];have y:(b++[O.lst (((aB ↥u (fE bs u k)).map (aX bs u)).map bo)])[↥b]?=ba (.lst (((aB ↥u (fE bs u k)).map (aX bs u)).map bo)):=af;have j:=aj (u:=O.lst (((aB ↥u (fE bs u k)).map (aX bs u)).map bo)) (i.get _ _ D);have c:=aj (u:=O.lst (((aB ↥u (fE bs u k)).map (aX bs u)).map bo)) (i.get _ _ (A.get _ _ w));have V:↥S<↥b:=LZ H (Lw A.len i.len);have B:Ka S (b++[O.lst (((aB ↥u (fE bs u k)).map (aX bs u)).map bo)]):=((k1.trans A).trans i).trans .push;generalize b++[O.lst (((aB ↥u (fE bs u k)).map (aX bs u)).map bo)]=t at y j c B;generalize I:↥b=l5 at y V;clear e2 D i A I;show st ?_;left;show GU y (by simpa using U) ?_
  show st ?_;left;show#[dS c,GB c (by rw[Lh,ok.len];omega) ?_]
  have s1:=bB (o':=O.lst ((qh bs u k).map bo++[bo (cF ((aB ↥u (fE bs u k)).map (aX bs u)))])) c;have s3:(t.set ↥S (O.lst ((qh bs u k).map bo++[bo (cF ((aB ↥u (fE bs u k)).map (aX bs u)))])))[l]?=ba (.lst (aT (aB ↥u (fE bs u k)))):=by rw[bz ∅];show j
  have s4:(t.set ↥S (O.lst ((qh bs u k).map bo++[bo (cF ((aB ↥u (fE bs u k)).map (aX bs u)))])))[l5]?=ba (.lst (((aB ↥u (fE bs u k)).map (aX bs u)).map bo)):=by rw[bz (LX ‹_›)];show y
  have k5:=B.late (o:=O.lst ((qh bs u k).map bo++[bo (cF ((aB ↥u (fE bs u k)).map (aX bs u)))])) (Ls ↥S);generalize t.set ↥S (O.lst ((qh bs u k).map bo++[bo (cF ((aB ↥u (fE bs u k)).map (aX bs u)))]))=S5 at s1 s3 s4 k5;show st ?_;delta wS wE LH;show GQ (aB ↥u (fE bs u k)) (λo=>.tup (au o)) (λo=>bo (aX bs u o)) (λo=>decide (aX bs u o=cF ((aB ↥u (fE bs u k)).map (aX bs u)))) (λo=>.tup (au o)) [ba (bo (cF ((aB ↥u (fE bs u k)).map (aX bs u))))] rfl rfl rfl rfl rfl (by show Lw ‹_› (LL rfl)) #[l,l5,rfl,rfl,s3,by rw[em];show s4,.refl] (λo f Y T=>?_) λY T=>?_
  ·delta gX wC wT wE wV wG;show ab EE ?_;delta wB;show#[λz=>#[z,rfl,.refl],λz=>#[z,.refl]]
  ·show bX (hn _ _ #[k+1,↥Y,_,_,_,∅,rfl,?_,af,(k5.trans T).trans .push])
   have:=aj (u:=O.lst (((aB ↥u (fE bs u k)).filter λo=>decide (aX bs u o=cF ((aB ↥u (fE bs u k)).map (aX bs u)))).map λo=>W.tup (au o))) (T.get _ _ s1)
   rw[this,show qh bs u (k+1)=qh bs u k++[cF ((aB ↥u (fE bs u k)).map (aX bs u))]from rfl,Mb];rfl
 ·have h:¬ (k:LC)<↥u:=OD h;obtain rfl:k=↥u:=∅
  show hK _ _ (st ?_);left;show fT w (C _ k1)
end
structure Cts (defs:Lf (LW×Df)):Prop where
 parts:Parts defs
 part:Is defs ("part": LW) 3 3 g9
 longer:Is defs ("longer_orders": LW) 2 4 aJ
 least:Is defs ("least_form": LW) 2 7 dt
 bar:Is defs ("barred_threes": LW) 1 5 be
 three:Is defs ("three_at": LW) 4 6 bC
 fbar:Is defs ("first_bar": LW) 2 4 cj
 lwish:Is defs ("longer_wishes": LW) 2 5 bg
 wish:Is defs ("wishes_over": LW) 3 7 bT
 unl:Is defs ("unlike_worlds": LW) 2 8 cW
structure Forms (bs:Lf LC)(a:Ll)(X:Lf Wd)(k:Ll)(F:Lf Wd):Prop where
 nd:F.Nodup
 mem:∀L,L∈F↔Unl bs a X k L
 srt:HS (F.map bA)
section
variable{defs:Lf (LW×Df)}{fuel d:Ll}{S:aa}{Q:QW}
def sJ (hfu:20<fuel)(C:Cts defs){Y:Lf W}{ns:Lf LW}{bs:Lf LC}{a k:Ll}{p:Lf Wd}(hs:SizeOk a bs)(hml:↥Y=a)(V:↥ns=↥bs)(hgs:∀g∈p,GoodW a ↥bs g/\↥g=3)(h64:↥p<=100)(hk:BP a ↥bs k)
  (kk:∀(q:Ll) (F:Lf Wd) (S':aa),Forms bs a (cD bs p) k F->↥F<64->S'[q]?=ba (.lst (F.map am))->↥S<=q->Ka S S'->Q (.ref q,S')) :
  wO (aQ (ak defs fuel (d+5)) "unlike_worlds" 2 [.tup [.tup Y,.tup (LK aK ns bs),.tup (p.map am)],.int (k:LC)] S) Q:=by
 show az C.unl rfl rfl λQ' hR=>?_
 replace kk:∀(q:Ll) (F:Lf Wd) (S':aa),Forms bs a (cD bs p) k F->↥F<64->S'[q]?=ba (.lst (F.map am))->↥S<=q->Ka S S'->Q' (.rt (.ref q),S'):=λq F S' x y z v w=>hR _ _ (kk q F S' x y z v w)
 clear hR;change wZ _ _ cW [ba (.tup [.tup Y,.tup (LK aK ns bs),.tup (p.map am)]),ba (.int (k:LC)),gV,gV,gV,gV,gV,gV] S Q';have D:=hs.good;obtain⟨n1,n3⟩:=hs.n3;have B:=kC D hgs;have zl:(LK aK ns bs).length=↥bs:=by rw[N6,V];omega
 have hk4:k<=5:=by rcases hk with h|⟨h,_⟩|⟨_,h|⟨h,_⟩⟩<;>omega
 have hkf:∀i,i<=k->BP a ↥bs i:=λi hi=>by
  rcases hk with h|⟨h,n,c⟩|⟨n,h⟩
  ·show .inl (Lw ‹_› ‹_›)
  ·show .inr (.inl #[by show Lw ‹_› ‹_›,n,c])
  ·show .inr (.inr #[n,∅])
 delta cW;nofun
 left;show mG (d:=d) hfu C.parts C.part C.longer C.bar D V hgs h64 λt U S1 e1 hH _ k1=>hK _ _ ?_
 clear hK K;generalize hR0:W.tup [.tup Y,.tup (LK aK ns bs),.tup (p.map am)]=R;generalize cD bs p=X at hH B kk;show st ?_;delta wS wE wA LH;nofun
 show cO (k:LC) (λi Z S'=>∃(q:Ll) (F:Lf Wd) (a4 a5 E j:Ln W),Z=[ba R,ba (.int (k:LC)),ba (.ref t),ba (.ref q),a4,a5,E,j]/\Forms bs a X i F/\↥F<64/\S'[q]?=ba (.lst (F.map am))/\↥S<=q/\S'[t]?=ba (.dic U)/\Ka S S') rfl rfl ∅ #[rfl,_,[[]],_,_,_,_,rfl,#[by simp,λL=>by rw[BM,LA],List.pairwise_singleton ..],#v[],af,k1.len,aj e1,k1.trans .push] ?_ ?_
 ·rintro i Z S2 hi ⟨q,F,a4,a5,E,j,rfl,A,H,e2,_,b2,k2⟩ Q2 hn2 _;clear hK kk;have hik:i+1<=k:=∅
  have hq2:=b7 e2;have hb2:=b7 b2;have hFg:∀L∈F,GoodW a ↥bs L/\↥L=i/\eY X L/\aq bs L=L:=λL hL=>((A.mem L).mp hL).good D B
  delta LH;show st ?_;delta wS wE LH;nofun
  have un:∀us:Lf Wd,(∀g∈us,∃L∈F,∃h∈aL U L a ↥bs,g=aq bs (L++[h]))->∀g∈us,Unl bs a X (i+1) g:=λus h g P=>by
   obtain⟨L,hL,I⟩:=h g P;show(hZ D B hH).mpr #[L,(A.mem L).mp hL,I]
  show jG q (F.map am) (λx Z u=>(∃E j,Z=[ba R,ba (.int (k:LC)),ba (.ref t),ba (.ref q),ba (.int (i:LC)),ba (.ref ↥S2),E,j])/\(∃N us,u[↥S2]?=ba (.dic N)/\KeyD N us/\∀g,g∈us↔∃L∈F.take x,∃h∈aL U L a ↥bs,g=aq bs (L++[h]))/\u[q]?=ba (.lst (F.map am))/\u[t]?=ba (.dic U)/\Ka S u) rfl rfl #[rfl,#[_,_,rfl],#[[],[],af,#[rfl,.nil],λg=>by simp],aj e2,aj b2,k2.trans .push] (λ_ _ _ h=>h.2.2.1) ?_ ?_
  ·rintro x w Z u hw ⟨⟨E,j,rfl⟩,⟨N,us,e3,O,m⟩,q3,b3,k3⟩;clear hK hn2;rw[Lu,Lk]at hw;obtain⟨L,hL,rfl⟩:=hw;have hLF:=LD hL;obtain⟨g1,g2,g3,g4⟩:=hFg L hLF;have gsn:∀h∈aL U L a ↥bs,GoodW a ↥bs (L++[h]):=λh I=>((cm hH g1 g3).mp I).1
   have sub1:∀b∈F.take x,b∈F:=λb h=>Nw h
   show ab (show gE (.nm 6) (am L) [ba R,ba (.int (k:LC)),ba (.ref t),ba (.ref q),ba (.int (i:LC)),ba (.ref ↥S2),E,j] u=ba ([ba R,ba (.int (k:LC)),ba (.ref t),ba (.ref q),ba (.int (i:LC)),ba (.ref ↥S2),ba (am L),j],u)from rfl) ?_
   intro Q3 hn3 _;nofun
   replace hK:∀Z' S',Q3 (.nx Z',S')->K Z' S':=λZ' S' h=>hK _ _ (bX h)
   show jO rfl rfl ?_;delta wE wA wV wG;subst hR0;show iR (d:=d+1) C.three C.fbar C.lwish C.wish hml zl hs.a3 n3 g1 ∅ b3 λl S4 e4 hl4 k4=>?_
   have M:∀h∈aL U L a ↥bs,Unl bs a X (i+1) (aq bs (L++[h])):=λh I=>(hZ D B hH).mpr #[L,(A.mem L).mp hLF,h,I,rfl]
   have J:∀g,(∃b∈F.take (x+1),∃h∈aL U b a ↥bs,g=aq bs (b++[h]))↔(∃b∈F.take x,∃h∈aL U b a ↥bs,g=aq bs (b++[h]))\/∃h∈aL U L a ↥bs,g=aq bs (L++[h]):=λg=>by
    rw[L8,hL];constructor
    ·rintro⟨b,n,c⟩;rcases Ma.mp n with z|z
     ·show .inl #[b,z,c]
     ·have:b=L:=by simpa using z
      subst this;show .inr c
    ·rintro(⟨b,n,c⟩|c)
     ·show#[b,MZ _ n,c]
     ·show#[L,Mf _ (by simp),c]
   have hS3:=b7 e3;generalize aL U L a ↥bs=Ws at e4 gsn M J;show#[l,Ws.map bo,λy Z o=>(∃j,Z=[ba (.tup [.tup Y,.tup (LK aK ns bs),.tup (p.map am)]),ba (.int (k:LC)),ba (.ref t),ba (.ref q),ba (.int (i:LC)),ba (.ref ↥S2),ba (am L),j])/\(∃N us,o[↥S2]?=ba (.dic N)/\KeyD N us/\∀g,g∈us↔(∃b∈F.take x,∃h∈aL U b a ↥bs,g=aq bs (b++[h]))\/∃h∈Ws.take y,g=aq bs (L++[h]))/\o[l]?=ba (.lst (Ws.map bo))/\o[q]?=ba (.lst (F.map am))/\o[t]?=ba (.dic U)/\Ka S o,rfl,#[#[_,rfl],#[N,us,k4.get _ _ e3,O,λg=>by rw[m];simp],e4,k4.get _ _ q3,k4.get _ _ b3,k3.trans k4],λ_ _ _ h=>h.2.2.1,?_,?_]
   ·rintro y w Z o hw ⟨⟨j,rfl⟩,⟨kv5,Hb,e5,r,s⟩,l5,q5,b5,k5⟩;clear hK hn3;rw[Lu,Lk]at hw;obtain⟨h,I,rfl⟩:=hw;have hhW:=LD I;show ab (show gE (.nm 7) (bo h) [ba (.tup [.tup Y,.tup (LK aK ns bs),.tup (p.map am)]),ba (.int (k:LC)),ba (.ref t),ba (.ref q),ba (.int (i:LC)),ba (.ref ↥S2),ba (am L),j] o=ba ([ba (.tup [.tup Y,.tup (LK aK ns bs),.tup (p.map am)]),ba (.int (k:LC)),ba (.ref t),ba (.ref q),ba (.int (i:LC)),ba (.ref ↥S2),ba (am L),ba (bo h)],o)from rfl) ?_
    intro Q4 hn4 _;show st ?_;left;show ab (show fm .add (am L) (.tup [bo h]) o=ba (am (L++[h]),o)from ?_) ?_
    ·unfold am;rw[gW (few (by simp;omega)),Mb];rfl
    dsimp only;show jT (d:=d+1) hfu C.parts C.longer C.least D V (gsn h hhW) (by simp;omega) λS6 k6=>?_
    have e6:=k6.get _ _ e5;have hlen:Hb.length<64:=qm hs B (hkf _ hik) r.nd λg P=>by
     rcases(s g).mp P with⟨b,n,h',c,rfl⟩|⟨h',c,rfl⟩
     ·show(hZ D B hH).mpr #[b,(A.mem b).mp (sub1 b n),h',c,rfl]
     ·show M h' (Nw c)
    obtain⟨us',hD',hm'⟩:=r.put (f:=aq bs (L++[h])) (v:=.bl true);show ab (Bc e6 (by rw[r.len,MF];omega)) (bX (hn4 _ _ #[#[_,rfl],#[_,us',bB e6,hD',λg=>?_],?_,?_,?_,(k5.trans k6).late k2.len]))
    ·rw[hm' g,s g,L8,I];constructor
     ·rintro((z|⟨h',c,e⟩)|z)
      ·show .inl z
      ·show .inr #[h',MZ _ c,e]
      ·show .inr #[h,Mf _ (by simp),z]
     ·rintro(z|⟨h',c,e⟩)
      ·show .inl (.inl z)
      ·rcases Ma.mp c with y|y
       ·show .inl (.inr #[h',y,e])
       ·have:h'=h:=by simpa using y
        subst this;show .inr e
    ·rw[bz ∅];show k6.get _ _ l5
    ·rw[bz (Mk ‹_›)];show k6.get _ _ q5
    ·rw[bz (Mk ‹_›)];show k6.get _ _ b5
   ·rintro Z o ⟨⟨j,rfl⟩,⟨kv5,Hb,e5,r,s⟩,l5,q5,b5,k5⟩;rw[Lh,Mg]at s;show hK _ _ (hn3 _ _ #[#[_,_,rfl],#[kv5,Hb,e5,r,λg=>by rw[J g];show s g],q5,b5,k5])
  ·rintro Z u ⟨⟨E,j,rfl⟩,⟨N,us,e3,O,m⟩,q3,b3,k3⟩;rw[Lh,Mg]at m;have T:∀g,g∈us↔Unl bs a X (i+1) g:=λg=>by
    rw[m g,hZ D B hH];show#[λ#[L,n,c]=>#[L,(A.mem L).mp n,c],λ#[L,n,c]=>#[L,(A.mem L).mpr n,c]]
   have G:↥us<64:=qm hs B (hkf _ hik) O.nd λg P=>(T g).mp P
   show hK _ _ (st ?_);left;have hit:dQ u (.ref ↥S2)=ba (us.map am):=(FigD.items (L:=us) #[O.keys,O.nd,λ_ h=>h] e3)
   show uz hit G (λg P=>?_) (bX (hn2 _ _ #[_,bI us,_,_,_,_,rfl,#[(ff us).nodup_iff.mpr O.nd,λg=>by rw[(ff us).mem_iff];show T g,by rw[fZ];show fP (jR O.nd)],by rw[(ff us).length_eq];show G,af,k3.len,aj b3,k3.trans .push]))
   obtain⟨_,g2,_⟩:=((T g).mp P).good D B;show λz=>by rw[z]at g2;cases g2
 ·rintro Z S2 ⟨q,F,a4,a5,E,j,rfl,A,H,e2,hq,b2,k2⟩;rw[LP]at A;show hK _ _ (st (kk q F S2 A H e2 hq k2))
end
abbrev JF (U:Lf (T×W))(u:Wd):L7:=(LR ↥u).all λk=>qf U u k (u.getD k (0,[]))
def wq {U:Lf (T×W)}{X:Lf Wd}{u:Wd}(f:HasD U X):JF U u=true↔eY X u:=by
 unfold JF;rw[LN];have a:∀i j k,eX U u (u.getD k (0,[])) i j=false↔cy u i j k∉X:=λi j k=>by
  show(bP U (bA (cy u i j k))).isSome=false↔_;rw[f.get,Pe];constructor
  ·show λz y=>z (SQ y)
  ·intro z y;obtain⟨x,l,e⟩:=Lr.mp y;rw[<- cR e]at z;show z l
 constructor
 ·intro h i j k b c d;show(a i j k).mp (lp.mp (h k (LG.mpr d)) j c i b)
 ·intro h k hk;show lp.mpr λj g i hi=>(a i j k).mpr (h i j k hi g (LG.mp hk))
def kE {U:Lf (T×W)}{u:Wd}{n:Ll}{m:LC}:∀(s:Ll) (h:Pt),h∈bO U u n m s->h.1=m
 |0,h,a=>by rw[LA.mp a]
 |s+1,h,a=>by
  obtain⟨b,c,d⟩:=ML.mp (Mo.mp a).1;obtain⟨w,_,rfl⟩:=Lr.mp d;show kE s b c
def sK {U:Lf (T×W)}{u:Wd}{n:Ll}{m:LC}:∀s:Ll,(bO U u n m s).Nodup
 |0=>by simp[bO]
 |s+1=>by
  show QG _ (fF (sK s) (λh _=>fe M0 λx _ y _ e=>?_) λh _ h' _ z c d=>?_)
  ·have:=congrArg WR e;have:=Pg this;have:(x:LC)=y:=by simpa using this
   omega
  ·obtain⟨x,_,rfl⟩:=Lr.mp c;obtain⟨y,_,e⟩:=Lr.mp d;have a:=congrArg WQ e;have b:=(Pf (congrArg WR e) rfl).1;show VT a.symm b.symm
def qo {U:Lf (T×W)}{u:Wd}{a n:Ll}:(aL U u a n).Nodup:=fF M0 (λm _=>sK _) λm _ d _ h b c=>by
 have:=(kE _ h b).symm.trans (kE _ h c);have:(m:LC)=d:=this;omega
def wt {bs:Lf LC}{a:Ll}{X:Lf Wd}{U:Lf (T×W)}{u:Wd}{o:Lf Ll}(d:GoodB bs)(l:gG bs X)(g:HasD U X)(f:GoodW a ↥bs u)(hs:eY X u)(c:Ord ↥u o)(hl:↥o=↥u):(aL U u a ↥bs).length<=(aL U (ag bs u o) a ↥bs).length:=by
 have O:∀h:Pt,Ord (u++[h]).length (o++[↥u]):=λh=>gb.mpr #[#[c.nd,λp v=>by have:=c.lt p v;simp;omega],by simp,λz=>by have:=c.lt _ z;omega]
 have D:∀h:Pt,(o++[↥u]).length=(u++[h]).length:=λh=>by simp[hl]
 have e:∀h:Pt,ag bs (u++[h]) (o++[↥u])=ag bs u o++[cf bs (u++[h]) o ↥u]:=λh=>by
  rw[bH,mM _ o rfl c.lt]
 have:=eZ (A:=(aL U u a ↥bs).map λh=>cf bs (u++[h]) o ↥u) (B:=aL U (ag bs u o) a ↥bs) (fe qo λx w y C b=>?_) λz hz=>?_
 ·rwa [Lh]at this
 ·have i:=((cm g f hs).mp w).1;have j:=((cm g f hs).mp C).1;have b:cf bs (u++[x]) o ↥u=cf bs (u++[y]) o ↥u:=b;have r:ag bs (u++[x]) (o++[↥u])=ag bs (u++[y]) (o++[↥u]):=by rw[e,e,b]
  obtain⟨p,m,p2,n⟩:=BK (O x) (D x);have k:ag bs (ag bs (u++[x]) (o++[↥u])) p=u++[x]:=by rw[aY d i (O x) m,n,cV i]
  have s:ag bs (ag bs (u++[y]) (o++[↥u])) p=u++[y]:=by
   rw[aY d j (O y) m,n,show(u++[x]).length=(u++[y]).length by simp,cV j]
  rw[r,s]at k;have:=Pg k
  simpa using this.symm
 ·obtain⟨h,t,rfl⟩:=Lr.mp hz;obtain⟨q,w2⟩:=(cm g f hs).mp t;show(cm g (db d f c.lt c.nd) (dC d l f c hs)).mpr #[?_,?_]
  ·rw[<- e];show db d q (O h).lt (O h).nd
  ·rw[<- e];show dC d l q (O h) w2
def uK {bs:Lf LC}{a:Ll}{X:Lf Wd}{U:Lf (T×W)}{u:Wd}(c:GoodB bs)(e:gG bs X)(h:HasD U X)(d:GoodW a ↥bs u)(hs:eY X u):(aL U u a ↥bs).length=(aL U (aq bs u) a ↥bs).length:=by
 obtain⟨o,b,f,j⟩:=cG (bs:=bs) (u:=u);rw[<- j];show Sd (wt c e h d hs b f) ?_;obtain⟨p,i,p2,k⟩:=BK b f;have g:=db c d b.lt b.nd;have:=wt (o:=p) c e h g (dC c e d b hs) (by rw[aI];show i) (by rw[aI,p2,f])
 rwa [aY c d b i,k,cV d]at this
def BQ {a n k:Ll}{X:Lf Wd}{U:Lf (T×W)}{st:Wd->L7}(l:0<a)(o:0<n)(t:HasD U X)(p:∀w,st w=true↔eY X w):((aG a n (k+1)).filter st).length=(((aG a n k).filter st).map λu=>(aL U u a n).length).sum:=by
 have m:∀{j:Ll}{w:Wd},w∈(aG a n j).filter st↔(GoodW a n w/\↥w=j)/\eY X w:=λ{j w}=>by rw[Mo,lq l o,p]
 have nd:(((aG a n k).filter st).flatMap λu=>(aL U u a n).map λh=>u++[h]).Nodup:=by
  show fF ((mO l o k).filter _) (λu _=>fe qo λx _ y _ e=>by simpa using Pg e) λu _ H _ z E G=>?_
  obtain⟨x,_,rfl⟩:=Lr.mp E;obtain⟨y,_,e⟩:=Lr.mp G;show(Pf e rfl).1.symm
 have mem:∀w,w∈(aG a n (k+1)).filter st↔w∈((aG a n k).filter st).flatMap λu=>(aL U u a n).map λh=>u++[h]:=λw=>by
  rw[m,ML];constructor
  ·rintro⟨⟨q,i⟩,r⟩;have b:w≠[]:=λz=>by rw[z]at i;cases i
   have g:=(M5 b);generalize w.getLast b=h at g;have hl:↥w.dropLast=k:=by rw[Nz,i];rfl
   generalize w.dropLast=u at g hl;subst g;have f:GoodW a n u:=by
    have:=iA (s:=↥u) q;rw[Og (Ls _),Mg]at this;show this
   have c:=(kD.mp r).1;show#[u,m.mpr #[#[f,hl],c],Lr.mpr #[h,(cm t f c).mpr #[q,r],rfl]]
  ·rintro⟨u,f,d⟩;obtain⟨h,C,rfl⟩:=Lr.mp d;obtain⟨⟨v,A⟩,B⟩:=m.mp f;obtain⟨D,w2⟩:=(cm t v B).mp C;show#[#[D,by simp[A]],w2]
 have e:((aG a n (k+1)).filter st).length=(((aG a n k).filter st).flatMap λu=>(aL U u a n).map λh=>u++[h]).length:=Sd (eZ ((mO l o _).filter _) λw d=>(mem w).mp d) (eZ nd λw d=>(mem w).mpr d)
 rw[e,List.length_flatMap];congr 1;show Mm λu _=>?_
 rw[Lh]
def wu {β:Type}[Od β]{c:β->Ll}{b:β}:∀{Yx:Lf β},Yx.Nodup->b∈Yx->(Yx.map λy=>if b=y then c y else 0).sum=c b
 |[],_,h=>nomatch h
 |y::Yx,nd,h=>by
  obtain⟨a,d⟩:=MV.mp nd;rw[Mj,N1]
  by_cases e:b=y
  ·subst e;rw[LU rfl,show(Yx.map λy=>if b=y then c y else 0)=Yx.map λ_=>0 from Mm λz hz=>L1 λ(q:b=z)=>a (q▸hz),iC (c:=0) λ_ _=>rfl,QX,T0]
  ·rw[L1 e,RV];show wu d ((LQ.mp h).resolve_left e)
def ww {β:Type}{f g:β->Ll}:∀Yx:Lf β,(Yx.map λy=>f y+g y).sum=(Yx.map f).sum+(Yx.map g).sum
 |[]=>rfl
 |y::Yx=>by
  rw[Mj,Mj,Mj,N1,N1,N1,ww Yx];omega
def BR {α β:Type}[Od β]{g:α->β}{c:β->Ll}{Yx:Lf β}(nd:Yx.Nodup):∀{P:Lf α},(∀p∈P,g p∈Yx)->(P.map λp=>c (g p)).sum=(Yx.map λy=>(P.filter λp=>decide (g p=y)).length*c y).sum
 |[],_=>by rw[show(Yx.map λy=>(([]:Lf α).filter λp=>decide (g p=y)).length*c y)=Yx.map λ_=>0 from Mm λy _=>by simp,iC (c:=0) λ_ _=>rfl];rfl
 |p::P,h=>by
  rw[Mj,N1,BR nd λq a=>h q (.tail _ a),<- wu (c:=c) nd (h p (.head _)),<- ww]
  congr 1;show Mm λy _=>?_
  rw[List.filter_cons]
  by_cases e:g p=y
  ·rw[LU e,LU (by simpa using e),L3,Nat.add_mul,Nat.one_mul,QT]
  ·rw[L1 e,L1 (by simpa using e),RV]
def yj {bs:Lf LC}{a k:Ll}{X F:Lf Wd}{U:Lf (T×W)}{st:Wd->L7}(h:GoodB bs)(l:gG bs X)(s:HasD U X)(m:0<a)(n:0<↥bs)(hk:k<=5)(b:∀w,st w=true↔eY X w)(A:F.Nodup)(f:∀L,L∈F↔Unl bs a X k L) :
  ((aG a ↥bs (k+1)).filter st).length=(F.map λL=>(c7 k).length/(aC bs L L k).length*(aL U L a ↥bs).length).sum:=by
 have i:∀w:Wd,w∈aG a ↥bs k↔GoodW a ↥bs w/\↥w=k:=λw=>lq m n
 rw[BQ m n s b];have t:(((aG a ↥bs k).filter st).map λu=>(aL U u a ↥bs).length)=((aG a ↥bs k).filter st).map λu=>(aL U (aq bs u) a ↥bs).length:=by
  show Mm λu D=>?_
  obtain⟨y,z⟩:=Mo.mp D;show uK h l s ((i u).mp y).1 ((b u).mp z)
 rw[t,BR (g:=aq bs) (c:=λL=>(aL U L a ↥bs).length) A λw q=>?_]
 ·congr 1;show Mm λL B=>?_
  obtain⟨d,j,v,x⟩:=((f L).mp B).good h l;subst j;have e:((aG a ↥bs ↥L).filter st).filter (λw=>decide (aq bs w=L))=(aG a ↥bs ↥L).filter λw=>decide (aq bs w=L):=by
   rw[Qb];show OU λw q=>?_
   by_cases hl:aq bs w=L
   ·obtain⟨r,w2⟩:=(i w).mp q;obtain⟨o,E,G,H⟩:=cG (bs:=bs) (u:=w);have:eY X w:=(sG h l r E G).mp (by rw[H,hl];show v)
    rw[(b w).mpr this];simp
   ·simp[hl]
  rw[e,EG h d hk x (mO m n _) i];have pos:0<(aC bs L L ↥L).length:=Nk ((dO d).mpr #[#[M0,λp C=>LG.mp C],L0,cV d])
  rw[Tu _ pos]
 ·obtain⟨r,w2⟩:=Mo.mp q;obtain⟨d,j⟩:=(i w).mp r;show(f _).mpr #[w,d,j,(b w).mp w2,rfl]
abbrev cH:Ss:=
 #v[.set 2 (.c (.int 1)),.loop (.nm 3) (.rng #v[.v 1]) #v[.set 2 (.op .mul (.v 2) (.op .add (.v 3) (.c (.int 1))))],.ret (.bi .sum #v[.comp (.op .fdiv (.v 2) (.bi .len #v[.own "likenesses" 3 #v[.v 3,.v 1,.v 1]])) (.nm 1) (.seq (.own "unlike_worlds" 2 #v[.v 0,.v 1])) .nil [gV,gV,ba 2,ba 0]])]
def oF (k:Ll):(c7 (k+1)).length=(c7 k).length*(k+1):=by
 show((c7 k).flatMap λo=>(LR (k+1)).map λi=>o.take i++[k]++o.drop i).length=_
 induction c7 k with
 |nil=>simp
 |cons o os ih=>rw[M1,Lx,ih,Lh,L0,L3,Pi,QT]
def oG {α:Type}(f:α->LC):∀xs:Lf α,lX (xs.map λx=>W.int (f x))=ba (xs.map f)
 |[]=>rfl
 |x::xs=>by show(lX (xs.map λx=>W.int (f x))).map _=_;rw[oG f xs];rfl
def Jl {α:Type}{S:aa}{l:Ll}{xs:Lf α}{f:α->LC}{Q:QW}(h:S[l]?=ba (.lst (xs.map λx=>W.int (f x))))(hl:↥xs<=1000)(hf:∀x∈xs,0<=f x/\f x<2^53)(q:Q (.int (xs.map f).sum,S)):wO (Bi.sum.fn [.ref l] S) Q:=by
 show ab (a:=(.int (xs.map f).sum,S)) ?_ q
 (delta Bi.fn DH;simp only[ay h,oG])
 rw[LU];unfold As;rw[Lp,LJ,LN,Lh];show#[hl,λz hz=>?_]
 obtain⟨x,b,rfl⟩:=Lr.mp hz;rw[Lp,LJ,LJ];show hf x b
def sL {α:Type}{f:α->Ll}:∀xs:Lf α,(xs.map λx=>((f x:Ll):LC)).sum=(((xs.map f).sum:Ll):LC)
 |[]=>rfl
 |x::xs=>by rw[Mj,N1,sL xs,Mj,N1,US]
def Jm {M:LW->FF}{fuel:Ll}{S:aa}{b c:Ln W}{x y:LC}{Q:QO}(e : -(2^64)<y+1)(f:y+1<2^64)(k:Q (.nx [b,c,ba (.int (x*(y+1))),ba (.int y)],S)):wZ M fuel #v[.set 2 (.op .mul (.v 2) (.op .add (.v 3) (.c (.int 1))))] [b,c,ba (.int x),ba (.int y)] S Q:=by
 have a:fm .mul (.int x) (.int (y+1)) S=ba (.int (x*(y+1)),S):=kP e f;have d:fm .add (.int y) (.int 1) S=ba (.int (y+1),S):=bW;show st ?_;delta wS wE wV wG LH;generalize fm .mul=bm at a ⊢;show ab d (ab a (bX k))
section
variable{defs:Lf (LW×Df)}{fuel d:Ll}{S:aa}{Q:QW}
def GV (E:20<fuel)(C:Cts defs)(G:Is defs ("likenesses": LW) 3 6 bN)(hg:Is defs ("told_worlds": LW) 2 4 cH){e:Lf W}{ns:Lf LW}{bs:Lf LC}{a k:Ll}{b:Lf Wd}(hs:SizeOk a bs)(H:↥e=a)(m:↥ns=↥bs)(l:∀g∈b,GoodW a ↥bs g/\↥g=3)(B:↥b<=100)(hk:BP a ↥bs k)
  (n:∀(F:Lf Wd) (S':aa),Forms bs a (cD bs b) k F->Ka S S'->Q (.int (((F.map λL=>(c7 k).length/(aC bs L L k).length).sum:Ll):LC),S')) :
  wO (aQ (ak defs fuel (d+6)) "told_worlds" 2 [.tup [.tup e,.tup (LK aK ns bs),.tup (b.map am)],.int (k:LC)] S) Q:=by
 show az hg rfl rfl λO T=>?_
 replace n:∀(F:Lf Wd) (S':aa),Forms bs a (cD bs b) k F->Ka S S'->O (.rt (.int (((F.map λL=>(c7 k).length/(aC bs L L k).length).sum:Ll):LC)),S'):=λF S' x y=>T _ _ (n F S' x y)
 clear T;change wZ _ _ cH [ba (.tup [.tup e,.tup (LK aK ns bs),.tup (b.map am)]),ba (.int (k:LC)),gV,gV] S O;have s:=hs.good;have U:=kC s l;have hk4:k<=5:=by rcases hk with h|⟨h,_⟩|⟨_,h|⟨h,_⟩⟩<;>omega
 have J:(c7 k).length<=120:=by
  have:k=0\/k=1\/k=2\/k=3\/k=4\/k=5:=∅
  rcases this with rfl|rfl|rfl|rfl|rfl|rfl<;>decide +kernel
 delta cH;show st ?_;delta wS wE LH;nofun
 show cO (k:LC) (λi Z S'=>(∃u,Z=[ba (.tup [.tup e,.tup (LK aK ns bs),.tup (b.map am)]),ba (.int (k:LC)),ba (.int ((c7 i).length:LC)),u])/\S'=S) rfl rfl ∅ #[rfl,#[_,rfl],rfl] ?_ ?_
 ·rintro i Z S1 hi ⟨⟨u,rfl⟩,rfl⟩ Q2 I _;clear hK n;delta LH;have R:((c7 i).length:LC)*((i:LC)+1)=((c7 (i+1)).length:LC):=by rw[oF,Po];rfl
  have V : -(2^64)<(i:LC)+1:=∅
  have b2:(i:LC)+1<2^64:=∅
  show Jm V b2 ?_;rw[R];show I _ _ #[#[_,rfl],rfl]
 ·rintro Z S1 ⟨⟨u,rfl⟩,rfl⟩;rw[LP];show hK _ _ (st ?_);clear hK K;delta wS wE wA;generalize R:(c7 k).length=N at n J ⊢;have M:wO (aQ (ak defs fuel (d+5)) "unlike_worlds" 2 [.tup [.tup e,.tup (LK aK ns bs),.tup (b.map am)],.int (k:LC)] S1) λq=>∃F:Lf Wd,Forms bs a (cD bs b) k F/\↥F<64/\∃t,q.1=.ref t/\q.2[t]?=ba (.lst (F.map am))/\Ka S1 q.2:=sJ (d:=d) E C hs H m l B hk λq F S' h1 h2 h3 _ h4=>#[F,h1,h2,q,rfl,h3,h4]
  obtain⟨⟨w,S2⟩,ew,F,D,P,t,rfl,X,k2⟩:=cw M;have j:∀L∈F,GoodW a ↥bs L/\↥L=k:=λL c=>#[(((D.mem L).mp c).good s U).1,(((D.mem L).mp c).good s U).2.1]
  have o:∀L∈F,0<(aC bs L L k).length/\(aC bs L L k).length<=3125:=λL c=>by
   obtain⟨r,A⟩:=j L c;subst A;show#[Nk ((dO r).mpr #[#[M0,λp hp=>LG.mp hp],L0,cV r]),?_]
   show Lw (jQ _) (Lw (N7 (show ↥L<=5 by assumption) _) (Lw (Nx #v[] (show ↥L<=5 by assumption)) #v[]))
  show qc F am (λ_=>true) (λL=>W.int (((N/(aC bs L L k).length:Ll)):LC)) [ba (.int (N:LC)),ba (.tup [.tup e,.tup (LK aK ns bs),.tup (b.map am)])] rfl rfl rfl rfl ∅ ?_ (λL c S' k'=>?_) λS3 k3=>?_
  ·delta wE wA wV wG;show ab ew #[t,rfl,X,k2]
  ·obtain⟨r,A⟩:=j L c;obtain⟨l1,l2⟩:=o L c;delta gX wC wE wA wV wG;show#[λ_=>gA (d:=d+2) C.parts C.longer G s m r ∅ ∅ λq S4 Y _ k4=>?_,λz=>by cases z]
   show dY Y ?_;rw[show(aT (aC bs L L ↥L)).length=(aC bs L L k).length by unfold aT;rw[Lh,A]]
   show ab (gq ∅ ∅) #[rfl,?_,k4]
   rfl
  ·rw[jS];show Jl (xs:=F) (f:=λL=>((N/(aC bs L L k).length:Ll):LC)) af ∅ (λL c=>?_) ?_
   ·have:=Nat.div_le_self N (aC bs L L k).length;show#[LV _,∅]
   ·rw[sL];show n F _ D (k3.trans .push)
end
abbrev bR:Ss:=
 #v[.set 2 (.c (.int 1)),.loop (.nm 3) (.rng2 #v[.c (.int 1),.op .add (.bi .len #v[.v 1]) (.c (.int 1))]) #v[.set 2 (.op .mul (.v 2) (.v 3))],.ret (.op .fdiv (.v 2) (.bi .len #v[.own "likenesses" 3 #v[.v 0,.v 1,.v 1]]))]
abbrev iD:Ss:=
 #v[.set 1 (.own "_law_flow" 1 #v[.v 0]),.set 2 (.own "_law_full_rule" 1 #v[.v 1]),.set 3 (.own "_law_pick" 2 #v[.v 1,.c (.int 3)]),.ite (.and (.cmp .eq (.bi .len #v[.ix (.v 2) (.c (.int 0))]) (.c (.int 1))) (.cmp .lt (.bi .len #v[.ix (.v 2) (.c (.int 1))]) (.c (.int 3)))) #v[.set 3 (.own "_law_pick" 2 #v[.v 1,.ix (.lst #v[.c (.int 5),.c (.int 4)]) (.op .sub (.bi .len #v[.ix (.v 2) (.c (.int 1))]) (.c (.int 1)))])] .nil,.set 4 (.own "unlike_worlds" 2 #v[.v 2,.v 3]),.set 5 (.lst .nil),.set 6 (.c (.int 0)),.loop (.nm 7) (.seq (.v 4)) #v[.ite (.or (.cmp .ne (.own "least_form" 2 #v[.v 2,.v 7]) (.v 7)) (.cmp .isnot (.own "first_barred" 2 #v[.v 2,.v 7]) (.c .non))) #v[.ret (.c (.bl false))] .nil,.set 8 (.own "wishes" 2 #v[.v 2,.v 7]),.set 6 (.op .add (.v 6) (.op .mul (.own "_law_orders_of" 2 #v[.v 2,.v 7]) (.bi .len #v[.v 8]))),.ex (.me .extend (.v 5) #v[.comp (.own "least_form" 2 #v[.v 2,.op .add (.v 3) (.tup #v[.v 1])]) (.nm 1) (.seq (.v 8)) .nil [gV,gV,ba 2,ba 7]])],.loop (.nm 9) (.rng2 #v[.c (.int 1),.bi .len #v[.v 4]]) #v[.ite (.or (.cmp .ne (.own "likenesses" 3 #v[.v 2,.ix (.v 4) (.c (.int 0)),.ix (.v 4) (.v 9)]) (.lst .nil)) (.cmp .ne (.own "likenesses" 3 #v[.v 2,.ix (.v 4) (.op .sub (.v 9) (.c (.int 1))),.ix (.v 4) (.v 9)]) (.lst .nil))) #v[.ret (.c (.bl false))] .nil],.ite (.not (.own "_law_alike" 2 #v[.own "unlike_worlds" 2 #v[.v 2,.op .add (.v 3) (.c (.int 1))],.bi .sorted #v[.bi .set #v[.v 5]]])) #v[.ret (.c (.bl false))] .nil,.ret (.own "_law_alike" 2 #v[.own "told_worlds" 2 #v[.v 2,.op .add (.v 3) (.c (.int 1))],.v 6])]
structure Lw68 (defs:Lf (LW×Df)):Prop where
 gen:Gen defs
 full:Full defs
 cts:Cts defs
 likes:Is defs ("likenesses": LW) 3 6 bN
 told:Is defs ("told_worlds": LW) 2 4 cH
 fthree:Is defs ("first_three": LW) 2 5 bS
 fbarred:Is defs ("first_barred": LW) 2 2 cg
 wishes:Is defs ("wishes": LW) 2 2 hW
 flow:Is defs ("_law_flow": LW) 1 1 eS
 alike:Is defs ("_law_alike": LW) 2 2 bn
 orders:Is defs ("_law_orders_of": LW) 2 4 bR
 law:Is defs ("law": LW) 1 10 iD
def Ea {a n k:Ll}(c:1<=a)(j:a<=3)(f:1<=n)(l:n<=3)(d:a*n<=6)(hk:BP a n k):∀i<k,1<=(bj a n i).length/\(bj a n i).length<=27/\(aG a n i).length*(bj a n i).length<=216:=by
 intro i hi
 by_cases g:i<=2
 ·show mz c j f l d g
 ·rcases hk with hk|⟨hk,rfl,m⟩|⟨rfl,hk⟩
  ·omega
  ·have:i=3:=∅
   subst this;have:n=1\/n=2:=∅
   rcases this with rfl|rfl<;>decide +kernel
  ·have e:i=3\/(i=4/\a<=2):=∅
   have b:a=1\/a=2\/a=3:=∅
   rcases e with rfl|⟨rfl,h⟩
   ·rcases b with rfl|rfl|rfl<;>decide +kernel
   ·rcases b with rfl|rfl|rfl
    ·decide +kernel
    ·decide +kernel
    ·omega
def Jn {a n:Ll}{u:Wd}(f:GoodW a n u)(hl:↥u<=1000):Tr 3 (am u):=by
 show#[by rw[Lh];show hl,λx g=>?_]
 obtain⟨p,c,rfl⟩:=Lr.mp g;obtain⟨k,hk,e⟩:=Nf.mp c;have d:=f.len k p (by rw[Lq hk,e])
 show#[LL rfl,λy b=>?_]
 simp only[LQ,My,NE]at b;rcases b with rfl|rfl
 ·trivial
 ·show#[by rw[Lh];omega,λz hz=>?_]
  obtain⟨w,_,rfl⟩:=Lr.mp hz;trivial
def BS {bs:Lf LC}{a k:Ll}{X F ks:Lf Wd}(b:Forms bs a X k F)(hk:ks.Nodup)(c:∀L,L∈ks↔Unl bs a X k L):bI ks=F:=by
 show mE (jw (λx d=>?_) ?_ (by rw[fZ];show fP (jR hk)) b.srt)
 ·obtain⟨u,_,rfl⟩:=Lr.mp d;show je u
 ·show Vu _ ((ff ks).trans ?_);show(Rl hk b.nd).mpr λL=>(c L).trans (b.mem L).symm
def EH:∀us:Lf Wd,∃vs:Lf Wd,vs.Nodup/\∀x,x∈vs↔x∈us
 |[]=>#[[],.nil,λ_=>.rfl]
 |u::us=>by
  obtain⟨vs,a,b⟩:=EH us
  by_cases h:u∈vs
  ·show#[vs,a,λx=>by rw[LQ,<- b];show#[.inr,λz=>z.elim (λe=>e▸h) id]]
  ·show#[u::vs,MV.mpr #[h,a],λx=>by rw[LQ,LQ,b]]
section
variable{defs:Lf (LW×Df)}{fuel d:Ll}{S:aa}{r:Ll}{Q:QW}
def GX {bs:Lf LC}{a k l:Ll}{X us:Lf Wd}(hs:SizeOk a bs)(j:gG bs X)(hk:BP a ↥bs k)(h:S[l]?=ba (.lst (us.map am)))(i:∀L,L∈us↔Unl bs a X k L)
  (q:∀(F:Lf Wd) (t:Ll) (S':aa),(∀G,Forms bs a X k G->G=F)->S'[t]?=ba (.lst (F.map am))->(∀g∈F,GoodW a ↥bs g/\↥g=k)->↥F<64->↥S<=t->Ka S S'->Q (.ref t,S')):wO (Bi.set.fn [.ref l] S) λp=>wO (Bi.sorted.fn [p.1] p.2) Q:=by
 have good:∀L,L∈us->GoodW a ↥bs L/\↥L=k:=λL d=>#[(((i L).mp d).good hs.good j).1,(((i L).mp d).good hs.good j).2.1]
 obtain⟨vs,v,o⟩:=EH us;obtain⟨ks,e,nd,f,c⟩:=su (us:=us) (L:=vs) (qm hs j hk v λL d=>(i L).mp ((o L).mp d)) λu b=>(o u).mpr b
 show BB h e (we af c nd ?_ ?_)
 ·rcases Pn k with m|m
  ·show .inl (Px (gx ks [[]] nd λu b=>?_))
   have:=(good u ((f u).mp b)).2;rw[m]at this;rw[MQ.mp this];show .head _
  ·show .inr λu b z=>?_
   have:=(good u ((f u).mp b)).2;rw[z]at this;have:0=k:=this;omega
 ·have n:=ff ks;show q (bI ks) _ _ (λG r=>(BS r nd λL=>(f L).trans (i L)).symm) af (λg s=>good g ((f g).mp (n.mem_iff.mp s))) (by rw[n.length_eq];show c) (by simp) (Ka.push.trans .push)
def GY {M:LW->FF}{b:Ll}{Z:Fm}{S:aa}{t:E}{a:Ss}{K:Fm->aa->Prop}{Q:QO}(d:∀Q:QB,(∀S',Ka S S'->Q (true,S'))->wT M t Z S Q)(hk:∀S',Ka S S'->K Z S'):wS M b (.ite (.not t) a .nil) Z S K Q:=by
 delta wS wT;show d _ λS' e f c g=>#[λz=>(by cases z),λ_=>(bX (c _ _ (hk S' e))).out]
def Eb:∀X:Lf Wd,∃U,HasD U X:=λX=>by
 suffices h:∀n (X:Lf Wd),↥X=n->∃U,HasD U X from h _ X rfl
 intro n
 induction n with
 |zero=>intro X h;rw[MQ.mp h];show#[[],.nil]
 |succ n ih=>
  intro X h;have a:X≠[]:=λz=>by rw[z]at h;cases h
  obtain⟨U,hk⟩:=ih X.dropLast (by rw[Nz,h];rfl)
  show#[_,by have:=hk.put (f:=X.getLast a) (v:=.non);rwa [M5 a]at this]
def yk {U b:Lf (T×W)}{X:Lf Wd}{u:Wd}{a n:Ll}(c:0<n)(h:HasD U X)(h':HasD b X):aL U u a n=aL b u a n:=uH c λt=>(h.get t).trans (h'.get t).symm
def wx {S:aa}{i j:Ll}(a:S[i]?=ba (.lst []))(b:S[j]?=ba (.lst [])):cx .ne (.ref i) (.ref j) S=ba (.bl false,S):=by
 show((jW S (19+1) (.ref i) (.ref j)).map (!·)).map _=_
 (delta jW;simp only[dj a,dj b])
 rfl
def Jo {M:LW->FF}{fuel:Ll}{S:aa}{b c:Ln W}{x y:LC}{Q:QO}(d : -(2^64)<y)(e:y<2^64)(k:Q (.nx [b,c,ba (.int (x*y)),ba (.int y)],S)):wZ M fuel #v[.set 2 (.op .mul (.v 2) (.v 3))] [b,c,ba (.int x),ba (.int y)] S Q:=by
 have a:fm .mul (.int x) (.int y) S=ba (.int (x*y),S):=kP d e;show st ?_;delta wS wE wV wG LH;generalize fm .mul=bm at a ⊢;show ab a (bX k)
def sM (C:Cts defs)(f:Is defs ("likenesses": LW) 3 6 bN)(w:Is defs ("_law_orders_of": LW) 2 4 bR){m0 b0:W}{ns:Lf LW}{bs:Lf LC}{a:Ll}{u:Wd}(t:GoodB bs)(h:↥ns=↥bs)(j:GoodW a ↥bs u)(b:↥u<=5)
  (c:∀S',Ka S S'->Q (.int (((c7 ↥u).length/(aC bs u u ↥u).length:Ll):LC),S')):wO (aQ (ak defs fuel (d+4)) "_law_orders_of" 2 [.tup [m0,.tup (LK aK ns bs),b0],am u] S) Q:=by
 show az w rfl rfl λl m=>?_
 replace c:∀S',Ka S S'->l (.rt (.int (((c7 ↥u).length/(aC bs u u ↥u).length:Ll):LC)),S'):=λS' x=>m _ _ (c S' x)
 clear m;change wZ _ _ bR [ba (.tup [m0,.tup (LK aK ns bs),b0]),ba (am u),gV,gV] S l;delta bR;show st ?_;delta wS wE LH;nofun
 have k:(u.map bo).length=↥u:=Lh ..;show fX 1 ((↥u:LC)+1) (λi Z S'=>(∃e,Z=[ba (.tup [m0,.tup (LK aK ns bs),b0]),ba (am u),ba (.int ((c7 i).length:LC)),e])/\S'=S) rfl rfl rfl ∅ ?_ ?_ ?_
 ·delta wE wA wV wG;show#[rfl,bc (ab bW #[by rw[k],#[_,rfl],rfl])]
 ·rintro i Z S1 hi ⟨⟨e,rfl⟩,rfl⟩ A g _;clear hK c;delta LH;have s:((c7 i).length:LC)*(1+(i:LC))=((c7 (i+1)).length:LC):=by rw[oF,Po,Int.add_comm];rfl
  show Jo ∅ ∅ ?_
  rw[s];show g _ _ #[#[_,rfl],rfl]
 ·rintro Z S1 ⟨⟨e,rfl⟩,rfl⟩;rw[show((↥u:LC)+1-1).toNat=↥u by omega]
  show hK _ _ (st ?_);clear hK K;left;show gA (d:=d) C.parts C.longer f t h j b b λq o r _ z=>dY r ?_
  rw[show(aT (aC bs u u ↥u)).length=(aC bs u u ↥u).length by unfold aT;rw[Lh]]
  have pos:0<(aC bs u u ↥u).length:=Nk ((dO j).mpr #[#[M0,λp y=>LG.mp y],L0,cV j])
  have n:(aC bs u u ↥u).length<=3125:=Lw (jQ _) (Lw (N7 b _) (Lw (Nx #v[] b) #v[]))
  show ab (gq ∅ ∅) ?_
  show c o z
abbrev ym (bs:Lf LC)(a:Ll)(U:Lf (T×W))(k:Ll)(L:Wd):Ll:=(c7 k).length/(aC bs L L k).length*(aL U L a ↥bs).length
def BU (hfu:50<fuel)(L:Lw68 defs){H:Lf LC}:∃S',ak defs fuel (d+9) "law" [.ref 0] [.fro (H.map W.int)]=ba (.bl true,S'):=by
 suffices h:wO (aQ (ak defs fuel (d+9)) "law" 1 [.ref 0] [.fro (H.map W.int)]) (λp=>p.1=.bl true) by
  obtain⟨⟨v,S'⟩,e,q⟩:=cw h;cases(show v=.bl true from q)
  show#[S',e]
 have G:=L.gen;have C:=L.cts;show az L.law rfl rfl λQ' hR=>?_
 change wZ _ _ iD [ba (.ref 0),gV,gV,gV,gV,gV,gV,gV,gV,gV] [.fro (H.map W.int)] Q';unfold iD;nofun
 left;show GK (d:=d+7) L.flow (ns:=H) rfl λr S1 _ f1=>hK _ _ ?_
 clear hK K;nofun
 left;show GC (d:=d) ∅ G L.full f1 λw S2 c f2 _=>hK _ _ ?_
 clear hK K f1;obtain⟨a,bs,J,ns,f,rfl,hr⟩:=c;have hs:=⇑hr;have I:=hs.good;have b:=hr.nl;have hml:=hr.ml;have pm:(bI f).Perm f:=dJ;have m:∀g∈bI f,GoodW a ↥bs g/\↥g=3:=λg hg=>yh I (hr.mem g (pm.mem_iff.mp hg))
 have D:(bI f).length<=100:=by
  have X:=gx f _ hr.nd hr.mem;have h2:=jM ⇑hr;rw[pm.length_eq];omega
 clear hr pm;unfold dZ;generalize bI f=gs at m D;clear f;obtain⟨n1,n3⟩:=hs.n3;have hT:=kC I m;have zl:(LK aK ns bs).length=↥bs:=by rw[N6,b];omega
 have mml:(J.map W.str).length=a:=by rw[Lh];show hml
 obtain⟨U,hH⟩:=Eb (cD bs gs);nofun
 left;show aZ (d:=d+7) G.pick f2 #v[] #v[] λv S3 v0 v1 f3 k3=>hK _ _ ?_
 clear hK K;have aU:∀(k:Ll) (S4:aa),BP a ↥bs k->BP a ↥bs (k+1)->wZ (ak defs fuel (d+8)) fuel (dr 4 iD) [ba (.ref 0),ba (.ref r),ba (.tup [.tup (J.map W.str),.tup (LK aK ns bs),.tup (gs.map am)]),ba (.int (k:LC)),gV,gV,gV,gV,gV,gV] S4 Q':=by
  intro k S4 hk N;have hk5:k+1<=5:=by rcases N with h|⟨h,_⟩|⟨_,h|⟨h,_⟩⟩<;>omega
  have V:∀(k:Ll) (w:Wd),w∈aG a ↥bs k↔GoodW a ↥bs w/\↥w=k:=λk w=>lq hs.pos n1
  have vlen:(aG a ↥bs (k+1)).length<=216:=by
   rw[ce];show(Ea hs.pos hs.a3 n1 n3 hs.most N k (M7 _)).2.2
  have unl:∀{S:aa}{Q:QW}{k:Ll},BP a ↥bs k->(∀(q:Ll) (F:Lf Wd) (S':aa),Forms bs a (cD bs gs) k F->↥F<64->S'[q]?=ba (.lst (F.map am))->↥S<=q->Ka S S'->Q (.ref q,S'))->wO (aQ (ak defs fuel (d+8)) "unlike_worlds" 2 [.tup [.tup (J.map W.str),.tup (LK aK ns bs),.tup (gs.map am)],.int (k:LC)] S) Q:=λ{S Q k} hk h=>sJ (d:=d+3) ∅ C hs mml b m D hk h
  have lst:∀{S:aa}{Q:QW}{w:Wd},GoodW a ↥bs w->↥w<=6->(∀S',Ka S S'->Q (am (aq bs w),S'))->wO (aQ (ak defs fuel (d+8)) "least_form" 2 [.tup [.tup (J.map W.str),.tup (LK aK ns bs),.tup (gs.map am)],am w] S) Q:=λ{S Q w} hu hl h=>jT (d:=d+5) ∅ C.parts C.longer C.least I b hu hl h
  have fb:∀{S:aa}{Q:QW}{w:Wd},GoodW a ↥bs w->↥w<=6->eY (cD bs gs) w->(∀S',Ka S S'->Q (.non,S'))->wO (aQ (ak defs fuel (d+8)) "first_barred" 2 [.tup [.tup (J.map W.str),.tup (LK aK ns bs),.tup (gs.map am)],am w] S) Q:=λ{S Q w} hu hl hst h=>mH (d:=d+3) ∅ C.parts C.part C.longer C.bar C.three L.fthree L.fbarred I b m D hu (by show Lw ‹_› (LL rfl)) λx S' hx Y=>by
   rcases hx with⟨rfl,_⟩|⟨i,j,k,rfl,a1,a2,a3,a4,_⟩
   ·show h S' Y
   ·show absurd ?_ (hst i j k a1 a2 a3);obtain⟨g,hg,e⟩:=Lr.mp (Mq a4);show cR e▸hg
  have wsh:∀{S:aa}{Q:QW}{w:Wd},GoodW a ↥bs w->↥w<=5->(∀(l:Ll) (S':aa),S'[l]?=ba (.lst ((aL U w a ↥bs).map bo))->↥S<=l->Ka S S'->Q (.ref l,S'))->wO (aQ (ak defs fuel (d+8)) "wishes" 2 [.tup [.tup (J.map W.str),.tup (LK aK ns bs),.tup (gs.map am)],am w] S) Q:=λ{S Q w} hu hl h=>BH (d:=d+3) ∅ C.parts C.part C.longer C.bar C.three C.fbar C.lwish C.wish L.wishes hml hs.a3 I b m D hu hl λl U' S' hH' e' hl' Y=>h l S' (by rw[yk n1 hH hH'];show e') hl' Y
  have ord:∀{S:aa}{Q:QW}{w:Wd},GoodW a ↥bs w->↥w<=5->(∀S',Ka S S'->Q (.int (((c7 ↥w).length/(aC bs w w ↥w).length:Ll):LC),S'))->wO (aQ (ak defs fuel (d+8)) "_law_orders_of" 2 [.tup [.tup (J.map W.str),.tup (LK aK ns bs),.tup (gs.map am)],am w] S) Q:=λ{S Q w} hu hl h=>sM (d:=d+4) C L.likes L.orders I b hu hl h
  have lik:∀{S:aa}{Q:QW}{u v:Wd},GoodW a ↥bs u->GoodW a ↥bs v->↥u=k->↥v=k->aq bs u=u->aq bs v=v->u≠v->(∀(q:Ll) (S':aa),S'[q]?=ba (.lst [])->Ka S S'->Q (.ref q,S'))->wO (aQ (ak defs fuel (d+8)) "likenesses" 3 [.tup [.tup (J.map W.str),.tup (LK aK ns bs),.tup (gs.map am)],am u,am v] S) Q:=λ{S Q u v} hu hv lu lv mu mv hne h=>gA (d:=d+5) C.parts C.longer L.likes I b hv ∅ ∅ λq S' e' _ Y=>by
   have:aC bs u v ↥u=[]:=Nh λz=>hne (by
    have:=(uI I hu hv ∅).mp z
    rwa [mu,mv]at this)
   rw[this]at e';show h q S' e' Y
  have tol:∀{S:aa}{Q:QW},(∀S',Ka S S'->Q (.int ((((aG a ↥bs (k+1)).filter (JF U)).length:Ll):LC),S'))->wO (aQ (ak defs fuel (d+8)) "told_worlds" 2 [.tup [.tup (J.map W.str),.tup (LK aK ns bs),.tup (gs.map am)],.int ((k+1:Ll):LC)] S) Q:=λ{S Q} h=>by
   show GV (d:=d+2) ∅ C L.likes L.told hs mml b m D N λF S' hF Y=>?_
   rw[<- BN (V:=aG a ↥bs (k+1)) (st:=JF U) I hT hk5 (mO hs.pos n1 _) (V _) (λw _=>wq hH) hF.nd hF.mem]
   show h S' Y
  generalize hRR:W.tup [.tup (J.map W.str),.tup (LK aK ns bs),.tup (gs.map am)]=R at *
  clear hRR mml zl b hml D m;unfold iD;delta dr;nofun
  left;show unl hk λq F T hF hF64 e5 hq5 k5=>hK _ _ ?_
  clear hK K;have hFg:∀w∈F,GoodW a ↥bs w/\↥w=k/\eY (cD bs gs) w/\aq bs w=w:=λw c=>((hF.mem w).mp c).good I hT
  show st ?_;delta wS wE wA LH;show st ?_;delta wS wE wA LH;have hq:q<↥T:=b7 e5;have e5':(T++[O.lst []])[q]?=ba (.lst (F.map am)):=aj e5;have z5:(T++[O.lst []])[↥T]?=ba (.lst (([]:Lf Wd).map am)):=af;generalize T++[O.lst []]=S6 at *
  generalize ↥T=t at *
  have hm:∀(x y:LC) (S:aa),-(2^64)<y->y<2^64->fm .mul (.int x) (.int y) S=ba (.int (x*y),S):=λx y S X h2=>kP X h2
  nofun
  show jG q (F.map am) (λx Z S'=>(∃a7 a8,Z=[ba (.ref 0),ba (.ref r),ba R,ba (.int (k:LC)),ba (.ref q),ba (.ref t),ba (.int (((((F.take x).map (ym bs a U k)).sum:Ll)):LC)),a7,a8,gV])/\S'[q]?=ba (.lst (F.map am))/\∃H:Lf Wd,S'[t]?=ba (.lst (H.map am))/\↥H<=216*x/\∀g,g∈H↔∃w∈F.take x,∃h∈aL U w a ↥bs,g=aq bs (w++[h])) rfl rfl ?_ (λ_ _ _ h=>h.2.1) ?_ ?_
  ·delta wE wV wG;show#[rfl,#[gV,gV,rfl],e5',[],z5,Ls _,λg=>#[λz=>(nomatch z),λ#[w,c,_]=>(nomatch c)]]
  ·rintro x w0 Z S7 c ⟨⟨a7,a8,rfl⟩,e7,H,z7,zl7,zm⟩;clear hK;rw[Lu,Lk]at c;obtain⟨w,c,rfl⟩:=c;have hwF:=LD c;have hx:x<↥F:=(LB.mp c).1;obtain⟨g1,g2,g3,g4⟩:=hFg w hwF;have wl:(aL U w a ↥bs).length<=216:=by
    have:=eZ (A:=(aL U w a ↥bs).map λh=>w++[h]) (B:=aG a ↥bs (k+1)) (fe qo λx _ y _ e=>by simpa using Pg e) λz hz=>by
     obtain⟨h,hh,rfl⟩:=Lr.mp hz;show(V _ _).mpr #[((cm hH g1 g3).mp hh).1,by simp[g2]]
    rw[Lh]at this;show Lw ‹_› ‹_›
   show ab (show gE (.nm 7) (am w) _ S7=ba ([ba (.ref 0),ba (.ref r),ba R,ba (.int (k:LC)),ba (.ref q),ba (.ref t),ba (.int (((((F.take x).map (ym bs a U k)).sum:Ll)):LC)),ba (am w),a8,gV],S7)from rfl) ?_
   intro Q2 hn2 _;have tk:F.take (x+1)=F.take x++[w]:=by rw[L8,c];rfl
   nofun
   delta wS wT wE wA wV wG;show lst g1 ∅ λS8 k8=>?_
   rw[g4];show ab (show cx .ne (am w) (am w) S8=ba (.bl false,S8) by
    show((iV (jW S8 (17+2)) (w.map bo) (w.map bo)).map (!·)).map _=_
    rw[si,Nc rfl];rfl) #[λz=>(by cases z),λ_=>?_]
   show fb g1 ∅ g3 λS9 k9=>ab (show cx .isnot .non .non S9=ba (.bl false,S9)from rfl) ?_
   show aE (Q0:=Q2) (λz=>by cases z) (λ_ Q3 hn3 _=>bX (hn3 _ _ (hK _ _ ?_)))
   clear hK K hn3;nofun
   left;show wsh g1 ∅ λl S10 s hl10 E=>hK _ _ ?_
   clear hK K;have kk:=k8.trans (k9.trans E);nofun
   left;generalize fm .mul=bm at hm ⊢;show ord g1 ∅ λS11 P=>dY (P.get _ _ s) ?_
   rw[Lh];show ab (hm _ _ _ ∅ ∅) (ab bW (hK _ _ ?_))
   clear hK K;have es:(((((F.take x).map (ym bs a U k)).sum:Ll)):LC)+((((c7 ↥w).length/(aC bs w w ↥w).length:Ll):LC)*((aL U w a ↥bs).length:LC))=(((((F.take (x+1)).map (ym bs a U k)).sum:Ll)):LC):=by
    rw[tk,Mb,UO,List.map_singleton,List.sum_singleton,US,ym,Po,g2]
   rw[es];show st ?_;left;show#[dS (P.get _ _ (kk.get _ _ z7)),?_];show qc (aL U w a ↥bs) bo (λ_=>true) (λh=>am (aq bs (w++[h]))) [ba R,ba (am w)] rfl rfl rfl rfl (by show Lw ‹_› (LL rfl)) #[l,rfl,P.get _ _ s,.refl] (λh hh S' Y=>?_) λS12 k12=>?_
   ·delta gX wC wE wA wV wG;show#[λ_=>?_,λz=>by cases z]
    show ab (show fm .add (am w) (.tup [bo h]) S'=ba (am (w++[h]),S')from ?_) ?_
    ·unfold am;rw[gW (few (by simp;omega)),Mb];rfl
    show lst ((cm hH g1 g3).mp hh).1 (by simp;omega) λS2 k2=>#[rfl,rfl,k2]
   ·rw[jS];have z12:(S12++[O.lst ((aL U w a ↥bs).map λh=>am (aq bs (w++[h])))])[t]?=ba (.lst (H.map am)):=aj (k12.get _ _ (P.get _ _ (kk.get _ _ z7)))
    have q12:(S12++[O.lst ((aL U w a ↥bs).map λh=>am (aq bs (w++[h])))])[q]?=ba (.lst (F.map am)):=aj (k12.get _ _ (P.get _ _ (kk.get _ _ e7)))
    show p9 z12 af (by rw[Lh,Lh];omega) (bX (hn2 _ _ #[#[_,_,rfl],?_,H++(aL U w a ↥bs).map (λh=>aq bs (w++[h])),?_,?_,λg=>?_]))
    ·rw[bz (Mk ‹_›)];show q12
    ·rw[bB z12,Mb,Nl];rfl
    ·rw[Lx,Lh];omega
    ·rw[Ma,zm,tk,Lr];constructor
     ·rintro(⟨w',X,h2⟩|⟨h,hh,rfl⟩)
      ·show#[w',MZ _ X,h2]
      ·show#[w,Mf _ (.head _),h,hh,rfl]
     ·rintro⟨w',X,h,hh,rfl⟩;rcases Ma.mp X with z|z
      ·show .inl #[w',z,h,hh,rfl]
      ·rw[LA.mp z]at hh ⊢;show .inr #[h,hh,rfl]
  rintro Z S7 ⟨⟨a7,a8,rfl⟩,e7,H,z7,zl7,zm⟩;show hK _ _ ?_;clear hK K;rw[Lh]at zl7 zm ⊢;rw[Mg]at zm ⊢;nofun
  show fX 1 (↥F:LC) (λi Z S'=>(∃a9,Z=[ba (.ref 0),ba (.ref r),ba R,ba (.int (k:LC)),ba (.ref q),ba (.ref t),ba (.int ((((F.map (ym bs a U k)).sum:Ll)):LC)),a7,a8,a9])/\Ka S7 S') rfl rfl rfl ∅ ?_ ?_ ?_
  ·delta wE wA wV wG;show#[rfl,dY e7 #[by rw[Lh],#[gV,rfl],.refl]]
  ·rintro i Z S8 hi ⟨⟨a9,rfl⟩,k8⟩ Q2 hn2 _;clear hK;delta LH;have M:∀j:Ll,j<↥F->∃w∈F,F[j]?=ba w/\(F.map am)[j]?=ba (am w):=λj hj=>#[F[j],Mp hj,Lq hj,by rw[Lu,Lq hj];rfl]
   have ne:∀{i j:Ll}{u v:Wd},i<j->F[i]?=ba u->F[j]?=ba v->u≠v:=λ{i j u v} hij X h2 e=>by
    obtain⟨l1,rfl⟩:=LB.mp X;obtain⟨l2,rfl⟩:=LB.mp h2;show absurd ((NB hF.nd).mp e) (LX ‹_›)
   obtain⟨u0,hu0,p0,m0⟩:=M 0 ∅
   obtain⟨u1,hu1,p1,m1⟩:=M i ∅
   obtain⟨u2,hu2,p2,m2⟩:=M (i+1) ∅
   obtain⟨b1,b2,_,b4⟩:=hFg u0 hu0;obtain⟨c1,c2,_,c4⟩:=hFg u1 hu1;obtain⟨d1,d2,_,d4⟩:=hFg u2 hu2;have e8:=k8.get _ _ e7;have i2:(F.map am)[(1+(i:LC)).toNat]?=ba (am u2):=by rw[show(1+(i:LC)).toNat=i+1 by omega];show m2
   have i1:(F.map am)[(1+(i:LC)-1).toNat]?=ba (am u1):=by rw[show(1+(i:LC)-1).toNat=i by omega];show m1
   nofun
   delta wS wT wE wA wV wG;show dX e8 #v[] m0 (dX e8 ∅ i2 ?_)
   show lik b1 d1 b2 d2 b4 d4 (ne ∅ p0 p2) λq9 S9 e9 k9=>ab (wx (aj e9) af) #[λz=>(by cases z),λ_=>?_]
   have e9':(S9++[O.lst []])[q]?=ba (.lst (F.map am)):=aj (k9.get _ _ e8);show ab md (dX e9' ∅ i1 (dX e9' ∅ i2 ?_))
   show lik c1 d1 c2 d2 c4 d4 (ne ∅ p1 p2) λq10 S10 s E=>ab (wx (aj s) af) ?_
   show aE (Q0:=Q2) (λz=>by cases z) (λ_ Q3 hn3 _=>bX (hn3 _ _ (hK _ _ (bX (hn2 _ _ #[#[_,rfl],k8.trans (k9.trans (Ka.push.trans (E.trans .push)))])))))
  ·rintro Z S8 ⟨⟨a9,rfl⟩,k8⟩;show hK _ _ ?_;clear hK K;have hk1':(k:LC)+1=((k+1:Ll):LC):=∅
   nofun
   show GY (λQ h=>?_) λS9 k9=>hK _ _ ?_
   ·delta wT wE wA wV wG;show ab bW ?_;rw[hk1'];show unl N λq9 F9 S9 hF9 h964 e9 _ k9=>?_
    show GX hs hT N (l:=t) (us:=H) (k9.get _ _ (k8.get _ _ z7)) (λg=>?_) λF0 t0 S10 hF0 s hg0 h064 _ E=>?_
    ·rw[zm,hZ I hT hH];show#[λ#[w,c,h]=>#[w,(hF.mem w).mp c,h],λ#[w,c,h]=>#[w,(hF.mem w).mpr c,h]]
    ·obtain rfl:=hF0 F9 hF9;show yb (d:=d+3) (n:=3) L.alike (E.get _ _ e9) s (by rw[Lh];omega) (λx hx=>by
      obtain⟨g,hg',rfl⟩:=Lr.mp hx;show Jn (hg0 g hg').1 (by rw[(hg0 g hg').2];show Lw ‹_› (LL rfl))) λS' Y=>ab (show iY S' (.bl true)=ba true from rfl) (h S' (k9.trans (E.trans Y)))
   show st ?_;left;show ab bW ?_;rw[hk1'];show tol λS10 _=>?_
   rw[yj I hT hH hs.pos n1 ∅ (λw=>wq hH) hF.nd hF.mem]
   show wa L.alike 3 (d+4) _ _ _ trivial λS11 _=>hR _ _ rfl
 nofun
 replace hK:∀(k:Ll) (S4:aa),BP a ↥bs k->BP a ↥bs (k+1)->K [ba (.ref 0),ba (.ref r),ba (.tup [.tup (J.map W.str),.tup (LK aK ns bs),.tup (gs.map am)]),ba (.int (k:LC)),gV,gV,gV,gV,gV,gV] S4:=λk S4 X h2=>hK _ _ (aU k S4 X h2)
 clear aU;obtain⟨v,rfl⟩:∃k:Ll,v=k:=#[v.toNat,∅]
 have no:K [ba (.ref 0),ba (.ref r),ba (.tup [.tup (J.map W.str),.tup (LK aK ns bs),.tup (gs.map am)]),ba (.int (v:LC)),gV,gV,gV,gV,gV,gV] S3:=hK v S3 (.inl ∅) (.inl ∅)
 delta wS wT wE wA wV wG LH;show al #v[] rfl (bc (ab i9 ?_))
 rw[mml];show#[λz=>?_,λz=>aE (Q0:=Q') (λz=>by cases z) (λ_ Q2 hn _=>bX (hn _ _ no))]
 have ha1:a=1:=by have:=eq_of_beq z;omega
 show al #v[] rfl (bc (ab xQ ?_))
 rw[zl];show aE (Q0:=Q') (λz2 Q2 hn _=>st ?_) (λ_ Q2 hn _=>bX (hn _ _ no))
 have hn2:↥bs<3:=by have:=Mq z2;omega
 left;show al #v[] rfl (bc (ab md ?_))
 rw[zl];have f4:=f3.ka (Ka.push (o:=O.lst [W.int 5,W.int 4]));have hc:↥bs=1\/↥bs=2:=∅
 rcases hc with hc|hc
 ·rw[hc];show eu (i:=0) af rfl (aZ (d:=d+7) G.pick f4 #v[] #v[] λy T y0 y1 _ _=>bX (hn _ _ ?_))
  obtain⟨y,rfl⟩:∃k:Ll,y=k:=#[y.toNat,∅]
  show hK y T (.inr (.inr #[hc,.inl ∅])) (.inr (.inr #[hc,.inr #[∅,∅]]))
 ·rw[hc];show eu (i:=1) af rfl (aZ (d:=d+7) G.pick f4 #v[] #v[] λy T y0 y1 _ _=>bX (hn _ _ ?_))
  obtain⟨y,rfl⟩:∃k:Ll,y=k:=#[y.toNat,∅]
  show hK y T (.inl ∅) (.inr (.inl #[∅,ha1,∅]))
end
abbrev EI:Df:=#[["_law_script"],["_law_script","_law_flow_here","_law_rule","_law_size","_law_some","_law_longer","_law_many","_law_world","_law_told","_law_k"],iD]
noncomputable abbrev Tw:=LW×Ll×Df×Ll
noncomputable abbrev tw (x:LW)(i:Ll)(d:Df)(a:Ll):Tw:=(x,i,d,a)
abbrev TL:Lf Tw:=[tw "way" 1 #[["rule","world","i","j"],["rule","world","i","j"],wb] 21,tw "part" 3 #[["rule","world","points"],["rule","world","points"],g9] 26,tw "point_over" 4 #[["rule","world","ahead","point"],["rule","world","ahead","point"],eA] 31,tw "least_form" 5 #[["rule","world"],["rule","world","form","orders","longer","lasts","least"],dt] 36,tw "longer_orders" 6 #[["orders","size"],["orders","size","longer","order"],aJ] 41,tw "likenesses" 8 #[["rule","one","other"],["rule","one","other","found","point","longer"],bN] 46,tw "barred_threes" 10 #[["rule"],["rule","orders","barred","figure","order"],be] 53,tw "three_at" 11 #[["world","i","j","k"],["world","i","j","k","one","two"],bC] 60,tw "first_barred" 12 #[["rule","world"],["rule","world"],cg] 67,tw "first_three" 13 #[["barred","world"],["barred","world","i","j","k"],bS] 74,tw "first_bar" 14 #[["barred","world"],["barred","world","last","point"],cj] 81,tw "wishes" 15 #[["rule","world"],["rule","world"],hW] 88,tw "wishes_over" 16 #[["rule","barred","world"],["rule","barred","world","found","mark","heads","size"],bT] 93,tw "longer_wishes" 17 #[["rule","heads"],["rule","heads","longer","mark","ways"],bg] 98,tw "unlike_worlds" 19 #[["rule","n"],["rule","n","barred","found","ahead","longer","world","wish"],cW] 105,tw "told_worlds" 20 #[["rule","n"],["rule","n","orders","number"],cH] 110,tw "_law_flow" 22 #[["_law_script"],["_law_script"],eS] 117,tw "_law_pick" 23 #[["_law_flow_here","_law_many"],["_law_flow_here","_law_many","_law_cell","_law_digit"],cY] 124,tw "_law_letters" 24 #[["_law_flow_here","_law_many"],["_law_flow_here","_law_many"],dE] 129,tw "_law_name" 25 #[["_law_flow_here","_law_stem"],["_law_flow_here","_law_stem","_law_near"],gr] 136,tw "_law_names" 26 #[["_law_flow_here","_law_many"],["_law_flow_here","_law_many","_law_stem","_law_names_here","_law_k","_law_name_here","_law_spare"],da] 143,tw "_law_between" 27 #[["_law_rule","_law_world","_law_i","_law_j"],["_law_rule","_law_world","_law_i","_law_j"],dF] 150,tw "_law_part" 28 #[["_law_rule","_law_world","_law_points"],["_law_rule","_law_world","_law_points","_law_told","_law_k","_law_i"],gv] 155,tw "_law_turns" 29 #[[],[],gY] 162,tw "_law_figure" 30 #[["_law_rule","_law_three"],["_law_rule","_law_three"],d8] 167,tw "_law_backs" 31 #[["_law_flow_here","_law_many"],["_law_flow_here","_law_many","_law_menu"],fw] 174,tw "_law_rule_of" 32 #[["_law_flow_here","_law_marks","_law_backs_here","_law_barred"],["_law_flow_here","_law_marks","_law_backs_here","_law_barred","_law_names_here","_law_ways"],dG] 179,tw "_law_free_three" 33 #[["_law_flow_here","_law_marks","_law_ways"],["_law_flow_here","_law_marks","_law_ways","_law_told","_law_k"],cr] 184,tw "_law_sizes" 34 #[["_law_flow_here"],["_law_flow_here","_law_menu"],fA] 191,tw "_law_any_rule" 35 #[["_law_flow_here"],["_law_flow_here","_law_marks","_law_ways","_law_rule","_law_barred","_law_k"],dk] 198,tw "_law_laying_kind" 36 #[["_law_flow_here"],["_law_flow_here","_law_menu"],bY] 205,tw "_law_breaks" 37 #[["_law_backs_here","_law_must","_law_to_one","_law_to_two","_law_between_here"],["_law_backs_here","_law_must","_law_to_one","_law_to_two","_law_between_here","_law_to","_law_pair","_law_x","_law_y","_law_z"],eg] 212,tw "_law_numbered" 38 #[["_law_flow_here","_law_backs_here","_law_must"],["_law_flow_here","_law_backs_here","_law_must","_law_many","_law_menu","_law_some","_law_numbers","_law_told","_law_k","_law_other","_law_u","_law_v"],bq] 217,tw "_law_laying_rule" 39 #[["_law_flow_here"],["_law_flow_here","_law_form","_law_backs_here","_law_must","_law_most","_law_marks","_law_rule","_law_barred","_law_many","_law_at","_law_one","_law_two","_law_between_here","_law_some","_law_first"],bZ] 224,tw "_law_rising" 40 #[["_law_marks"],["_law_marks","_law_told","_law_i","_law_j"],en] 229,tw "_law_free_rule" 41 #[["_law_flow_here"],["_law_flow_here","_law_marks","_law_ways","_law_rule","_law_k","_law_own","_law_free","_law_barred","_law_three"],cQ] 234,tw "_law_one_way_rule" 42 #[["_law_flow_here"],["_law_flow_here","_law_marks","_law_barred"],bL] 239,tw "_law_alike" 43 #[["_law_found","_law_due"],["_law_found","_law_due"],bn] 244,tw "_law_digits" 44 #[["_law_many","_law_size"],["_law_many","_law_size","_law_told","_law_k"],bM] 249,tw "_law_worlds" 45 #[["_law_rule","_law_size"],["_law_rule","_law_size","_law_told","_law_k","_law_points","_law_mark"],cu] 254,tw "_law_figures" 46 #[["_law_rule"],["_law_rule"],dH] 259,tw "_law_full_rule" 47 #[["_law_flow_here"],["_law_flow_here","_law_form","_law_marks","_law_many","_law_rule"],cU] 264,tw "_law_orders_of" 48 #[["_law_rule","_law_world"],["_law_rule","_law_world","_law_many","_law_k"],bR] 271,tw "law" 49 EI 276]
abbrev kW:Lf (LW×Df):=TL.map λp=>(p.1,p.2.2.1)
abbrev KM:Lf (LW×Ll):=TL.map λp=>(p.1,↥p.2.2.1.ps)
abbrev Ec:Lf LW:=["range","len","list","tuple","int","set","sorted","isinstance","bool","str","all","min","zip","enumerate","sum"]
abbrev Ha:Md:=#[KM,Ec]
abbrev BD (x:LW)(st:O0)(df:Df):Prop:=∀(kV doc pm:Lj) (an:Ln Lv) (cdv ct:Lj) (us:Lf Lj),↥us=↥df.ps->bindArgs (Oc x x (d0 st) (cJ st) (aV st) .none kV doc pm an cdv ct) #[us,[]]=pure (df.ps.zip us)
def KY {us:Lf Lj}(h:↥us=0):us=[]:=MQ.mp h
def uc {us:Lf Lj}{n:Ll}(h:↥us=n+1):∃a t,us=a::t/\↥t=n:=by
 cases us with
 |nil=>cases h
 |cons a t=>show#[a,t,rfl,WX h]
def KZ {us:Lf Lj}(h:↥us=1):∃a,us=[a]:=by obtain⟨a,t,rfl,g⟩:=uc h;cases KY g;show#[a,rfl]
def K1 {us:Lf Lj}(h:↥us=2):∃a b,us=[a,b]:=by obtain⟨a,t,rfl,g⟩:=uc h;obtain⟨b,rfl⟩:=KZ g;show#[a,b,rfl]
def K2 {us:Lf Lj}(h:↥us=3):∃a b c,us=[a,b,c]:=by obtain⟨a,t,rfl,g⟩:=uc h;obtain⟨b,c,rfl⟩:=K1 g;show#[a,b,c,rfl]
def K4 {us:Lf Lj}(h:↥us=4):∃a b c d,us=[a,b,c,d]:=by obtain⟨a,t,rfl,g⟩:=uc h;obtain⟨b,c,d,rfl⟩:=K2 g;show#[a,b,c,d,rfl]
def Hb {us:Lf Lj}(h:↥us=5):∃a b c d e,us=[a,b,c,d,e]:=by obtain⟨a,t,rfl,g⟩:=uc h;obtain⟨b,c,d,e,rfl⟩:=K4 g;show#[a,b,c,d,e,rfl]
abbrev DG (p:Tw):Prop:=Iv Ha (nz p.2.1) p.2.2.1/\FnScope p.2.2.1.N p.2.2.1.ps (aV (nz p.2.1))/\BD p.1 (nz p.2.1) p.2.2.1
def gc {α:Type}{F:α->Prop}{p:α}{L:Lf α}(a:F p)(b:∀q∈L,F q):∀q∈p::L,F q:=List.forall_mem_cons.mpr #[a,b]
def gn {α:Type}{F:α->Prop}:∀q∈([]:Lf α),F q:=λ_ h=>nomatch h
def Ld {p:Tw}(a:vN (cS 20 (AE Ha (nz p.2.1) p.2.2.1.N)) (cJ (nz p.2.1))=ba p.2.2.1.body)(b:FnScope p.2.2.1.N p.2.2.1.ps (aV (nz p.2.1)))(c:BD p.1 (nz p.2.1) p.2.2.1):DG p:=#[a,b,c]
set_option maxHeartbeats 0 in
def EJ:∀p∈TL,DG p:=by
 unfold TL
 repeat show gc (Ld (by kernel_rfl) #[rfl,rfl,rfl,by decide +kernel,rfl,by decide +kernel,by decide +kernel] λ_ _ _ _ _ _ us h=>by
  first
   |(obtain⟨a,rfl⟩:=KZ h;rfl)
   |(obtain⟨a,b,rfl⟩:=K1 h;rfl)
   |(obtain⟨a,b,c,rfl⟩:=K2 h;rfl)
   |(obtain⟨a,b,c,d,rfl⟩:=K4 h;rfl)
   |(obtain⟨a,b,c,d,e,rfl⟩:=Hb h;rfl)
   |(obtain rfl:=KY h;rfl)) ?_
 show gn
def Jp {f:LW}{m n:Ll}{b:Ss}(h:((kW.lookup f).map λd=>(↥d.ps,↥d.N,d.body))=ba (m,n,b)):Is kW f m n b:=by
 rw[Lk]at h;obtain⟨d,c,a⟩:=h;rw[Vz,Vz]at a;show#[d,c,a.1,a.2.1,a.2.2]
set_option maxHeartbeats 0 in
def Jq:Lw68 kW:=by
 repeat' first
  |show Jp (by kernel_rfl)
  |constructor
def mP:∀(L:Lf Tw) (x:LW) (n:Ll),(L.map λp=>(p.1,↥p.2.2.1.ps)).lookup x=ba n->∃p∈L,p.1=x/\↥p.2.2.1.ps=n/\(L.map λp=>(p.1,p.2.2.1)).lookup x=ba p.2.2.1
 |[],x,n,h=>by cases h
 |p::L,x,n,h=>by
  rw[Mj,ND]at h;rw[Mj,ND];cases e:x==p.1 with
  |true=>
   rw[e]at h;cases h;show#[p,M3 ..,(eq_of_beq e).symm,rfl,rfl]
  |false=>
   rw[e]at h;obtain⟨q,a,b,c,d⟩:=mP L x n h;show#[q,MO _ a,b,c,d]
section
variable{P:Mn}{w:MB}{K:LF}{mg:LW->Ln Lj}{base:MD}
abbrev BV (K:LF)(mg:LW->Ln Lj)(x:LW)(st:O0)(df:Df):Prop:=∃(f:Lv) (fd:OA),Fun K x x st f fd/\mg x=ba (.ref f)/\Nm K (.ref f)=true/\Binds K fd df.ps []
def GZ {h:MD}{x:LW}{st:O0}{df:Df}{f:Lv}{oc:Lj}{od an:Ln Lv}{osl:LY (Ln Lj)}{kV doc pm cdv ct:Lj}(X:K.In h)(G:h.Ns mainGlobals mg)
  (b:BD x st df)
  (a:PM K mainGlobals x=ba (ba (.ref f))) (l:K.lookup f=ba #[oc,od,.func (Oc x x (d0 st) (cJ st) (aV st) .none kV doc pm an cdv ct),osl]) (c:O6 K cdv x=true) (k:Nm K (.ref f)=true):BV K mg x st df:=
 have F:=yQ (st:=st) l c k
 #[f,_,F,VA X G a,k,F.binds b]
def BW {fuel:Ll}(j:MdOk w K mg Ha)(D:∀p∈TL,BV K mg p.1 (nz p.2.1) p.2.2.1):∀d,Eo P w K mg base Ha kW fuel d
 |0=>λf n h=>by
  obtain⟨p,a,rfl,g,i⟩:=mP TL f n h;obtain⟨c,e,F,m,kp,b⟩:=D p a;show#[c,e,p.2.2.1.ps,#[λvs H Q E z=>?_,λA outer s H args us vs Q E r q o t z=>?_],m,kp,b]
  all_goals
   obtain⟨_,_,_,_,_,_,_,_,z,_⟩:=z;cases z
 |d+1=>λf n h=>by
  obtain⟨p,a,rfl,g,i⟩:=mP TL f n h;obtain⟨k,l,_⟩:=EJ p a;obtain⟨c,e,F,m,kp,b⟩:=D p a;show#[c,e,p.2.2.1.ps,?_,m,kp,b];rw[<- g];show Er F l i k j (BW j D d)
def Jr {h:MD}(X:K.In h)(G:h.Ns mainGlobals mg)(z:∀y∈Ec,PM K mainGlobals y=ba gV):MdOk w K mg Ha:=#[λy a=>PySem.W.mg_none_of X G (z y a)]
end
def G0 {l:R3}{w:MB}{K:LF}{h:MD}{mg:LW->Ln Lj}{d f:Lv}(X:K.In h)(G:h.Ns mainGlobals mg)(b:mg "law" = ba (.ref d))(i:MdOk w K mg Ha)(D:∀p∈TL,BV K mg p.1 (nz p.2.1) p.2.2.1)
  {oc:Lj}{od an:Ln Lv}{osl:LY (Ln Lj)}{kV doc pm cdv ct:Lj} (a:PM K mainGlobals "law" = ba (ba (.ref f))) (j:K.lookup f=ba #[oc,od,.func (Oc "law" "law" (d0 (nz 49)) (cJ (nz 49)) (aV (nz 49)) .none kV doc pm an cdv ct),osl]) (c:O6 K cdv "law" = true) (k:Nm K (.ref f)=true) :
  ∃g:OA,(∀(s:Lm) (v:Lj),TF s g #[[v],[]] [("_law_script",v)])/\∀base:MD,K.In base->base.Ns mainGlobals mg->FnOk l.prog w K mg base yn 9 d g ["_law_script"] (spF w K 1 (ak kW 100 9 "law")):=by
 have e:=b.symm.trans (VA X G a);cases e;have F:=yQ (st:=nz 49) j c k;show#[Oc "law" "law" (d0 (nz 49)) (cJ (nz 49)) (aV (nz 49)) .none kV doc pm an cdv ct,λs v=>.of_eq rfl,λbase _ _=>Er (df:=EI) F #[rfl,rfl,rfl,by decide +kernel,rfl,by decide +kernel,by decide +kernel] (by rfl) (by rfl) i (BW i D 8)]
def KN {l:R3}{q:Mn}{loose:Lf LW}{XP:(LW->Ln Lj)->MD->Prop}{YP:MB->MD->Prop}{d:DefRec}{K:Ti->LF}(j:l.most=ba 63)(b:d.params.defaults=[])
  (i:∀(w:MB) (h:MD),YP w h->(K w.params).In h)
  (F:∀(w:MB) (mg:LW->Ln Lj) (fa:Lv) (h:MD),(K w.params).In h->h.Ns mainGlobals mg->mg d.name=ba (.ref fa)->
   ∃c:OA,(∀(s:Lm) (u:Lj),TF s c #[[u],[]] [("_law_script",u)])/\∀base:MD,(K w.params).In base->base.Ns mainGlobals mg->FnOk l.prog w (K w.params) mg base yn 9 fa c ["_law_script"] (spF w (K w.params) 1 (ak kW 100 9 "law"))) :
  Vl q loose XP YP l.row.toRowW d [] (λf vs=>tx f vs):=
 L2.Cw (n:=63) (k:=9) (x:="_law_script") (CX:=λ_=>yn) (sp:=λw=>spF w (K w.params) 1 (ak kW 100 9 "law")) j #v[] b #[rfl,#v[],#v[]] i F
  (λw H a ns hl e g=>Ge (BU (defs:=kW) (fuel:=100) (d:=0) #v[] Jq) e g) λ_ _ _ _ _ z=>z
end Mi
open PySem PySem.W PyProof.Rows L2
namespace Mi
section
abbrev EL (K:LF)(p:Tw):Prop:=PM K mainGlobals p.1=ba (ba (.ref p.2.2.2))/\K.lookup p.2.2.2=ba (kf p.2.2.2 (nz p.2.1) p.1 (Ke p.2.1) (.ref (p.2.2.2-1))).2/\O6 K (.ref (p.2.2.2-1)) p.1=true/\Nm K (.ref p.2.2.2)=true
def Le {K:LF}{p:Tw}(e:PM K mainGlobals p.1=ba (ba (.ref p.2.2.2)))(l:K.lookup p.2.2.2=ba (kf p.2.2.2 (nz p.2.1) p.1 (Ke p.2.1) (.ref (p.2.2.2-1))).2)(c:O6 K (.ref (p.2.2.2-1)) p.1=true)(k:Nm K (.ref p.2.2.2)=true):EL K p:=#[e,l,c,k]
def Js (P:Ti):∀p∈TL,EL (K0 P) p:=by
 unfold TL
 repeat show gc (Le (by kernel_rfl) (by kernel_rfl) (by kernel_rfl) (by kernel_rfl)) ?_
 show gn
def Jt (P:Ti):∀y∈Ec,PM (K0 P) mainGlobals y=ba gV:=by
 unfold Ec
 repeat show gc (F:=λy=>PM (K0 P) mainGlobals y=ba gV) (by kernel_rfl) ?_
 show gn
end
end Mi
end
end ZZ.Lean
open ZZ.Lean
theorem PySem.Challenge.cw_layworld_k68_whole_worlds_by_wishes_holds : PySem.Challenge.rw_layworld_k68_whole_worlds_by_wishes.Holds := by
 w_on
 show PySem.W.holds_law (MJ (MJ (MJ (MJ (MJ (MJ (MJ (MJ (MJ (MJ (MJ (MJ (MJ (MJ (MJ (MJ (MJ (MJ (Mi.s0) (by kernel_rfl)) (by kernel_rfl)) (by kernel_rfl)) (by kernel_rfl)) (by kernel_rfl)) (by kernel_rfl)) (by kernel_rfl)) (by kernel_rfl)) (by kernel_rfl)) (by kernel_rfl)) (by kernel_rfl)) (by kernel_rfl)) (by kernel_rfl)) (by kernel_rfl)) (by kernel_rfl)) (by kernel_rfl)) (by kernel_rfl)) (by kernel_rfl)) (λsaid=>?_)
 show PySem.W.holds_open (q:=Mi.vq) (loose:=Mi.lo) (Xt:=λs=>VH Mi.vq [] s&&Vm [] s) (XP:=PySem.W.XL Mi.vq []) (Yf:=Mi.hk.obs) (Ya:=Mi.hk.val) (YP:=Mi.hk.says) (N:=2800) Mi.hl Mi.hk.of Mi.hk.keeps (λs e=>PySem.W.xl_of s (SF.mp e).1) WF (by rfl) (by rfl) (by rfl) (λs e=>PySem.W.recFacts_of (SF.mp e).2) (by rfl) said (by decide +kernel) #[rfl,rfl,rfl,rfl,rfl,by decide +kernel] ?hw ?hc
 case hw=>w_witness2
 case hc=>
 show Mi.KN (l:=QN) (K:=Mi.K0) rfl rfl (λw h Yx=>PySem.W.kIn_of Yx) ?F
 case F=>
  intro w mg fa h KX G hmg;show Mi.G0 KX G hmg (Mi.Jr KX G (Mi.Jt w.params)) (λp hp=>let ⟨e,l,c,k⟩:=Mi.Js w.params p hp;Mi.GZ KX G (Mi.EJ p hp).2.2 e l c k)
   (f:=276) (oc:=.type "function") (od:=gV) (an:=gV) (osl:=#[]) (kV:=.none) (doc:=.none) (pm:=(.str "law_layworld_k68_whole_worlds_by_wishes" 329)) (cdv:=.ref 275) (ct:=.none) (by kernel_rfl) (by kernel_rfl) (by kernel_rfl) (by kernel_rfl)
